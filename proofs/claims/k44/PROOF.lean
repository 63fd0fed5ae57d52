import PyProof.Rows.All
import Wide.All
import OpenK.AllK
import Wide.FinOn
import Lean
import PyProof.EqAt
import PyProof.EqKinds
import PyProof.TupleCall
import PyProof.NeKinds
import PyProof.StationsW
import PyProof.RulesAs
import PyProof.ExcArgsOwn
import PyProof.CompFree
import PyProof.ExcInit
import PyProof.ConsumeWalk
import PyProof.Rows.SeqGen
import PyProof.StrWalks
import PyProof.SliceStr2
import PyProof.MeetsStr
import KE.KIntText
import PyProof.Rows.FStr
import PyProof.StrCalls6
import PyProof.StrBlockL
import PyProof.ToksMono
import PyProof.WalkInts
import PyProof.Rows.MinMaxN
import PyProof.StrLawsReplace
import PyProof.StrLawsTight
import PyProof.Rows.StrLawsPart
import PyProof.DictWalks
import KE.KEqDict
import KE.KDictLaws
import KE.KRevIter
import PyProof.ListCopy
import PyProof.CollectIter
import PyProof.Rows.SetFrom
import PyProof.Rows.SortShellK
import PyProof.Rows.SortStr
import PyProof.Rows.SortWalk
import KE.KDictSum
import KE.KSortTup
import PyProof.TupleOfSeq
import PyProof.Rows.SortRuns
import PyProof.FactsAll.tuple_2
import PyProof.WalksEnum
import PyProof.EnumMake
import PyProof.EnumFor
import PyProof.ZipIter
import KE.KDictOf
import PyProof.DictItems
import PyProof.FactsAll.dict_itemiterator_1
import PyProof.MeetsSeq3
import PyProof.FactsAll.list_2
import PyProof.Rows.StrRules
import PyProof.Rows.StrMul
import KE.KDictList
import PyProof.Rows.SumAny
import PySem.Challenge.RW_stovework_k44_needs
noncomputable section
abbrev HD:=PySem.Str->PySem.Str->Option PySem.Addr
abbrev HE:=PySem.Str->PySem.Str->Int×Int
abbrev HF:=PySem.Value->PySem.Shared->Prop
abbrev HG:=PySem.Str->Option PySem.Value
abbrev HH:=List (PySem.Str×PySem.Str×PySem.Addr)
abbrev HI:=List (PySem.Str×Int×Int)
abbrev HJ:=List (PySem.Str×List PySem.Str)
abbrev HK:=List (PySem.Str×PySem.Str)
abbrev HL:=List (PySem.Addr×PySem.Obj)
abbrev HM:=Array (Option PySem.Value)
abbrev HN:=List PySem.Str
abbrev HP:=List PySem.Addr
abbrev HQ:=List PySem.Value
abbrev HR:=Option PySem.Addr
abbrev HS:=Option PySem.Value
abbrev HU:=PySem.Str×Int×Int
open Array renaming getElem?_toList → Em, length_toList → Ez, getElem?_eq_getElem → Fd
open Bool renaming false_ne_true → EL, eq_iff_iff → FR
open Int renaming fmod_nonneg_of_pos → EB, fmod_lt_of_pos → EG, mul_pos → F6, zero_add → Fe
open List renaming getElem?_eq_getElem → E1, getElem?_eq_some_iff → E2, length_map → E3, getElem?_append_left → E5, mem_of_getElem? → E6, getElem?_append_right → E7, length_append → E8, mem_singleton → E9, getElem?_map → EA, mem_cons → EC, mem_append_right → ED, mem_map → EF, mem_iff_getElem? → EH, length_singleton → EJ, mem_append → EK, size_toArray → EM, length_take → EN, nodup_cons → EW, mem_cons_of_mem → Ea, map_append → Ed, getD_eq_getElem?_getD → Ee, not_mem_nil → Eg, map_map → Eh, take_append_drop → Ei, map_cons → Ek, length_reverse → Eo, length_cons → Ep, all_eq_true → Er, getElem?_eq_none → Ew, mem_append_left → Ex, take_of_length_le → Ey, nodup_append → F2, mem_cons_self → F7, pairwise_append → F8, eq_nil_of_length_eq_zero → F9, filter_cons → FI, mem_filter → FL, length_pos_iff → FN, nodup_nil → FO, lookup → FP, length_filter_le → FT, ext_getElem? → FU, filterMap_cons → Ff, getElem?_take_of_lt → Fh, find?_cons → Fi, append_nil → Fj
open Nat renaming le_refl → E4, ne_of_lt → EE, zero_le → EO, lt_of_lt_of_le → EQ, lt_succ_iff_lt_or_eq → ER, le_trans → EX, lt_succ_of_lt → F3, not_lt_zero → FD, sub_self → FE, eq_zero_or_pos → FQ, lt_irrefl → FS, lt_trichotomy → FW
open Option renaming map_eq_some_iff → Et, isSome_iff_exists → F4, bind_eq_some_iff → FC, map_some → Fg
open Option.some renaming inj → ET
open PyProof renaming noPylong_small → ES
open PyProof.Rows renaming callWith_type1 → F5
open PySem renaming mem_of_lookup → Ej
open PySem.F renaming plainAttrs_list → EZ, type_list_append → Eb, slot_list_append → Ec, plainAttrs_dict → FM
open PySem.W renaming Frag → D9, nsIn → EI, mg_of → EU, findIn → EV, emptyDict → EY, mg_none_of → Ef, kitOne → El, keepIn → En, fnOf → Es, kia_one → Eu, codeIn → FF, callWith_K → FH, instObj → FJ, excIn → FK
open PySem.W.Fast renaming te14364793385576792824 → FX, te14289696077712309145 → FY, te11892475500146522536 → FZ, te10274390034422433532 → Fa, te10156331382660048174 → Fb, te6613529449190102663 → Fc
theorem bY {A B:Type} {A0:A->Prop} {A1:A->B->Prop} {k:A->B->Prop} {a:A} {b:B} (h0:A0 a) (h1:A1 a b) (q:k a b):∃a,A0 a/\∃b,A1 a b/\k a b:=⟨a,h0,b,h1,q⟩
theorem gn {A B C:Type} {A0:A->Prop} {A1:A->B->Prop} {A2:A->B->C->Prop} {k:A->B->C->Prop} {a:A} {b:B} {c:C} (h0:A0 a) (h1:A1 a b) (h2:A2 a b c) (q:k a b c):∃a,A0 a/\∃b,A1 a b/\∃c,A2 a b c/\k a b c:=⟨a,h0,b,h1,c,h2,q⟩
theorem bO {A B:Type} {p:A->B->Prop} (a:A) (b:B) (h:p a b):∃a b,p a b:=⟨a,b,h⟩
theorem cO {A B C:Type} {p:A->B->C->Prop} (a:A) (b:B) (c:C) (h:p a b c):∃a b c,p a b c:=⟨a,b,c,h⟩
theorem bG {A B C D:Type} {p:A->B->C->D->Prop} (a:A) (b:B) (c:C) (d:D) (h:p a b c d):∃a b c d,p a b c d:=⟨a,b,c,d,h⟩
theorem fR {A B C D E F:Type} {p:A->B->C->D->E->F->Prop} (a:A) (b:B) (c:C) (d:D) (e:E) (f:F) (h:p a b c d e f):∃a b c d e f,p a b c d e f:=⟨a,b,c,d,e,f,h⟩
theorem eG {A B C D E F H I J:Type} {p:A->B->C->D->E->F->H->I->J->Prop} (a:A) (b:B) (c:C) (d:D) (e:E) (f:F) (g:H) (i:I) (j:J) (h:p a b c d e f g i j):∃a b c d e f g i j,p a b c d e f g i j:=⟨a,b,c,d,e,f,g,i,j,h⟩
theorem iU {A:Type} {p:A->Prop} {G:Prop}:(∃a,p a)->(∀a,p a->G)->G
 |⟨a,h⟩,k=>k a h
theorem wp {A B:Type} {p:A->B->Prop} {G:Prop}:(∃a b,p a b)->(∀a b,p a b->G)->G
 |⟨a,b,h⟩,k=>k a b h
theorem AI {A B C:Type} {p:A->B->C->Prop} {G:Prop}:(∃a b c,p a b c)->(∀a b c,p a b c->G)->G
 |⟨a,b,c,h⟩,k=>k a b c h
theorem io {A B C D:Type} {p:A->B->C->D->Prop} {G:Prop}:(∃a b c d,p a b c d)->(∀a b c d,p a b c d->G)->G
 |⟨a,b,c,d,h⟩,k=>k a b c d h
theorem mD {A B C D E F:Type} {p:A->B->C->D->E->F->Prop} {G:Prop}:(∃a b c d e f,p a b c d e f)->(∀a b c d e f,p a b c d e f->G)->G
 |⟨a,b,c,d,e,f,h⟩,k=>k a b c d e f h
theorem jy {A B C D E F H I J:Type} {p:A->B->C->D->E->F->H->I->J->Prop} {G:Prop}:(∃a b c d e f g i j,p a b c d e f g i j)->(∀a b c d e f g i j,p a b c d e f g i j->G)->G
 |⟨a,b,c,d,e,f,g,i,j,h⟩,k=>k a b c d e f g i j h
theorem fQ {A B G:Prop} (h:A/\B) (k:A->B->G):G:=k h.1 h.2
theorem jz {A B C G:Prop} (h:A/\B/\C) (k:A->B->C->G):G:=k h.1 h.2.1 h.2.2
theorem uf {A B C D G:Prop} (h:A/\B/\C/\D) (k:A->B->C->D->G):G:=k h.1 h.2.1 h.2.2.1 h.2.2.2
theorem iV {A B C D E F G:Prop} (h:A/\B/\C/\D/\E/\F) (k:A->B->C->D->E->F->G):G:=k h.1 h.2.1 h.2.2.1 h.2.2.2.1 h.2.2.2.2.1 h.2.2.2.2.2
theorem iW {A B C D E F H I J G:Prop} (h:A/\B/\C/\D/\E/\F/\H/\I/\J) (k:A->B->C->D->E->F->H->I->J->G):G:=k h.1 h.2.1 h.2.2.1 h.2.2.2.1 h.2.2.2.2.1 h.2.2.2.2.2.1 h.2.2.2.2.2.2.1 h.2.2.2.2.2.2.2.1 h.2.2.2.2.2.2.2.2
namespace Ht
open PySem PySem.W PyProof.Rows
noncomputable def ui (ok:Thread->Bool) (st:SharedT->Thread->Option (SharedT×Thread)) (n:Nat):SharedT->Thread->Option SharedT:=
 Nat.rec (motive:=fun _=>SharedT->Thread->Option SharedT) (fun _ _=>none) (fun _ ih s t=>
  Bool.rec (motive:=fun _=>Option SharedT)
   (Bool.rec (motive:=fun _=>Option SharedT) none (Option.rec (motive:=fun _=>Option SharedT) none (fun r=>Prod.rec (motive:=fun _=>Option SharedT) (fun s' t'=>ih s' t') r) (st s t)) (ok t))
   (some s) (through t)) n
theorem qX {tb:String->Option Builtin} {p:Program} {w:World} {m:Nat} {ann:HS}:∀{n:Nat} {s s':SharedT} {t:Thread},ui (stepOk m ann) (stepT (denote tb) p w) n s t=some s'->topRun tb p w m ann n s.abs t=some s'.abs
 |0,_,_,_,h=>by cases h
 |n+1,s,s',t,h=>by
  unfold topRun;have h':Bool.rec (motive:=fun _=>Option SharedT)
   (Bool.rec (motive:=fun _=>Option SharedT) none (Option.rec (motive:=fun _=>Option SharedT) none (fun r=>Prod.rec (motive:=fun _=>Option SharedT) (fun s' t'=>ui (stepOk m ann) (stepT (denote tb) p w) n s' t') r) (stepT (denote tb) p w s t)) (stepOk m ann t))
   (some s) (through t)=some s':=h
  cases ht:through t with
  |true=>rw[ht] at h';cases h';rfl
  |false=>
   rw[ht] at h';cases hk:stepOk m ann t with
   |false=>rw[hk] at h';cases h'
   |true=>
    rw[hk] at h';cases hs:stepT (denote tb) p w s t with
    |none=>rw[hs] at h';cases h'
    |some r=>
     obtain ⟨s₂,t₂⟩:=r;rw[hs] at h';dsimp only;rw[stepT_spec hs];exact qX h'
noncomputable def grow (l:List Obj):Nat->BT->Option BT:=
 List.rec (motive:=fun _=>Nat->BT->Option BT) (fun _ t=>some t) (fun o _ ih n t=>
  Bool.rec (motive:=fun _=>Option BT) none (ih (n+1) (t.ins n o)) ((t.ins n o).get n).isSome) l
theorem qY {life:Life}:∀{l:List Obj} {n:Nat} {t t':BT},grow l n t=some t'->absHeap t' (n+l.length) life=⟨(absHeap t n life).objs++l.toArray,life⟩
 | [],n,t,t',h=>by
  cases h;simp[absHeap]
 |o::l,n,t,t',h=>by
  have h':Bool.rec (motive:=fun _=>Option BT) none (grow l (n+1) (t.ins n o)) ((t.ins n o).get n).isSome=some t':=h
  cases e:((t.ins n o).get n).isSome with
  |false=>rw[e] at h';cases h'
  |true=>
   rw[e] at h';have z:=qY (life:=life) h';rw[absHeap_ins e] at z;rw[show n+(o::l).length=n+1+l.length by rw[Ep];lia,z]
   simp[Heap.push]
noncomputable def treeOf (s:Shared):Option SharedT:=
 Option.rec (motive:=fun _=>Option SharedT) none (fun t=>some ⟨t,s.heap.objs.size,s.heap.life,s.gens,s.drawn,s.toks,s.os⟩) (grow s.heap.objs.toList 0 .nil)
theorem pU {s:Shared} {s':SharedT} (h:treeOf s=some s'):s'.abs=s:=by
 have h':Option.rec (motive:=fun _=>Option SharedT) none (fun t=>some ⟨t,s.heap.objs.size,s.heap.life,s.gens,s.drawn,s.toks,s.os⟩) (grow s.heap.objs.toList 0 .nil)=some s':=h
 cases e:grow s.heap.objs.toList 0 .nil with
 |none=>rw[e] at h';cases h'
 |some t=>
  rw[e] at h';cases h';have z:=qY (life:=s.heap.life) e;obtain ⟨⟨objs,life⟩,gens,drawn,toks,os⟩:=s;simp only[SharedT.abs];have z':absHeap t objs.size life=⟨objs,life⟩:=by
   simpa [absHeap,BT.list] using z
  rw[z']
noncomputable def uj (ok:Nat->HS->Thread->Bool) (st:SharedT->Thread->Option (SharedT×Thread)) (p:Program) (N:Nat) (s₀:Shared):Option Shared:=
 Bool.rec (motive:=fun _=>Option Shared) none
  ((treeOf s₀).bind fun t₀=>(ui (ok s₀.heap.objs.size (s₀.heap.nsMap mainGlobals "__annotations__")) st N t₀ (topStub p)).bind fun t₁=>
   (fun s₁=>Bool.rec (motive:=fun _=>Option Shared) none (some s₁) (staticsOk (importedModules p.main.body) s₀.heap s₁.heap&&namesBound p s₁.heap&&gensDone s₁&&laidKept s₀.heap s₁.heap)) t₁.abs)
  (s₀.heap.isNs mainGlobals&&s₀.gens.size==0)
theorem uk {tb:String->Option Builtin} {p:Program} {w:World} {N:Nat} {s₀ s:Shared} (h:uj stepOk (stepT (denote tb) p w) p N s₀=some s):topFrom tb p w N s₀=some s:=by
 unfold uj at h;unfold topFrom;cases e:s₀.heap.isNs mainGlobals&&s₀.gens.size==0 with
 |false=>rw[e] at h;cases h
 |true=>
  rw[e] at h;obtain ⟨t₀,e0,h⟩:=FC.mp h;obtain ⟨t₁,e1,h⟩:=FC.mp h;have r:=qX e1;rw[pU e0] at r;dsimp only;rw[r];dsimp only at h;show (match staticsOk (importedModules p.main.body) s₀.heap t₁.abs.heap&&namesBound p t₁.abs.heap&&gensDone t₁.abs&&laidKept s₀.heap t₁.abs.heap with|true=>some t₁.abs|false=>none)=some s
  cases q:staticsOk (importedModules p.main.body) s₀.heap t₁.abs.heap&&namesBound p t₁.abs.heap&&gensDone t₁.abs&&laidKept s₀.heap t₁.abs.heap with
  |false=>rw[q] at h;cases h
  |true=>rw[q] at h;exact h
noncomputable def sE (ok:Nat->HS->Thread->Bool) (st:SharedT->Thread->Option (SharedT×Thread)) (p:Program) (N:Nat) (s₀:Shared):Option Shared:=
 (treeOf s₀).bind fun t₀=>(ui (ok s₀.heap.objs.size (s₀.heap.nsMap mainGlobals "__annotations__")) st N t₀ (topStub p)).map fun t₁=>t₁.abs
def wv (p:Program) (s₀ s₁:Shared):Bool:=(s₀.heap.isNs mainGlobals&&s₀.gens.size==0)&&(staticsOk (importedModules p.main.body) s₀.heap s₁.heap&&namesBound p s₁.heap&&gensDone s₁&&laidKept s₀.heap s₁.heap)
theorem um {tb:String->Option Builtin} {p:Program} {w:World} {N:Nat} {s₀ s:Shared} (h:sE stepOk (stepT (denote tb) p w) p N s₀=some s) (c:wv p s₀ s=true):topFrom tb p w N s₀=some s:=by
 apply uk;unfold sE at h;obtain ⟨t₀,e0,h⟩:=FC.mp h;obtain ⟨t₁,e1,rfl⟩:=Et.mp h;unfold wv at c;rw[Bool.and_eq_true] at c;unfold uj;rw[c.1];show ((treeOf s₀).bind fun t₀=>_)=_
 rw[e0];show ((ui _ _ N t₀ (topStub p)).bind fun t₁=>_)=_
 rw[e1];show (Bool.rec (motive:=fun _=>Option Shared) none (some t₁.abs) (staticsOk (importedModules p.main.body) s₀.heap t₁.abs.heap&&namesBound p t₁.abs.heap&&gensDone t₁.abs&&laidKept s₀.heap t₁.abs.heap):Option Shared)=_
 rw[c.2]
abbrev Look (p:Program) (N:Nat) {α:Type} (f:Shared->Shared->α) (v:World->α):Prop:=∀w:World,((importEnds treeTable (opening p) w N (start (opening p)).1 (start (opening p)).2).bind fun s=>(fenceModules? p s).bind fun s₀=>(sE stepOk (stepT (denote treeTable) p w) p N s₀).map fun s₁=>f s₀ s₁)=some (v w)
theorem Look.at_ {p:Program} {N:Nat} {α:Type} {f:Shared->Shared->α} {v:World->α} (h:Look p N f v) (w:World) {s s₀ s₁:Shared} (a:importEnds treeTable (opening p) w N (start (opening p)).1 (start (opening p)).2=some s) (b:fenceModules? p s=some s₀) (c:sE stepOk (stepT (denote treeTable) p w) p N s₀=some s₁):f s₀ s₁=v w:=by
 have:=h w;rw[a] at this;replace this:((fenceModules? p s).bind fun s₀=>(sE stepOk (stepT (denote treeTable) p w) p N s₀).map fun s₁=>f s₀ s₁)=some (v w):=this
 rw[b] at this;replace this:((sE stepOk (stepT (denote treeTable) p w) p N s₀).map fun s₁=>f s₀ s₁)=some (v w):=this
 rw[c] at this;injection this
theorem uo {p q:Program} {loose:HN} {Xt:Shared->Bool} {α:Type} {Yf:Shared->α} {Ya:World->α} {N:Nat} {g0:Bool} (hc:Look p N (fun s₀ s₁=>wv p s₀ s₁) fun _=>true)
  (h1:Look p N (fun _ s=>openSeen q loose (importedModules p.main.body) Xt g0 s) fun _=>openGood q loose) (h2:Look p N (fun _ s=>Yf s) Ya):LeftO p q loose Xt Yf Ya N g0:=fun w=>by
 obtain ⟨s,a,e⟩:=FC.mp (hc w);obtain ⟨s₀,b,e⟩:=FC.mp e;obtain ⟨s₁,c,e⟩:=Et.mp e;have z:openEnds treeTable p w N=some s₁:=by
  unfold openEnds fencedOpening;rw[a];show (fenceModules? p s).bind _=_;rw[b];exact um c e
 rw[z];show some (_,_)=some (_,_);rw[h1.at_ w a b c,h2.at_ w a b c]
end Ht
set_option Elab.async false
set_option linter.all false
set_option maxRecDepth 100000
namespace Lk44
open PySem PySem.W PyProof.Rows
def qv:Program:={PySem.Challenge.pw_stovework_k44_needs with main:={PySem.Challenge.pw_stovework_k44_needs.main with body:=([0,2,3,4,5,6,7,8,9,10,11,12,13,14,15,16,17,18,20,21,24,25,26,28,30,31,33,34,35,37,38,39,41,43,44,45,47,49,50,51,52,53,54,55,56,57,58,59,60,61,62,63,64,65,66,67,68]:List Nat).filterMap fun i=>PySem.Challenge.pw_stovework_k44_needs.main.body[i]?}}
def lo:HN:= ["fraction"]
theorem head {α:Type} {Yf:Shared->α} {Ya:World->α} {YP:World->Heap->Prop} {d:DefRec} {kwd:List (Str×Expr)} (left:LeftO PySem.Challenge.pw_stovework_k44_needs qv lo (fun s=>xlAt qv [] s&&recOk [] s) Yf Ya 11842)
  (hY:∀w s,Yf s=Ya w->YP w s.heap) (hYk:∀w h h',YP w h->(∀b o,h.get? b=some o->h'.get? b=some o)->YP w h') (hd:defOf qv PySem.Challenge.rw_stovework_k44_needs.row.name=some (d,kwd))
  (hp:PySem.Challenge.rw_stovework_k44_needs.row.prog.theDef PySem.Challenge.rw_stovework_k44_needs.row.name=some (d.params,d.body,d.scope)) (hk:kwWritten? d.params.kwonlyargs d.params.kw_defaults=some kwd)
  (said:PySem.Challenge.rw_stovework_k44_needs.row.wellSaid=true) (hw:PySem.Challenge.rw_stovework_k44_needs.row.toRowW.promised) (call:WalkO qv lo (XL qv []) YP PySem.Challenge.rw_stovework_k44_needs.row.toRowW d kwd fun f vs=>PySem.call f vs):PySem.Challenge.rw_stovework_k44_needs.row.Holds:=
 holds_open left hY hYk (fun s e=>xl_of s (Bool.and_eq_true_iff.mp e).1) XL.keeps hd hp hk (fun s e=>recFacts_of (Bool.and_eq_true_iff.mp e).2) rfl said (by decide+kernel) ⟨rfl,rfl,rfl,rfl,rfl,by decide+kernel⟩ hw call
set_option maxHeartbeats 0 in
theorem la:Ht.Look PySem.Challenge.pw_stovework_k44_needs 11842 (fun s₀ s₁=>Ht.wv PySem.Challenge.pw_stovework_k44_needs s₀ s₁) (fun _=>true):=by
 intro w;rw[Fa,FY,Fc,Fb,FZ,FX]
 kernel_rfl
set_option maxHeartbeats 0 in
theorem lb:Ht.Look PySem.Challenge.pw_stovework_k44_needs 11842 (fun _ s=>openSeen qv lo (importedModules PySem.Challenge.pw_stovework_k44_needs.main.body) (fun s=>xlAt qv [] s&&recOk [] s) true s) (fun _=>openGood qv lo):=by
 intro w;rw[Fa,FY,Fc,Fb,FZ,FX,PySem.W.Fast.te4187177175401517315]
 kernel_rfl
end Lk44
local macro_rules| `(tactic|o_head $H)=> `(tactic|(refine Lk44.head (Yf:=PySem.W.Hook.obs $H) (Ya:=PySem.W.Hook.val $H) (YP:=PySem.W.Hook.says $H) ?hl (PySem.W.Hook.of $H) (PySem.W.Hook.keeps $H) (by rfl) (by rfl) (by rfl) (by assumption) ?hw ?hc;(case hl=>(refine Ht.uo Lk44.la Lk44.lb ?c;(case c=>(intro w;rw[Fa,FY,Fc,Fb,FZ,FX];kernel_rfl))))))
namespace PySem.W.Fast
def tw6624352593454276369:PySem.Program:=PySem.Challenge.pw_stovework_k44_needs
theorem te6624352593454276369:PySem.Challenge.pw_stovework_k44_needs=tw6624352593454276369:=rfl
end PySem.W.Fast
set_option maxHeartbeats 0 in
open_top Lk44.hd for PySem.Challenge.rw_stovework_k44_needs
namespace L2
open PySem PySem.Spec PyProof.Rows
abbrev Key:=Sum Int Str
def lj:Key->Value->Bool
 | .inl k,v=>Value.isInt k v
 | .inr x,v=>Value.isStrOf x v
def CM (w:World):Key->Int
 | .inl k=>hashInt k
 | .inr x=>hashStr w x
theorem bX:∀{k:Key} {v:Value},lj k v=true->(∃i t,k=Sum.inl i/\v=Value.int i t)∨(∃x t,k=Sum.inr x/\v=Value.str x t)
 | .inl i,v,h=>by
  obtain ⟨t,e⟩:=Value.isInt_shape (k:=i) (v:=v) h;exact .inl ⟨i,t,rfl,e⟩
 | .inr x,v,h=>by
  obtain ⟨t,e⟩:=Value.isStrOf_shape (x:=x) (v:=v) h;exact .inr ⟨x,t,rfl,e⟩
theorem sG (i:Int) (t:Tok):lj (.inl i) (.int i t)=true:=by simp[lj,Value.isInt]
theorem sH (x:Str) (t:Tok):lj (.inr x) (.str x t)=true:=by simp[lj,Value.isStrOf]
theorem yP (a b:Int):decide ((Sum.inl a:Key)=Sum.inl b)=(a==b):=by
 by_cases e:a=b
 ·subst e;simp
 ·have h:¬(Sum.inl a:Key)=Sum.inl b:=fun q=>e (Sum.inl.inj q)
  rw[decide_eq_false h];exact (beq_eq_false_iff_ne.mpr e).symm
theorem yQ (a b:Str):decide ((Sum.inr a:Key)=Sum.inr b)=decide (a=b):=by
 by_cases e:a=b
 ·subst e;simp
 ·have h:¬(Sum.inr a:Key)=Sum.inr b:=fun q=>e (Sum.inr.inj q)
  rw[decide_eq_false h,decide_eq_false e]
theorem yR (a:Int) (b:Str):decide ((Sum.inl a:Key)=Sum.inr b)=false:=decide_eq_false (fun q=>nomatch q)
theorem yS (a:Str) (b:Int):decide ((Sum.inr a:Key)=Sum.inl b)=false:=decide_eq_false (fun q=>nomatch q)
def bg (prog:Program) (w:World):PySem.KeyKind prog w Key where
 is:=lj
 hash:=CM w
 inj:=fun v a b ha hb=>by
  rcases bX ha with ⟨i,t,rfl,rfl⟩|⟨x,t,rfl,rfl⟩
  ·rcases bX hb with ⟨j,u,rfl,e⟩|⟨y,u,rfl,e⟩
   ·injection e with e1 _;rw[e1]
   ·exact nomatch e
  ·rcases bX hb with ⟨j,u,rfl,e⟩|⟨y,u,rfl,e⟩
   ·exact nomatch e
   ·injection e with e1 _;rw[e1]
 byValue:=fun k v h=>by
  rcases bX h with ⟨i,t,rfl,rfl⟩|⟨x,t,rfl,rfl⟩<;>rfl
 pyHash:=fun hv h=>by
  rcases bX hv with ⟨i,t,rfl,rfl⟩|⟨x,t,rfl,rfl⟩
  ·exact wpAny_pyHash_int h
  ·exact wpAny_pyHash_str h
 eqBool:=fun hu hv h=>by
  rcases bX hu with ⟨i,t,rfl,rfl⟩|⟨x,t,rfl,rfl⟩
  ·rcases bX hv with ⟨j,u,rfl,rfl⟩|⟨y,u,rfl,rfl⟩
   ·rw[yP] at h;exact wpAny_eqBool_int h
   ·rw[yR] at h;exact SeqAt.EqAt.int_str i t y u _ _ _ _ h
  ·rcases bX hv with ⟨j,u,rfl,rfl⟩|⟨y,u,rfl,rfl⟩
   ·rw[yS] at h;exact SeqAt.EqAt.str_int x t j u _ _ _ _ h
   ·rw[yQ] at h;exact wpAny_eqBool_str h
 «strs» :=fun k x t v h=>by
  rcases bX h with ⟨i,u,rfl,e⟩|⟨y,u,rfl,e⟩
  ·exact nomatch e
  ·injection e with e1 _
   subst e1;cases v<;>rfl
theorem nV (prog:Program) (w:World) (i:Int) (t:Tok):(bg prog w).is (.inl i) (.int i t)=true:=sG i t
theorem nW (prog:Program) (w:World) (x:Str) (t:Tok):(bg prog w).is (.inr x) (.str x t)=true:=sH x t
inductive V where
 |non|bl (b:Bool)|int (i:Int)|str (x:Str)|byt (b:Array UInt8)|flt (b:UInt64)|ref (a:Addr)|ty (n:String)
 deriving DecidableEq
def RelV:V->Value->Prop
 | .non,u=>u=Value.none
 | .bl b,u=>u=Value.bool b
 | .int i,u=>∃t,u=Value.int i t
 | .str x,u=>∃t,u=Value.str x t
 | .byt b,u=>∃t,u=Value.bytes b t
 | .flt b,u=>∃t,u=Value.float b t
 | .ref a,u=>u=Value.ref a
 | .ty n,u=>u=Value.type n
abbrev aT:List V->HQ->Prop:=Paired RelV
theorem aT.length {xs:List V} {us:HQ} (r:aT xs us):xs.length=us.length:=Paired.length r
theorem aT.get:∀{xs:List V} {us:HQ} {i:Nat} {x:V},aT xs us->xs[i]?=some x->∃u,us[i]?=some u/\RelV x u
 |_,_,_,_,.nil,e=>by simp at e
 |_,_,0,_,.cons r _,e=>by simp at e;subst e;exact ⟨_,rfl,r⟩
 |_,_,i+1,x,.cons _ t,e=>by
  obtain ⟨u,h1,h2⟩:=aT.get (i:=i) (x:=x) t (by simpa using e)
  exact ⟨u,by simpa using h1,h2⟩
theorem aT.append:∀{xs ys:List V} {us ws:HQ},aT xs us->aT ys ws->aT (xs++ys) (us++ws)
 |_,_,_,_,.nil,s=>s
 |_,_,_,_,.cons r t,s=> .cons r (aT.append t s)
theorem aT.take:∀{xs:List V} {us:HQ} (n:Nat),aT xs us->aT (xs.take n) (us.take n)
 |_,_,0,_=> .nil
 |_,_,_+1,.nil=> .nil
 |_,_,n+1,.cons r t=> .cons r (aT.take n t)
theorem aT.drop:∀{xs:List V} {us:HQ} (n:Nat),aT xs us->aT (xs.drop n) (us.drop n)
 |_,_,0,r=>r
 |_,_,_+1,.nil=> .nil
 |_,_,n+1,.cons _ t=>aT.drop n t
def eA:Option V->HS->Prop
 |some v,some u=>RelV v u
 |none,none=>True
 |_,_=>False
def KV {κ:Type}:List (κ×V)->List (κ×Value)->Prop:=Paired fun (p:κ×V) (q:κ×Value)=>p.1=q.1/\RelV p.2 q.2
def kV:Key->V
 | .inl i=> .int i
 | .inr x=> .str x
inductive HO where
  |lst (xs:List V)
  |tup (xs:List V)
  |dK (kvs:List (Key×V))|dT (kvs:List (List Key×V))
  |set (S:Int->Bool) (n:Nat)
  |ins (C dx:Addr) (fs:List (Str×V))
  |own (x:Addr)
  |xd (fs:List (Str×V))
  |met (f x:Addr)
  |rng (lo hi:Int)
  |frz (o:Obj) (u:HO)
  |tbl (ps:Array Value)
  |ext (φ:Heap->Prop)
abbrev Hp:=Addr->Option HO
def ay (H:Hp) (a:Addr) (o:HO):Hp:=fun b=>if b=a then some o else H b
theorem ac {H:Hp} {a:Addr} {o:HO}:ay H a o a=some o:=by unfold ay;rw[if_pos rfl]
theorem ag {H:Hp} {a b:Addr} {o:HO} (h:b≠a):ay H a o b=H b:=by unfold ay;rw[if_neg h]
theorem mE {H:Hp} {a:Addr} {o u:HO}:ay (ay H a o) a u=ay H a u:=by
 funext b;unfold ay;split<;>rfl
theorem cJ {H:Hp} {a b:Addr} {o u:HO} (h:H a=some o) (h':H b=some u) (d:o≠u):a≠b:=by
 intro e;subst e;rw[h] at h';exact d (ET h')
theorem a9 {H:Hp} {a b:Addr} {o:HO} (h:H a=some o) (h':H b=none):a≠b:=by
 intro e;subst e;rw[h] at h';cases h'
section
variable (P:Program) (w:World)
def a7 (H:Hp) (h:Heap) (a:Addr):HO->Prop
 | .lst xs=>xs.length<=sizeLine/\∃(its:HQ) (n:Nat),aT xs its/\h.get? a=some {cls:= .type "list",data:= .seq its.toArray n}
 | .tup xs=>xs.length<=sizeLine/\∃its:HQ,aT xs its/\IsTup h a its.toArray
 | .dK kvs=>kvs.length<=sizeLine/\(a==sysModules)=false/\∃vs,KV kvs vs/\h.DictOf (bg P w) a vs
 | .dT kvs=>kvs.length<=sizeLine/\(a==sysModules)=false/\∃xs:List (List Key×Addr×Value),
   Paired (fun (p:List Key×V) (q:List Key×Addr×Value)=>p.1=q.1/\H q.2.1=some (.tup (p.1.map kV))/\RelV p.2 q.2.2) kvs xs/\
   ∃o es ep,h.get? a=some o/\o.ExactDict/\o.data= .dict es ep/\es.toList=xs.map (entryOfKey (tupleKind (bg P w)))/\(xs.map (·.1)).Nodup
 | .set S n=>h.SetOf (intKind P w) a S n
 | .ins C dx fs=>H dx=some (.own a)/\fs.length<=1000/\dx≠a/\h.get? a=some (FJ C dx)/\
   ∃mA,h.Ns1 dx mA/\(∀f,eA (fs.lookup f) (mA f))/\PySem.Within mA (fs.map (·.1))
 | .own _=>∃o,h.get? a=some o
 | .xd fs=>∃mA,h.Ns1 a mA/\∀f,eA (fs.lookup f) (mA f)
 | .rng lo hi=>∃t u v,h.get? a=some {cls:= .type "range",data:= .fields #[.int lo t,.int hi u,.int 1 v]}
 | .frz o u=>h.get? a=some o/\a7 H h a u
 | .tbl ps=>h.get? a=some {cls:= .none,data:= .fields ps}
 | .met f x=>h.get? a=some (PySem.W.methodObj (.ref f) (.ref x))
 | .ext φ=>φ h/\(∃o,h.get? a=some o)/\∀h1 h2:Heap,φ h1->(∀o,h1.get? a=some o->h2.get? a=some o)->φ h2
def eI (H:Hp) (h:Heap):Prop:=∀a o,H a=some o->a7 P w H h a o
end
section
variable {P:Program} {w:World} {H H':Hp} {h h':Heap} {a:Addr} {o:HO}
theorem a7.lt (x:a7 P w H h a o):a<h.objs.size:=by
 cases o with
 |lst xs=>obtain ⟨_,_,_,_,e⟩:=x;exact Heap.lt_size e
 |tup xs=>obtain ⟨_,_,_,p⟩:=x;exact p.lt
 |dK kvs=>obtain ⟨_,_,_,_,o,_,_,e,_⟩:=x;exact Heap.lt_size e
 |dT kvs=>obtain ⟨_,_,_,_,o,_,_,e,_⟩:=x;exact Heap.lt_size e
 |set S n=>obtain ⟨o,_,_,_,e,_⟩:=x;exact Heap.lt_size e
 |ins C dx fs=>obtain ⟨_,_,_,e,_⟩:=x;exact Heap.lt_size e
 |own y=>obtain ⟨_,e⟩:=x;exact Heap.lt_size e
 |xd fs=>obtain ⟨_,⟨_,_,_,e,_⟩,_⟩:=x;exact Heap.lt_size e
 |rng lo hi=>obtain ⟨_,_,_,e⟩:=x;exact Heap.lt_size e
 |frz ob u=>obtain ⟨e,_⟩:=x;exact Heap.lt_size e
 |tbl ps=>exact Heap.lt_size (show h.get? a=some _ from x)
 |met f y=>exact Heap.lt_size (show h.get? a=some _ from x)
 |ext φ=>obtain ⟨_,⟨_,e⟩,_⟩:=x;exact Heap.lt_size e
theorem Paired.mapP {α β:Type} {F G:α->β->Prop}:∀{l₁:List α} {l₂:List β},Paired F l₁ l₂->(∀a b,F a b->G a b)->Paired G l₁ l₂
 |_,_,.nil,_=> .nil
 |_,_,.cons r t,f=> .cons (f _ _ r) (Paired.mapP t f)
theorem a7.stay (x:a7 P w H h a o) (k:∀b u,(b=a∨H b=some (.own a))->h.get? b=some u->h'.get? b=some u)
  (ho:∀b,H b=some (.own a)->H' b=some (.own a)) (ht:∀b xs,H b=some (.tup xs)->H' b=some (.tup xs)):a7 P w H' h' a o:=by
 induction o with
 |lst xs=>obtain ⟨z,its,n,r,e⟩:=x;exact ⟨z,its,n,r,k _ _ (.inl rfl) e⟩
 |tup xs=>obtain ⟨z,its,r,ob,e,c⟩:=x;exact ⟨z,its,r,ob,k _ _ (.inl rfl) e,c⟩
 |dK kvs=>obtain ⟨z,y,vs,r,ob,es,ep,e,c⟩:=x;exact ⟨z,y,vs,r,ob,es,ep,k _ _ (.inl rfl) e,c⟩
 |dT kvs=>
  obtain ⟨z,y,xs,r,ob,es,ep,e,c⟩:=x;exact ⟨z,y,xs,Paired.mapP r fun p q z=>⟨z.1,ht _ _ z.2.1,z.2.2⟩,ob,es,ep,k _ _ (.inl rfl) e,c⟩
 |set S n=>obtain ⟨ob,es,ep,t,e,c⟩:=x;exact ⟨ob,es,ep,t,k _ _ (.inl rfl) e,c⟩
 |ins C dx fs=>
  obtain ⟨d,z,ne,e,mA,⟨od,es,ep,e2,c⟩,r⟩:=x;exact ⟨ho _ d,z,ne,k _ _ (.inl rfl) e,mA,⟨od,es,ep,k _ _ (.inr d) e2,c⟩,r⟩
 |own y=>obtain ⟨ob,e⟩:=x;exact ⟨ob,k _ _ (.inl rfl) e⟩
 |xd fs=>obtain ⟨mA,⟨od,es,ep,e,c⟩,r⟩:=x;exact ⟨mA,⟨od,es,ep,k _ _ (.inl rfl) e,c⟩,r⟩
 |rng lo hi=>obtain ⟨t,u,v,e⟩:=x;exact ⟨t,u,v,k _ _ (.inl rfl) e⟩
 |frz ob u ih=>obtain ⟨e,q⟩:=x;exact ⟨k _ _ (.inl rfl) e,ih q⟩
 |tbl ps=>
  have e:h.get? a=some {cls:= .none,data:= .fields ps}:=x;show h'.get? a=some {cls:= .none,data:= .fields ps};exact k a _ (.inl rfl) e
 |met f y=>
  have e:h.get? a=some (PySem.W.methodObj (.ref f) (.ref y)):=x;show h'.get? a=some (PySem.W.methodObj (.ref f) (.ref y));exact k a _ (.inl rfl) e
 |ext φ=>obtain ⟨p,⟨o,e⟩,st⟩:=x;exact ⟨st _ _ p fun o q=>k _ _ (.inl rfl) q,⟨o,k _ _ (.inl rfl) e⟩,st⟩
theorem eI.lt (x:eI P w H h) (e:H a=some o):a<h.objs.size:=(x a o e).lt
theorem eI.fresh (x:eI P w H h) (e:h.objs.size<=a):H a=none:=by
 cases q:H a with
 |none=>rfl
 |some u=>exact absurd (EQ (x.lt q) e) (FS _)
theorem eI.kept (x:eI P w H h) (k:∀b u,h.get? b=some u->h'.get? b=some u):eI P w H h':=fun a o e=>
 (x a o e).stay (fun b u _ q=>k b u q) (fun _ q=>q) fun _ _ q=>q
theorem eI.laid (x:eI P w H h) (k:∀b u,h.get? b=some u->h'.get? b=some u) (hp:h.objs.size<=a) (new:a7 P w (ay H a o) h' a o):eI P w (ay H a o) h':=fun b u e=>by
 have hn:=x.fresh hp
 by_cases hb:b=a
 ·subst hb;rw[ac] at e;cases e;exact new
 ·rw[ag hb] at e;exact (x b u e).stay (fun c v _ q=>k c v q) (fun c q=>by rw[ag (a9 q hn)];exact q) fun c xs q=>by rw[ag (a9 q hn)];exact q
end
def Rd (H:Hp) (a:Addr) (u:HO):Prop:=H a=some u∨∃o,H a=some (.frz o u)
theorem Rd.ok {P:Program} {w:World} {H:Hp} {h:Heap} {a:Addr} {u:HO} (r:Rd H a u) (x:eI P w H h):a7 P w H h a u:=by
 rcases r with r|⟨o,r⟩
 ·exact x a u r
 ·obtain ⟨_,q⟩:=x a _ r;exact q
def AN:Option HO->Prop
 |some (.lst _)=>True
 |some (.dK _)=>True
 |some (.dT _)=>True
 |some (.set _ _)=>True
 |some (.ins _ _ _)=>True
 |some (.ext _)=>True
 |_=>False
section
variable {P:Program} {w:World} {H:Hp} {h h':Heap} {x e:Addr} {o':HO}
theorem eI.write (ok:eI P w H h) (mu:AN (H x)) (he:e=x∨H e=some (.own x)) (k:∀b u,b≠e->h.get? b=some u->h'.get? b=some u) (heo:∃u,h'.get? e=some u)
  (new:a7 P w (ay H x o') h' x o'):eI P w (ay H x o') h':=fun b u q=>by
 have nown:∀c y,H c=some (.own y)->c≠x:=fun c y r z=>by subst z;rw[r] at mu;exact mu
 have ntup:∀c xs,H c=some (.tup xs)->c≠x:=fun c xs r z=>by subst z;rw[r] at mu;exact mu
 by_cases hb:b=x
 ·subst hb;rw[ac] at q;cases q;exact new
 ·rw[ag hb] at q
  by_cases hbe:b=e
  ·have q':H b=some (.own x):=by
    rcases he with z|z
    ·exact absurd (hbe.trans z) hb
    ·rw[hbe];exact z
   rw[q] at q';cases q';obtain ⟨v,hv⟩:=heo;exact ⟨v,by rw[hbe];exact hv⟩
  ·refine (ok b u q).stay (fun c v hc r=>k c v ?_ r) (fun c r=>by rw[ag (nown c b r)];exact r) fun c xs r=>by rw[ag (ntup c xs r)];exact r
   rcases hc with rfl|hc
   ·exact hbe
   ·rintro rfl;rcases he with z|z
    ·exact nown c b hc z
    ·rw[hc] at z;cases z;exact hb rfl
end
structure Un (fs ex:HP) (H H':Hp) (h h':Heap):Prop where
 keep:∀b o,h.get? b=some o->H b=none->b∉fs->b∉ex->h'.get? b=some o
 slot:∀b o,h.get? b=some o->H b=none->b∈fs->b∉ex->∃sl,h'.get? b=some {o with slots:=sl}
 free:∀b o,h.get? b=some o->H b=none->b∉ex->H' b=none
 there:∀b o,h.get? b=some o->b∉ex->∃o',h'.get? b=some o'
 tups:∀b xs,H b=some (.tup xs)->H' b=some (.tup xs)
 frzs:∀b o u,H b=some (.frz o u)->H' b=some (.frz o u)
 tbls:∀b ps,H b=some (.tbl ps)->∃more,H' b=some (.tbl (ps++more))
section
variable {fs fs' ex ex':HP} {H H1 H2:Hp} {h h1 h2 h':Heap} {a x e:Addr} {o:HO}
theorem Un.any (u:Un fs ex H H1 h h1) {b:Addr} {ob:Obj} (q:h.get? b=some ob) (n:H b=none) (hx:b∉ex):∃sl,h1.get? b=some {ob with slots:=sl}:=by
 by_cases hb:b∈fs
 ·exact u.slot b ob q n hb hx
 ·exact ⟨ob.slots,u.keep b ob q n hb hx⟩
theorem Un.trans (a:Un fs ex H H1 h h1) (b:Un fs ex H1 H2 h1 h2):Un fs ex H H2 h h2 where
 keep:=fun c ob q n hc hx=>b.keep c ob (a.keep c ob q n hc hx) (a.free c ob q n hx) hc hx
 slot:=fun c ob q n hc hx=>by
  obtain ⟨sl,e1⟩:=a.slot c ob q n hc hx;obtain ⟨sl',e2⟩:=b.slot c _ e1 (a.free c ob q n hx) hc hx;exact ⟨sl',e2⟩
 free:=fun c ob q n hx=>by
  obtain ⟨o',e1⟩:=a.there c ob q hx;exact b.free c o' e1 (a.free c ob q n hx) hx
 there:=fun c ob q hx=>by
  obtain ⟨o',e1⟩:=a.there c ob q hx;exact b.there c o' e1 hx
 tups:=fun c xs q=>b.tups c xs (a.tups c xs q)
 frzs:=fun c ob xs q=>b.frzs c ob xs (a.frzs c ob xs q)
 tbls:=fun c ps q=>by
  obtain ⟨m1,e1⟩:=a.tbls c ps q;obtain ⟨m2,e2⟩:=b.tbls c _ e1;exact ⟨m1++m2,by rw[e2,Array.append_assoc]⟩
theorem Un.kept (k:∀b u,h.get? b=some u->h'.get? b=some u):Un fs ex H H h h':=
 ⟨fun b ob q _ _ _=>k b ob q,fun b ob q _ _ _=>⟨ob.slots,k b ob q⟩,fun _ _ _ n _=>n,fun b ob q _=>⟨ob,k b ob q⟩,fun _ _ q=>q,fun _ _ _ q=>q,fun _ ps q=>⟨#[],by rw[q];simp⟩⟩
theorem Un.refl:Un fs ex H H h h:=Un.kept fun _ _ q=>q
theorem Un.laid (k:∀b u,h.get? b=some u->h'.get? b=some u) (hp:h.objs.size<=a) (hn:H a=none):Un fs ex H (ay H a o) h h' where
 keep:=fun b u q _ _ _=>k b u q
 slot:=fun b u q _ _ _=>⟨u.slots,k b u q⟩
 free:=fun b u q n _=>by rw[ag (EE (EQ (Heap.lt_size q) hp))];exact n
 there:=fun b u q _=>⟨u,k b u q⟩
 tups:=fun b xs q=>by rw[ag (a9 q hn)];exact q
 frzs:=fun b u xs q=>by rw[ag (a9 q hn)];exact q
 tbls:=fun b ps q=>⟨#[],by rw[ag (a9 q hn),q];simp⟩
theorem Un.write (mu:AN (H x)) (he:e=x∨H e=some (.own x)) (k:∀b u,b≠e->h.get? b=some u->h'.get? b=some u) (heo:∃u,h'.get? e=some u):Un fs ex H (ay H x o) h h':=by
 have hx:∀b,H b=none->b≠x:=fun b n z=>by subst z;rw[n] at mu;exact mu
 have hb:∀b,H b=none->b≠e:=fun b n z=>by
  subst z;rcases he with r|r
  ·exact hx b n r
  ·rw[n] at r;cases r
 have hm:∀b u,H b=some u->¬AN (some u)->b≠x:=fun b u q nm z=>by subst z;rw[q] at mu;exact nm mu
 refine ⟨fun b u q n _ _=>k b u (hb b n) q,fun b u q n _ _=>⟨u.slots,k b u (hb b n) q⟩,fun b u q n _=>by rw[ag (hx b n)];exact n,fun b u q _=>?_,
  fun b xs q=>by rw[ag (hm b _ q fun z=>z)];exact q,fun b u xs q=>by rw[ag (hm b _ q fun z=>z)];exact q,fun b ps q=>⟨#[],by rw[ag (hm b _ q fun z=>z),q];simp⟩⟩
 by_cases hbe:b=e
 ·subst hbe;exact heo
 ·exact ⟨u,k b u hbe q⟩
end
def Cy (h:Heap) (H:Hp):HP:=(List.range h.objs.size).filter fun a=>(H a).isSome
def mF (h:Heap) (H:Hp):Heap:=PySem.W.hideAll h (Cy h H)
theorem sI (h:Heap) (H:Hp):(mF h H).objs.size=h.objs.size:=PySem.W.hideAll_size _ _
theorem uq {h:Heap} {H:Hp} {b:Addr} {o:Obj} (e:h.get? b=some o) (n:H b=none):(mF h H).get? b=some o:=
 PySem.W.hideAll_get _ e fun hm=>by
  have q:(H b).isSome=true:=(FL.mp hm).2;rw[n] at q;simp at q
theorem ww {h:Heap} {H:Hp} {b:Addr} {o:Obj} (e:(mF h H).get? b=some o):h.get? b=some o/\H b=none:=by
 have e':h.get? b=some o:=PySem.W.of_hideAll (Cy h H) e;refine ⟨e',?_⟩;cases q:H b with
 |none=>rfl
 |some x=>
  have hm:b∈Cy h H:=FL.mpr ⟨List.mem_range.mpr (Heap.lt_size e'),by simp[q]⟩
  have z:(mF h H).get? b=none:=PySem.W.hideAll_none (Cy h H) hm;rw[z] at e;cases e
structure Mod (K:D9) (mg:HG) (base:Heap):Prop where
 kin:K.In base
 glob:base.Ns mainGlobals mg
 blt:∃mb,base.Ns builtinsNs mb/\∀x:Str,x≠ "__name__" ->mb x=bootBuiltins x
 nolimit:base.NoLimit
structure Cx where
 prog:Program
 w:World
 K:D9
 mg:Str->HS
 base:Heap
 A:Around
 N:HN
 s₀:Shared
 H₀:Hp
 env:Env
 outer:List Env
 stack:List Env
 ex:HP
 fn:Str->Bool
 calm:Bool
 pn:HL
 xe:Value->Shared->Prop
def jn (l:List Env):HP:=l.filterMap (·.frame)
abbrev Cx.fs (X:Cx):HP:=jn X.outer
def AO (sc:Scope) (x:Str):Prop:=sc.names.lookup x=some .local∨sc.names.lookup x=some .cell∨sc.names.lookup x=some .free
def Loc (sc:Scope) (x:Str):Prop:=sc.names.lookup x=some .local∨sc.names.lookup x=some .cell
def Look (env:Env) (h:Heap) (m:HG) (x:Str) (u:Value):Prop:=
 (env.kindOf x=some .local/\m x=some u)∨((env.kindOf x=some .cell∨env.kindOf x=some .free)/\∃c,env.cells.lookup x=some c/\h.IsCell c (some u))
structure Cx.Ok (X:Cx):Prop where
 mod:Mod X.K X.mg X.base
 kind:X.env.scope.kind= .function
 glob:X.env.globals=mainGlobals
 blt:X.env.builtins=builtinsNs
 above:X.s₀.heap.objs.size<=X.env.locals
 inj:∀x y c,X.env.cells.lookup x=some c->X.env.cells.lookup y=some c->x=y
 has:∀x,(X.env.kindOf x=some .cell∨X.env.kindOf x=some .free)->∃c,X.env.cells.lookup x=some c
 cab:∀x c,X.fn x=true->X.env.cells.lookup x=some c->X.s₀.heap.objs.size<=c
 hd:X.calm=true->X.A.handled=none
 frames:X.A.frames=some X.stack
 stk:X.stack=X.outer∨(X.stack=X.env::X.outer/\X.env.frame=some X.env.locals)
 exf:∀b∈X.ex,b≠X.env.locals/\∀x c,X.env.cells.lookup x=some c->c≠b
 bs:∀b o,X.base.get? b=some o->X.s₀.heap.get? b=some o/\X.H₀ b=none
 bsz:X.base.objs.size<=X.s₀.heap.objs.size
 noex:∀b o,X.base.get? b=some o->b∉X.ex
 exfs:∀b∈X.ex,b∉X.fs
 funs:X.s₀.heap.FunFrames X.base X.outer
 frf:∀b∈X.fs,X.H₀ b=none
structure aE (X:Cx) (pins:HL) (σ:List (Option V)) (H:Hp) (s:Shared):Prop where
 ok:X.Ok
 os:s.os=X.s₀.os
 bare:AllBare s.gens
 base:Un X.fs X.ex X.H₀ H X.s₀.heap s.heap
 loc:∃m,s.heap.Ns X.env.locals m/\∀(i:Nat) (x:Str) (v:V),X.N[i]?=some x->σ[i]?=some (some v)->AO X.env.scope x->∃u,RelV v u/\Look X.env s.heap m x u
 cell:∀x c,X.env.cells.lookup x=some c->∃v,s.heap.IsCell c v
 free:H X.env.locals=none
 freeC:∀x c,X.env.cells.lookup x=some c->H c=none
 pin:∀p∈X.pn++pins,s.heap.get? p.1=some p.2/\H p.1=none/\p.1≠X.env.locals/\p.1∉X.fs/\∀v,p.2.data≠ .cell v
 hok:eI X.prog X.w H s.heap
 len:σ.length=X.N.length
variable {X:Cx} {pins:HL} {σ:List (Option V)} {H H':Hp} {s:Shared} {h':Heap}
theorem Cx.Ok.nofr (ok:X.Ok) {b:Addr} {o:Obj} (e:X.base.get? b=some o):b∉X.fs:=fun hb=>by
 have:=(ok.funs.mem hb).1;rw[e] at this;cases this
theorem aE.bs (I:aE X pins σ H s):∀b o,X.base.get? b=some o->s.heap.get? b=some o/\H b=none:=fun b o e=>
 ⟨I.base.keep b o (I.ok.bs b o e).1 (I.ok.bs b o e).2 (I.ok.nofr e) (I.ok.noex b o e),I.base.free b o (I.ok.bs b o e).1 (I.ok.bs b o e).2 (I.ok.noex b o e)⟩
theorem aE.bk (I:aE X pins σ H s):∀b o,X.base.get? b=some o->s.heap.get? b=some o:=fun b o e=>(I.bs b o e).1
theorem aE.mod (I:aE X pins σ H s):Mod X.K X.mg X.base:=I.ok.mod
theorem aE.kIn (I:aE X pins σ H s):X.K.In s.heap:=I.ok.mod.kin.keeps I.bk
theorem aE.lt (I:aE X pins σ H s):X.env.locals<s.heap.objs.size:=let ⟨_,hn,_⟩:=I.loc;hn.lt
theorem aE.sz (I:aE X pins σ H s):X.s₀.heap.objs.size<=s.heap.objs.size:=EX I.ok.above (Nat.le_of_lt I.lt)
theorem aE.nofs (I:aE X pins σ H s) {a:Addr} (h:s.heap.objs.size<=a):a∉X.fs:=fun hb=>by
 obtain ⟨_,o,ho,_⟩:=I.ok.funs.mem hb;exact absurd (EQ (Heap.lt_size ho) (EX I.sz h)) (FS _)
theorem aE.cne (I:aE X pins σ H s):∀x c,X.env.cells.lookup x=some c->c≠X.env.locals:=fun x c e z=>by
 obtain ⟨v,o,ho,hd⟩:=I.cell x c e;obtain ⟨m,⟨o',es,ep,ho',hd',_⟩,_⟩:=I.loc;rw[z,ho'] at ho;cases ho;rw[hd'] at hd;cases hd
theorem aE.funs (I:aE X pins σ H s):s.heap.FunFrames X.base X.outer:=by
 have all:∀(l:List Env),(∀b∈jn l,b∈X.fs)->X.s₀.heap.FunFrames X.base l->s.heap.FunFrames X.base l:=by
  intro l
  induction l with
  |nil=>intro _ _;trivial
  |cons env r ih=>
   intro hs hl;obtain ⟨hk,⟨L,o,hf,hn,ho,hd⟩,hr⟩:=hl;have hL:L∈X.fs:=hs L (by unfold jn;rw[Ff,hf];exact F7)
   obtain ⟨sl,e⟩:=I.base.slot L o ho (I.ok.frf L hL) hL fun z=>I.ok.exfs L z hL
   exact ⟨hk,⟨L,_,hf,hn,e,hd⟩,ih (fun b hb=>hs b (by unfold jn;rw[Ff,hf];exact Ea _ hb)) hr⟩
 exact all X.outer (fun _ hb=>hb) I.ok.funs
theorem aE.stack (I:aE X pins σ H s):s.heap.FunFrames X.base X.stack:=by
 rcases I.ok.stk with e|⟨e,hf⟩
 ·rw[e];exact I.funs
 ·rw[e];obtain ⟨m,hn,_⟩:=I.loc;refine .cons (by rw[I.ok.kind];decide) hf hn ?_ I.funs
  exact Heap.get?_none_of_le (EX I.ok.bsz I.ok.above)
theorem aE.stkSub (I:aE X pins σ H s):∀b∈jn X.stack,b∈X.env.locals::X.fs:=fun b hb=>by
 rcases I.ok.stk with e|⟨e,hf⟩
 ·rw[e] at hb;exact Ea _ hb
 ·rw[e] at hb;unfold jn at hb;rw[Ff,hf] at hb;exact hb
theorem aE.stkFree (I:aE X pins σ H s):∀b∈jn X.stack,H b=none:=fun b hb=>by
 rcases EC.mp (I.stkSub b hb) with e|hb
 ·rw[e];exact I.free
 ·obtain ⟨_,o,ho,_⟩:=I.ok.funs.mem hb;exact I.base.free b o ho (I.ok.frf b hb) fun z=>I.ok.exfs b z hb
theorem aE.step {g':Array GenState} {t':Nat} {d':Drawn} {ch:HP} (I:aE X pins σ H s)
  (hch:∀b∈ch,(b∈X.ex∨X.s₀.heap.objs.size<=b)/\b≠X.env.locals/\(∀x c,X.env.cells.lookup x=some c->c≠b)/\∀p∈X.pn++pins,p.1≠b)
  (keep:∀b o,b≠X.env.locals->b∉X.fs->b∉ch->s.heap.get? b=some o->H b=none->h'.get? b=some o)
  (slot:∀b o,b≠X.env.locals->b∈X.fs->b∉ch->s.heap.get? b=some o->H b=none->∃sl,h'.get? b=some {o with slots:=sl}) (free:∀b o,b∉ch->s.heap.get? b=some o->H b=none->H' b=none)
  (there:∀b o,b∉ch->s.heap.get? b=some o->∃o',h'.get? b=some o')
  (tups:∀b xs,H b=some (.tup xs)->H' b=some (.tup xs)) (frzs:∀b o u,H b=some (.frz o u)->H' b=some (.frz o u)) (tbls:∀b ps,H b=some (.tbl ps)->∃more,H' b=some (.tbl (ps++more)))
  (ns:∀m,s.heap.Ns X.env.locals m->h'.Ns X.env.locals m) (hok:eI X.prog X.w H' h') (hg:AllBare g'):
  aE X pins σ H' {s with heap:=h',gens:=g',drawn:=d',toks:=t'}:=by
 have neL:∀b o,X.s₀.heap.get? b=some o->b≠X.env.locals:=fun b o e=>EE (EQ (Heap.lt_size e) I.ok.above)
 have neC:∀b o,X.s₀.heap.get? b=some o->b∉X.ex->b∉ch:=fun b o e hx hb=>by
  rcases (hch b hb).1 with z|z
  ·exact hx z
  ·exact absurd (EQ (Heap.lt_size e) z) (FS _)
 have cellK:∀x c,X.env.cells.lookup x=some c->∀v,s.heap.IsCell c v->h'.IsCell c v:=fun x c e v ⟨o,ho,hd⟩=>by
  have nch:c∉ch:=fun z=>(hch c z).2.2.1 x c e rfl
  by_cases hc:c∈X.fs
  ·obtain ⟨sl,q⟩:=slot c o (I.cne x c e) hc nch ho (I.freeC x c e);exact ⟨_,q,hd⟩
  ·exact ⟨o,keep c o (I.cne x c e) hc nch ho (I.freeC x c e),hd⟩
 refine ⟨I.ok,I.os,hg,⟨fun b o e n hb hx=>?_,fun b o e n hb hx=>?_,fun b o e n hx=>?_,fun b o e hx=>?_,fun b xs e=>tups b xs (I.base.tups b xs e),fun b o xs e=>frzs b o xs (I.base.frzs b o xs e),fun b ps e=>?_⟩,?_,fun x c e=>?_,?_,fun x c e=>?_,fun p hp=>?_,hok,I.len⟩
 ·exact keep b o (neL b o e) hb (neC b o e hx) (I.base.keep b o e n hb hx) (I.base.free b o e n hx)
 ·obtain ⟨sl,e1⟩:=I.base.slot b o e n hb hx;obtain ⟨sl',e2⟩:=slot b _ (neL b o e) hb (neC b o e hx) e1 (I.base.free b o e n hx);exact ⟨sl',e2⟩
 ·obtain ⟨o',e1⟩:=I.base.there b o e hx;exact free b o' (neC b o e hx) e1 (I.base.free b o e n hx)
 ·obtain ⟨o',e1⟩:=I.base.there b o e hx;exact there b o' (neC b o e hx) e1
 ·obtain ⟨m1,e1⟩:=I.base.tbls b ps e;obtain ⟨m2,e2⟩:=tbls b _ e1;exact ⟨m1++m2,by rw[e2,Array.append_assoc]⟩
 ·obtain ⟨m,hn,hl⟩:=I.loc;refine ⟨m,ns m hn,fun i x v e1 e2 e3=>?_⟩
  obtain ⟨u,r,l⟩:=hl i x v e1 e2 e3;refine ⟨u,r,?_⟩;rcases l with l|⟨k,c,e,z⟩
  ·exact .inl l
  ·exact .inr ⟨k,c,e,cellK x c e _ z⟩
 ·obtain ⟨v,z⟩:=I.cell x c e;exact ⟨v,cellK x c e v z⟩
 ·obtain ⟨m,⟨o,_,_,ho,_⟩,_⟩:=I.loc;exact free _ o (fun z=>(hch _ z).2.1 rfl) ho I.free
 ·obtain ⟨v,o,ho,hd⟩:=I.cell x c e;exact free c o (fun z=>(hch c z).2.2.1 x c e rfl) ho (I.freeC x c e)
 ·obtain ⟨e,n,ne,nf,d⟩:=I.pin p hp;have nch:p.1∉ch:=fun z=>(hch p.1 z).2.2.2 p hp rfl
  exact ⟨keep p.1 p.2 ne nf nch e n,free p.1 p.2 nch e n,ne,nf,d⟩
theorem aE.un {t':Nat} (I:aE X pins σ H s) (u:Un X.fs [] H H' s.heap h') (hok:eI X.prog X.w H' h'):aE X pins σ H' {s with heap:=h',toks:=t'}:=by
 obtain ⟨m,⟨o,es,ep,ho,r⟩,_⟩:=id I.loc;obtain ⟨sl,hL⟩:=u.any ho I.free (by simp)
 exact I.step (g':=s.gens) (d':=s.drawn) (ch:= []) (fun _ z=>nomatch z) (fun b o _ hb _ e n=>u.keep b o e n hb (by simp)) (fun b o _ hb _ e n=>u.slot b o e n hb (by simp)) (fun b o _ e n=>u.free b o e n (by simp)) (fun b o _ e=>u.there b o e (by simp)) u.tups u.frzs u.tbls (fun m' hm=>by
  obtain ⟨o',es',ep',ho',r'⟩:=hm;rw[ho] at ho';cases ho';exact ⟨_,es',ep',hL,r'⟩) hok I.bare
theorem aE.call {g':Array GenState} {t':Nat} {d':Drawn} {ch:HP} (I:aE X pins σ H s) (u:Un (jn X.stack) ch H H' s.heap h') (hok:eI X.prog X.w H' h') (hg:AllBare g')
  (hch:∀b∈ch,(b∈X.ex∨X.s₀.heap.objs.size<=b)/\b≠X.env.locals/\(∀x c,X.env.cells.lookup x=some c->c≠b)/\∀p∈X.pn++pins,p.1≠b):
  aE X pins σ H' {s with heap:=h',gens:=g',drawn:=d',toks:=t'}:=by
 obtain ⟨m,⟨o,es,ep,ho,r⟩,_⟩:=id I.loc;obtain ⟨sl,hL⟩:=u.any ho I.free fun z=>(hch _ z).2.1 rfl
 exact I.step (ch:=ch) hch (fun b o hL hb hc e n=>u.keep b o e n (fun z=>(EC.mp (I.stkSub b z)).elim hL hb) hc) (fun b o _ _ hc e n=>u.any e n hc) (fun b o hc e n=>u.free b o e n hc) (fun b o hc e=>u.there b o e hc) u.tups u.frzs u.tbls (fun m' hm=>by
  obtain ⟨o',es',ep',ho',r'⟩:=hm;rw[ho] at ho';cases ho';exact ⟨_,es',ep',hL,r'⟩) hok hg
theorem aE.turned {t':Nat} {it:Addr} (I:aE X pins σ H s) (k:∀b o,b≠it->s.heap.get? b=some o->h'.get? b=some o) (hn:H it=none) (hL:it≠X.env.locals)
  (h1:it∈X.ex∨X.s₀.heap.objs.size<=it) (h2:∀x c,X.env.cells.lookup x=some c->c≠it) (h3:∀p∈X.pn++pins,p.1≠it):aE X pins σ H {s with heap:=h',toks:=t'}:=by
 have nit:∀b u,H b=some u->b≠it:=fun b u e z=>by rw[z,hn] at e;cases e
 refine I.step (g':=s.gens) (d':=s.drawn) (ch:= [it]) (fun b hb=>?_) (fun b o _ _ hc e _=>k b o (fun z=>hc (by simp[z])) e) (fun b o _ _ hc e _=>⟨o.slots,k b o (fun z=>hc (by simp[z])) e⟩) (fun _ _ _ _ n=>n)
  (fun b o hc e=>⟨o,k b o (fun z=>hc (by simp[z])) e⟩) (fun _ _ e=>e) (fun _ _ _ e=>e) (fun b ps e=>⟨#[],by rw[e];simp⟩) (fun m hm=>?_) (fun b u e=>?_) I.bare
 ·have e:b=it:=by simpa using hb
  subst e;exact ⟨h1,hL,h2,h3⟩
 ·obtain ⟨o,es,ep,ho,r⟩:=hm;exact ⟨o,es,ep,k _ o (Ne.symm hL) ho,r⟩
 ·refine (I.hok b u e).stay (fun c v hc q=>k c v ?_ q) (fun _ q=>q) fun _ _ q=>q
  rcases hc with z|z
  ·rw[z];exact nit b u e
  ·exact nit c _ z
theorem aE.tok (I:aE X pins σ H s) (t:Nat):aE X pins σ H {s with toks:=t}:=I.un (h':=s.heap) (t':=t) Un.refl I.hok
theorem aE.kept {t':Nat} (I:aE X pins σ H s) (k:∀b u,s.heap.get? b=some u->h'.get? b=some u):aE X pins σ H {s with heap:=h',toks:=t'}:=I.un (Un.kept k) (I.hok.kept k)
theorem aE.laid {a:Addr} {o:HO} {t':Nat} (I:aE X pins σ H s) (k:∀b u,s.heap.get? b=some u->h'.get? b=some u) (hp:s.heap.objs.size<=a) (new:a7 X.prog X.w (ay H a o) h' a o):
  aE X pins σ (ay H a o) {s with heap:=h',toks:=t'}:=I.un (Un.laid k hp (I.hok.fresh hp)) (I.hok.laid k hp new)
theorem aE.write {x e:Addr} {o:HO} {t':Nat} (I:aE X pins σ H s) (mu:AN (H x)) (he:e=x∨H e=some (.own x)) (k:∀b u,b≠e->s.heap.get? b=some u->h'.get? b=some u) (heo:∃u,h'.get? e=some u)
  (new:a7 X.prog X.w (ay H x o) h' x o):aE X pins σ (ay H x o) {s with heap:=h',toks:=t'}:=I.un (Un.write mu he k heo) (I.hok.write mu he k heo new)
theorem aE.pins_of {pins':HL} (I:aE X pins σ H s) (h:∀p∈pins',s.heap.get? p.1=some p.2/\H p.1=none/\p.1≠X.env.locals/\p.1∉X.fs/\∀v,p.2.data≠ .cell v):aE X pins' σ H s:=
 ⟨I.ok,I.os,I.bare,I.base,I.loc,I.cell,I.free,I.freeC,fun p hp=>(EK.mp hp).elim (fun z=>I.pin p (Ex _ z)) (h p),I.hok,I.len⟩
theorem jK {N:HN} (hN:N.Nodup) {i j:Nat} {x:Str} (a:N[i]?=some x) (b:N[j]?=some x):i=j:=by
 obtain ⟨h1,e1⟩:=E2.mp a;obtain ⟨h2,e2⟩:=E2.mp b;exact (List.getElem_inj hN).mp (e1.trans e2.symm)
theorem gp {M:Model} {A:Around} {E:HF} {i:Nat} {x:Str} {v:V} {u:Value} {Q:Unit->Shared->Prop} (I:aE X pins σ H s) (hN:X.N.Nodup) (hi:X.N[i]?=some x) (hx:Loc X.env.scope x) (r:RelV v u)
  (h:∀s',aE X pins (σ.set i (some v)) H s'->(∃a,Heap.SameBut a s.heap s'.heap/\(a=X.env.locals∨X.env.cells.lookup x=some a))->Q () s') (hf:X.fn x=true∨X.env.scope.names.lookup x=some .local:=by first|exact .inl rfl|exact .inr rfl|assumption):wpAny M A (storeName X.env x u) Q E s:=by
 obtain ⟨m,hn,hl⟩:=id I.loc;have hcls:(X.env.scope.kind== .class||(X.env.scope.kind== .module&&X.env.locals !=X.env.globals))=false:=by rw[I.ok.kind];rfl
 have hiσ:i<σ.length:=by rw[I.len];exact (E2.mp hi).1
 have cne:=I.cne;have tracked:∀{a:Addr} {h':Heap},(∃o,s.heap.get? a=some o/\H a=none)->Heap.SameBut a s.heap h'->eI X.prog X.w H h':=fun {a h'} ha hs b ob e=>by
  obtain ⟨_,_,hfree⟩:=ha;refine (I.hok b ob e).stay (fun c w' hc q=>(hs.2 c ?_).trans q) (fun _ q=>q) fun _ _ q=>q
  rintro rfl;rcases hc with rfl|hc
  ·rw[hfree] at e;cases e
  ·rw[hfree] at hc;cases hc
 rcases hx with hk|hk
 ·refine wpAny_storeName_local hk hn (fun h' hn' hs=>?_) hcls
  obtain ⟨oL,_,_,hoL,_⟩:=id hn;refine h _ ⟨I.ok,I.os,I.bare,⟨fun b o e n hb hx=>?_,fun b o e n hb hx=>?_,I.base.free,fun b o e hx=>?_,I.base.tups,I.base.frzs,I.base.tbls⟩,⟨_,hn',fun j y v' e1 e2 e3=>?_⟩,fun y c e=>?_,I.free,I.freeC,fun p hp=>?_,tracked ⟨oL,hoL,I.free⟩ hs,by simpa using I.len⟩ ⟨_,hs,.inl rfl⟩
  ·exact (hs.2 b (EE (EQ (Heap.lt_size e) I.ok.above))).trans (I.base.keep b o e n hb hx)
  ·obtain ⟨sl,e1⟩:=I.base.slot b o e n hb hx;exact ⟨sl,(hs.2 b (EE (EQ (Heap.lt_size e) I.ok.above))).trans e1⟩
  ·obtain ⟨o',e1⟩:=I.base.there b o e hx;exact ⟨o',(hs.2 b (EE (EQ (Heap.lt_size e) I.ok.above))).trans e1⟩
  ·by_cases hj:j=i
   ·subst hj;rw[hi] at e1;cases e1;rw[List.getElem?_set_self hiσ] at e2;cases e2;exact ⟨u,r,.inl ⟨hk,by simp⟩⟩
   ·rw[List.getElem?_set_ne (Ne.symm hj)] at e2;obtain ⟨u',r',q⟩:=hl j y v' e1 e2 e3;refine ⟨u',r',?_⟩;rcases q with ⟨k,e⟩|⟨k,c,e,z⟩
    ·refine .inl ⟨k,?_⟩;have:y≠x:=fun e=>hj (jK hN e1 (e▸hi))
     simp[this,e]
    ·exact .inr ⟨k,c,e,z.sameBut hs (cne y c e)⟩
  ·obtain ⟨w',z⟩:=I.cell y c e;exact ⟨w',z.sameBut hs (cne y c e)⟩
  ·obtain ⟨e,n,ne,nf,d⟩:=I.pin p hp;exact ⟨(hs.2 p.1 ne).trans e,n,ne,nf,d⟩
 ·have hfn:X.fn x=true:=by
   rcases hf with z|z
   ·exact z
   ·rw[z] at hk;cases hk
  obtain ⟨c,hc⟩:=I.ok.has x (.inl hk);obtain ⟨w',z⟩:=I.cell x c hc;refine wpAny_storeName_cell I.ok.kind hk hc z (fun h' hc' hs=>?_)
  obtain ⟨oc,hoc,hocd⟩:=id z;refine h {s with heap:=h'} ⟨I.ok,I.os,I.bare,⟨fun b o e n hb hx=>?_,fun b o e n hb hx=>?_,I.base.free,fun b o e hx=>?_,I.base.tups,I.base.frzs,I.base.tbls⟩,⟨m,hn.sameBut hs (Ne.symm (cne x c hc)),fun j y v' e1 e2 e3=>?_⟩,fun y c' e=>?_,I.free,I.freeC,fun p hp=>?_,tracked ⟨oc,hoc,I.freeC x c hc⟩ hs,by simpa using I.len⟩ ⟨c,hs,.inr hc⟩
  ·exact (hs.2 b (EE (EQ (Heap.lt_size e) (I.ok.cab x c hfn hc)))).trans (I.base.keep b o e n hb hx)
  ·obtain ⟨sl,e1⟩:=I.base.slot b o e n hb hx;exact ⟨sl,(hs.2 b (EE (EQ (Heap.lt_size e) (I.ok.cab x c hfn hc)))).trans e1⟩
  ·obtain ⟨o',e1⟩:=I.base.there b o e hx;exact ⟨o',(hs.2 b (EE (EQ (Heap.lt_size e) (I.ok.cab x c hfn hc)))).trans e1⟩
  ·by_cases hj:j=i
   ·subst hj;rw[hi] at e1;cases e1;rw[List.getElem?_set_self hiσ] at e2;cases e2;exact ⟨u,r,.inr ⟨.inl hk,c,hc,hc'⟩⟩
   ·rw[List.getElem?_set_ne (Ne.symm hj)] at e2;obtain ⟨u',r',q⟩:=hl j y v' e1 e2 e3;refine ⟨u',r',?_⟩;rcases q with q|⟨k,c',e,z'⟩
    ·exact .inl q
    ·refine .inr ⟨k,c',e,z'.sameBut hs ?_⟩;rintro rfl;exact hj (jK hN e1 (I.ok.inj _ _ _ e hc▸hi))
  ·by_cases hcc:c'=c
   ·subst hcc;exact ⟨_,hc'⟩
   ·obtain ⟨w2,z2⟩:=I.cell y c' e;exact ⟨w2,z2.sameBut hs hcc⟩
  ·obtain ⟨e,n,ne,nf,d⟩:=I.pin p hp;refine ⟨(hs.2 p.1 ?_).trans e,n,ne,nf,d⟩;intro q;rw[q,hoc] at e;have q':oc=p.2:=ET e;exact d w' (by rw[<-q'];exact hocd)
theorem eJ {M:Model} {A:Around} {E:HF} {i:Nat} {x:Str} {v:V} {u:Value} {Q:Unit->Shared->Prop} (I:aE X pins σ H s) (hN:X.N.Nodup) (hi:X.N[i]?=some x) (hx:Loc X.env.scope x) (r:RelV v u)
  (h:∀s',aE X pins (σ.set i (some v)) H s'->Q () s') (hf:X.fn x=true∨X.env.scope.names.lookup x=some .local:=by first|exact .inl rfl|exact .inr rfl|assumption):wpAny M A (storeName X.env x u) Q E s:=
 gp I hN hi hx r (fun s' I' _=>h s' I') hf
theorem aE.call' {s':Shared} {ch:HP} (I:aE X pins σ H s) (ho:s'.os=s.os) (u:Un (jn X.stack) ch H H' s.heap s'.heap) (hok:eI X.prog X.w H' s'.heap) (hg:AllBare s'.gens)
  (hch:∀b∈ch,(b∈X.ex∨X.s₀.heap.objs.size<=b)/\b≠X.env.locals/\(∀x c,X.env.cells.lookup x=some c->c≠b)/\∀p∈X.pn++pins,p.1≠b):aE X pins σ H' s':=by
 obtain ⟨h',g',d',t',o'⟩:=s';have e:o'=s.os:=ho;subst e;exact I.call (g':=g') (t':=t') (d':=d') u hok hg hch
abbrev XK:=Value->HR->Hp->Prop
abbrev St:=List (Option V)
abbrev VK:=V->Hp->Prop
abbrev TE:=St->Hp->VK->Prop
abbrev TT:=St->Hp->(Bool->Hp->Prop)->Prop
abbrev TA:=St->Hp->(List V->Hp->Prop)->Prop
structure Ends where
 nx:St->Hp->Prop
 rt:VK
 bk:St->Hp->Prop:=fun _ _=>False
 ct:St->Hp->Prop:=fun _ _=>False
abbrev TS:=Ends->St->Hp->Prop
def EP (X:Cx) (pins:HL) (σ:St) (Q:VK) (u:Value) (s':Shared):Prop:=∃v H',aE X pins σ H' s'/\RelV v u/\Q v H'
def TP (X:Cx) (pins:HL) (σ:St) (Q:Bool->Hp->Prop) (b:Bool) (s':Shared):Prop:=∃H',aE X pins σ H' s'/\Q b H'
def AP (X:Cx) (pins:HL) (σ:St) (Q:List V->Hp->Prop) (us:HQ) (s':Shared):Prop:=∃vs H',aE X pins σ H' s'/\aT vs us/\Q vs H'
def SP (X:Cx) (pins:HL) (D:Ends) (f:Flow) (s':Shared):Prop:=
 match f with
 | .next=>∃σ' H',aE X pins σ' H' s'/\D.nx σ' H'
 | .brk=>∃σ' H',aE X pins σ' H' s'/\D.bk σ' H'
 | .cont=>∃σ' H',aE X pins σ' H' s'/\D.ct σ' H'
 | .ret u=>∃v σ' H',aE X pins σ' H' s'/\RelV v u/\D.rt v H'
def PE (X:Cx) (e:Expr) (t:TE):Prop:=
 ∀(pins:HL) (s:Shared) (σ:St) (H:Hp) (Q:VK),aE X pins σ H s->t σ H Q->wpAny (model X.prog X.w) X.A (eval e X.env) (EP X pins σ Q) X.xe s
def PT (X:Cx) (e:Expr) (t:TT):Prop:=
 ∀(pins:HL) (s:Shared) (σ:St) (H:Hp) (Q:Bool->Hp->Prop),aE X pins σ H s->t σ H Q->wpAny (model X.prog X.w) X.A (isTrue e X.env (eval e X.env)) (TP X pins σ Q) X.xe s
def PW (X:Cx) (e:Expr) (t:TT):Prop:=
 ∀(whole:Sem Value) (pins:HL) (s:Shared) (σ:St) (H:Hp) (Q:Bool->Hp->Prop),aE X pins σ H s->t σ H Q->wpAny (model X.prog X.w) X.A (isTrue e X.env whole) (TP X pins σ Q) X.xe s
theorem PW.pt {X:Cx} {e:Expr} {t:TT} (h:PW X e t):PT X e t:=h _
def PA (X:Cx) (es:List Expr) (t:TA):Prop:=
 ∀(pos:Pos) (pins:HL) (s:Shared) (σ:St) (H:Hp) (Q:List V->Hp->Prop),aE X pins σ H s->t σ H Q->wpAny (model X.prog X.w) X.A (spliced (backTo pos (starEach es X.env))) (AP X pins σ Q) X.xe s
def PS (X:Cx) (st:Stmt) (t:TS):Prop:=
 ∀(pins:HL) (s:Shared) (σ:St) (H:Hp) (D:Ends),aE X pins σ H s->t D σ H->wpAny (model X.prog X.w) X.A (exec st X.env) (SP X pins D) X.xe s
def kO (X:Cx) (st:List Stmt) (t:TS):Prop:=
 ∀(pins:HL) (s:Shared) (σ:St) (H:Hp) (D:Ends),aE X pins σ H s->t D σ H->wpAny (model X.prog X.w) X.A (execs st X.env) (SP X pins D) X.xe s
theorem bu {α:Type} {t:Sem α} {Q Q':α->Shared->Prop} {M:Model} {A:Around} {E:HF} {s:Shared} (h:wpAny M A t Q E s) (hQ:∀a s,Q a s->Q' a s):wpAny M A t Q' E s:=wpAny_mono h hQ fun _ _ x=>x
section
def wx (i:Nat):TE:=fun σ H Q=>∃v,σ[i]?=some (some v)/\Q v H
def tC (v:V):TE:=fun _ H Q=>Q v H
theorem yT {i:Nat} {x:Str} {pos:Pos} (hN:X.N[i]?=some x) (hv:AO X.env.scope x) (hd:(x==("__debug__" :Str))=false:=by decide) (hcd:(x==("__classdict__" :Str))=false:=by decide):PE X (.Name x pos) (wx i):=by
 intro pins s σ H Q I h;obtain ⟨v,e,h⟩:=h;obtain ⟨m,hn,hl⟩:=I.loc;obtain ⟨u,r,l⟩:=hl i x v hN e hv;have fin:EP X pins σ Q u s:=⟨v,H,I,r,h⟩;rcases l with ⟨hk,hm⟩|⟨hk,c,hc,hcell⟩
 ·exact wpAny_Name (wpAny_loadName_local I.ok.kind hk hn hm fin) hd
 ·rcases hk with hk|hk
  ·exact wpAny_Name (wpAny_loadName_cell I.ok.kind hk hc hcell fin) hd
  ·exact wpAny_Name (wpAny_loadName_free I.ok.kind hk hc hcell fin hcd) hd
theorem ar {i j pos}:PE X (.Constant (.int i) j pos) (tC (.int i)):=fun _ _ _ H _ I h=>wpAny_Constant_int ⟨.int i,H,I.tok _,⟨_,rfl⟩,h⟩
theorem bH {b j pos}:PE X (.Constant (.bool b) j pos) (tC (.bl b)):=fun _ _ _ H _ I h=>Constant_bool ⟨.bl b,H,I,rfl,h⟩
theorem dv {j pos}:PE X (.Constant .none j pos) (tC .non):=fun _ _ _ H _ I h=>Constant_none ⟨.non,H,I,rfl,h⟩
theorem dh {x j pos}:PE X (.Constant (.str x) j pos) (tC (.str x)):=fun _ _ _ H _ I h=>Calls.Constant_str ⟨.str x,H,I.tok _,⟨_,rfl⟩,h⟩
def Gl (X:Cx) (x:Str):Prop:=X.env.kindOf x=some .globalImplicit
theorem dJ {E:HF} {pins:HL} {s:Shared} {σ:St} {H:Hp} {x:Str} {u:Value} {pos:Pos} {Q:HF} (I:aE X pins σ H s) (hg:Gl X x) (hm:X.mg x=some u) (h:Q u s)
  (hd:(x==("__debug__" :Str))=false:=by decide):wpAny (model X.prog X.w) X.A (eval (.Name x pos) X.env) Q E s:=
 Calls.Name_function_global I.ok.kind hg (Calls.loadGlobal_global (by rw[I.ok.glob];exact I.mod.glob.keeps I.bk) hm h) hd
theorem fS {E:HF} {pins:HL} {s:Shared} {σ:St} {H:Hp} {x:Str} {u:Value} {pos:Pos} {Q:HF} (I:aE X pins σ H s) (hg:Gl X x) (hm:X.mg x=none) (hv:bootBuiltins x=some u) (h:Q u s)
  (hn:x≠ "__name__" :=by decide) (hd:(x==("__debug__" :Str))=false:=by decide):wpAny (model X.prog X.w) X.A (eval (.Name x pos) X.env) Q E s:=by
 obtain ⟨mb,h1,h2⟩:=I.mod.blt;exact Calls.Name_function_global I.ok.kind hg (Calls.loadGlobal_builtin (by rw[I.ok.glob];exact I.mod.glob.keeps I.bk) hm (by rw[I.ok.blt];exact h1.keeps I.bk) ((h2 x hn).trans hv) h) hd
theorem b9 {x:Str} {v:V} {u:Value} {pos:Pos} (hg:Gl X x) (hm:X.mg x=some u) (r:RelV v u) (hd:(x==("__debug__" :Str))=false:=by decide):PE X (.Name x pos) (tC v):=
 fun _ _ _ H _ I h=>dJ I hg hm ⟨v,H,I,r,h⟩ hd
theorem bE {x:Str} {v:V} {u:Value} {pos:Pos} (hg:Gl X x) (hm:X.mg x=none) (hv:bootBuiltins x=some u) (r:RelV v u) (hn:x≠ "__name__" :=by decide) (hd:(x==("__debug__" :Str))=false:=by decide):PE X (.Name x pos) (tC v):=
 fun _ _ _ H _ I h=>fS I hg hm hv ⟨v,H,I,r,h⟩ hn hd
variable {a b:Expr} {ta tb:TE} {pos:Pos}
def PC (X:Cx) (op:CmpOp) (a b:Expr) (t:TE):Prop:=
 ∀(pins:HL) (s:Shared) (σ:St) (H:Hp) (Q:VK),aE X pins σ H s->t σ H Q->
  wpAny (model X.prog X.w) X.A (eval a X.env) (fun v s₁=>wpAny (model X.prog X.w) X.A (eval b X.env) (fun u s₂=>wpAny (model X.prog X.w) X.A (compareOp op v u) (EP X pins σ Q) X.xe s₂) X.xe s₁) X.xe s
def tB (t:TE):TT:=fun σ H Q=>t σ H fun x H1=>∃c,x= .bl c/\Q c H1
theorem fT {op:CmpOp} {t:TE} (h:PC X op a b t) (h1:behindInMarks op b=false:=by first|exact nobehind _ (by decide) (by decide)|rfl):PT X (.Compare a [op] [b] pos) (tB t):=by
 intro pins s σ H Q I hw;refine wpAny_isTrue_Compare1 (bu (h pins s σ H _ I hw) fun v s1 h1=>bu h1 fun u s2 h2=>bu h2 fun c s3 ⟨x,H1,I1,r1,q1⟩=>?_) h1
 obtain ⟨d,rfl,q⟩:=q1;cases r1;exact wpAny_truthy_bool ⟨H1,I1,q⟩
theorem bv {e:Expr} {t:TE} (h:PE X e t) (he:∀whole,isTrue e X.env whole=(do let v<-whole;standAt e.pos;holding [v] (truthy v)):=by intro _;rfl):PT X e (tB t):=by
 intro pins s σ H Q I hw;refine isTrue_plain (bu (h pins s σ H _ I hw) fun v s1 ⟨x,H1,I1,r1,q1⟩=>?_) (he _)
 obtain ⟨d,rfl,q⟩:=q1;cases r1;exact wpAny_truthy_bool ⟨H1,I1,q⟩
variable {tA tB':TT} {rest:List Expr}
def CN (t u:TT):TT:=fun σ H Q=>t σ H fun c H1=>if c=true then u σ H1 Q else Q false H1
def DU (t u:TT):TT:=fun σ H Q=>t σ H fun c H1=>if c=true then Q true H1 else u σ H1 Q
def CO (t:TT):TT:=fun σ H Q=>t σ H fun c H1=>Q (!c) H1
theorem mG (ha:PT X a tA):PW X (.BoolOp .And [a] pos) tA:=by
 intro wh pins s σ H Q I h;refine isTrue_and (bu (ha pins s σ H Q I h) fun c s1 e=>?_)
 cases c with
 |true=>exact isTrue_and_nil e
 |false=>exact e
theorem fh (ha:PT X a tA):PW X (.BoolOp .Or [a] pos) tA:=by
 intro wh pins s σ H Q I h;refine isTrue_or (bu (ha pins s σ H Q I h) fun c s1 e=>?_)
 cases c with
 |false=>exact isTrue_or_nil e
 |true=>exact e
theorem mH (ha:PT X a tA) (hb:PW X (.BoolOp .And (b::rest) pos) tB'):PW X (.BoolOp .And (a::b::rest) pos) (CN tA tB'):=by
 intro wh pins s σ H Q I h;refine isTrue_and (bu (ha pins s σ H _ I h) fun c s1 ⟨H1,I1,q1⟩=>?_)
 cases c with
 |true=>exact hb wh pins s1 σ H1 Q I1 q1
 |false=>exact ⟨H1,I1,q1⟩
theorem gG (ha:PT X a tA) (hb:PW X (.BoolOp .Or (b::rest) pos) tB'):PW X (.BoolOp .Or (a::b::rest) pos) (DU tA tB'):=by
 intro wh pins s σ H Q I h;refine isTrue_or (bu (ha pins s σ H _ I h) fun c s1 ⟨H1,I1,q1⟩=>?_)
 cases c with
 |true=>exact ⟨H1,I1,q1⟩
 |false=>exact hb wh pins s1 σ H1 Q I1 q1
theorem b5 (ha:PT X a tA):PT X (.UnaryOp .Not a pos) (CO tA):=by
 intro pins s σ H Q I h;exact isTrue_not (ha pins s σ H (fun c H1=>Q (!c) H1) I h)
def AQ (ta tb:TE):TE:=fun σ H Q=>ta σ H fun x H1=>∃c,x= .bl c/\if c=true then tb σ H1 Q else Q (.bl false) H1
def AR (ta:TE):TE:=fun σ H Q=>ta σ H fun x H1=>∃c,x= .bl c/\Q (.bl (!c)) H1
theorem fi {op} {t:TE} (h:PE X a t):PE X (.BoolOp op [a] pos) t:=fun pins s σ H Q I hw=>BoolOp_one (h pins s σ H Q I hw)
theorem dQ (ha:PE X a ta) (hb:PE X (.BoolOp .And (b::rest) pos) tb):PE X (.BoolOp .And (a::b::rest) pos) (AQ ta tb):=by
 intro pins s σ H Q I h;refine BoolOp_and (bu (ha pins s σ H _ I h) fun v s1 ⟨x,H1,I1,r1,q1⟩=>?_)
 obtain ⟨c,rfl,q1⟩:=q1;cases r1;refine wpAny_truthy_bool ?_;cases c with
 |true=>exact hb pins s1 σ H1 Q I1 q1
 |false=>exact ⟨.bl false,H1,I1,rfl,q1⟩
theorem mI (ha:PE X a ta):PE X (.UnaryOp .Not a pos) (AR ta):=by
 intro pins s σ H Q I h;refine UnaryOp_ (bu (ha pins s σ H _ I h) fun v s1 ⟨x,H1,I1,r1,q1⟩=>?_)
 obtain ⟨c,rfl,q1⟩:=q1;cases r1;exact not_of (wpAny_truthy_bool ⟨.bl (!c),H1,I1,rfl,q1⟩)
end
def aQ (K:D9) (H:Hp) (a:Addr) (xs:List V):Prop:=
 Rd H a (.lst xs)∨
  ∃(o:Obj) (its:Array Value) (n:Nat),K.lookup a=some o/\o.cls= .type "list" /\o.dict=none/\o.data= .seq its n/\its.size<=sizeLine/\aT xs its.toList
def bS (K:D9) (H:Hp) (a:Addr) (xs:List V):Prop:=
 Rd H a (.tup xs)∨
  ∃(o:Obj) (its:Array Value) (n:Nat),K.lookup a=some o/\o.cls= .type "tuple" /\o.data= .seq its n/\its.size<=sizeLine/\aT xs its.toList
def CP:Value->Option V
 | .none=>some .non
 | .bool b=>some (.bl b)
 | .int i _=>some (.int i)
 | .str x _=>some (.str x)
 | .bytes b _=>some (.byt b)
 | .float b _=>some (.flt b)
 | .ref a=>some (.ref a)
 | .type n=>some (.ty n)
 |_=>none
theorem RelV.abs {x:V} {u:Value} (r:RelV x u):CP u=some x:=by
 cases x with
 |non=>cases r;rfl
 |bl _=>cases r;rfl
 |int _=>obtain ⟨t,rfl⟩:=r;rfl
 |str _=>obtain ⟨t,rfl⟩:=r;rfl
 |byt _=>obtain ⟨t,rfl⟩:=r;rfl
 |flt _=>obtain ⟨t,rfl⟩:=r;rfl
 |ref _=>cases r;rfl
 |ty _=>cases r;rfl
theorem RelV.inj {x y:V} {u:Value} (r:RelV x u) (q:RelV y u):x=y:=ET (r.abs.symm.trans q.abs)
theorem aT.inj:∀{xs ys:List V} {us:HQ},aT xs us->aT ys us->xs=ys
 |_,_,_,.nil,.nil=>rfl
 |_,_,_,.cons r t,.cons r' t'=>by rw[r.inj r',aT.inj t t']
variable {σ:St} {a:Addr} {xs ys:List V}
theorem aQ.of {K:D9} (h:H a=some (.lst xs)):aQ K H a xs:= .inl (.inl h)
theorem bS.of {K:D9} (h:H a=some (.tup xs)):bS K H a xs:= .inl (.inl h)
theorem aE.list (I:aE X pins σ H s) (h:aQ X.K H a xs):∃its:HQ,aT xs its/\PlainL s.heap a its.toArray/\xs.length<=sizeLine:=by
 rcases h with h|⟨o,its,n,hk,hc,hd,hs,hz,r⟩
 ·obtain ⟨z,its,n,r,e⟩:=h.ok I.hok;exact ⟨its,r,⟨_,n,e,rfl,rfl,rfl⟩,z⟩
 ·refine ⟨its.toList,r,⟨o,n,I.kIn a o hk,hc,hd,by simpa using hs⟩,?_⟩
  have e:=r.length;simp only[Ez] at e
  lia
theorem aE.tuple (I:aE X pins σ H s) (h:bS X.K H a xs):∃its:HQ,aT xs its/\IsTup s.heap a its.toArray/\xs.length<=sizeLine:=by
 rcases h with h|⟨o,its,n,hk,hc,hs,hz,r⟩
 ·obtain ⟨z,its,r,p⟩:=h.ok I.hok;exact ⟨its,r,p,z⟩
 ·refine ⟨its.toList,r,⟨o,I.kIn a o hk,hc,n,by simpa using hs⟩,?_⟩
  have e:=r.length;simp only[Ez] at e
  lia
theorem aE.list_inj (I:aE X pins σ H s) (h:aQ X.K H a xs) (h':aQ X.K H a ys):xs=ys:=by
 obtain ⟨its,r,⟨o,n,e,_,_,d⟩,_⟩:=I.list h;obtain ⟨its',r',⟨o',n',e',_,_,d'⟩,_⟩:=I.list h';rw[e] at e';cases e';rw[d] at d';injection d' with d1 _
 have:its=its':=by simpa using congrArg Array.toList d1
 subst this;exact r.inj r'
abbrev Cx.wish (X:Cx) (E:HF):Cx:={X with xe:=E}
abbrev Cx.nox (X:Cx):Cx:=X.wish fun _ _=>False
theorem Cx.Ok.wish {X:Cx} (ok:X.Ok) (E:HF):(X.wish E).Ok:=
 ⟨ok.mod,ok.kind,ok.glob,ok.blt,ok.above,ok.inj,ok.has,ok.cab,ok.hd,ok.frames,ok.stk,ok.exf,ok.bs,ok.bsz,ok.noex,ok.exfs,ok.funs,ok.frf⟩
theorem Cx.Ok.unwish {X:Cx} {E:HF} (ok:(X.wish E).Ok):X.Ok:=
 ⟨ok.mod,ok.kind,ok.glob,ok.blt,ok.above,ok.inj,ok.has,ok.cab,ok.hd,ok.frames,ok.stk,ok.exf,ok.bs,ok.bsz,ok.noex,ok.exfs,ok.funs,ok.frf⟩
variable {E:HF}
theorem aE.wish (I:aE X pins σ H s) (E:HF):aE (X.wish E) pins σ H s:=⟨I.ok.wish E,I.os,I.bare,I.base,I.loc,I.cell,I.free,I.freeC,I.pin,I.hok,I.len⟩
theorem aE.unwish (I:aE (X.wish E) pins σ H s):aE X pins σ H s:=⟨I.ok.unwish,I.os,I.bare,I.base,I.loc,I.cell,I.free,I.freeC,I.pin,I.hok,I.len⟩
theorem SP.unwish {D:Ends} {f:Flow} {s':Shared} (h:SP (X.wish E) pins D f s'):SP X pins D f s':=by
 cases f with
 |next=>obtain ⟨σ',H',I,q⟩:=h;exact ⟨σ',H',I.unwish,q⟩
 |brk=>obtain ⟨σ',H',I,q⟩:=h;exact ⟨σ',H',I.unwish,q⟩
 |cont=>obtain ⟨σ',H',I,q⟩:=h;exact ⟨σ',H',I.unwish,q⟩
 |ret u=>obtain ⟨v,σ',H',I,r,q⟩:=h;exact ⟨v,σ',H',I.unwish,r,q⟩
theorem kO.nox {st:List Stmt} {t:TS} (h:kO X.nox st t):kO X st t:=fun pins s σ H D I hw=>
 wpAny_mono (h pins s σ H D (I.wish _) hw) (fun _ _ q=>q.unwish) fun _ _ z=>False.elim z
section
variable {st:Stmt} {rest:List Stmt} {t u:TS} {e:Expr} {te:TE} {pos:Pos}
def aR:TS:=fun D σ H=>D.nx σ H
def yU (t u:TS):TS:=fun D σ H=>t {D with nx:=u D} σ H
theorem aG:kO X [] aR:=fun _ _ σ H _ I h=>wpAny_execs_nil ⟨σ,H,I,h⟩
theorem ae (h1:PS X st t) (h2:kO X rest u):kO X (st::rest) (yU t u):=by
 intro pins s σ H D I h;refine wpAny_execs_cons (bu (h1 pins s σ H {D with nx:=u D} I h) fun f s1 q=>?_)
 cases f with
 |next=>
  obtain ⟨σ',H',I',q⟩:=q;exact h2 pins s1 σ' H' D I' q
 |ret v=>exact q
 |brk=>exact q
 |cont=>exact q
theorem ak (h1:PS X st t):kO X [st] t:=by
 intro pins s σ H D I h;refine wpAny_execs_cons (bu (h1 pins s σ H D I h) fun f s1 q=>?_)
 cases f with
 |next=>exact wpAny_execs_nil q
 |ret v=>exact q
 |brk=>exact q
 |cont=>exact q
theorem aE.quiet {pins:HL} {σ:St} {H:Hp} {s:Shared} (I:aE X pins σ H s):interactive X.env=false:=by simp[interactive,I.ok.kind]
def AS (te:TE):TS:=fun D σ H=>te σ H fun _ H1=>D.nx σ H1
theorem bx (he:PE X e te) (hs:swapsWith e none pos.line X.env=pure false:=by rfl):PS X (.Expr e pos) (AS te):=by
 intro pins s σ H D I h;exact wpAny_Expr_any (bu (he pins s σ H _ I h) fun v s1 ⟨x,H1,I1,r1,q1⟩=>⟨σ,H1,I1,q1⟩) I.quiet hs
def CQ (te:TE):TS:=fun D σ H=>te σ H D.rt
theorem aC (he:PE X e te):PS X (.Return (some e) pos) (CQ te):=by
 intro pins s σ H D I h;exact wpAny_Return_some (bu (he pins s σ H _ I h) fun v s1 ⟨x,H1,I1,r1,q1⟩=>⟨x,σ,H1,I1,r1,q1⟩)
def CT (c:TT) (t u:TS):TS:=fun D σ H=>c σ H fun b H1=>if b=true then t D σ H1 else u D σ H1
theorem aU {c:Expr} {a b:List Stmt} {tc:TT} (hc:PT X c tc) (ha:kO X a t) (hb:kO X b u):PS X (.If c a b pos) (CT tc t u):=by
 intro pins s σ H D I h;refine wpAny_If (bu (hc pins s σ H _ I h) fun d s1 ⟨H1,I1,q1⟩=>?_)
 cases d with
 |true=>exact ha pins s1 σ H1 D I1 q1
 |false=>exact hb pins s1 σ H1 D I1 q1
def yV:TS:=fun _ _ _=>False
theorem ur:PS X st yV:=fun _ _ _ _ _ _ h=>h.elim
end
abbrev TG:=V->St->Hp->(St->Hp->Prop)->Prop
abbrev yW:=List V->St->Hp->(St->Hp->Prop)->Prop
def PG (X:Cx) (target:Expr) (t:TG):Prop:=
 ∀(pins:HL) (s:Shared) (σ:St) (H:Hp) (v:V) (u:Value) (Q:St->Hp->Prop),aE X pins σ H s->RelV v u->t v σ H Q->
  wpAny (model X.prog X.w) X.A (assign target X.env u) (fun _ s'=>∃σ' H',aE X pins σ' H' s'/\Q σ' H') X.xe s
def Cz (X:Cx) (ts:List Expr) (t:yW):Prop:=
 ∀(pins:HL) (s:Shared) (σ:St) (H:Hp) (vs:List V) (us:HQ) (Q:St->Hp->Prop),aE X pins σ H s->aT vs us->t vs σ H Q->
  wpAny (model X.prog X.w) X.A (assignInOrder ((assignEach ts X.env).map (·.2)) us) (fun _ s'=>∃σ' H',aE X pins σ' H' s'/\Q σ' H') X.xe s
abbrev CA:=V->V->Hp->VK->Prop
def DL (X:Cx) (op:Operator) (t:CA):Prop:=
 ∀(pins:HL) (s:Shared) (σ:St) (H:Hp) (x y:V) (v u:Value) (Q:VK),aE X pins σ H s->RelV x v->RelV y u->t x y H Q->
  wpAny (model X.prog X.w) X.A (inplaceOp op v u) (EP X pins σ Q) X.xe s
section
variable {pos:Pos}
def aM (i:Nat):TG:=fun v σ H Q=>Q (σ.set i (some v)) H
theorem gq {i:Nat} {x:Str} (hN:X.N.Nodup) (hi:X.N[i]?=some x) (hx:Loc X.env.scope x) (hf:X.fn x=true∨X.env.scope.names.lookup x=some .local:=by first|exact .inl rfl|exact .inr rfl|assumption):PG X (.Name x pos) (aM i):=by
 intro pins s σ H v u Q I r h;exact wpAny_assign_Name (eJ I hN hi hx r (fun s' I'=>⟨_,H,I',h⟩) hf)
def CU:yW:=fun vs σ H Q=>vs= []/\Q σ H
def AT (t:TG) (u:yW):yW:=fun vs σ H Q=>∃v r,vs=v::r/\t v σ H fun σ' H'=>u r σ' H' Q
theorem iu:Cz X [] CU:=by
 intro pins s σ H vs us Q I r h;obtain ⟨e,h⟩:=h;subst e;cases r;exact assignInOrder_nil ⟨σ,H,I,h⟩
theorem cX {e:Expr} {es:List Expr} {t:TG} {u:yW} (h1:PG X e t) (h2:Cz X es u)
  (hs:(assignEach (e::es) X.env).map (·.2)=assign e X.env::(assignEach es X.env).map (·.2):=by rfl):Cz X (e::es) (AT t u):=by
 intro pins s σ H vs us Q I r h;obtain ⟨v,vr,e1,h⟩:=h;subst e1;cases r with
 |cons r rr=>
  rw[hs];refine assignInOrder_cons (bu (h1 pins s σ H _ _ _ I r h) fun _ s1 ⟨σ1,H1,I1,q1⟩=>?_)
  exact h2 pins s1 σ1 H1 _ _ Q I1 rr q1
def CV (K:D9) (n:Nat) (t:yW):TG:=fun v σ H Q=>∃a xs,v= .ref a/\bS K H a xs/\xs.length=n/\t xs σ H Q
theorem jL {es:List Expr} {k:Nat} {t:yW} {n:Nat} (hc:X.calm=true) (h:Cz X es t)
  (hn:(assignEach es X.env).length=n:=by rfl) (hst:(assignEach es X.env).findIdx? (·.1)=none:=by rfl):PG X (.Tuple es k pos) (CV X.K n t):=by
 intro pins s σ H v u Q I r hw;obtain ⟨a,xs,e1,hq,hl,hw⟩:=hw;subst e1;cases r;obtain ⟨its,rv,ht,hz⟩:=I.tuple hq;refine assign_Tuple_tuple (I.ok.hd hc) ht (by simp[hn,<-hl,rv.length]) hst fun h' hx=>?_
 have I1:aE X pins σ H {s with heap:=h'}:=I.kept (t':=s.toks) fun b o e=>hx b o (EE (Heap.lt_size e)) e
 exact h pins _ σ H xs _ Q I1 (by simpa using rv) hw
def ut (te:TE) (g:TG):TS:=fun D σ H=>te σ H fun x H1=>g x σ H1 D.nx
theorem mJ {i:Nat} {x:Str} {e:Expr} {te:TE} {pos':Pos} (hN:X.N.Nodup) (hi:X.N[i]?=some x) (hx:Loc X.env.scope x) (he:PE X e te) (hs:swapsWith e (some (.Name x pos')) pos.line X.env=pure false:=by rfl) (hf:X.fn x=true∨X.env.scope.names.lookup x=some .local:=by first|exact .inl rfl|exact .inr rfl|assumption):
  PS X (.Assign [.Name x pos'] e pos) (ut te (aM i)):=by
 intro pins s σ H D I h;refine wpAny_Assign_Name (bu (he pins s σ H _ I h) fun v s1 ⟨y,H1,I1,r1,q1⟩=>?_) hs
 exact eJ I1 hN hi hx r1 (fun s2 I2=>⟨_,H1,I2,q1⟩) hf
def CW (i j:Nat) (ta:TA):TS:=fun D σ H=>ta σ H fun vs H1=>∃v w,vs= [v,w]/\D.nx ((σ.set i (some v)).set j (some w)) H1
theorem yX {i j:Nat} {x y:Str} {a b:Expr} {ta:TA} {px py pt:Pos} {kt k2 pt2} (hc:X.calm=true) (hN:X.N.Nodup) (hi:X.N[i]?=some x) (hj:X.N[j]?=some y) (hij:i≠j)
  (hx:X.env.scope.names.lookup x=some .local) (hy:X.env.scope.names.lookup y=some .local) (ha:PA X [a,b] ta)
  (hw:swappedStores [.Tuple [.Name x px,.Name y py] kt pt] (.Tuple [a,b] k2 pt2) X.env=pure (some [x,y]))
  (hs:swapsWithSole [.Tuple [.Name x px,.Name y py] kt pt] (.Tuple [a,b] k2 pt2) pos.line X.env=pure false:=by rfl):
  PS X (.Assign [.Tuple [.Name x px,.Name y py] kt pt] (.Tuple [a,b] k2 pt2) pos) (CW i j ta):=by
 intro pins s σ H D I h;rw[exec_Assign_arm];refine wpAny_bind (wpAny_standAt ?_);rw[hs];refine wpAny_bind (wpAny_pure ?_);rw[if_neg (by decide)]
 refine wpAny_bind (Tuple_ (bu (ha _ pins s σ H _ I h) fun us s1 ⟨vs,H1,I1,r1,q1⟩=>?_))
 obtain ⟨v,w,e1,q1⟩:=q1;subst e1;obtain ⟨u1,u2,rfl,rv,rw'⟩:∃u1 u2,us= [u1,u2]/\RelV v u1/\RelV w u2:=by
  cases r1 with
  |cons p q=>
   cases q with
   |cons p' q'=>
    cases q';exact ⟨_,_,rfl,p,p'⟩
 refine wpAny_newObj_type ?_ (by show 2<=sizeLine;decide)
 have I2:aE X pins σ H1 {s1 with heap:=s1.heap.push {cls:= .type "tuple",data:= .seq [u1,u2].toArray}}:=I1.kept (t':=s1.toks) fun b o e=>Heap.get?_push_of_some _ e
 rw[hw];refine wpAny_bind (wpAny_pure ?_);show wpAny (model X.prog X.w) X.A (do rule "assign.swapped-stores";let items<-unpackItems (.ref s1.heap.objs.size) 2 none;assignInOrder [fun v=>bindName X.env y v,fun v=>bindName X.env x v] items.reverse;pure Flow.next) _ _ _
 refine wpAny_bind (wpAny_rule (wpAny_bind (unpackItems_tuple (items:= #[u1,u2]) (I.ok.hd hc) (IsTup.new s1.heap _) fun h' hx'=>?_)))
 have I3:=I2.kept (h':=h') (t':=s1.toks) fun b o e=>hx' b o (EE (Heap.lt_size e)) e
 show wpAny _ _ (assignInOrder [fun v=>bindName X.env y v,fun v=>bindName X.env x v] [u2,u1]>>=fun _=>pure Flow.next) _ _ _
 refine wpAny_bind (assignInOrder_cons (wpAny_bindName (eJ I3 hN hj (.inl hy) rw' (fun s2 I4=>?_) (.inr hy))))
 refine assignInOrder_cons (wpAny_bindName (eJ I4 hN hi (.inl hx) rv (fun s3 I5=>assignInOrder_nil (wpAny_pure ?_)) (.inr hx)))
 rw[List.set_comm _ _ (Ne.symm hij)] at I5;exact ⟨_,H1,I5,q1⟩
def CY (i:Nat) (te:TE) (ti:CA):TS:=fun D σ H=>∃x,σ[i]?=some (some x)/\te σ H fun y H1=>ti x y H1 fun z H2=>D.nx (σ.set i (some z)) H2
theorem yY {i:Nat} {x:Str} {e:Expr} {te:TE} {op:Operator} {ti:CA} {pos':Pos} (hN:X.N.Nodup) (hi:X.N[i]?=some x) (hx:Loc X.env.scope x) (he:PE X e te) (ho:DL X op ti) (hf:X.fn x=true∨X.env.scope.names.lookup x=some .local:=by first|exact .inl rfl|exact .inr rfl|assumption):
  PS X (.AugAssign (.Name x pos') op e pos) (CY i te ti):=by
 intro pins s σ H D I h;obtain ⟨v,e1,h⟩:=h;obtain ⟨m,hn,hl⟩:=I.loc;have vis:AO X.env.scope x:=by rcases hx with k|k;exact .inl k;exact .inr (.inl k)
 obtain ⟨u,r,l⟩:=hl i x v hi e1 vis;refine wpAny_AugAssign_Name ?_;have go:wpAny (model X.prog X.w) X.A (eval e X.env) (fun w s₂=>wpAny (model X.prog X.w) X.A (inplaceOp op u w) (fun r s₃=>wpAny (model X.prog X.w) X.A (storeName X.env x r) (fun _=>SP X pins D .next) X.xe s₃) X.xe s₂) X.xe s:=by
  refine bu (he pins s σ H _ I h) fun w s1 ⟨y,H1,I1,r1,q1⟩=>?_
  refine bu (ho pins s1 σ H1 v y u w _ I1 r r1 q1) fun z s2 ⟨zv,H2,I2,r2,q2⟩=>?_
  exact eJ I2 hN hi hx r2 (fun s3 I3=>⟨_,H2,I3,q2⟩) hf
 rcases l with ⟨hk,hm⟩|⟨hk,c,hc,hcell⟩
 ·exact wpAny_loadName_local I.ok.kind hk hn hm go
 ·rcases hk with hk|hk
  ·exact wpAny_loadName_cell I.ok.kind hk hc hcell go
  ·rcases hx with k|k
   ·have:X.env.scope.names.lookup x=some .free:=hk;rw[k] at this;cases this
   ·have:X.env.scope.names.lookup x=some .free:=hk;rw[k] at this;cases this
def DV (f:Int->Int->Int):CA:=fun x y H Q=>∃i j,x= .int i/\y= .int j/\Q (.int (f i j)) H
theorem yZ:DL X .Add (DV fun i j=>i+j):=by
 intro pins s σ H x y v u Q I r1 r2 h;obtain ⟨i,j,e1,e2,q⟩:=h;subst e1;subst e2;obtain ⟨t,rfl⟩:=r1;obtain ⟨t',rfl⟩:=r2;exact iadd_int ⟨.int _,H,I.tok _,⟨_,rfl⟩,q⟩
end
section
variable {pos:Pos}
def uu (c:TT) (tb:TS):TS:=fun D σ H=>∃W:Nat->St->Hp->Prop,(∃m,W m σ H)/\∀m σ H,W m σ H->
 c σ H fun b H1=>if b=true then ∃N:St->Hp->Prop,(∀σ' H',N σ' H'->∃m',m'<m/\W m' σ' H')/\tb {D with nx:=N,ct:=N,bk:=D.nx} σ H1 else D.nx σ H1
theorem eK {c:Expr} {body:List Stmt} {tc:TT} {tb:TS} (hp:PassesOwn (model X.prog X.w) X.A X.env X.xe) (hc:PT X c tc) (hb:kO X body tb):PS X (.While c body [] pos) (uu tc tb):=by
 intro pins s σ H D I h;obtain ⟨W,⟨m0,w0⟩,turn⟩:=h;refine wpAny_While (codeAny_whileLoop (fun n s'=>∃σ' H',aE X pins σ' H' s'/\W n σ' H') ?_ m0 ⟨σ,H,I,w0⟩)
 rintro n s1 ⟨σ1,H1,I1,w1⟩;refine wpAny_passesOwn hp (bu (hc pins s1 σ1 H1 _ I1 (turn n σ1 H1 w1)) fun b s2 ⟨H2,I2,q2⟩=>?_)
 cases b with
 |true=>
  obtain ⟨N,hN,q2⟩:=q2;rw[if_pos rfl];refine wpAny_passesOwn hp (bu (hb pins s2 σ1 H2 _ I2 q2) fun f s3 q3=>?_)
  cases f with
  |next=>
   obtain ⟨σ3,H3,I3,n3⟩:=q3;obtain ⟨m',hm,w3⟩:=hN σ3 H3 n3;exact ⟨m',hm,σ3,H3,I3,w3⟩
  |cont=>
   obtain ⟨σ3,H3,I3,n3⟩:=q3;obtain ⟨m',hm,w3⟩:=hN σ3 H3 n3;exact ⟨m',hm,σ3,H3,I3,w3⟩
  |brk=>exact q3
  |ret v=>exact q3
 |false=>
  rw[if_neg EL];exact wpAny_execs_nil ⟨σ1,H2,I2,q2⟩
end
structure It where
 go:Nat->Hp->Prop
 yld:Nat->Hp->V->Hp->Prop
 stop:Nat->Hp->Prop
def dR (X:Cx) (pins:HL) (H:Hp) (b:Addr):Prop:=
 H b=none/\b≠X.env.locals/\b∉X.fs/\(b∈X.ex∨X.s₀.heap.objs.size<=b)/\(∀x c,X.env.cells.lookup x=some c->c≠b)/\∀p∈X.pn++pins,p.1≠b
theorem aE.fpOk {X:Cx} {pins:HL} {σ:St} {H H':Hp} {s:Shared} {b:Addr} (I:aE X pins σ H s) (hb:s.heap.objs.size<=b) (hn:H' b=none):dR X pins H' b:=by
 refine ⟨hn,Nat.ne_of_gt (EQ I.lt hb),I.nofs hb,.inr (EX I.sz hb),fun x c e z=>?_,fun p hp z=>?_⟩
 ·obtain ⟨v,q⟩:=I.cell x c e;exact absurd (EQ q.lt (by rw[z];exact hb)) (FS _)
 ·exact absurd (EQ (Heap.lt_size (I.pin p hp).1) (by rw[z];exact hb)) (FS _)
structure Turn (P:Program) (w:World) (K:D9) (tg:Expr) (J:It) (fp:HP) (it:Addr) (tn:Nat->Heap->Prop):Prop where
 mem:it∈fp
 obj:∀i h,tn i h->∀b∈fp,∃o,h.get? b=some o/\∀v,o.data≠ .cell v
 keep:∀i h h',tn i h->(∀b∈fp,∀o,h.get? b=some o->h'.get? b=some o)->tn i h'
 item:∀(X:Cx),X.prog=P->X.w=w->X.K=K->X.calm=true->∀(i:Nat) (pins:HL) (s:Shared) (σ:St) (H:Hp) (E:HF),aE X pins σ H s->(∀b∈fp,dR X pins H b)->tn i s.heap->J.go i H->
  wpAny (model P w) X.A (pyNext (.ref it)) (fun r s1=>∃u,r=some u/\
   wpAny (model P w) X.A (letOwnedTupleGo tg (.ref it) u) (fun _ s2=>∃x H',aE X pins σ H' s2/\RelV x u/\J.yld i H x H'/\tn (i+1) s2.heap/\∀b∈fp,H' b=none) E s1) E s
 done:∀(X:Cx),X.prog=P->X.w=w->X.K=K->X.calm=true->∀(i:Nat) (pins:HL) (s:Shared) (σ:St) (H:Hp) (E:HF),aE X pins σ H s->(∀b∈fp,dR X pins H b)->tn i s.heap->J.stop i H->
  wpAny (model P w) X.A (pyNext (.ref it)) (fun r s1=>r=none/\aE X pins σ H s1) E s
 self:∀(A:Around) (i:Nat) (s:Shared) (Q:HF) (E:HF),tn i s.heap->Q (.ref it) s->wpAny (model P w) A (pyIter (.ref it)) Q E s
abbrev TI:=St->Hp->(It->Hp->Prop)->Prop
def CZ (X:Cx) (pins:HL) (σ:St) (tg:Expr) (R:It->Hp->Prop) (itv:Value) (s2:Shared):Prop:=
 ∃(it:Addr) (fp:HP) (tn:Nat->Heap->Prop) (J:It) (H':Hp),itv= .ref it/\aE X pins σ H' s2/\Turn X.prog X.w X.K tg J fp it tn/\tn 0 s2.heap/\(∀b∈fp,dR X pins H' b)/\R J H'
def PI (X:Cx) (tg iter:Expr) (wi:TI):Prop:=
 ∀(pins:HL) (s:Shared) (σ:St) (H:Hp) (R:It->Hp->Prop),aE X pins σ H s->wi σ H R->
  wpAny (model X.prog X.w) X.A (eval iter X.env) (fun v s1=>wpAny (model X.prog X.w) X.A (pyIter v) (CZ X pins σ tg R) X.xe s1) X.xe s
theorem lq {M:Model} {A:Around} {E:HF} {s:Shared} {tg:Expr} {it:Addr} {u:Value} {o:Obj} {n:String} {vs:Array Value} {Q:Unit->Shared->Prop} (ho:s.heap.get? it=some o) (hc:o.cls= .type n) (hd:o.data= .fields vs)
    (hn: ["enumerate","zip","dict_itemiterator","dict_reverseitemiterator","odict_iterator","itertools.zip_longest","itertools.pairwise"].contains n=false) (hQ:Q () s):wpAny M A (letOwnedTupleGo tg (.ref it) u) Q E s:=by
  unfold letOwnedTupleGo;cases tg<;>first
    |exact wpAny_pure hQ
    | (cases u<;>first
        |exact wpAny_pure hQ
        | (refine wpAny_bind (wpAny_load ho ?_)
           rw[hc,hd];show wpAny M A (if (["enumerate","zip","dict_itemiterator","dict_reverseitemiterator","odict_iterator","itertools.zip_longest","itertools.pairwise"].contains n&&vs[0]?==some (rawInt _))=true then _ else _) Q E s
           rw[if_neg (by intro h;rw[hn,Bool.false_and] at h;cases h)]
           exact wpAny_pure hQ))
def yt (K:D9) (a:Addr):It:=
 ⟨fun i H=>∃xs x,aQ K H a xs/\xs[i]?=some x,fun i H x H'=>H'=H/\∀xs,aQ K H a xs->xs[i]?=some x,fun i H=>∃xs,aQ K H a xs/\xs.length<=i⟩
def AJ (lo:Int) (n:Nat):It:=⟨fun i _=>i<n,fun i H x H'=>H'=H/\x= .int (lo+i),fun i _=>n<=i⟩
theorem sJ {P:Program} {w:World} {K:D9} {tg:Expr} (a it:Addr):Turn P w K tg (yt K a) [it] it (fun i h=>h.IsListIter it a i) where
 mem:=by simp
 obj:=fun i h st b hb=>by
  have e:b=it:=by simpa using hb
  subst e;obtain ⟨o,e,c,d⟩:=st;exact ⟨o,e,fun v z=>by rw[d] at z;cases z⟩
 keep:=fun i h h' st k=>st.at fun o e=>k it (by simp) o e
 item:=by
  intro X hP hw hK hc i pins s σ H E I hf st hg;subst hP hw hK;obtain ⟨xs,x,hq,hx⟩:=hg;obtain ⟨its,rv,p,hz⟩:=I.list hq;obtain ⟨u,hu,ru⟩:=rv.get hx;obtain ⟨f0,f1,f2,f3,f4,f5⟩:=hf it (by simp)
  refine wpAny_pyNext_list_item st p.isList (x:=u) (by simpa using hu) fun h' st' sb=>?_
  have I1:aE X pins σ H {s with heap:=h'}:=I.turned (t':=s.toks) (fun b o hb e=>(sb.2 b hb).trans e) f0 f1 f3 f4 f5
  obtain ⟨o,e,c,d⟩:=id st';exact ⟨u,rfl,lq (s:={s with heap:=h'}) e c d (by decide) ⟨x,H,I1,ru,⟨rfl,fun ys hy=>by rw[I.list_inj hy hq];exact hx⟩,st',fun b hb=>(hf b hb).1⟩⟩
 done:=by
  intro X hP hw hK hc i pins s σ H E I hf st hg;subst hP hw hK;obtain ⟨xs,hq,hx⟩:=hg;obtain ⟨its,rv,p,hz⟩:=I.list hq;obtain ⟨f0,f1,f2,f3,f4,f5⟩:=hf it (by simp)
  have hl:=rv.length;exact wpAny_pyNext_list_end (I.ok.hd hc) st p.isList (by simp;lia) fun h' eb=>⟨rfl,I.turned (t':=s.toks) (fun b o hb e=>eb b o hb e) f0 f1 f3 f4 f5⟩
 self:=fun _ _ _ _ _ st h=>wpAny_pyIter_listiter st h
theorem pV {P:Program} {w:World} {K:D9} {tg:Expr} (it:Addr) (lo:Int) (n:Nat):Turn P w K tg (AJ lo n) [it] it (fun i h=>IsRangeIter h it (lo+(i:Nat)*1) ((n:Int)-(i:Nat)) 1) where
 mem:=by simp
 obj:=fun i h st b hb=>by
  have e:b=it:=by simpa using hb
  subst e;exact ⟨_,st,fun v z=>by
   have z':Data.fields _=Data.cell v:=z;cases z'⟩
 keep:=fun i h h' st k=>k it (by simp) _ st
 item:=by
  intro X hP hw hK hc i pins s σ H E I hf st hg;subst hP hw hK;obtain ⟨f0,f1,f2,f3,f4,f5⟩:=hf it (by simp)
  have W:=Walks.range (prog:=X.prog) (w:=X.w) (I.ok.hd hc) it lo 1 n;refine W.item i s _ _ hg st fun v h' tk hv st' kk=>?_
  obtain ⟨t,rfl⟩:=hv;have I1:aE X pins σ H {s with heap:=h',toks:=tk}:=I.turned (fun b o hb e=>kk b o (by simpa using hb) e) f0 f1 f3 f4 f5
  refine ⟨_,rfl,lq (s:={s with heap:=h',toks:=tk}) (n:= "range_iterator") st' rfl rfl (by decide) ⟨.int (lo+i),H,I1,⟨t,?_⟩,⟨rfl,rfl⟩,st',fun b hb=>(hf b hb).1⟩⟩
  rw[Int.mul_one]
 done:=by
  intro X hP hw hK hc i pins s σ H E I hf st hg;subst hP hw hK;obtain ⟨f0,f1,f2,f3,f4,f5⟩:=hf it (by simp)
  exact wpAny_pyNext_range_end (I.ok.hd hc) st (by have:n<=i:=hg;lia) fun h' eb=>⟨rfl,I.turned (t':=s.toks) (fun b o hb e=>eb b o hb e) f0 f1 f3 f4 f5⟩
 self:=fun _ _ _ _ _ st h=>wpAny_pyIter_rangeiter st h
variable {tg:Expr}
def AU (K:D9) (tl:TE):TI:=fun σ H R=>tl σ H fun x H1=>∃a,x= .ref a/\(∃xs,aQ K H1 a xs)/\R (yt K a) H1
theorem ce {l:Expr} {tl:TE} (hl:PE X l tl):PI X tg l (AU X.K tl):=by
 intro pins s σ H R I h;refine bu (hl pins s σ H _ I h) fun v s1 ⟨x,H1,I1,r1,q1⟩=>?_
 obtain ⟨a,e,⟨xs,hq⟩,q⟩:=q1;subst e;cases r1;obtain ⟨its,rv,p,hz⟩:=I1.list hq;refine wpAny_pyIter_list p.isList ?_;refine ⟨s1.heap.objs.size,[s1.heap.objs.size],_,_,H1,rfl,I1.kept (t':=s1.toks) fun b o e=>Heap.get?_push_of_some _ e,sJ a _,⟨_,Heap.get?_push_size _ rfl,rfl,rfl⟩,fun b hb=>?_,q⟩
 have e:b=s1.heap.objs.size:=by simpa using hb
 subst e;exact I1.fpOk (E4 _) (I1.hok.fresh (E4 _))
theorem uw {pins:HL} {σ:St} {H:Hp} {s:Shared} {R:It->Hp->Prop} {E:HF} {lo hi:Int} {t u v:Tok} {tk:Nat} (I:aE X pins σ H s) (h1: -(2^62)<=lo) (h2:lo<2^62) (h3: -(2^62)<=hi) (h4:hi<2^62)
  (q:R (AJ lo (hi-lo).toNat) H):wpAny (model X.prog X.w) X.A (pyIter (.ref s.heap.objs.size)) (CZ X pins σ tg R) E {s with heap:=s.heap.push {cls:= .type "range",data:= .fields #[.int lo t,.int hi u,.int 1 v]},toks:=tk}:=by
 refine wpAny_pyIter_range (IsRange.new ..) (small_one h1 h2 h3 h4) ?_;have I1:aE X pins σ H {s with heap:=s.heap.push {cls:= .type "range",data:= .fields #[.int lo t,.int hi u,.int 1 v]},toks:=tk}:=I.kept fun b o e=>Heap.get?_push_of_some _ e
 refine ⟨(s.heap.push {cls:= .type "range",data:= .fields #[.int lo t,.int hi u,.int 1 v]}).objs.size,[(s.heap.push {cls:= .type "range",data:= .fields #[.int lo t,.int hi u,.int 1 v]}).objs.size],_,_,H,rfl,
  I1.kept (t':=tk) fun b o e=>Heap.get?_push_of_some _ e,pV _ lo (hi-lo).toNat,?_,fun b hb=>?_,q⟩
 ·have e1:lo+((0:Nat):Int)*1=lo:=by simp
  have e2:(((hi-lo).toNat:Nat):Int)-((0:Nat):Int)=Builtin.Range.rangeSize lo hi 1:=by rw[rangeSize_one];split<;>lia
  show IsRangeIter _ _ (lo+((0:Nat):Int)*1) ((((hi-lo).toNat:Nat):Int)-((0:Nat):Int)) 1;rw[e1,e2];exact Heap.get?_push_size _ rfl
 ·have e:b=(s.heap.push {cls:= .type "range",data:= .fields #[.int lo t,.int hi u,.int 1 v]}).objs.size:=by simpa using hb
  subst e;exact I1.fpOk (E4 _) (I1.hok.fresh (E4 _))
def AV (ta:TA):TI:=fun σ H R=>ta σ H fun vs H1=>∃j:Int,vs= [.int j]/\ -(2^62)<=j/\j<2^62/\R (AJ 0 j.toNat) H1
theorem cQ {a:Expr} {ta:TA} {p pos:Pos} (hg:Gl X "range") (hm:X.mg "range" =none) (ha:PA X [a] ta) (hs:starEach [a] X.env= [(false,eval a X.env)]:=by rfl):PI X tg (.Call (.Name "range" p) [a] [] pos) (AV ta):=by
 intro pins s σ H R I h;refine Call_ (fS I hg hm boot_range (F5 (bu (ha pos pins s σ H _ I h) fun us s1 ⟨vs,H1,I1,r1,q1⟩=>?_) hs rfl))
 obtain ⟨j,e,q1,q2,q⟩:=q1;subst e;cases r1 with
 |cons r rr=>
  cases rr;obtain ⟨t,rfl⟩:=r;exact call_range_1 (uw I1 (by lia) (by lia) q1 q2 (by simpa using q))
def C0 (wi:TI) (g:TG) (tb:TS):TS:=fun D σ H=>wi σ H fun J H1=>∃W:Nat->Nat->St->Hp->Prop,(∃m,W 0 m σ H1)/\∀i m σ H,W i m σ H->
 (J.stop i H/\D.nx σ H)∨(J.go i H/\∃N:St->Hp->Prop,(∀σ' H',N σ' H'->∃m',m'<m/\W (i+1) m' σ' H')/\∀x H',J.yld i H x H'->g x σ H' fun σ2 H2=>tb {D with nx:=N,ct:=N,bk:=D.nx} σ2 H2)
def iX (fp:HP) (h:Heap):HL:=fp.filterMap fun b=>(h.get? b).map fun o=>(b,o)
theorem bU {fp:HP} {h:Heap} {b:Addr} {o:Obj} (hb:b∈fp) (e:h.get? b=some o):(b,o)∈iX fp h:=List.mem_filterMap.mpr ⟨b,hb,by rw[e];rfl⟩
theorem sK {fp:HP} {h:Heap} {p:Addr×Obj} (hp:p∈iX fp h):p.1∈fp/\h.get? p.1=some p.2:=by
 obtain ⟨b,hb,e⟩:=List.mem_filterMap.mp hp;cases q:h.get? b with
 |none=>rw[q] at e;cases e
 |some o=>
  rw[q] at e;have e':(b,o)=p:=ET e;subst e';exact ⟨hb,q⟩
theorem aE.pinned {pins:HL} {σ:St} {H:Hp} {s:Shared} {fp:HP} (I:aE X pins σ H s) (hf:∀b∈fp,dR X pins H b) (ho:∀b∈fp,∃o,s.heap.get? b=some o/\∀v,o.data≠ .cell v):aE X (pins++iX fp s.heap) σ H s:=
 I.pins_of fun p hp=>(EK.mp hp).elim (fun z=>I.pin p (ED _ z)) fun z=>by
  obtain ⟨hb,e⟩:=sK z;obtain ⟨f0,f1,f2,_⟩:=hf p.1 hb;obtain ⟨o,e',d⟩:=ho p.1 hb;rw[e] at e';cases e';exact ⟨e,f0,f1,f2,d⟩
theorem aE.unpinned {pins pl:HL} {σ:St} {H:Hp} {s:Shared} (I:aE X (pins++pl) σ H s):aE X pins σ H s:=I.pins_of fun p hp=>I.pin p (ED _ (Ex _ hp))
theorem bR {iter:Expr} {body:List Stmt} {wi:TI} {g:TG} {tb:TS} {pos:Pos} (hp:PassesOwn (model X.prog X.w) X.A X.env X.xe) (hc:X.calm=true) (hi:PI X tg iter wi) (hg:PG X tg g) (hb:kO X body tb)
  (hs:∀x,foldedSetIterable iter X.env x=pure x:=by intro _;rfl):PS X (.For tg iter body [] pos) (C0 wi g tb):=by
 intro pins s σ H D I h;refine wpAny_For (bu (hi pins s σ H _ I h) fun v s1 h1=>bu h1 fun itv s2 h2=>?_) hs
 obtain ⟨it,fp,tn,J,H2,e,I2,T,st2,f2,W,⟨m0,w0⟩,turn⟩:=h2;subst e;have stat:∀{H':Hp},(∀b∈fp,H' b=none)->∀b∈fp,dR X pins H' b:=fun hn b hb=>⟨hn b hb,(f2 b hb).2⟩
 refine codeAny_forLoop_any (fun n s'=>∃i σ' H',aE X pins σ' H' s'/\tn i s'.heap/\(∀b∈fp,H' b=none)/\W i n σ' H') ?_ m0 ⟨0,σ,H2,I2,st2,fun b hb=>(f2 b hb).1,w0⟩
 rintro n s3 ⟨i,σ3,H3,I3,st3,fr3,w3⟩;rcases turn i n σ3 H3 w3 with ⟨stop,qn⟩|⟨go,N,hN,step⟩
 ·refine wpAny_passesOwn hp (bu (T.done X rfl rfl rfl hc i pins s3 σ3 H3 X.xe I3 (stat fr3) st3 stop) fun r s4 ⟨hr,I4⟩=>?_)
  subst hr;exact wpAny_execs_nil ⟨σ3,H3,I4,qn⟩
 ·refine wpAny_passesOwn hp (bu (T.item X rfl rfl rfl hc i pins s3 σ3 H3 X.xe I3 (stat fr3) st3 go) fun r s4 ⟨u,hr,h4⟩=>?_)
  subst hr;refine wpAny_passesOwn hp (bu h4 fun _ s5 ⟨x,H5,I5,r5,y5,st5,fr5⟩=>?_)
  have I5':=I5.pinned (stat fr5) (T.obj _ _ st5);refine wpAny_passesOwn hp (bu (hg _ s5 σ3 H5 x u _ I5' r5 (step x H5 y5)) fun _ s6 ⟨σ6,H6,I6,q6⟩=>?_)
  refine wpAny_passesOwn hp (bu (hb _ s6 σ6 H6 _ I6 q6) fun f s7 q7=>?_)
  have again:∀{σ7:St} {H7:Hp},aE X (pins++iX fp s5.heap) σ7 H7 s7->N σ7 H7->∃m,m<n/\∃i σ' H',aE X pins σ' H' s7/\tn i s7.heap/\(∀b∈fp,H' b=none)/\W i m σ' H':=fun {σ7 H7} I7 n7=>by
   obtain ⟨m',hm,w7⟩:=hN σ7 H7 n7;refine ⟨m',hm,i+1,σ7,H7,I7.unpinned,T.keep _ _ _ st5 fun b hb o e=>(I7.pin (b,o) (ED _ (ED _ (bU hb e)))).1,fun b hb=>?_,w7⟩
   obtain ⟨o,e,d⟩:=T.obj _ _ st5 b hb;exact (I7.pin (b,o) (ED _ (ED _ (bU hb e)))).2.1
  cases f with
  |next=>obtain ⟨σ7,H7,I7,n7⟩:=q7;exact again I7 n7
  |cont=>obtain ⟨σ7,H7,I7,n7⟩:=q7;exact again I7 n7
  |brk=>obtain ⟨σ7,H7,I7,q7⟩:=q7;exact ⟨σ7,H7,I7.unpinned,q7⟩
  |ret v=>obtain ⟨x7,σ7,H7,I7,r7,q7⟩:=q7;exact ⟨x7,σ7,H7,I7.unpinned,r7,q7⟩
theorem cv {K:D9} {a:Addr} {xs:List V} {g:TG} {tb:TS} {D:Ends} {σ:St} {H:Hp} (Pv:Nat->St->Hp->Prop) (h0:Pv 0 σ H) (hl:∀i σ H,i<=xs.length->Pv i σ H->aQ K H a xs)
  (hs:∀i x σ H,xs[i]?=some x->Pv i σ H->g x σ H fun σ2 H2=>tb {D with nx:=Pv (i+1),ct:=Pv (i+1),bk:=D.nx} σ2 H2) (hd:∀σ H,Pv xs.length σ H->D.nx σ H):
  ∃W:Nat->Nat->St->Hp->Prop,(∃m,W 0 m σ H)/\∀i m σ H,W i m σ H->
   ((yt K a).stop i H/\D.nx σ H)∨((yt K a).go i H/\∃N:St->Hp->Prop,(∀σ' H',N σ' H'->∃m',m'<m/\W (i+1) m' σ' H')/\∀x H',(yt K a).yld i H x H'->g x σ H' fun σ2 H2=>tb {D with nx:=N,ct:=N,bk:=D.nx} σ2 H2):=by
 refine ⟨fun i m σ H=>m=xs.length-i/\i<=xs.length/\Pv i σ H,⟨xs.length,by simp,EO _,h0⟩,?_⟩
 rintro i m σ H ⟨rfl,hi,p⟩;have q:=hl i σ H hi p
 by_cases hlt:i<xs.length
 ·refine .inr ⟨⟨xs,xs[i],q,by simp[hlt]⟩,Pv (i+1),fun σ' H' p'=>⟨xs.length-(i+1),by lia,rfl,hlt,p'⟩,fun x H' y=>?_⟩
  obtain ⟨e,y⟩:=y;subst e;exact hs i x σ _ (y xs q) p
 ·have e:i=xs.length:=by lia
  subst e;exact .inl ⟨⟨xs,q,E4 _⟩,hd σ H p⟩
theorem cR {lo:Int} {n:Nat} {g:TG} {tb:TS} {D:Ends} {σ:St} {H:Hp} (Pv:Nat->St->Hp->Prop) (h0:Pv 0 σ H)
  (hs:∀i σ H,i<n->Pv i σ H->g (.int (lo+i)) σ H fun σ2 H2=>tb {D with nx:=Pv (i+1),ct:=Pv (i+1),bk:=D.nx} σ2 H2) (hd:∀σ H,Pv n σ H->D.nx σ H):
  ∃W:Nat->Nat->St->Hp->Prop,(∃m,W 0 m σ H)/\∀i m σ H,W i m σ H->
   ((AJ lo n).stop i H/\D.nx σ H)∨((AJ lo n).go i H/\∃N:St->Hp->Prop,(∀σ' H',N σ' H'->∃m',m'<m/\W (i+1) m' σ' H')/\∀x H',(AJ lo n).yld i H x H'->g x σ H' fun σ2 H2=>tb {D with nx:=N,ct:=N,bk:=D.nx} σ2 H2):=by
 refine ⟨fun i m σ H=>m=n-i/\i<=n/\Pv i σ H,⟨n,by simp,EO _,h0⟩,?_⟩
 rintro i m σ H ⟨rfl,hi,p⟩
 by_cases hlt:i<n
 ·refine .inr ⟨hlt,Pv (i+1),fun σ' H' p'=>⟨n-(i+1),by lia,rfl,hlt,p'⟩,fun x H' y=>?_⟩
  obtain ⟨e,y⟩:=y;subst e y;exact hs i σ _ hlt p
 ·have e:i=n:=by lia
  subst e;exact .inl ⟨E4 _,hd σ H p⟩
theorem eM {c:TT} {tb:TS} {D:Ends} {σ:St} {H:Hp} (Pv:St->Hp->Prop) (μ:St->Hp->Nat) (h0:Pv σ H)
  (hs:∀σ H,Pv σ H->c σ H fun b H1=>if b=true then tb {D with nx:=fun σ' H'=>Pv σ' H'/\μ σ' H'<μ σ H,ct:=fun σ' H'=>Pv σ' H'/\μ σ' H'<μ σ H,bk:=D.nx} σ H1 else D.nx σ H1)
  (mono:∀σ H Q Q',(∀b H1,Q b H1->Q' b H1)->c σ H Q->c σ H Q'):uu c tb D σ H:=by
 refine ⟨fun m σ H=>m=μ σ H/\Pv σ H,⟨_,rfl,h0⟩,?_⟩
 rintro m σ H ⟨rfl,p⟩;refine mono σ H _ _ (fun b H1 q=>?_) (hs σ H p)
 cases b with
 |true=>exact ⟨_,fun σ' H' ⟨p',l⟩=>⟨_,l,rfl,p'⟩,q⟩
 |false=>exact q
abbrev R2:=V->V->Hp->VK->Prop
def fU (X:Cx) (f:Value->Value->Sem Value) (r:R2):Prop:=
 ∀(pins:HL) (s:Shared) (σ:St) (H:Hp) (x y:V) (v u:Value) (Q:VK),aE X pins σ H s->RelV x v->RelV y u->r x y H Q->
  wpAny (model X.prog X.w) X.A (f v u) (EP X pins σ Q) X.xe s
def C1 (X:Cx) (f:Value->Sem Value) (r:V->Hp->VK->Prop):Prop:=
 ∀(pins:HL) (s:Shared) (σ:St) (H:Hp) (x:V) (v:Value) (Q:VK),aE X pins σ H s->RelV x v->r x H Q->
  wpAny (model X.prog X.w) X.A (f v) (EP X pins σ Q) X.xe s
def cE (X:Cx) (f:Value) (r:List V->Hp->VK->Prop):Prop:=
 ∀(pins:HL) (s:Shared) (σ:St) (H:Hp) (xs:List V) (us:HQ) (Q:VK),aE X pins σ H s->aT xs us->r xs H Q->
  wpAny (model X.prog X.w) X.A (call f us) (EP X pins σ Q) X.xe s
def CB (r:R2) (ta tb:TE):TE:=fun σ H Q=>ta σ H fun x H1=>tb σ H1 fun y H2=>r x y H2 Q
def DW (r:V->Hp->VK->Prop) (ta:TE):TE:=fun σ H Q=>ta σ H fun x H1=>r x H1 Q
def rI (C:Int->Int->Prop) (g:Int->Int->V):R2:=fun x y H Q=>∃i j,x= .int i/\y= .int j/\C i j/\Q (g i j) H
def yu (g:Int->Int->V):R2:=fun x y H Q=>∃i j,x= .int i/\y= .int j/\Q (g i j) H
def rU (g:Int->V):V->Hp->VK->Prop:=fun x H Q=>∃i,x= .int i/\Q (g i) H
section
variable {a b c:Expr} {ta tb tc:TE} {pos:Pos}
theorem y3 (ha:PE X a ta) (hb:PE X b tb) {pins:HL} {s:Shared} {σ:St} {H:Hp} {R:V->V->Hp->Prop} (I:aE X pins σ H s)
  (h:ta σ H fun x H1=>tb σ H1 fun y H2=>R x y H2) {Q:HF} {f:Value->Value->Sem Value}
  (hf:∀v u s2 x y H2,aE X pins σ H2 s2->RelV x v->RelV y u->R x y H2->wpAny (model X.prog X.w) X.A (f v u) Q X.xe s2):
  wpAny (model X.prog X.w) X.A (eval a X.env) (fun v s₁=>wpAny (model X.prog X.w) X.A (eval b X.env) (fun u s₂=>wpAny (model X.prog X.w) X.A (f v u) Q X.xe s₂) X.xe s₁) X.xe s:=by
 refine bu (ha pins s σ H _ I h) fun v s1 ⟨x,H1,I1,r1,q1⟩=>?_
 refine bu (hb pins s1 σ H1 _ I1 q1) fun u s2 ⟨y,H2,I2,r2,q2⟩=>?_
 exact hf v u s2 x y H2 I2 r1 r2 q2
theorem aA {op:Operator} {r:R2} (ho:fU X (binaryOp op) r) (ha:PE X a ta) (hb:PE X b tb):PE X (.BinOp a op b pos) (CB r ta tb):=by
 intro pins s σ H Q I h;exact wpAny_BinOp (y3 ha hb I h fun v u s2 x y H2 I2 rx ry q=>ho pins s2 σ H2 x y v u Q I2 rx ry q)
theorem jM {op:UnaryOp} {r:V->Hp->VK->Prop} (ho:C1 X (unaryOp op) r) (ha:PE X a ta):PE X (.UnaryOp op a pos) (DW r ta):=by
 intro pins s σ H Q I h;exact UnaryOp_ (bu (ha pins s σ H _ I h) fun v s1 ⟨x,H1,I1,r1,q1⟩=>ho pins s1 σ H1 x v Q I1 r1 q1)
theorem CC {f:Value->Value->Sem Value} {C:Int->Int->Prop} {g:Int->Int->Int}
  (rule:∀(i j:Int) (t u:Tok) (s:Shared) (Q:HF) (E:HF),C i j->Q (.int (g i j) s.toks) {s with toks:=s.toks+1}->wpAny (model X.prog X.w) X.A (f (.int i t) (.int j u)) Q E s):
  fU X f (rI C fun i j=> .int (g i j)):=by
 intro pins s σ H x y v u Q I rx ry h;obtain ⟨i,j,rfl,rfl,hc,q⟩:=h;obtain ⟨t,rfl⟩:=rx;obtain ⟨t',rfl⟩:=ry;exact rule i j t t' s _ _ hc ⟨.int (g i j),H,I.tok _,⟨_,rfl⟩,q⟩
theorem AW {f:Value->Value->Sem Value} {g:Int->Int->Int}
  (rule:∀(i j:Int) (t u:Tok) (s:Shared) (Q:HF) (E:HF),Q (.int (g i j) s.toks) {s with toks:=s.toks+1}->wpAny (model X.prog X.w) X.A (f (.int i t) (.int j u)) Q E s):
  fU X f (yu fun i j=> .int (g i j)):=by
 intro pins s σ H x y v u Q I rx ry h;obtain ⟨i,j,rfl,rfl,q⟩:=h;obtain ⟨t,rfl⟩:=rx;obtain ⟨t',rfl⟩:=ry;exact rule i j t t' s _ _ ⟨.int (g i j),H,I.tok _,⟨_,rfl⟩,q⟩
theorem wA {f:Value->Value->Sem Value} {g:Int->Int->Bool}
  (rule:∀(i j:Int) (t u:Tok) (s:Shared) (Q:HF) (E:HF),Q (.bool (g i j)) s->wpAny (model X.prog X.w) X.A (f (.int i t) (.int j u)) Q E s):
  fU X f (yu fun i j=> .bl (g i j)):=by
 intro pins s σ H x y v u Q I rx ry h;obtain ⟨i,j,rfl,rfl,q⟩:=h;obtain ⟨t,rfl⟩:=rx;obtain ⟨t',rfl⟩:=ry;exact rule i j t t' s _ _ ⟨.bl (g i j),H,I,rfl,q⟩
theorem bV:fU X (binaryOp .Add) (yu fun i j=> .int (i+j)):=AW fun _ _ _ _ _ _ _ q=>add_int q
theorem y4:fU X (binaryOp .Sub) (yu fun i j=> .int (i-j)):=AW fun _ _ _ _ _ _ _ q=>sub_int q
theorem aV:fU X (binaryOp .Mod) (rI (fun _ j=>j≠0) fun i j=> .int (i.fmod j)):=CC fun _ _ _ _ _ _ _ hc q=>mod_int' hc q
theorem DX {f:Value->Sem Value} {g:Int->Int}
  (rule:∀(i:Int) (t:Tok) (s:Shared) (Q:HF) (E:HF),Q (.int (g i) s.toks) {s with toks:=s.toks+1}->wpAny (model X.prog X.w) X.A (f (.int i t)) Q E s):
  C1 X f (rU fun i=> .int (g i)):=by
 intro pins s σ H x v Q I rx h;obtain ⟨i,rfl,q⟩:=h;obtain ⟨t,rfl⟩:=rx;exact rule i t s _ _ ⟨.int (g i),H,I.tok _,⟨_,rfl⟩,q⟩
theorem gM:C1 X (unaryOp .USub) (rU fun i=> .int (-i)):=DX fun _ _ _ _ _ q=>neg_int q
end
def AX:V->V->Bool
 | .non,.non=>true| .non,.int _=>true| .int _,.non=>true| .non,.bl _=>true| .bl _,.non=>true| .non,.str _=>true| .str _,.non=>true
 | .int _,.int _=>true| .bl _,.bl _=>true| .str _,.str _=>true| .byt _,.byt _=>true
 | .int _,.str _=>true| .str _,.int _=>true| .bl _,.str _=>true| .str _,.bl _=>true
 |_,_=>false
def DY:R2:=fun x y H Q=>AX x y=true/\Q (.bl (decide (x=y))) H
def DZ:R2:=fun x y H Q=>AX x y=true/\Q (.bl (!decide (x=y))) H
theorem qZ {i j:Int}:decide (V.int i=V.int j)=(i==j):=by
 rw[FR];simp
theorem ux {i j:Bool}:decide (V.bl i=V.bl j)=(i==j):=by
 rw[FR];simp
theorem rb {i j:Str}:decide (V.str i=V.str j)=(i==j):=by
 rw[FR];simp
theorem re {i j:Array UInt8}:decide (V.byt i=V.byt j)=(i.toList==j.toList):=by
 rw[FR];cases i;cases j;simp
section
variable {a b c:Expr} {ta tb tc:TE} {pos:Pos}
theorem bz {pins:HL} {σ:St} {H:Hp} {s:Shared} {Q:VK} {k k':Bool} (I:aE X pins σ H s) (q:Q (.bl k) H) (e:k=k'):EP X pins σ Q (.bool k') s:=by
 subst e;exact ⟨.bl k,H,I,rfl,q⟩
theorem eO:fU X (compareOp .Eq) DY:=by
 intro pins s σ H x y v u Q I rx ry h;obtain ⟨hs,q⟩:=h;cases x with
 |non=>
  cases rx;cases y with
  |non=>cases ry;exact PySem.EqNone.eq_none_none (bz I q (by simp))
  |bl j=>cases ry;exact PySem.EqNone.eq_none_bool (bz I q (by simp))
  |int j=>obtain ⟨t',rfl⟩:=ry;exact PySem.EqNone.eq_none_int (bz I q (by simp))
  |str j=>obtain ⟨t',rfl⟩:=ry;exact PySem.EqNone.eq_none_str (bz I q (by simp))
  |_=>exact absurd (show false=true from hs) EL
 |bl i=>
  cases rx;cases y with
  |non=>cases ry;exact PySem.EqNone.eq_bool_none (bz I q (by simp))
  |bl j=>cases ry;exact eq_bool (bz I q ux)
  |str j=>obtain ⟨t',rfl⟩:=ry;exact PySem.EqMixed.eq_bool_str (bz I q (by simp))
  |_=>exact absurd (show false=true from hs) EL
 |int i=>
  obtain ⟨t,rfl⟩:=rx;cases y with
  |non=>cases ry;exact PySem.EqNone.eq_int_none (bz I q (by simp))
  |int j=>obtain ⟨t',rfl⟩:=ry;exact eq_int (bz I q qZ)
  |str j=>obtain ⟨t',rfl⟩:=ry;exact PySem.EqMixed.eq_int_str (bz I q (by simp))
  |_=>exact absurd (show false=true from hs) EL
 |str i=>
  obtain ⟨t,rfl⟩:=rx;cases y with
  |non=>cases ry;exact PySem.EqNone.eq_str_none (bz I q (by simp))
  |bl j=>cases ry;exact PySem.EqMixed.eq_str_bool (bz I q (by simp))
  |int j=>obtain ⟨t',rfl⟩:=ry;exact PySem.EqMixed.eq_str_int (bz I q (by simp))
  |str j=>obtain ⟨t',rfl⟩:=ry;exact eq_str (bz I q rb)
  |_=>exact absurd (show false=true from hs) EL
 |byt i=>
  obtain ⟨t,rfl⟩:=rx;cases y with
  |byt j=>obtain ⟨t',rfl⟩:=ry;exact PySem.W.eq_bytes (bz I q re)
  |_=>exact absurd (show false=true from hs) EL
 |_=>cases y<;>exact absurd (show false=true from hs) EL
theorem iw:fU X (compareOp .NotEq) DZ:=by
 intro pins s σ H x y v u Q I rx ry h;obtain ⟨hs,q⟩:=h;cases x with
 |non=>
  cases rx;cases y with
  |non=>cases ry;exact PySem.EqNone.ne_none_none (bz I q (by simp))
  |bl j=>cases ry;exact PySem.EqNone.ne_none_bool (bz I q (by simp))
  |int j=>obtain ⟨t',rfl⟩:=ry;exact PySem.EqNone.ne_none_int (bz I q (by simp))
  |str j=>obtain ⟨t',rfl⟩:=ry;exact PySem.EqNone.ne_none_str (bz I q (by simp))
  |_=>exact absurd (show false=true from hs) EL
 |bl i=>
  cases rx;cases y with
  |non=>cases ry;exact PySem.EqNone.ne_bool_none (bz I q (by simp))
  |bl j=>cases ry;exact ne_bool (bz I q (congrArg not ux))
  |str j=>obtain ⟨t',rfl⟩:=ry;exact PySem.EqMixed.ne_bool_str (bz I q (by simp))
  |_=>exact absurd (show false=true from hs) EL
 |int i=>
  obtain ⟨t,rfl⟩:=rx;cases y with
  |non=>cases ry;exact PySem.EqNone.ne_int_none (bz I q (by simp))
  |int j=>obtain ⟨t',rfl⟩:=ry;exact ne_int (bz I q (congrArg not qZ))
  |str j=>obtain ⟨t',rfl⟩:=ry;exact PySem.EqMixed.ne_int_str (bz I q (by simp))
  |_=>exact absurd (show false=true from hs) EL
 |str i=>
  obtain ⟨t,rfl⟩:=rx;cases y with
  |non=>cases ry;exact PySem.EqNone.ne_str_none (bz I q (by simp))
  |bl j=>cases ry;exact PySem.EqMixed.ne_str_bool (bz I q (by simp))
  |int j=>obtain ⟨t',rfl⟩:=ry;exact PySem.EqMixed.ne_str_int (bz I q (by simp))
  |str j=>obtain ⟨t',rfl⟩:=ry;exact ne_str (bz I q (congrArg not rb))
  |_=>exact absurd (show false=true from hs) EL
 |byt i=>
  obtain ⟨t,rfl⟩:=rx;cases y with
  |byt j=>obtain ⟨t',rfl⟩:=ry;exact PySem.W.ne_bytes (bz I q (congrArg not re))
  |_=>exact absurd (show false=true from hs) EL
 |_=>cases y<;>exact absurd (show false=true from hs) EL
theorem lA:fU X (compareOp .Lt) (yu fun i j=> .bl (decide (i<j))):=wA fun _ _ _ _ _ _ _ q=>lt_int q
theorem yw:fU X (compareOp .LtE) (yu fun i j=> .bl (decide (i<=j))):=wA fun _ _ _ _ _ _ _ q=>le_int q
theorem nX:fU X (compareOp .Gt) (yu fun i j=> .bl (decide (j<i))):=wA fun _ _ _ _ _ _ _ q=>gt_int q
theorem AY:fU X (compareOp .GtE) (yu fun i j=> .bl (decide (j<=i))):=wA fun _ _ _ _ _ _ _ q=>ge_int q
theorem pW:fU X (compareOp .Is) (fun x y H Q=>y= .non/\Q (.bl (decide (x= .non))) H):=by
 intro pins s σ H x y v u Q I rx ry h;obtain ⟨rfl,q⟩:=h;cases ry;refine is_none_gen (bz I q ?_);cases x<;>first
  |(cases rx;rfl)
  |(obtain ⟨t,rfl⟩:=rx;rfl)
theorem jC:fU X (compareOp .IsNot) (fun x y H Q=>y= .non/\Q (.bl (!decide (x= .non))) H):=by
 intro pins s σ H x y v u Q I rx ry h;obtain ⟨rfl,q⟩:=h;cases ry;refine isnot_none_gen (bz I q ?_);cases x<;>first
  |(cases rx;rfl)
  |(obtain ⟨t,rfl⟩:=rx;rfl)
theorem aK (b:Expr) {op:CmpOp} (h:op≠ .In:=by decide) (h2:op≠ .NotIn:=by decide):behindInMarks op b=false:=by
 have e1:(op==CmpOp.In)=false:=by cases op<;>first|rfl|exact absurd rfl h
 have e2:(op==CmpOp.NotIn)=false:=by cases op<;>first|rfl|exact absurd rfl h2
 cases b<;>simp[behindInMarks,e1,e2]
theorem cF {op:CmpOp} {r:R2} (ho:fU X (compareOp op) r) (ha:PE X a ta) (hb:PE X b tb) (hm:behindInMarks op b=false):PE X (.Compare a [op] [b] pos) (CB r ta tb):=by
 intro pins s σ H Q I h;exact wpAny_Compare1 (y3 ha hb I h fun v u s2 x y H2 I2 rx ry q=>ho pins s2 σ H2 x y v u Q I2 rx ry q) hm
def AZ (t:TE):TT:=fun σ H Q=>t σ H fun x H'=>∃k,x= .bl k/\Q k H'
theorem aN {op:CmpOp} {r:R2} (ho:fU X (compareOp op) r) (ha:PE X a ta) (hb:PE X b tb) (hm:behindInMarks op b=false):PT X (.Compare a [op] [b] pos) (AZ (CB r ta tb)):=by
 intro pins s σ H Q I h;refine wpAny_isTrue_Compare1 (bu (ha pins s σ H _ I h) fun v s1 ⟨x,H1,I1,r1,q1⟩=>bu (hb pins s1 σ H1 _ I1 q1) fun u s2 ⟨y,H2,I2,r2,q2⟩=>
  bu (ho pins s2 σ H2 x y v u _ I2 r1 r2 q2) fun c s3 ⟨z,H3,I3,r3,k,e,q3⟩=>?_) hm
 subst e;cases r3;exact wpAny_truthy_bool ⟨H3,I3,q3⟩
theorem jN:(sizeLine:Nat)<2^63:=by rw[sizeLine_eq];decide
theorem c7:fU X (binaryOp .Add) (fun x y H Q=>∃i j,x= .str i/\y= .str j/\i.length+j.length<=sizeLine/\Q (.str (i++j)) H):=by
 intro pins s σ H x y v u Q I rx ry h;obtain ⟨i,j,rfl,rfl,hz,q⟩:=h;obtain ⟨t,rfl⟩:=rx;obtain ⟨t',rfl⟩:=ry;exact add_str (fun t' tk=>⟨.str (i++j),H,I.tok _,⟨_,rfl⟩,q⟩) hz
theorem vals1 {x:V} {us:HQ} (r:aT [x] us):∃u,us= [u]/\RelV x u:=by
 cases r with
 |cons r1 r2=>cases r2;exact ⟨_,rfl,r1⟩
theorem vals2 {x y:V} {us:HQ} (r:aT [x,y] us):∃u w',us= [u,w']/\RelV x u/\RelV y w':=by
 cases r with
 |cons r1 r2=>
  cases r2 with
  |cons r3 r4=>cases r4;exact ⟨_,_,rfl,r1,r3⟩
theorem jO:cE X (.builtin "abs") (fun xs H Q=>∃i,xs= [.int i]/\Q (.int (if i<0 then-i else i)) H):=by
 intro pins s σ H xs us Q I r h;obtain ⟨i,rfl,q⟩:=h;obtain ⟨u,rfl,t,rfl⟩:=vals1 r;exact call_abs_int fun u tk=>⟨.int (if i<0 then-i else i),H,I.tok _,⟨_,rfl⟩,q⟩
theorem lB (hc:X.calm=true):cE X (.builtin "max") (fun xs H Q=>∃i j,xs= [.int i,.int j]/\Q (.int (if j>i then j else i)) H):=by
 intro pins s σ H xs us Q I r h;obtain ⟨i,j,rfl,q⟩:=h;obtain ⟨u,w',rfl,⟨t,rfl⟩,⟨t',rfl⟩⟩:=vals2 r;refine max_two_ints (I.ok.hd hc) fun h' tk k=>⟨_,H,I.kept k,?_,q⟩
 by_cases hj:j>i
 ·rw[if_pos hj,if_pos hj];exact ⟨_,rfl⟩
 ·rw[if_neg hj,if_neg hj];exact ⟨_,rfl⟩
theorem lC (hc:X.calm=true):cE X (.builtin "min") (fun xs H Q=>∃i j,xs= [.int i,.int j]/\Q (.int (if j<i then j else i)) H):=by
 intro pins s σ H xs us Q I r h;obtain ⟨i,j,rfl,q⟩:=h;obtain ⟨u,w',rfl,⟨t,rfl⟩,⟨t',rfl⟩⟩:=vals2 r;refine min_two_ints (I.ok.hd hc) fun h' tk k=>⟨_,H,I.kept k,?_,q⟩
 by_cases hj:j<i
 ·rw[if_pos hj,if_pos hj];exact ⟨_,rfl⟩
 ·rw[if_neg hj,if_neg hj];exact ⟨_,rfl⟩
end
structure pY (h:Heap) (x dx C:Addr) (mA:HG):Prop where
 obj:h.get? x=some (FJ C dx)
 ns:h.Ns1 dx mA
 ne:dx≠x
theorem lD {h:Heap} {dx:Addr} {mA:HG} (n:h.Ns1 dx mA):∃od,h.get? dx=some od/\∀name,PySem.W.lookIn name od=some (mA name):=by
 obtain ⟨o,es,ep,ho,hd,hk,_,hm⟩:=n;refine ⟨o,ho,fun name=>?_⟩
 have e:=hm name;unfold nsFind findBy at e;rw[<-Array.find?_toList] at e;unfold PySem.W.lookIn;rw[hd];dsimp only
 split
 ·rename_i y q;rw[q] at e;exact congrArg some e
 ·rename_i q;rw[q] at e;have a:es.toList.any (·.refKey)=false:=by
   rw[List.any_eq_false];intro y hy;obtain ⟨z,t,hkey⟩:=hk y (Array.mem_toList_iff.mp hy);simp[DictEntry.refKey,hkey]
  have a':¬es.toList.any (·.refKey)=true:=by rw[a];exact EL
  rw[if_neg a'];exact congrArg some e
theorem pY.look {h:Heap} {x dx C:Addr} {mA:HG} (I:pY h x dx C mA):∃od,PySem.W.InstAt h x (FJ C dx) C (some od)/\∀name,PySem.W.lookIn name od=some (mA name):=
 let ⟨od,ho,hl⟩:=lD I.ns
 ⟨od,⟨I.obj,rfl,rfl,ho⟩,hl⟩
section
variable {prog:Program} {w:World} {A:Around} {K:D9} {x dx C f:Addr} {mA:HG} {name:Str} {v:Value}
theorem wB {expr:Bool} {Q:HF} (X:K.In s.heap) (I:pY s.heap x dx C mA) (hg:PySem.W.plainGet K C name=true) (hh:PySem.W.hasDictIn K C=true)
  (ha:EV K (.ref C) name=some none) (hv:mA name=some v) (hv':PySem.W.handedIn v=true) (h:Q v {s with toks:=s.toks+1}):
  wpAny (model prog w) A (getAttr (.ref x) name expr) Q E s:=by
 obtain ⟨od,J,hl⟩:=I.look;exact PySem.W.get_value X J (PySem.W.plainGet_of hg).1 (PySem.W.findObj_own hh ha rfl (by rw[hl,hv])) hv' h
theorem uy {pl:Sem Bool} {Q:Value×HQ->Shared->Prop} (X:K.In s.heap) (I:pY s.heap x dx C mA) (hg:PySem.W.plainGet K C name=true)
  (hf:EV K (.ref C) name=some (some (.ref f))) (ht:PySem.W.isFn K (.ref f)=true) (hv:mA name=none) (h:Q (.ref f,[.ref x]) s):
  wpAny (model prog w) A (getMethod (.ref x) name pl) Q E s:=by
 obtain ⟨od,J,hl⟩:=I.look;exact PySem.W.method_fn X J (PySem.W.plainGet_of hg).1 (PySem.W.plainGet_of hg).2 hf (beq_iff_eq.mp ht) (by show (PySem.W.lookIn name od).map (·.isSome)=some false;rw[hl,hv];rfl) h
theorem wC {ns:HN} {Q:Unit->Shared->Prop} (X:K.In s.heap) (I:pY s.heap x dx C mA)
  (hs:EV K (.ref C) "__setattr__" =some (some (.builtin "object.__setattr__"))) (hp:PySem.W.plainOver K C=true) (ht:PySem.W.takerIn K C name=some none) (hh:PySem.W.hasDictIn K C=true)
  (hw:PySem.Within mA ns) (hsz:ns.length<=sizeLine)
  (h:∀h',pY h' x dx C (fun y=>if y=name then some v else mA y)->Heap.SameBut dx s.heap h'->Q () {s with heap:=h',toks:=s.toks+2}):
  wpAny (model prog w) A (setAttr (.ref x) name v) Q E s:=by
 obtain ⟨od,J,hl⟩:=I.look;refine PySem.W.set_plain X J hs (PySem.W.osa_open (s:={s with toks:=s.toks+1}) (r:=none) X J hp ht fun b=>?_)
 obtain ⟨cd,hc,hd'⟩:=PySem.W.any_some hh;have hx:s.heap.get? x=some ⟨.ref C,some dx,.plain,#[]⟩:=I.obj;refine wpAny_bind (wpAny_pure (wpAny_bind (wpAny_bind (wpAny_loadPart hx (wpAny_bind (PySem.W.Looks.here (s:={s with toks:=s.toks+1}) (PySem.W.looks_clsIn X hc) ?_))))))
 rw[hd'];refine wpAny_pure (a:=some dx) (wpAny_bind (wpAny_pure (wpAny_bind ?_)));refine wpAny_nsSet1 (s:={s with toks:=s.toks+1}) I.ns fun h' hn2 hs2=>?_
 obtain ⟨oD,esD,epD,hoD,hdD,hcD⟩:=hn2.count (PySem.Within.cons name v hw);refine wpAny_bind (wpAny_lookBehind hoD (by rw[hdD];exact pastItsLine_dict (EX hcD (by rw[Ep];lia))) ?_)
 exact wpAny_pure (h _ ⟨(hs2.2 _ (Ne.symm I.ne)).trans I.obj,hn2,I.ne⟩ hs2)
theorem uz {R:Result->Shared->Prop} {vs:HQ} {kw:List (Str×Value)} (X:K.In s.heap) (hm:PySem.W.makesIn K C=true)
  (hi:EV K (.ref C) "__init__" =some (some (.ref f))) (hf:PySem.W.typeIn K (.ref f)=some (.type "function"))
  (h:codeAny (model prog w) (A.under (.builtin "type.__call__" ⟨.ref C::vs,kw⟩)) (.call (.ref f) ⟨.ref (s.heap.objs.size+1)::vs,kw⟩) (PySem.W.InitBack (s.heap.objs.size+1) R)
   {s with heap:=(s.heap.push EY).push (FJ C s.heap.objs.size)}):
  codeAny (model prog w) A (.call (.ref C) ⟨vs,kw⟩) R s:=by
 obtain ⟨hh,g,d,t,os⟩:=s;exact PySem.W.make_core (PySem.W.makes_of X hm) (PySem.W.looks_findIn X hi) (fun self=>PySem.W.bind_fn X self hf) (.inl rfl) h
end
def aJ (f:Str) (v:V):List (Str×V)->List (Str×V)
 | []=> [(f,v)]
 |(g,x)::r=>if g=f then (g,v)::r else (g,x)::aJ f v r
theorem aH (f g:Str) (v:V):∀fs:List (Str×V),(aJ f v fs).lookup g=if g=f then some v else fs.lookup g
 | []=>by
  show FP g [(f,v)]=_
  by_cases h:g=f
  ·have hb:(g==f)=true:=beq_iff_eq.mpr h;simp only[FP,hb,if_pos h]
  ·have hb:(g==f)=false:=beq_eq_false_iff_ne.mpr h;simp only[FP,hb,if_neg h]
 |(k,x)::r=>by
  have ih:=aH f g v r;rw[show aJ f v ((k,x)::r)=(if k=f then (k,v)::r else (k,x)::aJ f v r) from rfl]
  by_cases hk:k=f
  ·rw[if_pos hk]
   by_cases h:g=k
   ·have hb:(g==k)=true:=beq_iff_eq.mpr h;simp only[FP,hb,if_pos (h.trans hk)]
   ·have hb:(g==k)=false:=beq_eq_false_iff_ne.mpr h;simp only[FP,hb,if_neg (fun e:g=f=>h (e.trans hk.symm))]
  ·rw[if_neg hk]
   by_cases h:g=k
   ·have hb:(g==k)=true:=beq_iff_eq.mpr h;simp only[FP,hb,if_neg (fun e:g=f=>hk (h.symm.trans e))]
   ·have hb:(g==k)=false:=beq_eq_false_iff_ne.mpr h;simp only[FP,hb];exact ih
theorem iY (f:Str) (v:V):∀fs:List (Str×V),f∈(aJ f v fs).map (·.1)/\∀g,g∈fs.map (·.1)->g∈(aJ f v fs).map (·.1)
 | []=>⟨by simp[aJ],fun g h=>by simp at h⟩
 |(k,x)::r=>by
  obtain ⟨i1,i2⟩:=iY f v r;rw[show aJ f v ((k,x)::r)=(if k=f then (k,v)::r else (k,x)::aJ f v r) from rfl]
  by_cases hk:k=f
  ·rw[if_pos hk];subst hk;exact ⟨by simp,fun g h=>by simpa using h⟩
  ·rw[if_neg hk];refine ⟨?_,fun g h=>?_⟩
   ·rw[Ek];exact Ea _ i1
   ·rw[Ek] at h⊢;rcases EC.mp h with e|e
    ·exact EC.mpr (.inl e)
    ·exact Ea _ (i2 g e)
theorem cK (f:Str) (v:V):∀fs:List (Str×V),(aJ f v fs).length<=fs.length+1
 | []=>by simp[aJ]
 |(k,x)::r=>by
  have ih:=cK f v r;rw[show aJ f v ((k,x)::r)=(if k=f then (k,v)::r else (k,x)::aJ f v r) from rfl]
  by_cases hk:k=f
  ·rw[if_pos hk,Ep,Ep];lia
  ·rw[if_neg hk,Ep,Ep];lia
theorem eA.some_of {v:V} {o:HS} (r:eA (some v) o):∃u,o=some u/\RelV v u:=by
 cases o with
 |none=>exact (show False from r).elim
 |some u=>exact ⟨u,rfl,r⟩
theorem eA.none_of {o:HS} (r:eA none o):o=none:=by
 cases o with
 |none=>rfl
 |some u=>exact (show False from r).elim
theorem lE {v:V} {u:Value} (r:RelV v u):PySem.W.handedIn u=true:=by
 cases v with
 |non=>cases (show u=Value.none from r);rfl
 |bl b=>cases (show u=Value.bool b from r);rfl
 |int i=>obtain ⟨t,e⟩:=(show ∃t,u=Value.int i t from r);cases e;rfl
 |str x=>obtain ⟨t,e⟩:=(show ∃t,u=Value.str x t from r);cases e;rfl
 |byt b=>obtain ⟨t,e⟩:=(show ∃t,u=Value.bytes b t from r);cases e;rfl
 |flt b=>obtain ⟨t,e⟩:=(show ∃t,u=Value.float b t from r);cases e;rfl
 |ref a=>cases (show u=Value.ref a from r);rfl
 |ty n=>cases (show u=Value.type n from r);rfl
section
variable {P:Program} {w:World} {h:Heap} {C dx:Addr} {fs fs':List (Str×V)}
theorem jD (hok:eI P w H h) (e:H a=some (.ins C dx fs)):∃mA,pY h a dx C mA/\(∀f,eA (fs.lookup f) (mA f))/\PySem.Within mA (fs.map (·.1))/\fs.length<=1000/\H dx=some (.own a):=by
 obtain ⟨d,z,ne,ob,mA,n,r,q⟩:=(show a7 P w H h a (.ins C dx fs) from hok a _ e)
 exact ⟨mA,⟨ob,n,ne⟩,r,q,z,d⟩
end
structure pQ (K:D9) (C:Addr):Prop where
 pg:PySem.W.plainGet K C Str.empty=true
 hd:PySem.W.hasDictIn K C=true
 po:PySem.W.plainOver K C=true
 sa:EV K (.ref C) "__setattr__" =some (some (.builtin "object.__setattr__"))
theorem pQ.get {K:D9} {C:Addr} (c:pQ K C) (f:Str):PySem.W.plainGet K C f=true:=c.pg
def bw (K:D9) (C:Addr) (f:Str):Prop:=EV K (.ref C) f=some none
theorem bw.taker {K:D9} {C:Addr} {f:Str} (n:bw K C f):PySem.W.takerIn K C f=some none:=by
 unfold PySem.W.takerIn;rw[show EV K (.ref C) f=some none from n]
 rfl
structure fj (K:D9) (C:Addr) (m:Str) (f:Addr):Prop where
 at_:EV K (.ref C) m=some (some (.ref f))
 fn:PySem.W.isFn K (.ref f)=true
 kp:En K (.ref f)=true
section
variable {C dx:Addr} {fs:List (Str×V)} {f:Str} {v:V} {A:Around}
theorem pZ {b:Bool} {Q:HF} (I:aE X pins σ H s) (e:H a=some (.ins C dx fs)) (c:pQ X.K C) (n:bw X.K C f) (l:fs.lookup f=some v)
  (h:∀u s',aE X pins σ H s'->RelV v u->Q u s'):wpAny (model X.prog X.w) A (getAttr (.ref a) f b) Q E s:=by
 obtain ⟨mA,O,r,_,_,_⟩:=jD I.hok e;obtain ⟨u,hu,ru⟩:=eA.some_of (v:=v) (o:=mA f) (by rw[<-l];exact r f)
 exact wB I.kIn O (c.get f) c.hd n hu (lE ru) (h u _ (I.tok _) ru)
theorem jP {m:Str} {g:Addr} {pl:Sem Bool} {Q:Value×HQ->Shared->Prop} (I:aE X pins σ H s) (e:H a=some (.ins C dx fs)) (c:pQ X.K C) (k:fj X.K C m g) (l:fs.lookup m=none)
  (h:Q (.ref g,[.ref a]) s):wpAny (model X.prog X.w) A (getMethod (.ref a) m pl) Q E s:=by
 obtain ⟨mA,O,r,_,_,_⟩:=jD I.hok e;have hn:mA m=none:=eA.none_of (by rw[<-l];exact r m)
 exact uy I.kIn O (c.get m) k.at_ k.fn hn h
theorem p8 {y:V} {u:Value} {Q:Unit->Shared->Prop} (I:aE X pins σ H s) (e:H a=some (.ins C dx fs)) (c:pQ X.K C) (n:bw X.K C f) (hl:fs.length<1000) (ry:RelV y u)
  (h:∀s',aE X pins σ (ay H a (.ins C dx (aJ f y fs))) s'->Q () s'):wpAny (model X.prog X.w) A (setAttr (.ref a) f u) Q E s:=by
 obtain ⟨mA,O,r,wi,_,ho⟩:=jD I.hok e;have hz:(fs.map (·.1)).length<=sizeLine:=by rw[E3,sizeLine_eq];lia
 refine wC I.kIn O c.sa c.po n.taker c.hd wi hz fun h' O' sb=>h _ ?_
 have hd:∃o,h'.get? dx=some o:=let ⟨o,_,_,e',_⟩:=O'.ns;⟨o,e'⟩;refine I.write (x:=a) (e:=dx) (by rw[e];exact True.intro) (.inr ho) (fun b q hb z=>(sb.2 b hb).trans z) hd ?_
 refine ⟨by rw[ag O.ne];exact ho,?_,O.ne,O'.obj,_,O'.ns,fun g=>?_,fun g hg=>?_⟩
 ·have:=cK f y fs;lia
 ·show eA ((aJ f y fs).lookup g) (if g=f then some u else mA g)
  rw[aH]
  by_cases q:g=f
  ·rw[if_pos q,if_pos q];exact ry
  ·rw[if_neg q,if_neg q];exact r g
 ·by_cases q:g=f
  ·rw[q];exact (iY f y fs).1
  ·refine (iY f y fs).2 g (wi g fun z=>hg ?_)
   show (if g=f then some u else mA g)=none
   rw[if_neg q];exact z
theorem aE.made (I:aE X pins σ H s):aE X pins σ (ay (ay H s.heap.objs.size (.own (s.heap.objs.size+1))) (s.heap.objs.size+1) (.ins C s.heap.objs.size []))
  {s with heap:=(s.heap.push EY).push (FJ C s.heap.objs.size)}:=by
 have e1:(s.heap.push EY).get? s.heap.objs.size=some EY:=Heap.get?_push_size s.heap rfl;have e2:((s.heap.push EY).push (FJ C s.heap.objs.size)).get? (s.heap.objs.size+1)=some (FJ C s.heap.objs.size):=by
  have:=Heap.get?_push_size (s.heap.push EY) (o:=FJ C s.heap.objs.size) rfl
  rwa [Heap.size_push] at this
 have e3:(s.heap.push EY).Ns s.heap.objs.size (fun _=>none):=⟨EY,#[],_,e1,rfl,(fun e he=>absurd he (by simp)),fun _=>rfl⟩
 have I1:=I.laid (a:=s.heap.objs.size) (o:= .own (s.heap.objs.size+1)) (h':=s.heap.push EY) (t':=s.toks) (fun b u q=>Heap.get?_push_of_some _ q) (E4 _) ⟨_,e1⟩
 refine I1.laid (a:=s.heap.objs.size+1) (o:= .ins C s.heap.objs.size []) (t':=s.toks) (fun b u q=>Heap.get?_push_of_some _ q) (Nat.le_of_eq (Heap.size_push _ _)) ?_
 have ne:s.heap.objs.size≠s.heap.objs.size+1:=EE (Nat.lt_succ_self _);refine ⟨by rw[ag ne,ac],EO _,ne,e2,fun _=>none,(Heap.Ns1.of_empty e3).at fun o q=>Heap.get?_push_of_some _ q,fun _=>True.intro,fun y hy=>absurd rfl hy⟩
theorem rg {prog:Program} {w:World} {env:Env} {e:Expr} {f:Str} {pos:Pos} {s:Shared} {Q:HF} (hb:attributeBase e f env (eval e env)=eval e env)
  (h:wpAny (model prog w) A (eval e env) (fun o s₁=>wpAny (model prog w) A (getAttr o f true) Q E s₁) E s):wpAny (model prog w) A (eval (.Attribute e f pos) env) Q E s:=
 Attribute_any_ h (by rw[arm_eval_Attribute,hb])
end
def A3 (K:D9) (ta:TE) (f:Str):TE:=fun σ H Q=>ta σ H fun x H1=>∃a C dx fs v,x= .ref a/\H1 a=some (.ins C dx fs)/\pQ K C/\bw K C f/\fs.lookup f=some v/\Q v H1
def C2 (K:D9) (ta tv:TE) (f:Str):TS:=fun D σ H=>tv σ H fun y H1=>ta σ H1 fun x H2=>∃a C dx fs,x= .ref a/\H2 a=some (.ins C dx fs)/\pQ K C/\bw K C f/\fs.length<1000/\
 D.nx σ (ay H2 a (.ins C dx (aJ f y fs)))
section
variable {o e value:Expr} {f:Str} {pos pos' tpos:Pos} {ta tv:TE}
theorem cp (he:PE X e ta) (hb:attributeBase e f X.env (eval e X.env)=eval e X.env):PE X (.Attribute e f pos) (A3 X.K ta f):=by
 intro pins s σ H Q I h;refine rg hb (bu (he pins s σ H _ I h) fun u s1 ⟨x,H1,I1,rx,a,C,dx,fs,v,ex,ea,c,n,l,q⟩=>?_)
 subst ex;obtain rfl:u=Value.ref a:=rx;exact pZ I1 ea c n l fun u' s2 I2 ru=>⟨v,H1,I2,ru,q⟩
theorem fo (ha:PE X o ta) (hv:PE X value tv) (hs:swapsWith value (some (.Attribute o f pos')) pos.line X.env=pure false):PS X (.Assign [.Attribute o f pos'] value pos) (C2 X.K ta tv f):=by
 intro pins s σ H D I h;refine plainObj_wpAny_Assign_Attribute (bu (hv pins s σ H _ I h) fun u s1 ⟨y,H1,I1,ry,q⟩=>bu (ha pins s1 σ H1 _ I1 q) fun ov s2 ⟨x,H2,I2,rx,a,C,dx,fs,ex,ea,c,n,l,q2⟩=>?_) hs
 subst ex;obtain rfl:ov=Value.ref a:=rx;exact p8 I2 ea c n l ry fun s3 I3=>⟨σ,_,I3,q2⟩
end
section
variable {A:Around} {Q:HF} {c:Value} {b:Bool}
inductive eP (K:D9) (H:Hp):V->Value->Prop where
 |non:eP K H .non (.type "NoneType")
 |bl (x:Bool):eP K H (.bl x) (.type "bool")
 |int (i:Int):eP K H (.int i) (.type "int")
 |str (x:Str):eP K H (.str x) (.type "str")
 |flt (x:UInt64):eP K H (.flt x) (.type "float")
 |lst {a:Addr} {xs:List V} (e:H a=some (.lst xs)):eP K H (.ref a) (.type "list")
 |frz {a:Addr} {o:Obj} {xs:List V} (e:H a=some (.frz o (.lst xs))):eP K H (.ref a) (.type "list")
 |tup {a:Addr} {xs:List V} (e:H a=some (.tup xs)):eP K H (.ref a) (.type "tuple")
 |dK {a:Addr} {kvs:List (Key×V)} (e:H a=some (.dK kvs)):eP K H (.ref a) (.type "dict")
 |dT {a:Addr} {kvs:List (List Key×V)} (e:H a=some (.dT kvs)):eP K H (.ref a) (.type "dict")
 |ins {a C dx:Addr} {fs:List (Str×V)} (e:H a=some (.ins C dx fs)) (cl:pQ K C) (ha:EV K (.ref C) "__class__" =some (some (.builtin "object.__class__")))
   (hn:PySem.W.specialIn K (.builtin "object.__class__") "__get__" =some (some (.builtin "getset_descriptor.__get__"))) (htk:PySem.W.takesIn K (.builtin "object.__class__")=some true)
   (hm:PySem.W.mroIn K C (.type "object")=some true):eP K H (.ref a) (.ref C)
theorem sM {x:V} {u t:Value} (I:aE X pins σ H s) (rx:RelV x u) (ty:eP X.K H x t) (e:El X.K t c=some b) (h:∀tk,Q (.bool b) {s with toks:=tk}):
  wpAny (model X.prog X.w) A (call (.builtin "isinstance") [u,c]) Q E s:=by
 cases ty with
 |non=>cases (show u=Value.none from rx);exact Eu PySem.W.kitx_none I.kIn True.intro e (fun z=>nomatch z) h
 |bl y=>cases (show u=Value.bool y from rx);exact Eu PySem.W.kitx_bool I.kIn True.intro e (fun z=>nomatch z) h
 |int i=>obtain ⟨t,q⟩:=(show ∃t,u=Value.int i t from rx);cases q;exact Eu PySem.W.kitx_int I.kIn True.intro e (fun z=>nomatch z) h
 |str y=>obtain ⟨t,q⟩:=(show ∃t,u=Value.str y t from rx);cases q;exact Eu PySem.W.kitx_str I.kIn True.intro e (fun z=>nomatch z) h
 |flt y=>obtain ⟨t,q⟩:=(show ∃t,u=Value.float y t from rx);cases q;exact Eu PySem.W.kitx_float I.kIn True.intro e (fun z=>nomatch z) h
 | @lst a xs ea=>
  cases (show u=Value.ref a from rx)
  obtain ⟨_,_,n,_,h1⟩:=(show a7 X.prog X.w H s.heap a (.lst xs) from I.hok a _ ea)
  exact Eu PySem.W.kitx_list I.kIn ⟨_,h1,rfl⟩ e (fun z=>nomatch z) h
 | @frz a ob xs ea=>
  cases (show u=Value.ref a from rx)
  obtain ⟨_,_,_,n,_,h1⟩:=(show a7 X.prog X.w H s.heap a (.frz ob (.lst xs)) from I.hok a _ ea)
  exact Eu PySem.W.kitx_list I.kIn ⟨_,h1,rfl⟩ e (fun z=>nomatch z) h
 | @tup a xs ea=>
  cases (show u=Value.ref a from rx)
  obtain ⟨_,_,_,p⟩:=(show a7 X.prog X.w H s.heap a (.tup xs) from I.hok a _ ea)
  obtain ⟨o,h1,h2,_⟩:=p;exact Eu PySem.W.kitx_tuple I.kIn ⟨o,h1,h2⟩ e (fun z=>nomatch z) h
 | @dK a kvs ea=>
  cases (show u=Value.ref a from rx)
  obtain ⟨_,_,vs,_,p⟩:=(show a7 X.prog X.w H s.heap a (.dK kvs) from I.hok a _ ea)
  obtain ⟨o,es,ep,h1,h2,_⟩:=p;exact Eu PySem.W.kitx_dict I.kIn ⟨o,h1,h2.1⟩ e (fun z=>nomatch z) h
 | @dT a kvs ea=>
  cases (show u=Value.ref a from rx)
  obtain ⟨_,_,xs,_,o,es,ep,h1,h2,_⟩:=(show a7 X.prog X.w H s.heap a (.dT kvs) from I.hok a _ ea)
  exact Eu PySem.W.kitx_dict I.kIn ⟨o,h1,h2.1⟩ e (fun z=>nomatch z) h
 | @ins a C dx fs ea cl ha hn htk hm=>
  cases (show u=Value.ref a from rx)
  obtain ⟨mA,O,_⟩:=jD I.hok ea;obtain ⟨od,J,_⟩:=O.look;exact Eu (PySem.W.kitx_own (cl.get _) cl.hd ha hn htk hm) I.kIn J e (fun z=>nomatch z) h
end
structure bZ (k:Nat) (A:Around):Prop where
 hd:A.handled=none
 dp:A.depth+3*k+5<recursionLimit
 un:A.units+16*k+200<cLine
theorem bZ.mono {j k:Nat} {A:Around} (r:bZ k A) (h:j<=k):bZ j A:=⟨r.hd,by have:=r.dp;lia,by have:=r.un;lia⟩
theorem bZ.deeper {k:Nat} {A:Around} (r:bZ (k+1) A) (env:Env):bZ k (A.deeper env):=
 ⟨r.hd,by have:=r.dp;show A.depth+1+3*k+5<_;lia,by have:=r.un;show A.units+3+16*k+200<_;lia⟩
theorem qa {A:Around} {C:Addr} {us:HQ} {kw:List (Str×Value)}:(A.under (.builtin "type.__call__" ⟨.ref C::us,kw⟩)).depth=A.depth+1:=by
 first|rfl|simp[Around.under,Code.weight,Code.isCreation,Code.isGuard,Code.isCaller,Code.frames,Code.isFrame,guardIds]
theorem qb {A:Around} {C:Addr} {us:HQ} {kw:List (Str×Value)}:(A.under (.builtin "type.__call__" ⟨.ref C::us,kw⟩)).units=A.units+1:=by
 first|rfl|simp[Around.under,Code.cUnits,Code.frames,Code.isFrame]
theorem bZ.make {k:Nat} {A:Around} (r:bZ (k+1) A) (C:Addr) (us:HQ) (kw:List (Str×Value)):bZ k (A.under (.builtin "type.__call__" ⟨.ref C::us,kw⟩)):=
 ⟨r.hd,by have:=r.dp;rw[qa];lia,by have:=r.un;rw[qb];lia⟩
theorem bZ.depth {k:Nat} {A:Around} (r:bZ k A):A.depth<recursionLimit:=by have:=r.dp;lia
theorem bZ.units {k:Nat} {A:Around} (r:bZ k A):A.units+64<cLine:=by have:=r.un;lia
theorem bZ.units0 {k:Nat} {A:Around} (r:bZ k A):A.units<cLine:=by have:=r.un;lia
def y6:TA:=fun _ H Q=>Q [] H
def A4 (ta:TE) (tr:TA):TA:=fun σ H Q=>ta σ H fun x H1=>tr σ H1 fun xs H2=>Q (x::xs) H2
section
variable {e:Expr} {es:List Expr} {te:TE} {t:TA} {pos:Pos}
theorem af:PA X [] y6:=fun _ _ _ _ H Q I h=>Calls.spliced_nil ⟨[],H,I,.nil,h⟩
theorem aa (ha:PE X e te) (hr:PA X es t) (hs:starEach (e::es) X.env=(false,eval e X.env)::starEach es X.env:=by rfl):PA X (e::es) (A4 te t):=by
 intro pos pins s σ H Q I h;rw[hs];show wpAny _ _ (spliced ((false,eval e X.env)::backTo pos (starEach es X.env))) _ _ s;refine Calls.spliced_cons (bu (ha pins s σ H _ I h) fun u s1 ⟨x,H1,I1,r1,q1⟩=>?_)
 exact bu (hr pos pins s1 σ H1 _ I1 q1) fun us s2 ⟨xs,H2,I2,r2,q2⟩=>⟨x::xs,H2,I2,.cons r1 r2,q2⟩
def C3 (t:TA):TE:=fun σ H Q=>t σ H fun xs H1=>xs.length<=sizeLine/\∀p,H1 p=none->Q (.ref p) (ay H1 p (.tup xs))
def C4 (t:TA):TE:=fun σ H Q=>t σ H fun xs H1=>xs.length<=sizeLine/\∀p,H1 p=none->Q (.ref p) (ay H1 p (.lst xs))
theorem cg {x1} (h:PA X es t):PE X (.Tuple es x1 pos) (C3 t):=by
 intro pins s σ H Q I hq;refine wpAny_Tuple_spliced (bu (h pos pins s σ H _ I hq) fun us s1 ⟨xs,H1,I1,r,z,q⟩=>⟨by rw[<-r.length];exact z,?_⟩)
 have hf:H1 s1.heap.objs.size=none:=I1.hok.fresh (E4 _);refine ⟨.ref s1.heap.objs.size,ay H1 s1.heap.objs.size (.tup xs),I1.laid (t':=s1.toks) (fun b u e=>Heap.get?_push_of_some _ e) (E4 _) ?_,rfl,q _ hf⟩
 exact ⟨z,us,r,⟨_,Heap.get?_push_size _ rfl,rfl,_,rfl⟩⟩
theorem bM (h:PA X es t):PE X (.List es pos) (C4 t):=by
 intro pins s σ H Q I hq;refine wpAny_List_spliced (bu (h pos pins s σ H _ I hq) fun us s1 ⟨xs,H1,I1,r,z,q⟩=>⟨by rw[<-r.length];exact z,?_⟩)
 have hf:H1 s1.heap.objs.size=none:=I1.hok.fresh (E4 _);refine ⟨.ref s1.heap.objs.size,ay H1 s1.heap.objs.size (.lst xs),I1.laid (t':=s1.toks) (fun b u e=>Heap.get?_push_of_some _ e) (E4 _) ?_,rfl,q _ hf⟩
 exact ⟨z,us,0,r,Heap.get?_push_size _ rfl⟩
end
abbrev Sp:=List V->Hp->VK->XK->Prop
abbrev qc:=List Env->Hp->Shared->XK->Value->Shared->Prop
structure kR (P:Program) (w:World) (K:D9) (mg:HG) (base:Heap) (A:Around) (outer:List Env) (s:Shared) (H:Hp):Prop where
 frames:A.frames=some outer
 mod:Mod K mg base
 bs:∀b o,base.get? b=some o->s.heap.get? b=some o/\H b=none
 bsz:base.objs.size<=s.heap.objs.size
 funs:s.heap.FunFrames base outer
 frf:∀b∈jn outer,H b=none
 hok:eI P w H s.heap
 bare:AllBare s.gens
def CE (outer:List Env) (P:Program) (w:World) (H:Hp) (s:Shared) (Q:VK) (u:Value) (s':Shared):Prop:=
 ∃v H',s'.os=s.os/\AllBare s'.gens/\Un (jn outer) [] H H' s.heap s'.heap/\eI P w H' s'.heap/\RelV v u/\Q v H'
def CR (CX:qc) (outer:List Env) (P:Program) (w:World) (H:Hp) (s:Shared) (Q:VK) (E:XK) (r:Result) (s':Shared):Prop:=
 match r with
 | .ok (.ret u)=>CE outer P w H s Q u s'
 | .ok _=>False
 | .error e=>CX outer H s E e s'
structure a8 (P:Program) (w:World) (K:D9) (mg:HG) (base:Heap) (CX:qc) (k:Nat) (f:Addr) (fd:FuncData) (ps:HN) (sp:Sp):Prop where
 len:∀vs H Q E,sp vs H Q E->vs.length=ps.length
 run:∀(A:Around) (outer:List Env) (s:Shared) (H:Hp) (args:Args) (us:HQ) (vs:List V) (Q:VK) (E:XK),bZ k A->kR P w K mg base A outer s H->BindsTo s fd args (ps.zip us)->aT vs us->sp vs H Q E->
  codeAny (model P w) A (.call (.ref f) args) (CR CX outer P w H s Q E) s
theorem kR.make {P:Program} {w:World} {K:D9} {mg:HG} {base:Heap} {A:Around} {outer:List Env} {s:Shared} {H:Hp} (e:kR P w K mg base A outer s H) (C:Addr) (us:HQ) (kw:List (Str×Value)):
  kR P w K mg base (A.under (.builtin "type.__call__" ⟨.ref C::us,kw⟩)) outer s H:=⟨by first|exact e.frames|(simpa [Around.under,Code.envs,Code.isFrame,pushEnvs] using e.frames),e.mod,e.bs,e.bsz,e.funs,e.frf,e.hok,e.bare⟩
variable {s':Shared}
theorem aE.env0 (I:aE X pins σ H s):kR X.prog X.w X.K X.mg X.base X.A X.stack s H:=
 ⟨I.ok.frames,I.ok.mod,I.bs,EX I.ok.bsz I.sz,I.stack,I.stkFree,I.hok,I.bare⟩
theorem aE.after {Q:VK} {u:Value} (I:aE X pins σ H s) (h:CE X.stack X.prog X.w H s Q u s'):EP X pins σ Q u s':=by
 obtain ⟨v,H',os,bare,un,hok,r,q⟩:=h;obtain ⟨hh,g,d,t,os'⟩:=s';obtain rfl:os'=s.os:=os;exact ⟨v,H',I.call (h':=hh) (g':=g) (d':=d) (t':=t) (ch:= []) un hok bare (fun b z=>absurd z (by simp)),r,q⟩
def lG (sp:Sp) (dvs:List V) (E:XK) (t:TA):TE:=fun σ H Q=>t σ H fun vs H1=>sp (vs++dvs) H1 Q E
def rh (C:Addr) (sp:Sp) (dvs:List V) (E:XK) (t:TA):TE:=fun σ H Q=>t σ H fun vs H1=>∀x dx,H1 x=none->H1 dx=none->dx≠x->
 sp (.ref x::(vs++dvs)) (ay (ay H1 dx (.own x)) x (.ins C dx [])) (fun v H2=>v= .non/\Q (.ref x) H2) E
def Binds (K:D9) (fd:FuncData) (ps:HN) (ds:HQ):Prop:=
 ∀(s:Shared) (us:HQ),K.In s.heap->(us++ds).length=ps.length->BindsTo s fd ⟨us,[]⟩ (ps.zip (us++ds))
theorem Binds.all {K:D9} {fd:FuncData} {ps:HN} (h:∀us:HQ,us.length=ps.length->bindArgs fd ⟨us,[]⟩=pure (ps.zip us)):Binds K fd ps []:=fun s us _ hl=>by
 rw[Fj] at hl⊢;exact .of_eq (h us hl)
def iZ (CX:qc) (X:Cx) (E:XK):Prop:=∀(pins:HL) (σ:St) (H:Hp) (s:Shared) (e:Value) (s':Shared),aE X pins σ H s->CX X.stack H s E e s'->X.xe e s'
section
variable {CX:qc} {k:Nat} {f C:Addr} {fd:FuncData} {ps:HN} {sp:Sp} {dvs:List V} {ds:HQ} {E:XK} {x m:Str} {p pos apos:Pos} {e o:Expr} {es:List Expr} {ta:TE} {t:TA}
theorem uA {pins:HL} {σ:St} {H:Hp} {s:Shared} {Q:VK} {us:HQ} {vs:List V} (F:a8 X.prog X.w X.K X.mg X.base CX k f fd ps sp) (hr:bZ k X.A) (hb:Binds X.K fd ps ds) (hd:aT dvs ds) (hx:iZ CX X E)
  (I:aE X pins σ H s) (r:aT vs us) (h:sp (vs++dvs) H Q E):wpAny (model X.prog X.w) X.A (call (.ref f) us) (EP X pins σ Q) X.xe s:=by
 have r2:aT (vs++dvs) (us++ds):=r.append hd;have hl:(us++ds).length=ps.length:=by rw[<-r2.length];exact F.len _ _ _ _ h
 refine wpAny_call (codeAny_mono (F.run X.A X.stack s H ⟨us,[]⟩ (us++ds) (vs++dvs) Q E hr I.env0 (hb s us I.kIn hl) r2 h) fun r s' hq=>?_)
 cases r with
 |error e=>exact hx pins σ H s e s' I hq
 |ok fl=>
  cases fl with
  |ret u=>exact I.after hq
  |next=>exact False.elim hq
  |brk=>exact False.elim hq
  |cont=>exact False.elim hq
theorem ri (F:a8 X.prog X.w X.K X.mg X.base CX k f fd ps sp) (hr:bZ k X.A) (hg:Gl X x) (hm:X.mg x=some (.ref f)) (hk:En X.K (.ref f)=true) (hb:Binds X.K fd ps ds) (hd:aT dvs ds) (hx:iZ CX X E)
  (ha:PA X (e::es) t) (hdb:(x==("__debug__" :Str))=false:=by decide) (he:starEach (e::es) X.env=(false,eval e X.env)::starEach es X.env:=by rfl) (hpl:(backTo pos (starEach es X.env)).any (·.1)=false:=by rfl):
  PE X (.Call (.Name x p) (e::es) [] pos) (lG sp dvs E t):=by
 intro pins s σ H Q I h;refine wpAny_Call_Name_kw (dJ I hg hm ?_ hdb);refine FH (h₀:=X.base) I.ok.mod.kin hk (bu (ha pos pins s σ H _ I h) fun us s1 ⟨vs,H1,I1,r,q⟩=>⟨I1.kIn,?_⟩) he hpl
 exact uA F hr hb hd hx I1 r q
structure Mk (K:D9) (C f:Addr):Prop where
 makes:PySem.W.makesIn K C=true
 init:EV K (.ref C) "__init__" =some (some (.ref f))
 fn:PySem.W.isFn K (.ref f)=true
 kp:En K (.ref C)=true
theorem nY {pins:HL} {σ:St} {H:Hp} {s:Shared} {Q:VK} {us:HQ} {vs:List V} (M:Mk X.K C f) (F:a8 X.prog X.w X.K X.mg X.base CX k f fd ps sp) (hr:bZ (k+1) X.A) (hb:Binds X.K fd ps ds) (hd:aT dvs ds)
  (hx:iZ CX X E) (I:aE X pins σ H s) (r:aT vs us)
  (h:∀x dx,H x=none->H dx=none->dx≠x->sp (.ref x::(vs++dvs)) (ay (ay H dx (.own x)) x (.ins C dx [])) (fun v H2=>v= .non/\Q (.ref x) H2) E):
  wpAny (model X.prog X.w) X.A (call (.ref C) us) (EP X pins σ Q) X.xe s:=by
 have hq:=h (s.heap.objs.size+1) s.heap.objs.size (I.hok.fresh (Nat.le_succ _)) (I.hok.fresh (E4 _)) (EE (Nat.lt_succ_self _));have I2:=aE.made (C:=C) I;have r2:aT (V.ref (s.heap.objs.size+1)::(vs++dvs)) (Value.ref (s.heap.objs.size+1)::(us++ds)):= .cons rfl (r.append hd);have hl:(Value.ref (s.heap.objs.size+1)::us++ds).length=ps.length:=by
  have e:=r2.length;rw[F.len _ _ _ _ hq] at e;exact e.symm
 refine wpAny_call (uz (f:=f) I.kIn M.makes M.init (beq_iff_eq.mp M.fn) (codeAny_mono (F.run _ X.stack _ _ ⟨Value.ref (s.heap.objs.size+1)::us,[]⟩ (Value.ref (s.heap.objs.size+1)::(us++ds)) _ _ E (hr.make C us [])
  (I2.env0.make C us []) (hb _ (Value.ref (s.heap.objs.size+1)::us) I2.kIn hl) r2 hq) fun r s' hq'=>?_))
 cases r with
 |error e=>exact hx pins σ _ _ e s' I2 hq'
 |ok fl=>
  cases fl with
  |ret u=>
   obtain ⟨v,H',I3,rv,ev,q3⟩:=I2.after hq';subst ev;exact ⟨rv,⟨V.ref (s.heap.objs.size+1),H',I3,rfl,q3⟩⟩
  |next=>exact False.elim hq'
  |brk=>exact False.elim hq'
  |cont=>exact False.elim hq'
theorem wD (M:Mk X.K C f) (F:a8 X.prog X.w X.K X.mg X.base CX k f fd ps sp) (hr:bZ (k+1) X.A) (hg:Gl X x) (hm:X.mg x=some (.ref C)) (hb:Binds X.K fd ps ds) (hd:aT dvs ds) (hx:iZ CX X E)
  (ha:PA X (e::es) t) (hdb:(x==("__debug__" :Str))=false:=by decide) (he:starEach (e::es) X.env=(false,eval e X.env)::starEach es X.env:=by rfl) (hpl:(backTo pos (starEach es X.env)).any (·.1)=false:=by rfl):
  PE X (.Call (.Name x p) (e::es) [] pos) (rh C sp dvs E t):=by
 intro pins s σ H Q I h;refine wpAny_Call_Name_kw (dJ I hg hm ?_ hdb);refine FH (h₀:=X.base) I.ok.mod.kin M.kp (bu (ha pos pins s σ H _ I h) fun us s1 ⟨vs,H1,I1,r,q⟩=>⟨I1.kIn,?_⟩) he hpl
 exact nY M F hr hb hd hx I1 r q
theorem uB (M:Mk X.K C f) (F:a8 X.prog X.w X.K X.mg X.base CX k f fd ps sp) (hr:bZ (k+1) X.A) (hg:Gl X x) (hm:X.mg x=some (.ref C)) (hb:Binds X.K fd ps ds) (hd:aT dvs ds) (hx:iZ CX X E)
  (hdb:(x==("__debug__" :Str))=false:=by decide):PE X (.Call (.Name x p) [] [] pos) (rh C sp dvs E y6):=by
 intro pins s σ H Q I h;refine wpAny_Call_Name_kw (dJ I hg hm ?_ hdb);exact PySem.W.callWith_K0 I.kIn M.kp (nY (us:= []) M F hr hb hd hx I .nil h)
end
structure aB (N P:HN) (sc:Scope):Prop where
 kind:sc.kind= .function
 co:sc.isCoroutine=false
 gen:sc.isGenerator=false
 nd:N.Nodup
 pre:N.take P.length=P
 par:∀x∈P,sc.names.lookup x=some .local∨sc.names.lookup x=some .cell
 nofree:∀y∈sc.names,y.2≠ .free
theorem lH {kindOf:Str->Option NameKind} {x:Str}:∀{binds:List (Str×Value)} {m:HG},(∀v,(x,v)∉binds)->bindL kindOf binds m x=m x
 | [],_,_=>rfl
 |(n,v)::r,m,h=>by
  unfold bindL;rw[lH fun w hw=>h w (Ea _ hw)]
  split
  ·have:x≠n:=by rintro rfl;exact h v F7
   simp[this]
  ·rfl
theorem lJ {kindOf:Str->Option NameKind} {x:Str}:∀{binds:List (Str×Value)} {m:HG},(∀v,(x,v)∉binds)->bindC kindOf binds m x=m x
 | [],_,_=>rfl
 |(n,v)::r,m,h=>by
  unfold bindC;rw[lJ fun w hw=>h w (Ea _ hw)]
  split
  ·rfl
  ·have:x≠n:=by rintro rfl;exact h v F7
   simp[this]
theorem lK {kindOf:Str->Option NameKind} {x:Str} {v:Value}:∀{P:HN} {vs:HQ} {i:Nat} {m:HG},P.Nodup->P[i]?=some x->vs[i]?=some v->kindOf x=some .local->
  bindL kindOf (P.zip vs) m x=some v
 | [],_,_,_,_,h,_,_=>by simp at h
 |_::_,[],_,_,_,_,h,_=>by simp at h
 |p::P,w::vs,0,m,nd,h1,h2,hk=>by
  simp at h1 h2;subst h1;subst h2;show bindL kindOf ((p,w)::P.zip vs) m p=_;unfold bindL;rw[lH fun v hv=>(EW.mp nd).1 (List.of_mem_zip hv).1,if_pos hk]
  simp
 |p::P,w::vs,i+1,m,nd,h1,h2,hk=>by
  show bindL kindOf ((p,w)::P.zip vs) m x=_;unfold bindL;exact lK (i:=i) (EW.mp nd).2 (by simpa using h1) (by simpa using h2) hk
theorem lL {kindOf:Str->Option NameKind} {x:Str} {v:Value}:∀{P:HN} {vs:HQ} {i:Nat} {m:HG},P.Nodup->P[i]?=some x->vs[i]?=some v->kindOf x≠some .local->
  bindC kindOf (P.zip vs) m x=some v
 | [],_,_,_,_,h,_,_=>by simp at h
 |_::_,[],_,_,_,_,h,_=>by simp at h
 |p::P,w::vs,0,m,nd,h1,h2,hk=>by
  simp at h1 h2;subst h1;subst h2;show bindC kindOf ((p,w)::P.zip vs) m p=_;unfold bindC;rw[lJ fun v hv=>(EW.mp nd).1 (List.of_mem_zip hv).1,if_neg hk]
  simp
 |p::P,w::vs,i+1,m,nd,h1,h2,hk=>by
  show bindC kindOf ((p,w)::P.zip vs) m x=_;unfold bindC;exact lL (i:=i) (EW.mp nd).2 (by simpa using h1) (by simpa using h2) hk
def start (N:HN) (vs:List V):St:=vs.map some++List.replicate (N.length-vs.length) none
def i5 (CX:qc) (P:Program) (w:World) (K:D9) (mg:HG) (base:Heap) (N:HN) (qual:Str) (scope:Scope) (f:Addr) (cd:Value) (A:Around) (outer:List Env) (s:Shared) (H:Hp) (E:XK):Cx where
 prog:=P
 w:=w
 K:=K
 mg:=mg
 base:=base
 A:=A.deeper (envOfC qual scope s.heap.objs.size f cd)
 N:=N
 s₀:=s
 H₀:=H
 env:=envOfC qual scope s.heap.objs.size f cd
 outer:=outer
 stack:=envOfC qual scope s.heap.objs.size f cd::outer
 ex:= []
 calm:=true
 fn:=fun _=>true
 pn:= []
 xe:=fun e s'=>wpAny (model P w) (A.deeper (envOfC qual scope s.heap.objs.size f cd)) (leaving (envOfC qual scope s.heap.objs.size f cd) e) (fun _ s''=>CX outer H s E e s'') (fun e' s''=>CX outer H s E e' s'') s'
theorem nZ {sc:Scope} {n:Nat} {x:Str} (h:sc.names.lookup x=some .cell):∃c,(cellsFrom n sc.names []).lookup x=some c:=by
 have q:=PySem.W.cellsFrom_some sc.names n [] (.inl h);exact F4.mp q
theorem lM {CX:qc} {P:Program} {w:World} {K:D9} {mg:HG} {base:Heap} {N ps:HN} {qual:Str} {scope:Scope} {f:Addr} {cd:Value} {A:Around} {outer:List Env} {s s1:Shared} {H:Hp} {E:XK} {us:HQ} {vs:List V}
  (S:aB N ps scope) (hd:A.handled=none) (e0:kR P w K mg base A outer s H) (hl:vs.length=ps.length) (r:aT vs us)
  (x:InCallC s s.heap.objs.size (bindL (envOfC qual scope s.heap.objs.size f cd).kindOf (ps.zip us) fun _=>none) (cellsFrom (s.heap.objs.size+1) scope.names []) (bindC (envOfC qual scope s.heap.objs.size f cd).kindOf (ps.zip us) fun _=>none) s1):
  aE (i5 CX P w K mg base N qual scope f cd A outer s H E) [] (start N vs) H s1:=by
 have hpl:ps.length<=N.length:=by have:=congrArg List.length S.pre;rw[EN] at this;lia
 obtain ⟨h1,tk,rfl,hk⟩:=x.done;have noA:∀b:Addr,b∉(i5 CX P w K mg base N qual scope f cd A outer s H E).ex:=fun b z=>absurd (show b∈([]:HP) from z) (by simp)
 refine ⟨⟨e0.mod,S.kind,rfl,rfl,E4 _,fun y z c h1 h2=>?_,fun y hy=>?_,fun y c _ h=>?_,fun _=>hd,Around.frames_deeper e0.frames,.inr ⟨rfl,rfl⟩,fun b z=>absurd z (noA b),e0.bs,e0.bsz,fun b _ _=>noA b,fun b z=>absurd z (noA b),e0.funs,e0.frf⟩,
  rfl,e0.bare,Un.kept hk,⟨_,x.toInCall.ns,fun i y v h1 h2 h3=>?_⟩,fun y c h=>⟨_,x.cell y c h⟩,e0.hok.fresh (E4 _),fun y c h=>?_,fun p hp=>absurd (show p∈([]:HL) from hp) (by simp),e0.hok.kept hk,?_⟩
 ·exact name_of_addr x.apart (Ej h1) (Ej h2)
 ·have hy:scope.names.lookup y=some .cell∨scope.names.lookup y=some .free:=hy;rcases hy with hy|hy
  ·exact nZ hy
  ·exact absurd rfl (S.nofree _ (Ej hy))
 ·exact Nat.le_of_lt (x.above y c (Ej h))
 ·have hi:i<vs.length:=by
   unfold start at h2
   by_cases hi:i<vs.length
   ·exact hi
   ·rw[E7 (by simpa using hi)] at h2
    rw[List.getElem?_replicate] at h2
    split at h2<;>cases h2
  have ha:vs[i]?=some v:=by
   unfold start at h2;rw[E5 (by simpa using hi),EA] at h2
   cases e:vs[i]? with
   |none=>rw[e] at h2;cases h2
   |some a=>rw[e] at h2;cases h2;rfl
  obtain ⟨u,hu,rv⟩:=r.get ha;have hp:ps[i]?=some y:=by
   rw[<-S.pre,Fh (by lia)];exact h1
  have ndP:ps.Nodup:=by rw[<-S.pre];exact S.nd.sublist (List.take_sublist _ _)
  refine ⟨u,rv,?_⟩;rcases S.par y (E6 hp) with k|k
  ·exact .inl ⟨k,lK ndP hp hu k⟩
  ·obtain ⟨c,e⟩:=nZ (n:=s.heap.objs.size+1) k;refine .inr ⟨.inl k,c,e,?_⟩;have q:=x.cell y c e;rw[lL ndP hp hu (by show scope.names.lookup y≠_;rw[k];decide)] at q
   exact q
 ·exact e0.hok.fresh (Nat.le_of_lt (x.above y c (Ej h)))
 ·unfold start;show _=N.length;rw[E8,E3,List.length_replicate]
  lia
theorem yx {CX:qc} {P:Program} {w:World} {K:D9} {mg:HG} {base:Heap} {k:Nat} {f:Addr} {name qual:Str} {params:Arguments} {body:List Stmt} {scope:Scope} {dV kV doc pm cdv ct oc:Value} {an od:HR}
  {osl:HM} {N ps:HN} {sp:Sp} (lk:K.lookup f=some ⟨oc,od,.func (Es name qual params body scope dV kV doc pm an cdv ct),osl⟩) (hcd:FF K cdv qual=true) (S:aB N ps scope)
  (len:∀vs H Q E,sp vs H Q E->vs.length=ps.length)
  (hbody:∀(A:Around) (outer:List Env) (s:Shared) (H:Hp) (vs:List V) (Q:VK) (E:XK),bZ k (A.deeper (envOfC qual scope s.heap.objs.size f cdv))->sp vs H Q E->
   ∃t,kO (i5 CX P w K mg base N qual scope f cdv A outer s H E) body t/\t {nx:=fun _ H'=>Q .non H',rt:=Q} (start N vs) H):
  a8 P w K mg base CX (k+1) f (Es name qual params body scope dV kV doc pm an cdv ct) ps sp:=by
 refine ⟨len,fun A outer s H args us vs Q E hr e0 hb r hsp=>?_⟩
 have hl:=len _ _ _ _ hsp;have KX:K.In s.heap:=e0.mod.kin.keeps fun b o e=>(e0.bs b o e).1
 have lim:s.heap.NoLimit:=e0.mod.nolimit.keeps fun b o e=>(e0.bs b o e).1
 have hkind:∀y∈ps.zip us,scope.names.lookup y.1=some .local∨(scope.names.lookup y.1=some .cell/\((cellsFrom (s.heap.objs.size+1) scope.names []).lookup y.1).isSome=true):=fun ⟨n,v⟩ hy=>by
  rcases S.par n (List.of_mem_zip hy).1 with q|q
  ·exact .inl q
  ·exact .inr ⟨q,PySem.W.cellsFrom_some _ _ _ (.inl q)⟩
 refine codeAny_call_function hr.depth (KX _ _ lk) rfl S.co S.gen rfl (PySem.W.codeRec_of KX hcd) (hb _ _ _ _ ?_);refine wpAny_newFunctionEnv_cells S.kind hkind fun env he s1 x=>?_
 subst he;refine ⟨lim.keeps x.toInCall.keep,codeAny_func ?_⟩;obtain ⟨t,ht,hq⟩:=hbody A outer s H vs Q E (hr.deeper _) hsp;have I:aE (i5 CX P w K mg base N qual scope f cdv A outer s H E) [] (start N vs) H s1:=lM S hr.hd e0 hl r x;refine wpAny_mono (ht [] s1 (start N vs) H _ I hq) (fun fl s' hs=>?_) fun e s' hs=>hs
 have fin:∀{σ':St} {H':Hp} {v:V} {u:Value},aE (i5 CX P w K mg base N qual scope f cdv A outer s H E) [] σ' H' s'->RelV v u->Q v H'->CE outer P w H s Q u s':=
  fun {σ' H' v u} J rv q=>⟨v,H',J.os,J.bare,J.base,J.hok,rv,q⟩
 cases fl with
 |ret u=>
  obtain ⟨v,σ',H',J,rv,q⟩:=hs;exact fin J rv q
 |next=>
  obtain ⟨σ',H',J,q⟩:=hs;exact fin (v:=V.non) (u:=Value.none) J rfl q
 |brk=>
  obtain ⟨_,_,_,q⟩:=hs;exact False.elim q
 |cont=>
  obtain ⟨_,_,_,q⟩:=hs;exact False.elim q
section
variable {x:Str} {p pos:Pos} {e:Expr} {es:List Expr} {t:TA} {id T:String} {r:List V->Hp->VK->Prop}
def DM (r:List V->Hp->VK->Prop) (t:TA):TE:=fun σ H Q=>t σ H fun vs H1=>r vs H1 Q
theorem av (hc:cE X (.builtin id) r) (hg:Gl X x) (hm:X.mg x=none) (hv:bootBuiltins x=some (.builtin id)) (ha:PA X (e::es) t) (hn:x≠ "__name__" :=by decide) (hdb:(x==("__debug__" :Str))=false:=by decide)
  (he:starEach (e::es) X.env=(false,eval e X.env)::starEach es X.env:=by rfl) (hpl:(backTo pos (starEach es X.env)).any (·.1)=false:=by rfl):PE X (.Call (.Name x p) (e::es) [] pos) (DM r t):=by
 intro pins s σ H Q I h;refine wpAny_Call_Name_kw (fS I hg hm hv ?_ hn hdb);exact PyProof.Rows.callWith_builtin1 (bu (ha pos pins s σ H _ I h) fun us s1 ⟨vs,H1,I1,r1,q1⟩=>hc pins s1 σ H1 vs us Q I1 r1 q1) he hpl
theorem dw (hc:cE X (.type T) r) (hg:Gl X x) (hm:X.mg x=none) (hv:bootBuiltins x=some (.type T)) (ha:PA X (e::es) t) (hn:x≠ "__name__" :=by decide) (hdb:(x==("__debug__" :Str))=false:=by decide)
  (he:starEach (e::es) X.env=(false,eval e X.env)::starEach es X.env:=by rfl) (hpl:(backTo pos (starEach es X.env)).any (·.1)=false:=by rfl):PE X (.Call (.Name x p) (e::es) [] pos) (DM r t):=by
 intro pins s σ H Q I h;refine wpAny_Call_Name_kw (fS I hg hm hv ?_ hn hdb);exact F5 (bu (ha pos pins s σ H _ I h) fun us s1 ⟨vs,H1,I1,r1,q1⟩=>hc pins s1 σ H1 vs us Q I1 r1 q1) he hpl
end
end L2
namespace HT
open PySem PyProof.Rows
section
variable {prog:Program} {w:World} {A:Around} {E:HF} {s:Shared}
theorem wE {t b:Addr} {vs ws:HQ} {Q:HF} (ht:IsTup s.heap t vs.toArray) (hb:IsTup s.heap b ws.toArray) (hv:vs≠ [])
  (h1:ws= []->Q (.ref t) s) (h2:ws≠ []->Q (.ref s.heap.objs.size) {s with heap:=s.heap.push {cls:= .type "tuple",data:= .seq (vs++ws).toArray}})
  (hsz:vs.length+ws.length<=sizeLine):wpAny (model prog w) A (binaryOp .Add (.ref t) (.ref b)) Q E s:=by
 obtain ⟨⟨cls,dd,data,sl⟩,ho,hc,n,hd⟩:=id ht;obtain ⟨⟨cls2,dd2,data2,sl2⟩,ho2,hc2,n2,hd2⟩:=id hb;simp only at hc hd hc2 hd2;subst hc hd hc2 hd2;have e:vs.toArray++ws.toArray=(vs++ws).toArray:=by simp
 by_cases hw:ws= []
 ·exact concat_meets ⟨_,ho,rfl⟩ ⟨_,ho2,rfl⟩ noFill_tuple_add seq_tuple_add PySem.F.slot_tuple_add PySem.F.entry_tuple_add (PySem.F.args_tuple_add_2 _ _)
   (tuple_addW1 t b vs.toArray ws.toArray n n2 dd dd2 sl sl2 (by simpa using hv) (by simp[hw])) ⟨ho,ho2,h1 hw⟩
 ·refine concat_meets ⟨_,ho,rfl⟩ ⟨_,ho2,rfl⟩ noFill_tuple_add seq_tuple_add PySem.F.slot_tuple_add PySem.F.entry_tuple_add (PySem.F.args_tuple_add_2 _ _)
   (tuple_addW2 t b vs.toArray ws.toArray n n2 dd dd2 sl sl2 (by simpa using hv) (by simpa using hw) (by rw[EM,EM];exact hsz)) ⟨ho,ho2,?_⟩
  rw[e];exact h2 hw
def dY (n d:Nat):Option Int->Nat
 |none=>d
 |some v=>if v<0 then (v+(n:Int)).toNat else min v.toNat n
theorem rj (n d k:Nat):dY n d (some (k:Int))=min k n:=by
 show (if (k:Int)<0 then ((k:Int)+(n:Int)).toNat else min (k:Int).toNat n)=min k n
 rw[if_neg (by lia),Int.toNat_natCast]
end
end HT
namespace L2
open PySem PySem.Spec PyProof.Rows
abbrev TO:=St->Hp->(Option Int->Hp->Prop)->Prop
def PO (X:Cx) (e:Option Expr) (t:TO):Prop:=
 ∀(pins:HL) (s:Shared) (σ:St) (H:Hp) (Q:Option Int->Hp->Prop),aE X pins σ H s->t σ H Q->
  wpAny (model X.prog X.w) X.A (evalPart e X.env) (fun u s'=>∃o H',aE X pins σ H' s'/\IsPart u o/\Q o H') X.xe s
def wF:TO:=fun _ H Q=>Q none H
def A5 (t:TE):TO:=fun σ H Q=>t σ H fun x H1=>∃i,x= .int i/\Q (some i) H1
section
variable {X:Cx} {e:Expr} {te:TE} {lo hi:Option Expr} {tl th:TO} {pos p2:Pos}
theorem eC:PO X none wF:=by
 intro pins s σ H Q I h;rw[evalPart_none];exact wpAny_pure ⟨none,H,I,.none,h⟩
theorem dz (h:PE X e te):PO X (some e) (A5 te):=by
 intro pins s σ H Q I hw;rw[evalPart_some];refine bu (h pins s σ H _ I hw) fun u s1 ⟨x,H1,I1,r1,q1⟩=>?_
 obtain ⟨i,rfl,q⟩:=q1;obtain ⟨t,rfl⟩:=r1;exact ⟨some i,H1,I1,.int i t,q⟩
def C5 (X:Cx) (r:V->Option Int->Option Int->Hp->VK->Prop):Prop:=
 ∀(pins:HL) (s:Shared) (σ:St) (H:Hp) (x:V) (v vl vu:Value) (lo hi:Option Int) (sl:Addr) (Q:VK),aE X pins σ H s->RelV x v->s.heap.IsSliceOf sl vl vu .none->IsPart vl lo->IsPart vu hi->r x lo hi H Q->
  ∃T id,typeLookup (.type T) "__getitem__" =pure (some (.builtin id))/\s.TypeIs v T/\wpAny (model X.prog X.w) X.A (getItem v (.ref sl)) (EP X pins σ Q) X.xe s
def D0 (r:V->Option Int->Option Int->Hp->VK->Prop) (te:TE) (tl th:TO):TE:=fun σ H Q=>te σ H fun x H1=>tl σ H1 fun l H2=>th σ H2 fun u H3=>r x l u H3 Q
theorem dj {r:V->Option Int->Option Int->Hp->VK->Prop} (hr:C5 X r) (he:PE X e te) (hl:PO X lo tl) (hu:PO X hi th):PE X (.Subscript e (.Slice lo hi none p2) pos) (D0 r te tl th):=by
 intro pins s σ H Q I h;refine Subscript_ (bu (he pins s σ H _ I h) fun v s1 ⟨x,H1,I1,r1,q1⟩=>?_)
 refine wpAny_Slice (bu (hl pins s1 σ H1 _ I1 q1) fun vl s2 ⟨l,H2,I2,pl,q2⟩=>bu (hu pins s2 σ H2 _ I2 q2) fun vu s3 ⟨u,H3,I3,pu,q3⟩=>?_)
 rw[evalPart_none];refine wpAny_pure ?_;have I4:aE X pins σ H3 {s3 with heap:=s3.heap.push {cls:= .type "slice",data:= .fields #[vl,vu,.none]}}:=I3.kept (t':=s3.toks) fun b ob q=>Heap.get?_push_of_some _ q
 obtain ⟨T,id,hT,ht,hg⟩:=hr pins {s3 with heap:=s3.heap.push {cls:= .type "slice",data:= .fields #[vl,vu,.none]}} σ H3 x v vl vu l u s3.heap.objs.size Q I4 r1 (Heap.IsSliceOf.new ..) pl pu q3
 show wpAny (model X.prog X.w) X.A (subscriptTail e (.Slice lo hi none p2) v (.ref s3.heap.objs.size)) (EP X pins σ Q) X.xe {s3 with heap:=s3.heap.push {cls:= .type "slice",data:= .fields #[vl,vu,.none]}}
 exact tail_any (ops:= [.ref s3.heap.objs.size,v]) ht hT hg (by with_unfolding_all rfl)
def kS (xs:List V) (lo hi:Option Int):List V:=(xs.drop (HT.dY xs.length 0 lo)).take (HT.dY xs.length xs.length hi-HT.dY xs.length 0 lo)
theorem n8 (xs:List V) (lo hi:Option Int):(kS xs lo hi).length<=xs.length:=by
 unfold kS;rw[EN,List.length_drop]
 lia
def A6 (K:D9):R2:=fun x y H Q=>∃a b xs ys,x= .ref a/\y= .ref b/\bS K H a xs/\bS K H b ys/\xs≠ []/\xs.length+ys.length<=sizeLine/\
 (ys= []->Q (.ref a) H)/\(ys≠ []->∀p,H p=none->Q (.ref p) (ay H p (.tup (xs++ys))))
theorem aT.nil_iff {xs:List V} {us:HQ} (r:aT xs us):us= []↔xs= []:=by
 cases r with
 |nil=>simp
 |cons _ _=>simp
theorem wG:fU X (binaryOp .Add) (A6 X.K):=by
 intro pins s σ H x y v u Q I rx ry h;obtain ⟨a,b,xs,ys,rfl,rfl,ha,hb,hx,hz,q1,q2⟩:=h;cases rx;cases ry;obtain ⟨its,r1,p1,_⟩:=I.tuple ha;obtain ⟨its2,r2,p2,_⟩:=I.tuple hb;refine HT.wE p1 p2 (fun z=>hx (r1.nil_iff.mp z)) (fun z=>⟨.ref a,H,I,rfl,q1 (r2.nil_iff.mp z)⟩) (fun z=>?_) (by rw[<-r1.length,<-r2.length];exact hz)
 refine ⟨.ref s.heap.objs.size,_,I.laid (t':=s.toks) (o:= .tup (xs++ys)) (fun b ob q=>Heap.get?_push_of_some _ q) (E4 _) ?_,rfl,q2 (fun w=>z (r2.nil_iff.mpr w)) _ (I.hok.fresh (E4 _))⟩
 exact ⟨by rw[E8];exact hz,_,r1.append r2,IsTup.new _ _⟩
end
def yy (n:Nat) (i:Int):Option Nat:=if 0<=i then (if i<n then some i.toNat else none) else if-(n:Int)<=i then some (i+n).toNat else none
def fw {α:Type} (xs:List α) (i:Int):Option α:=(yy xs.length i).bind fun j=>xs[j]?
theorem wH {n:Nat} {i:Int} {j:Nat} (h:yy n i=some j):seqIndex? i n=some j/\j<n/\ -(n:Int)<=i/\i<n:=by
 unfold yy at h
 by_cases h0:0<=i
 ·rw[if_pos h0] at h
  by_cases h1:i<n
  ·rw[if_pos h1] at h;have e:i.toNat=j:=ET h;exact ⟨by rw[seqIndex_of h0 h1,e],by lia,by lia,h1⟩
  ·rw[if_neg h1] at h;cases h
 ·rw[if_neg h0] at h
  by_cases h1: -(n:Int)<=i
  ·rw[if_pos h1] at h;have e:(i+n).toNat=j:=ET h;exact ⟨by rw[seqIndex_neg (by lia) h1,e],by lia,h1,by lia⟩
  ·rw[if_neg h1] at h;cases h
theorem mK {α:Type} {xs:List α} {i:Int} {v:α} (h:fw xs i=some v):∃j,seqIndex? i xs.length=some j/\xs[j]?=some v/\j<xs.length/\ -(xs.length:Int)<=i/\i<xs.length:=by
 unfold fw at h;cases e:yy xs.length i with
 |none=>rw[e] at h;cases h
 |some j=>
  rw[e] at h;obtain ⟨h1,h2,h3,h4⟩:=wH e;exact ⟨j,h1,h,h2,h3,h4⟩
theorem bI {α:Type} {xs:List α} {j:Nat} {v:α} (h:xs[j]?=some v):fw xs (j:Int)=some v:=by
 have hj:j<xs.length:=(E2.mp h).1;have e:yy xs.length (j:Int)=some j:=by
  unfold yy;rw[if_pos (by lia),if_pos (by lia)];simp
 unfold fw;rw[e];exact h
theorem uC {α:Type} (xs:List α) (v:α):fw (xs++ [v]) (-1)=some v:=by
 have hl:(xs++ [v]).length=xs.length+1:=by simp
 have e:yy (xs++ [v]).length (-1)=some xs.length:=by
  unfold yy;rw[hl,if_neg (by decide),if_pos (by lia)]
  congr 1
  lia
 unfold fw;rw[e];show (xs++ [v])[xs.length]?=some v;simp
def wI (b:Expr):Prop:=∀o i,subscripted b false o i=operate [o,i] (getItem o i)
def yz (X:Cx) (r:R2):Prop:=
 ∀(value slice:Expr) (pins:HL) (s:Shared) (σ:St) (H:Hp) (x y:V) (v u:Value) (Q:VK),aE X pins σ H s->RelV x v->RelV y u->r x y H Q->
  subscripted slice false v u=operate [v,u] (getItem v u)->wpAny (model X.prog X.w) X.A (subscriptTail value slice v u) (EP X pins σ Q) X.xe s
def C6 (X:Cx) (id:String) (r:V->List V->Hp->VK->Prop):Prop:=
 ∀(pins:HL) (s:Shared) (σ:St) (H:Hp) (x:V) (xs:List V) (v:Value) (us:HQ) (Q:VK),aE X pins σ H s->RelV x v->aT xs us->r x xs H Q->
  wpAny (model X.prog X.w) X.A (call (.builtin id) (v::us)) (EP X pins σ Q) X.xe s
section
variable {X:Cx} {a b:Expr} {ta tb:TE} {pos:Pos}
theorem aD {r:R2} (hr:yz X r) (ha:PE X a ta) (hb:PE X b tb) (hs:wI b):PE X (.Subscript a b pos) (CB r ta tb):=by
 intro pins s σ H Q I h;exact Subscript_ (y3 ha hb I h fun v u s2 x y H2 I2 rx ry q=>hr a b pins s2 σ H2 x y v u Q I2 rx ry q (hs _ _))
def C7 (K:D9):R2:=fun x y H Q=>∃p xs i v,x= .ref p/\y= .int i/\aQ K H p xs/\fw xs i=some v/\Q v H
def A7 (K:D9):R2:=fun x y H Q=>∃p xs i v,x= .ref p/\y= .int i/\bS K H p xs/\fw xs i=some v/\Q v H
def C8:R2:=fun x y H Q=>∃z i c,x= .str z/\y= .int i/\z.length<=sizeLine/\fw z.cps.toList i=some c/\Q (.str ⟨#[c]⟩) H
theorem aO:yz X (C7 X.K):=by
 intro value slice pins s σ H x y v u Q I rx ry h hs;obtain ⟨p,xs,i,z,rfl,rfl,hq,he,q⟩:=h;cases rx;obtain ⟨t,rfl⟩:=ry;obtain ⟨its,r,pl,hz⟩:=I.list hq;obtain ⟨j,h1,h2,h3,h4,h5⟩:=mK he;obtain ⟨w,ew,rw'⟩:=r.get h2;have hl:=r.length;have hn:=jN;have fin:EP X pins σ Q w s:=⟨z,H,I,rw',q⟩
 by_cases h0:0<=i
 ·have hj:i.toNat=j:=by
   rw[seqIndex_of h0 h5] at h1;exact ET h1
  exact item_listR pl.isList h0 (by lia) (by rw[hj];simpa using ew) fin hs
 ·have hj:(i+(its.toArray.size:Int)).toNat=j:=by
   rw[seqIndex_neg (by lia) h4] at h1
   rw[EM,<-hl];exact ET h1
  exact subscriptTail_builtinR (x:=w) pl.isList.typeIs slot_list_getitem.lookup
   (wpAny_getItem_list_neg (Q:=fun r s'=>r=w/\EP X pins σ Q r s') pl.isList (by lia) (by rw[EM]<;>lia) (by lia) (by rw[hj];simpa using ew) ⟨rfl,fin⟩) hs
theorem aL:yz X (A7 X.K):=by
 intro value slice pins s σ H x y v u Q I rx ry h hs;obtain ⟨p,xs,i,z,rfl,rfl,hq,he,q⟩:=h;cases rx;obtain ⟨t,rfl⟩:=ry;obtain ⟨its,r,pl,hz⟩:=I.tuple hq;obtain ⟨j,h1,h2,h3,h4,h5⟩:=mK he;obtain ⟨w,ew,rw'⟩:=r.get h2;have hl:=r.length;have hn:=jN;have fin:EP X pins σ Q w s:=⟨z,H,I,rw',q⟩;exact subscriptTail_builtinR (x:=w) pl.typeIs slot_tuple_getitem.lookup
  (getItem_tuple (j:=j) (Q:=fun r s'=>r=w/\EP X pins σ Q r s') pl (by lia) (by lia) (by rw[EM,<-hl];exact h1) (by simpa using ew) ⟨rfl,fin⟩) hs
theorem qd:yz X C8:=by
 intro value slice pins s σ H x y v u Q I rx ry h hs;obtain ⟨z,i,c,rfl,rfl,hz,he,q⟩:=h;obtain ⟨t,rfl⟩:=rx;obtain ⟨t',rfl⟩:=ry;obtain ⟨j,h1,h2,h3,h4,h5⟩:=mK he;have hl:z.cps.toList.length=z.length:=by simp[Str.length]
 rw[hl] at h1 h4 h5;have hn:=jN;exact tail_any (typeIs_str s z t) slot_str_getitem.lookup (getItem_str (c:=c) (by
  have e1:decide (i< -(2^63:Int))=false:=decide_eq_false (by lia)
  have e2:decide (i≥2^63)=false:=decide_eq_false (by lia)
  rw[e1,e2,Bool.or_false]) (by rw[h1];simpa using h2) ⟨.str ⟨#[c]⟩,H,I.tok _,⟨_,rfl⟩,q⟩) hs
theorem mL (lo hi:Option Int) (n:Nat):(sliceBounds lo hi none n).1=((HT.dY n 0 lo:Nat):Int)/\(sliceBounds lo hi none n).2.1=((HT.dY n n hi:Nat):Int)/\(sliceBounds lo hi none n).2.2=1:=by
 refine ⟨?_,?_,rfl⟩
 ·cases lo with
  |none=>simp[sliceBounds,HT.dY]
  |some i=>
   simp only[sliceBounds,HT.dY,Option.getD_none,show (1:Int)>0 by decide,if_true]
   by_cases h:i<0
   ·simp only[h,if_true]<;>lia
   ·simp only[h,if_false]<;>lia
 ·cases hi with
  |none=>simp[sliceBounds,HT.dY]
  |some i=>
   simp only[sliceBounds,HT.dY,Option.getD_none,show (1:Int)>0 by decide,if_true]
   by_cases h:i<0
   ·simp only[h,if_true]<;>lia
   ·simp only[h,if_false]<;>lia
theorem kT (its:HQ) (lo hi:Option Int):slicePick its.toArray lo hi none=((its.drop (HT.dY its.length 0 lo)).take (HT.dY its.length its.length hi-HT.dY its.length 0 lo)).toArray:=by
 obtain ⟨h1,h2,h3⟩:=mL lo hi its.toArray.size;unfold slicePick;rw[h1,h2,h3];simp only[sliceRange_one,pick_run,EM]<;>rfl
def C9 (K:D9):V->Option Int->Option Int->Hp->VK->Prop:=fun x lo hi H Q=>∃a xs,x= .ref a/\aQ K H a xs/\∀p,H p=none->Q (.ref p) (ay H p (.lst (kS xs lo hi)))
theorem rn:C5 X (C9 X.K):=by
 intro pins s σ H x v vl vu lo hi sl Q I rx hs pl pu h;obtain ⟨a,xs,rfl,hx,q⟩:=h;cases rx;obtain ⟨its,r,ht,hz⟩:=I.list hx;have hlen:=r.length;refine ⟨"list",_,slot_list_getitem.lookup,ht.isList.typeIs,?_⟩;refine wpAny_getItem_list_slice ht.isList hs pl pu .none (by simp) ?_ (by rw[EM]<;>lia)
 rw[kT,<-hlen];refine ⟨.ref s.heap.objs.size,_,I.laid (t':=s.toks) (o:= .lst (kS xs lo hi)) (fun b ob q=>Heap.get?_push_of_some _ q) (E4 _) ?_,rfl,q _ (I.hok.fresh (E4 _))⟩
 exact ⟨EX (n8 xs lo hi) hz,_,0,(r.drop (HT.dY xs.length 0 lo)).take (HT.dY xs.length xs.length hi-HT.dY xs.length 0 lo),Heap.get?_push_size _ rfl⟩
def ix:V->Bool
 | .non=>true
 | .bl _=>true
 | .int _=>true
 | .str _=>true
 |_=>false
def wJ:V->V->Bool
 | .non,.non=>true
 | .bl a,.bl b=>a==b
 | .bl a,.int b=>(if a then 1 else 0)==b
 | .int a,.bl b=>a==(if b then 1 else 0)
 | .int a,.int b=>a==b
 | .str a,.str b=>a==b
 |_,_=>false
theorem y8 {A:Around} {s:Shared} {y x:V} {u v:Value} (ry:RelV y u) (rx:RelV x v) (fy:ix y=true) (fx:ix x=true):SeqAt.EqAt A s u v (wJ y x):=by
 cases y with
 |non=>
  cases ry;cases x with
  |non=>cases rx;exact SeqAt.EqAt.same _
  |bl b=>cases rx;exact SeqAt.EqAt.none_bool b
  |int b=>obtain ⟨t,rfl⟩:=rx;exact SeqAt.EqAt.none_int b t
  |str b=>obtain ⟨t,rfl⟩:=rx;exact SeqAt.EqAt.none_str b t
  |_=>exact absurd (show false=true from fx) EL
 |bl a=>
  cases ry;cases x with
  |non=>cases rx;exact SeqAt.EqAt.bool_none a
  |bl b=>cases rx;exact SeqAt.EqAt.bool_bool a b
  |int b=>obtain ⟨t,rfl⟩:=rx;exact SeqAt.EqAt.bool_int a b t
  |str b=>obtain ⟨t,rfl⟩:=rx;exact SeqAt.EqAt.bool_str a b t
  |_=>exact absurd (show false=true from fx) EL
 |int a=>
  obtain ⟨t',rfl⟩:=ry;cases x with
  |non=>cases rx;exact SeqAt.EqAt.int_none a t'
  |bl b=>cases rx;exact SeqAt.EqAt.int_bool a t' b
  |int b=>obtain ⟨t,rfl⟩:=rx;exact SeqAt.EqAt.int_int a t' b t
  |str b=>obtain ⟨t,rfl⟩:=rx;exact SeqAt.EqAt.int_str a t' b t
  |_=>exact absurd (show false=true from fx) EL
 |str a=>
  obtain ⟨t',rfl⟩:=ry;cases x with
  |non=>cases rx;exact SeqAt.EqAt.str_none a t'
  |bl b=>cases rx;exact SeqAt.EqAt.str_bool a t' b
  |int b=>obtain ⟨t,rfl⟩:=rx;exact SeqAt.EqAt.str_int a t' b t
  |str b=>obtain ⟨t,rfl⟩:=rx;exact SeqAt.EqAt.str_str a t' b t
  |_=>exact absurd (show false=true from fx) EL
 |_=>exact absurd (show false=true from fy) EL
def qf (x:V) (u:Value):Bool:=match u with
 | .none=>wJ .non x
 | .bool b=>wJ (.bl b) x
 | .int i _=>wJ (.int i) x
 | .str z _=>wJ (.str z) x
 |_=>false
theorem uD {x y:V} {u:Value} (r:RelV y u) (f:ix y=true):qf x u=wJ y x:=by
 cases y with
 |non=>cases r;rfl
 |bl b=>cases r;rfl
 |int i=>obtain ⟨t,rfl⟩:=r;rfl
 |str z=>obtain ⟨t,rfl⟩:=r;rfl
 |_=>exact absurd (show false=true from f) EL
theorem iz {x:V}:∀{xs:List V} {us:HQ},aT xs us->xs.all ix=true->us.any (qf x)=xs.any fun y=>wJ y x
 |_,_,.nil,_=>rfl
 |y::xs,u::us,.cons r t,f=>by
  rw[List.all_cons,Bool.and_eq_true] at f;rw[List.any_cons,List.any_cons,uD r f.1,iz t f.2]
theorem fV {A:Around} {s:Shared} {x:V} {v:Value} (rx:RelV x v) (fx:ix x=true):∀{xs:List V} {us:HQ},aT xs us->xs.all ix=true->∀u∈us,SeqAt.EqAt A s u v (qf x u)
 |_,_,.nil,_=>fun u hu=>by cases hu
 |y::xs,u::us,.cons r t,f=>fun u' hu=>by
  rw[List.all_cons,Bool.and_eq_true] at f;rcases EC.mp hu with rfl|hu
  ·rw[uD r f.1];exact y8 r rx f.1 fx
  ·exact fV rx fx t f.2 u' hu
def y9 (x:V) (xs:List V):Bool:=xs.any fun y=>wJ y x
def Da (K:D9) (neg:Bool):R2:=fun x y H Q=>∃p xs,y= .ref p/\(aQ K H p xs∨bS K H p xs)/\ix x=true/\xs.all ix=true/\Q (.bl (if neg then !y9 x xs else y9 x xs)) H
theorem sN:fU X (compareOp .In) (Da X.K false):=by
 intro pins s σ H x y v u Q I rx ry h;obtain ⟨p,xs,rfl,hq,fx,fs,q⟩:=h;cases ry;rcases hq with hq|hq
 ·obtain ⟨its,r,pl,hz⟩:=I.list hq;refine SeqAt.in_listAt (qf x) pl.isList (fun w hw=>fV rx fx r fs w (by simpa using hw)) ⟨.bl _,H,I,rfl,?_⟩
  rw[show its.toArray.any (qf x)=its.any (qf x) by simp,iz r fs]
  exact q
 ·obtain ⟨its,r,pl,hz⟩:=I.tuple hq;refine SeqAt.in_tupleAt (qf x) pl (fun w hw=>fV rx fx r fs w (by simpa using hw)) ⟨.bl _,H,I,rfl,?_⟩
  rw[show its.toArray.any (qf x)=its.any (qf x) by simp,iz r fs]
  exact q
theorem mM:fU X (compareOp .NotIn) (Da X.K true):=by
 intro pins s σ H x y v u Q I rx ry h;obtain ⟨p,xs,rfl,hq,fx,fs,q⟩:=h;cases ry;rcases hq with hq|hq
 ·obtain ⟨its,r,pl,hz⟩:=I.list hq;refine SeqAt.notIn_listAt (qf x) pl.isList (fun w hw=>fV rx fx r fs w (by simpa using hw)) ⟨.bl _,H,I,rfl,?_⟩
  rw[show its.toArray.any (qf x)=its.any (qf x) by simp,iz r fs]
  exact q
 ·obtain ⟨its,r,pl,hz⟩:=I.tuple hq;refine SeqAt.notIn_tupleAt (qf x) pl (fun w hw=>fV rx fx r fs w (by simpa using hw)) ⟨.bl _,H,I,rfl,?_⟩
  rw[show its.toArray.any (qf x)=its.any (qf x) by simp,iz r fs]
  exact q
theorem mO:fU X (compareOp .NotIn) (fun x y H Q=>∃i j,x= .str i/\y= .str j/\Q (.bl (!(!(Builtin.Str.occurrences j i 0 j.length 1).isEmpty))) H):=by
 intro pins s σ H x y v u Q I rx ry h;obtain ⟨i,j,rfl,rfl,q⟩:=h;obtain ⟨t,rfl⟩:=rx;obtain ⟨t',rfl⟩:=ry;exact notIn_str ⟨.bl _,H,I,rfl,q⟩
theorem mP:cE X (.builtin "len") (fun xs H Q=>∃p ys,xs= [.ref p]/\(aQ X.K H p ys∨bS X.K H p ys)/\Q (.int ys.length) H):=by
 intro pins s σ H xs us Q I r h;obtain ⟨p,ys,rfl,hq,q⟩:=h;obtain ⟨u,rfl,rx⟩:=vals1 r;cases rx;have hn:=jN;rcases hq with hq|hq
 ·obtain ⟨its,r',pl,hz⟩:=I.list hq;have hlen:=r'.length;exact Calls.call_len_list pl.isList (by simp only[EM]<;>lia) ⟨.int ys.length,H,I.tok _,⟨s.toks+1,by rw[EM,hlen]⟩,q⟩
 ·obtain ⟨its,r',pl,hz⟩:=I.tuple hq;have hlen:=r'.length;exact len_tuple pl (by simp only[EM]<;>lia) ⟨.int ys.length,H,I.tok _,⟨s.toks+1,by rw[EM,hlen]⟩,q⟩
theorem iA:cE X (.builtin "len") (fun xs H Q=>∃z,xs= [.str z]/\z.length<=sizeLine/\Q (.int z.length) H):=by
 intro pins s σ H xs us Q I r h;obtain ⟨z,rfl,hz,q⟩:=h;obtain ⟨u,rfl,t,rfl⟩:=vals1 r;have hn:=jN;exact len_str (by lia) ⟨.int z.length,H,I.tok _,⟨_,rfl⟩,q⟩
theorem dL:cE X (.type "list") (fun xs H Q=>∃p ys,xs= [.ref p]/\(aQ X.K H p ys∨bS X.K H p ys)/\∀l,H l=none->Q (.ref l) (ay H l (.lst ys))):=by
 intro pins s σ H xs us Q I r h;obtain ⟨p,ys,rfl,hq,q⟩:=h;obtain ⟨u,rfl,rx⟩:=vals1 r;cases rx;have fin:∀(its:HQ),aT ys its->ys.length<=sizeLine->∀(h':Heap) (c':Nat),(∀b o',s.heap.get? b=some o'->h'.get? b=some o')->
   h'.get? s.heap.objs.size=some {cls:= .type "list",dict:=none,data:= .seq its.toArray c',slots:= #[]}->EP X pins σ Q (.ref s.heap.objs.size) {s with heap:=h'}:=fun its r' hz h' c' kp e=>
  ⟨.ref s.heap.objs.size,_,I.laid (t':=s.toks) kp (E4 _) (show a7 X.prog X.w _ h' _ (.lst ys) from ⟨hz,its,c',r',e⟩),rfl,q _ (I.hok.fresh (E4 _))⟩
 rcases hq with hq|hq
 ·obtain ⟨its,r',pl,hz⟩:=I.list hq;have hlen:=r'.length;obtain ⟨o,ho,hc,n,hd⟩:=pl.isList;exact call_list_seq p (.inl rfl) ho hc hd (fun h' c' kp e=>fin its r' hz h' c' kp e) (by simp only[EM]<;>lia)
 ·obtain ⟨its,r',pl,hz⟩:=I.tuple hq;have hlen:=r'.length;obtain ⟨o,ho,hc,n,hd⟩:=pl;exact call_list_seq p (.inr rfl) ho hc hd (fun h' c' kp e=>fin its r' hz h' c' kp e) (by simp only[EM]<;>lia)
def Db (K:D9) (T:String) (x:V) (H:Hp):Prop:=match x with
 | .str _=>T= "str"
 | .int _=>T= "int"
 | .ref p=>(T= "list" /\∃xs,aQ K H p xs)∨(T= "tuple" /\∃o,K.lookup p=some o/\o.cls= .type "tuple" /\o.dict=none)∨
   (T= "dict" /\((∃kvs,H p=some (.dK kvs))∨∃kvs,H p=some (.dT kvs)))∨(T= "set" /\∃S n,H p=some (.set S n))
 |_=>False
theorem uE {pins:HL} {σ:St} {H:Hp} {s:Shared} {T:String} {x:V} {v:Value} (I:aE X pins σ H s) (r:RelV x v) (ty:Db X.K T x H):
  s.TypeIs v T/\∀a,v= .ref a->∃ob,s.heap.get? a=some ob/\ob.dict=none:=by
 cases x with
 |str z=>
  obtain ⟨t,rfl⟩:=r;cases (show T= "str" from ty)
  exact ⟨typeIs_str s z t,fun _ e=>nomatch e⟩
 |int i=>
  obtain ⟨t,rfl⟩:=r;cases (show T= "int" from ty)
  exact ⟨typeIs_int s i t,fun _ e=>nomatch e⟩
 |ref p=>
  cases r;rcases ty with ⟨rfl,xs,hq⟩|⟨rfl,o,hk,hc,hd⟩|⟨rfl,hk⟩|⟨rfl,S,n,hk⟩
  ·obtain ⟨its,_,pl,_⟩:=I.list hq;refine ⟨pl.isList.typeIs,fun a e=>?_⟩
   cases e;obtain ⟨o,n,e,c,hd,_⟩:=pl;exact ⟨o,e,hd⟩
  ·refine ⟨⟨o,I.kIn p o hk,hc⟩,fun a e=>?_⟩
   cases e;exact ⟨o,I.kIn _ o hk,hd⟩
  ·have z:∃o,s.heap.get? p=some o/\o.ExactDict:=by
    rcases hk with ⟨kvs,hk⟩|⟨kvs,hk⟩
    ·obtain ⟨_,_,_,_,o,_,_,e,ex,_⟩:=I.hok p _ hk;exact ⟨o,e,ex⟩
    ·obtain ⟨_,_,_,_,o,_,_,e,ex,_⟩:=I.hok p _ hk;exact ⟨o,e,ex⟩
   obtain ⟨o,e,ex⟩:=z;refine ⟨⟨o,e,ex.1⟩,fun a e2=>?_⟩
   cases e2;exact ⟨o,e,ex.2.1⟩
  ·obtain ⟨o,_,_,_,e,ex,_⟩:=I.hok p _ hk;refine ⟨⟨o,e,ex.1⟩,fun a e2=>?_⟩
   cases e2;exact ⟨o,e,ex.2.1⟩
 |_=>exact False.elim ty
def Dc (K:D9) (T:String) (r:V->List V->Hp->VK->Prop) (to:TE):TE:=fun σ H Q=>to σ H fun x H1=>Db K T x H1/\r x [] H1 Q
def D3 (K:D9) (T:String) (r:V->List V->Hp->VK->Prop) (to:TE) (t:TA):TE:=fun σ H Q=>to σ H fun x H1=>Db K T x H1/\t σ H1 fun xs H2=>r x xs H2 Q
variable {o e:Expr} {es:List Expr} {to:TE} {t:TA} {name:Str} {apos cpos:Pos} {T id:String} {r:V->List V->Hp->VK->Prop}
theorem uF (pa:PlainAttrs T) (slot:Slot T name id) (hty:typeOf (.builtin id)=pure (.type "method_descriptor")) (hm:C6 X id r) (ho:PE X o to)
  (hbase:attributeBase o name X.env (eval o X.env)=eval o X.env:=by rfl) (hline:(apos.endLine==cpos.line)=true:=by rfl):PE X (.Call (.Attribute o name apos) [] [] cpos) (Dc X.K T r to):=by
 intro pins s σ H Q I h;refine wpAny_Call_method0_late hbase hline (bu (ho pins s σ H _ I h) fun v s1 ⟨x,H1,I1,r1,ty,q1⟩=>?_)
 obtain ⟨h1,h2⟩:=uE I1 r1 ty;exact ⟨T,id,pa,slot,hty,h1,h2,Calls.callWith_builtin rfl (PySem.evalArgs_none (hm pins s1 σ H1 x [] v [] Q I1 r1 .nil q1))⟩
theorem eD (pa:PlainAttrs T) (slot:Slot T name id) (hty:typeOf (.builtin id)=pure (.type "method_descriptor")) (hm:C6 X id r) (ho:PE X o to) (ha:PA X (e::es) t)
  (hbase:attributeBase o name X.env (eval o X.env)=eval o X.env:=by rfl)
  (hfew:((backTo cpos (starEach (e::es) X.env)).all (fun x=> !x.1)&&(backToKw cpos (keywordEach [] X.env)).all (fun x=>x.1.isSome)
   &&decide ((e::es).length+([]:List Keyword).length+(if ([]:List Keyword).isEmpty then 0 else 1)<30))=true:=by rfl)
  (hline:(apos.endLine==cpos.line)=true:=by rfl) (hs:starEach (e::es) X.env=(false,eval e X.env)::starEach es X.env:=by rfl) (hplain:(backTo cpos (starEach es X.env)).any (·.1)=false:=by rfl):
  PE X (.Call (.Attribute o name apos) (e::es) [] cpos) (D3 X.K T r to t):=by
 intro pins s σ H Q I h;refine wpAny_Call_method_late hbase hfew hline rfl (bu (ho pins s σ H _ I h) fun v s1 ⟨x,H1,I1,r1,ty,q1⟩=>?_)
 obtain ⟨h1,h2⟩:=uE I1 r1 ty;refine ⟨T,id,pa,slot,hty,h1,h2,?_⟩;have hA:=ha cpos pins s1 σ H1 _ I1 q1;rw[hs] at hA⊢;refine Calls.callWith_builtin (by show (false||(backTo cpos (starEach es X.env)).any (·.1))=false;rw[hplain]<;>rfl) (Calls.evalArgs_plain ?_)
 exact bu hA fun us s2 ⟨vs,H2,I2,r2,q2⟩=>hm pins s2 σ H2 x vs v us Q I2 r1 r2 q2
end
def Dd (X:Cx) (id:String) (r:V->List V->Hp->VK->Prop):Prop:=
 ∀(pins:HL) (s:Shared) (σ:St) (H:Hp) (x:V) (xs:List V) (v:Value) (us:HQ) (Q:VK),aE X pins σ H s->RelV x v->aT xs us->r x xs H Q->
  wpAny (model X.prog X.w) X.A (call (.builtin id) (v::us)) (EP X pins σ Q) X.xe s
theorem aT.one:∀{x:V} {us:HQ},aT [x] us->∃u,us= [u]/\RelV x u
 |_,_,.cons r .nil=>⟨_,rfl,r⟩
theorem aT.zero:∀{us:HQ},aT [] us->us= []
 |_,.nil=>rfl
theorem aT.dropLast {xs:List V} {us:HQ} (h:aT xs us):aT xs.dropLast us.dropLast:=by
 induction h with
 |nil=>exact .nil
 |cons r t ih=>
  cases t with
  |nil=>exact .nil
  |cons q t'=>exact .cons r ih
theorem qg {α:Type} (l:List α):l.eraseIdx (l.length-1)=l.dropLast:=by
 induction l with
 |nil=>rfl
 |cons a r ih=>
  cases r with
  |nil=>rfl
  |cons b r=>
   have e:(a::b::r).length-1=((b::r).length-1)+1:=by
    have h1:(a::b::r).length=r.length+2:=rfl;have h2:(b::r).length=r.length+1:=rfl
    lia
   rw[e,List.eraseIdx_cons_succ,ih]
   all_goals rfl
section
variable {X:Cx} {pins:HL} {σ:St} {H:Hp} {s:Shared} {l b:Addr} {xs ys zs:List V}
theorem aE.lset {its its':HQ} {n:Nat} {f:Array Value->Array Value} {t':Nat} (I:aE X pins σ H s) (hH:H l=some (.lst xs))
  (e:s.heap.get? l=some {cls:= .type "list",data:= .seq its.toArray n}) (hf:f its.toArray=its'.toArray) (hv:aT ys its') (hz:ys.length<=sizeLine):
  aE X pins σ (ay H l (.lst ys)) {s with heap:=s.heap.update l (Obj.mapSeq f),toks:=t'}:=by
 have q:=PySem.IsL.update e f;rw[hf] at q;refine I.write (x:=l) (e:=l) (by rw[hH];exact trivial) (.inl rfl) (fun b' u hb hu=>(Heap.get?_update_other s.heap (Obj.mapSeq f) (Ne.symm hb)).trans hu) ⟨_,q⟩ ?_
 exact ⟨hz,its',_,hv,q⟩
theorem aE.lnew {its:HQ} {t':Nat} (I:aE X pins σ H s) (hv:aT ys its) (hz:ys.length<=sizeLine):
  aE X pins σ (ay H s.heap.objs.size (.lst ys)) {s with heap:=s.heap.push {cls:= .type "list",data:= .seq its.toArray},toks:=t'}:=
 I.laid (fun _ _ q=>Heap.get?_push_of_some _ q) (E4 _) ⟨hz,its,0,hv,Heap.get?_push_size _ rfl⟩
theorem aE.fresh (I:aE X pins σ H s):H s.heap.objs.size=none:=I.hok.fresh (E4 _)
theorem aE.lstM (I:aE X pins σ H s) (hH:H l=some (.lst xs)):xs.length<=sizeLine/\∃(its:HQ) (n:Nat),aT xs its/\xs.length=its.length/\s.heap.get? l=some {cls:= .type "list",data:= .seq its.toArray n}:=by
 obtain ⟨z,its,n,r,e⟩:=I.hok l _ hH;exact ⟨z,its,n,r,r.length,e⟩
end
variable {X:Cx}
def wK:V->List V->Hp->VK->Prop:=fun x vs H Q=>∃l xs y,x= .ref l/\vs= [y]/\H l=some (.lst xs)/\xs.length<sizeLine/\Q .non (ay H l (.lst (xs++ [y])))
theorem bC:Dd X "list.append" wK:=by
 intro pins s σ H x vs v us Q I rx rv h;obtain ⟨l,xs,y,rfl,rfl,hH,hz,q⟩:=h;cases rx;obtain ⟨u,rfl,ru⟩:=rv.one;obtain ⟨z,its,n,r,hl,e⟩:=I.lstM hH;refine call_meets F.slot_list_append ⟨_,e,rfl⟩ F.entry_list_append (F.args_list_append_2 _ _) (PySem.list_append l its.toArray n u (by rw[EM];lia)) ⟨e,?_⟩
 refine ⟨.non,_,I.lset (its':=its++ [u]) hH e (by simp) (r.append (.cons ru .nil)) ?_,rfl,q⟩
 rw[E8,EJ]
 lia
def De:V->List V->Hp->VK->Prop:=fun x vs H Q=>∃l xs y,x= .ref l/\vs= []/\H l=some (.lst xs)/\xs[xs.length-1]?=some y/\Q y (ay H l (.lst xs.dropLast))
theorem zc:Dd X "list.pop" De:=by
 intro pins s σ H x vs v us Q I rx rv h;obtain ⟨l,xs,y,rfl,rfl,hH,hy,q⟩:=h;cases rx;have hus:=rv.zero;subst hus;obtain ⟨z,its,n,r,hl,e⟩:=I.lstM hH;obtain ⟨u,hu,ru⟩:=r.get hy;have hy':its.toArray[its.toArray.size-1]?=some u:=by
  show its.toArray[its.length-1]?=some u;rw[<-Em,<-hl];exact hu
 refine call_meets F.slot_list_pop ⟨_,e,rfl⟩ F.entry_list_pop (F.args_list_pop_1 _) (MeetsSeq.list_pop_last l its.toArray n u hy' (by rw[EM];lia)) ⟨e,?_⟩
 refine ⟨y,_,I.lset (its':=its.dropLast) hH e ?_ r.dropLast ?_,ru,q⟩
 ·show its.toArray.eraseIdxIfInBounds (its.toArray.size-1)=its.dropLast.toArray;rw[EM,List.eraseIdxIfInBounds_toArray,qg]
 ·rw[List.length_dropLast]
  lia
def Df:R2:=fun x y H Q=>∃l b xs zs,x= .ref l/\y= .ref b/\H l=some (.lst xs)/\H b=some (.lst zs)/\xs.length+zs.length<=sizeLine/\∀p,H p=none->Q (.ref p) (ay H p (.lst (xs++zs)))
theorem qh:fU X (binaryOp .Add) Df:=by
 intro pins s σ H x y v u Q I rx ry h;obtain ⟨l,b,xs,zs,rfl,rfl,hH,hB,hz,q⟩:=h;cases rx;cases ry;obtain ⟨z,its,n,r,hl,e⟩:=I.lstM hH;obtain ⟨z2,its2,n2,r2,hl2,e2⟩:=I.lstM hB;refine PySem.P.add_list e e2 ?_ (by rw[EM,EM];lia)
 have ea:its.toArray++its2.toArray=(its++its2).toArray:=by simp
 rw[ea];exact ⟨.ref _,_,I.lnew (t':=s.toks) (r.append r2) (by rw[E8];lia),rfl,q _ I.fresh⟩
section
variable {κ:Type} [DecidableEq κ]
def aP (kvs:List (κ×V)) (k:κ):Option V:=(kvs.find? fun kv=>decide (kv.1=k)).map (·.2)
def putK (kvs:List (κ×V)) (k:κ) (v:V):List (κ×V):=
 if (kvs.any fun kv=>decide (kv.1=k))=true then kvs.map (fun kv=>if kv.1=k then (kv.1,v) else kv) else kvs++ [(k,v)]
def jQ (kvs:List (κ×V)) (k:κ):List (κ×V):=kvs.filter fun kv=>decide (kv.1≠k)
theorem bJ {p:κ×V} {r:List (κ×V)} {k:κ} (e:p.1=k):aP (p::r) k=some p.2:=by simp[aP,Fi,e]
theorem bK {p:κ×V} {r:List (κ×V)} {k:κ} (e:¬p.1=k):aP (p::r) k=aP r k:=by simp[aP,Fi,e]
theorem eQ (k:κ):∀kvs:List (κ×V),(kvs.any fun kv=>decide (kv.1=k))=(aP kvs k).isSome
 | []=>rfl
 |p::r=>by
  rw[List.any_cons]
  by_cases e:p.1=k
  ·simp only[bJ e,decide_eq_true e,Bool.true_or,Option.isSome_some]
  ·rw[bK e,decide_eq_false e,Bool.false_or];exact eQ k r
theorem og (k j:κ) (y:V):∀kvs:List (κ×V),aP (kvs.map fun kv=>if kv.1=k then (kv.1,y) else kv) j=(aP kvs j).map fun x=>if j=k then y else x
 | []=>rfl
 |p::r=>by
  have ih:=og k j y r;rw[Ek]
  by_cases h:p.1=k
  ·rw[if_pos h]
   by_cases e:p.1=j
   ·rw[bJ (p:=(p.1,y)) e,bJ e,Fg,if_pos (e.symm.trans h)]
   ·rw[bK (p:=(p.1,y)) e,bK e,ih]
  ·rw[if_neg h]
   by_cases e:p.1=j
   ·rw[bJ (p:=p) e,bJ e,Fg,if_neg (fun z=>h (e.trans z))]
   ·rw[bK (p:=p) e,bK e,ih]
theorem lN (k j:κ) (y:V):∀kvs:List (κ×V),aP kvs k=none->aP (kvs++ [(k,y)]) j=if j=k then some y else aP kvs j
 | [],_=>by
  by_cases e:k=j
  ·rw[if_pos e.symm];exact bJ (p:=(k,y)) e
  ·rw[if_neg (fun z=>e z.symm)];exact bK (p:=(k,y)) e
 |p::r,hn=>by
  rw[List.cons_append];have hk:¬p.1=k:=fun z=>by rw[bJ z] at hn;cases hn
  rw[bK hk] at hn;have ih:=lN k j y r hn
  by_cases e:p.1=j
  ·rw[bJ e,bJ e,if_neg (fun z=>hk (e.trans z))]
  ·rw[bK e,bK e,ih]
theorem iB (kvs:List (κ×V)) (k j:κ) (y:V):aP (putK kvs k y) j=if j=k then some y else aP kvs j:=by
 unfold putK
 by_cases a:(kvs.any fun kv=>decide (kv.1=k))=true
 ·rw[if_pos a,og];rw[eQ] at a
  by_cases e:j=k
  ·obtain ⟨x,hx⟩:=F4.mp a;rw[if_pos e,e,hx,Fg,if_pos rfl]
  ·rw[if_neg e];cases aP kvs j with
   |none=>rfl
   |some x=>rw[Fg,if_neg e]
 ·rw[if_neg a];refine lN k j y kvs ?_;rw[eQ] at a;cases q:aP kvs k with
  |none=>rfl
  |some x=>rw[q] at a;exact (a rfl).elim
theorem dA (kvs:List (κ×V)) (k:κ) (v:V):(putK kvs k v).length<=kvs.length+1:=by
 unfold putK
 split
 ·rw[E3];lia
 ·rw[E8,Ep,List.length_nil];lia
theorem fW {kvs:List (κ×V)} {k:κ} (v:V) (h:aP kvs k=none):putK kvs k v=kvs++ [(k,v)]:=by
 unfold putK;rw[eQ,h];exact if_neg (by decide)
theorem eA.isSome_eq {o:Option V} {u:HS} (r:eA o u):o.isSome=u.isSome:=by
 cases o with
 |none=>cases u with
  |none=>rfl
  |some _=>exact (show False from r).elim
 |some _=>cases u with
  |none=>exact (show False from r).elim
  |some _=>rfl
theorem eA.getD {o:Option V} {u:HS} {d:V} {d':Value} (r:eA o u) (rd:RelV d d'):RelV (o.getD d) (u.getD d'):=by
 cases o with
 |none=>cases u with
  |none=>exact rd
  |some _=>exact (show False from r).elim
 |some _=>cases u with
  |none=>exact (show False from r).elim
  |some _=>exact r
theorem KV.val {kvs:List (κ×V)} {vs:List (κ×Value)} (r:KV kvs vs) (k:κ):eA (aP kvs k) (valueAt vs k):=by
 unfold KV at r
 induction r with
 |nil=>exact True.intro
 | @cons p q ps qs h t ih=>
  obtain ⟨h1,h2⟩:=h
  by_cases e:p.1=k
  ·have e':q.1=k:=h1.symm.trans e;have b:valueAt (q::qs) k=some q.2:=by simp[valueAt,Fi,e']
   rw[bJ e,b];exact h2
  ·have e':¬q.1=k:=fun z=>e (h1.trans z)
   have b:valueAt (q::qs) k=valueAt qs k:=by simp[valueAt,Fi,e']
   rw[bK e,b];exact ih
theorem KV.any {kvs:List (κ×V)} {vs:List (κ×Value)} (r:KV kvs vs) (k:κ):(kvs.any fun kv=>decide (kv.1=k))=vs.any fun kv=>decide (kv.1=k):=by
 unfold KV at r
 induction r with
 |nil=>rfl
 |cons h t ih=>rw[List.any_cons,List.any_cons,ih,h.1]
theorem KV.repl {kvs:List (κ×V)} {vs:List (κ×Value)} (r:KV kvs vs) (k:κ) {y:V} {u:Value} (ry:RelV y u):
  KV (kvs.map fun kv=>if kv.1=k then (kv.1,y) else kv) (vs.map fun kv=>if kv.1=k then (kv.1,u) else kv):=by
 unfold KV at r⊢
 induction r with
 |nil=>exact .nil
 | @cons p q ps qs h t ih=>
  rw[Ek,Ek];refine .cons ?_ ih;obtain ⟨h1,h2⟩:=h
  by_cases e:p.1=k
  ·rw[if_pos e,if_pos (h1.symm.trans e)];exact ⟨h1,ry⟩
  ·rw[if_neg e,if_neg (fun z=>e (h1.trans z))];exact ⟨h1,h2⟩
theorem KV.put {kvs:List (κ×V)} {vs:List (κ×Value)} (r:KV kvs vs) (k:κ) {y:V} {u:Value} (ry:RelV y u):KV (putK kvs k y) (stored vs k u):=by
 unfold putK stored;rw[r.any k]
 by_cases e:(vs.any fun kv=>decide (kv.1=k))=true
 ·rw[if_pos e,if_pos e];exact r.repl k ry
 ·rw[if_neg e,if_neg e];exact Paired.snoc r ⟨rfl,ry⟩
theorem KV.drop {kvs:List (κ×V)} {vs:List (κ×Value)} (r:KV kvs vs) (k:κ):KV (jQ kvs k) (without vs k):=by
 unfold KV at r⊢;unfold jQ without
 induction r with
 |nil=>exact .nil
 | @cons p q ps qs h t ih=>
  obtain ⟨h1,h2⟩:=h;rw[FI,FI]
  by_cases e:p.1=k
  ·have a:¬decide (p.1≠k)=true:=by simp[e]
   have b:¬decide (q.1≠k)=true:=by simp[h1.symm.trans e]
   rw[if_neg a,if_neg b];exact ih
  ·have e':¬q.1=k:=fun z=>e (h1.trans z)
   have a:decide (p.1≠k)=true:=by simp[e]
   have b:decide (q.1≠k)=true:=by simp[e']
   rw[if_pos a,if_pos b];exact .cons ⟨h1,h2⟩ ih
theorem KV.length {kvs:List (κ×V)} {vs:List (κ×Value)} (r:KV kvs vs):kvs.length=vs.length:=Paired.length r
theorem uG (kvs:List (κ×V)) (k:κ):(jQ kvs k).length<=kvs.length:=FT _ _
end
theorem gH {P:Program} {w:World} {k:Key} {u:Value} (r:RelV (kV k) u):(bg P w).is k u=true:=by
 cases k with
 |inl i=>obtain ⟨t,e⟩:=(show ∃t,u=Value.int i t from r);subst e;exact nV P w i t
 |inr x=>obtain ⟨t,e⟩:=(show ∃t,u=Value.str x t from r);subst e;exact nW P w x t
theorem lO {P:Program} {w:World}:∀{ks:List Key} {us:HQ},aT (ks.map kV) us->ItemsAre (bg P w) ks us
 | [],_,r=>by rw[List.map_nil] at r;cases r;exact .nil
 |k::ks,_,r=>by
  rw[Ek] at r;cases r with
  |cons h t=>exact .cons (gH h) (lO t)
abbrev KT (H:Hp):List (List Key×V)->List (List Key×Addr×Value)->Prop:=Paired fun p q=>p.1=q.1/\H q.2.1=some (.tup (p.1.map kV))/\RelV p.2 q.2.2
theorem KT.val {H:Hp} {kvs:List (List Key×V)} {xs:List (List Key×Addr×Value)} (r:KT H kvs xs) (k:List Key):eA (aP kvs k) ((atKey xs k).map (·.2)):=by
 induction r with
 |nil=>exact True.intro
 | @cons p q ps qs h t ih=>
  obtain ⟨h1,_,h2⟩:=h
  by_cases e:p.1=k
  ·have e':q.1=k:=h1.symm.trans e;have b:atKey (q::qs) k=some q.2:=by simp[atKey,Fi,e']
   rw[bJ e,b];exact h2
  ·have e':¬q.1=k:=fun z=>e (h1.trans z)
   have b:atKey (q::qs) k=atKey qs k:=by simp[atKey,Fi,e']
   rw[bK e,b];exact ih
theorem KT.repl {H:Hp} {kvs:List (List Key×V)} {xs:List (List Key×Addr×Value)} (r:KT H kvs xs) (k:List Key) {y:V} {u:Value} (ry:RelV y u):
  KT H (kvs.map fun kv=>if kv.1=k then (kv.1,y) else kv) (xs.map (putAt k u)):=by
 induction r with
 |nil=>exact .nil
 | @cons p q ps qs h t ih=>
  rw[Ek,Ek];refine .cons ?_ ih;obtain ⟨h1,h2,h3⟩:=h;unfold putAt
  by_cases e:p.1=k
  ·rw[if_pos e,if_pos (h1.symm.trans e)];exact ⟨h1,h2,ry⟩
  ·rw[if_neg e,if_neg (fun z=>e (h1.trans z))];exact ⟨h1,h2,h3⟩
theorem KT.put {H:Hp} {kvs:List (List Key×V)} {xs:List (List Key×Addr×Value)} (r:KT H kvs xs) (k:List Key) {b:Addr} {y:V} {u:Value} (hb:H b=some (.tup (k.map kV))) (ry:RelV y u):
  KT H (putK kvs k y) (storedH xs k b u):=by
 have e:(kvs.any fun kv=>decide (kv.1=k))=(atKey xs k).isSome:=by
  rw[eQ,(r.val k).isSome_eq,Option.isSome_map]
 unfold putK storedH;rw[e]
 by_cases q:(atKey xs k).isSome=true
 ·rw[if_pos q,if_pos q];exact r.repl k ry
 ·rw[if_neg q,if_neg q];exact Paired.snoc r ⟨rfl,hb,ry⟩
theorem KT.keeps {H H':Hp} {kvs:List (List Key×V)} {xs:List (List Key×Addr×Value)} (r:KT H kvs xs) (ht:∀b ys,H b=some (.tup ys)->H' b=some (.tup ys)):KT H' kvs xs:=
 Paired.mapP r fun _ _ z=>⟨z.1,ht _ _ z.2.1,z.2.2⟩
section
variable {P:Program} {w:World} {H:Hp} {h:Heap} {a:Addr}
theorem yA {u:HO} (ok:eI P w H h) (e:Rd H a u):a7 P w H h a u:=e.ok ok
theorem jo {kvs:List (Key×V)} (ok:eI P w H h) (e:Rd H a (.dK kvs)):kvs.length<=sizeLine/\(a==sysModules)=false/\∃vs,KV kvs vs/\h.DictOf (bg P w) a vs:=
 show a7 P w H h a (.dK kvs) from yA ok e
theorem iC {kvs:List (Key×V)} (ok:eI P w H h) (e:H a=some (.dK kvs)):kvs.length<=sizeLine/\(a==sysModules)=false/\∃vs,KV kvs vs/\h.DictOf (bg P w) a vs:=jo ok (.inl e)
theorem i7 {ks:List Key} (ok:eI P w H h) (e:H a=some (.tup (ks.map kV))):(tupleKind (bg P w)).is h ks a:=by
 obtain ⟨_,its,r,o,h1,h2,n,h3⟩:=(show a7 P w H h a (.tup (ks.map kV)) from ok a _ e)
 exact ⟨o,its.toArray,n,h1,h2,h3,by simpa using lO r⟩
theorem jR {kvs:List (List Key×V)} (ok:eI P w H h) (e:Rd H a (.dT kvs)):kvs.length<=sizeLine/\(a==sysModules)=false/\
  ∃xs,KT H kvs xs/\h.DictOfH (tupleKind (bg P w)) a xs:=by
 obtain ⟨z,y,xs,r,o,es,ep,h1,h2,h3,h4,h5⟩:=(show a7 P w H h a (.dT kvs) from yA ok e)
 refine ⟨z,y,xs,r,o,es,ep,h1,h2,h3,h4,fun x hx=>?_,h5⟩
 have all:∀{l:List (List Key×V)} {m:List (List Key×Addr×Value)},KT H l m->∀x∈m,(tupleKind (bg P w)).is h x.1 x.2.1:=by
  intro l m q
  induction q with
  |nil=>intro x hx;exact nomatch hx
  | @cons p q ps qs hq t ih=>
   intro x hx;rcases EC.mp hx with e|hx
   ·subst e;exact i7 ok (by rw[<-hq.1];exact hq.2.1)
   ·exact ih x hx
 exact all r x hx
theorem A8 {kvs:List (List Key×V)} (ok:eI P w H h) (e:H a=some (.dT kvs)):kvs.length<=sizeLine/\(a==sysModules)=false/\
  ∃xs,KT H kvs xs/\h.DictOfH (tupleKind (bg P w)) a xs:=jR ok (.inl e)
end
def cT (H:Hp) (a:Addr) (y:V) (r:Option V):Prop:=
 (∃kvs k,Rd H a (.dK kvs)/\y=kV k/\r=aP kvs k)∨∃kvs k b,Rd H a (.dT kvs)/\y= .ref b/\H b=some (.tup (k.map kV))/\r=aP kvs k
def eT (H:Hp) (a:Addr) (y v:V) (H':Hp):Prop:=
 (∃kvs k,H a=some (.dK kvs)/\y=kV k/\kvs.length<sizeLine/\H'=ay H a (.dK (putK kvs k v)))∨
 ∃kvs k b,H a=some (.dT kvs)/\y= .ref b/\H b=some (.tup (k.map kV))/\kvs.length<sizeLine/\H'=ay H a (.dT (putK kvs k v))
theorem cT.k {H:Hp} {a:Addr} {kvs:List (Key×V)} {k:Key} (e:H a=some (.dK kvs)):cT H a (kV k) (aP kvs k):= .inl ⟨kvs,k,.inl e,rfl,rfl⟩
theorem cT.t {H:Hp} {a b:Addr} {kvs:List (List Key×V)} {k:List Key} (e:H a=some (.dT kvs)) (eb:H b=some (.tup (k.map kV))):cT H a (.ref b) (aP kvs k):= .inr ⟨kvs,k,b,.inl e,rfl,eb,rfl⟩
theorem eT.k {H:Hp} {a:Addr} {kvs:List (Key×V)} {k:Key} {v:V} (e:H a=some (.dK kvs)) (hl:kvs.length<sizeLine):eT H a (kV k) v (ay H a (.dK (putK kvs k v))):= .inl ⟨kvs,k,e,rfl,hl,rfl⟩
theorem eT.t {H:Hp} {a b:Addr} {kvs:List (List Key×V)} {k:List Key} {v:V} (e:H a=some (.dT kvs)) (eb:H b=some (.tup (k.map kV))) (hl:kvs.length<sizeLine):
  eT H a (.ref b) v (ay H a (.dT (putK kvs k v))):= .inr ⟨kvs,k,b,e,rfl,eb,hl,rfl⟩
section
variable {pins:HL} {σ:St} {H:Hp} {s:Shared} {a:Addr} {y v:V} {u r:Value} {o:Option V} {A:Around} {E:HF}
theorem aE.big (I:aE X pins σ H s):sysModules<s.heap.objs.size:=by
 have h:mainGlobals<s.heap.objs.size:=(I.mod.glob.keeps I.bk).lt;exact Nat.lt_trans (by decide) h
theorem sO {Q:HF} (hu:A.units+1<cLine) (I:aE X pins σ H s) (g:cT H a y (some v)) (ry:RelV y u) (h:∀w' s',aE X pins σ H s'->RelV v w'->Q w' s'):
  wpAny (model X.prog X.w) A (getItem (.ref a) u) Q E s:=by
 rcases g with ⟨kvs,k,e,ey,l⟩|⟨kvs,k,b,e,ey,eb,l⟩
 ·subst ey;obtain ⟨z,hd,vs,rel,dd⟩:=jo I.hok e;obtain ⟨w',hw,rw'⟩:=eA.some_of (v:=v) (o:=valueAt vs k) (by rw[l];exact rel.val k)
  exact wpAny_getItem_of (gH ry) dd.mapOf hw (h w' _ (I.tok _) rw')
 ·subst ey;cases (show u=Value.ref b from ry)
  obtain ⟨z,hd,xs,rel,dd⟩:=jR I.hok e;obtain ⟨w',hw,rw'⟩:=eA.some_of (v:=v) (o:=(atKey xs k).map (·.2)) (by rw[l];exact rel.val k)
  obtain ⟨p,hp,hp2⟩:=Et.mp hw;refine wpAny_getItem_heap (tupleKind_room_in1 hu) (i7 I.hok eb) dd hp ?_;rw[hp2];exact h w' _ (I.tok _) rw'
theorem Dg {Q:HF} (hu:A.units+1<cLine) (I:aE X pins σ H s) (g:cT H a y o) (ry:RelV y u) (h:∀s',aE X pins σ H s'->Q (.bool o.isSome) s'):
  wpAny (model X.prog X.w) A (compareOp .In u (.ref a)) Q E s:=by
 rcases g with ⟨kvs,k,e,ey,l⟩|⟨kvs,k,b,e,ey,eb,l⟩
 ·subst ey;obtain ⟨z,hd,vs,rel,dd⟩:=jo I.hok e;refine wpAny_in_of (gH ry) hd dd.mapOf ?_;rw[<-(rel.val k).isSome_eq,<-l];exact h _ (I.tok _)
 ·subst ey;cases (show u=Value.ref b from ry)
  obtain ⟨z,hd,xs,rel,dd⟩:=jR I.hok e;refine wpAny_in_heap (tupleKind_room_in1 hu) (i7 I.hok eb) hd dd ?_;have q:=(rel.val k).isSome_eq;rw[Option.isSome_map] at q;rw[<-q,<-l];exact h _ (I.tok _)
theorem wL {Q:HF} (hu:A.units+1<cLine) (I:aE X pins σ H s) (g:cT H a y o) (ry:RelV y u) (h:∀s',aE X pins σ H s'->Q (.bool (!o.isSome)) s'):
  wpAny (model X.prog X.w) A (compareOp .NotIn u (.ref a)) Q E s:=by
 rcases g with ⟨kvs,k,e,ey,l⟩|⟨kvs,k,b,e,ey,eb,l⟩
 ·subst ey;obtain ⟨z,hd,vs,rel,dd⟩:=jo I.hok e;refine wpAny_notIn_of (gH ry) hd dd.mapOf ?_;rw[<-(rel.val k).isSome_eq,<-l];exact h _ (I.tok _)
 ·subst ey;cases (show u=Value.ref b from ry)
  obtain ⟨z,hd,xs,rel,dd⟩:=jR I.hok e;refine wpAny_notIn_heap (tupleKind_room_in1 hu) (i7 I.hok eb) hd dd ?_;have q:=(rel.val k).isSome_eq;rw[Option.isSome_map] at q;rw[<-q,<-l];exact h _ (I.tok _)
theorem iD {h':Heap} {t':Nat} {ob:HO} (I:aE X pins σ H s) (mu:AN (H a)) (hs:Heap.SameBut a s.heap h') (he:∃q,h'.get? a=some q) (new:a7 X.prog X.w (ay H a ob) h' a ob):
  aE X pins σ (ay H a ob) {s with heap:=h',toks:=t'}:=
 I.write (x:=a) (e:=a) mu (.inl rfl) (fun b q hb z=>(hs.2 b hb).trans z) he new
theorem mQ {P:Program} {w:World} {H':Hp} {h':Heap} {kvs:List (Key×V)} {vs:List (Key×Value)} (z:kvs.length<=sizeLine) (hd:(a==sysModules)=false) (rel:KV kvs vs) (dd:h'.DictOf (bg P w) a vs):
  a7 P w H' h' a (.dK kvs):=⟨z,hd,vs,rel,dd⟩
theorem sP {H':Hp} {Q:Unit->Shared->Prop} (hu:A.units+1<cLine) (I:aE X pins σ H s) (g:eT H a y v H') (ry:RelV y u) (rv:RelV v r) (h:∀s',aE X pins σ H' s'->Q () s'):
  wpAny (model X.prog X.w) A (setItem (.ref a) u r) Q E s:=by
 rcases g with ⟨kvs,k,e,ey,l,eH⟩|⟨kvs,k,b,e,ey,eb,l,eH⟩
 ·subst ey eH;obtain ⟨z,hd,vs,rel,dd⟩:=iC I.hok e;have hz:vs.length<=sizeLine:=by rw[<-rel.length];exact z
  have hl:(putK kvs k v).length<=sizeLine:=by have:=dA kvs k v;lia
  refine wpAny_setItem_pairs (hsz:=hz) (gH ry) dd fun h' dd' hs=>h _ ?_
  have he:∃q,h'.get? a=some q:=let ⟨q,_,_,hq,_⟩:=dd';⟨q,hq⟩;exact iD I (by rw[e];exact True.intro) hs he (mQ hl hd (rel.put k rv) dd')
 ·subst ey eH;cases (show u=Value.ref b from ry)
  obtain ⟨z,hd,xs,rel,dd⟩:=A8 I.hok e;have hz:xs.length<=sizeLine:=by rw[<-Paired.length rel];exact z
  have hl:(putK kvs k v).length<=sizeLine:=by have:=dA kvs k v;lia
  refine wpAny_setItem_heap (hsz:=hz) (tupleKind_room_in1 hu) (i7 I.hok eb) dd fun h' dd' hs=>h _ ?_
  obtain ⟨q,es,ep,hq,h2,h3,h4,_,h5⟩:=dd';refine iD I (by rw[e];exact True.intro) hs ⟨q,hq⟩ ⟨hl,hd,_,(rel.put k eb rv).keeps fun c ys ec=>?_,q,es,ep,hq,h2,h3,h4,h5⟩
  rw[ag (cJ ec e (fun z=>nomatch z))]
  exact ec
end
section
variable {pins:HL} {σ:St} {H:Hp} {s:Shared} {a:Addr} {kvs:List (Key×V)} {k:Key} {u:Value} {A:Around} {E:HF}
theorem A9 {v:V} {more:HQ} {Q:HF} (I:aE X pins σ H s) (e:H a=some (.dK kvs)) (ry:RelV (kV k) u) (l:aP kvs k=some v) (hm:more= []∨∃x,more= [x])
  (h:∀w' s',aE X pins σ (ay H a (.dK (jQ kvs k))) s'->RelV v w'->Q w' s'):wpAny (model X.prog X.w) A (call (.builtin "dict.pop") (.ref a::u::more)) Q E s:=by
 obtain ⟨z,hd,vs,rel,dd⟩:=iC I.hok e;obtain ⟨w',hw,rw'⟩:=eA.some_of (v:=v) (o:=valueAt vs k) (by rw[<-l];exact rel.val k)
 have hp:(keyPart u).isSome=true:=by
  cases k with
  |inl i=>obtain ⟨t,q⟩:=(show ∃t,u=Value.int i t from ry);subst q;rfl
  |inr x=>obtain ⟨t,q⟩:=(show ∃t,u=Value.str x t from ry);subst q;rfl
 have ha:argsOk "dict.pop" ⟨.ref a::u::more,[]⟩:=by
  rcases hm with q|⟨x,q⟩
  ·subst q;exact PySem.F.args_dict_pop_2 _ _
  ·subst q;exact PySem.F.args_dict_pop_3 _ _ _
 refine call_meetsIn PySem.F.slot_dict_pop dd.typeIs PySem.F.entry_dict_pop ha (meets_dict_pop_there (bg X.prog X.w) a (gH ry) more hm hp)
  ⟨vs,w',dd,by rw[<-rel.length];exact z,hw,fun h' dd' hs=>h w' _ ?_ rw'⟩
 have he:∃q,h'.get? a=some q:=let ⟨q,_,_,hq,_⟩:=dd';⟨q,hq⟩;exact iD I (by rw[e];exact True.intro) hs he (mQ (EX (uG kvs k) z) hd (rel.drop k) dd')
theorem zd {r:Value} {Q:HF} (I:aE X pins σ H s) (e:H a=some (.dK kvs)) (ry:RelV (kV k) u) (l:aP kvs k=none) (h:∀s',aE X pins σ H s'->Q r s'):
  wpAny (model X.prog X.w) A (call (.builtin "dict.pop") [.ref a,u,r]) Q E s:=by
 obtain ⟨z,hd,vs,rel,dd⟩:=iC I.hok e;have hn:valueAt vs k=none:=eA.none_of (by rw[<-l];exact rel.val k)
 have hp:(keyPart u).isSome=true:=by
  cases k with
  |inl i=>obtain ⟨t,q⟩:=(show ∃t,u=Value.int i t from ry);subst q;rfl
  |inr x=>obtain ⟨t,q⟩:=(show ∃t,u=Value.str x t from ry);subst q;rfl
 exact call_meetsIn PySem.F.slot_dict_pop dd.typeIs PySem.F.entry_dict_pop (PySem.F.args_dict_pop_3 _ _ _) (meets_dict_pop_default (bg X.prog X.w) a (gH ry) hd hp r) ⟨vs,dd,hn,h _ (I.tok _)⟩
theorem Ba {Q:HF} (I:aE X pins σ H s) (e:Rd H a (.dK kvs)) (h:∀t s',aE X pins σ H s'->Q (.int kvs.length t) s'):wpAny (model X.prog X.w) A (call (.builtin "len") [.ref a]) Q E s:=by
 obtain ⟨z,hd,vs,rel,dd⟩:=jo I.hok e;refine call_len_dict hd dd (by rw[<-rel.length];rw[sizeLine_eq] at z;lia) ?_
 rw[<-rel.length];exact h _ _ (I.tok _)
end
def Bb (i:Expr):Prop:=∀ov iv,subscripted i false ov iv=operate [ov,iv] (getItem ov iv)
theorem wM {prog:Program} {w:World} {A:Around} {E:HF} {s:Shared} {env:Env} {value slice:Expr} {pos:Pos} {T id:String} {Q:HF}
  (hl:typeLookup (.type T) "__getitem__" =pure (some (.builtin id))) (hs:Bb slice)
  (h:wpAny (model prog w) A (eval value env) (fun o s₁=>wpAny (model prog w) A (eval slice env) (fun i s₂=>s₂.TypeIs o T/\wpAny (model prog w) A (getItem o i) Q E s₂) E s₁) E s):
  wpAny (model prog w) A (eval (.Subscript value slice pos) env) Q E s:=by
 refine Subscript_ (wpAny_mono h (fun o s₁ h₁=>wpAny_mono h₁ (fun i s₂ h₂=>?_) fun _ _ x=>x) fun _ _ x=>x)
 obtain ⟨hT,h₂⟩:=h₂;unfold subscriptTail;refine wpAny_bind ?_;rw[getitemInPython_of_ne hT.not_modules];refine wpAny_bind (wpAny_specialOf hT hl ?_);have fin:wpAny (model prog w) A (subscripted slice false o i) (fun r s₃=>wpAny (model prog w) A (letTemporaryGo value o r>>=fun _=>pure r) Q E s₃) E s₂:=by
  rw[hs o i];exact wpAny_operating (wpAny_mono h₂ (fun r s₃ h₃=>wpAny_bind (wpAny_letTemporaryGo (wpAny_pure h₃))) fun _ _ x=>x)
 first
  |exact wpAny_pure (wpAny_bind fin)
  |exact wpAny_bind (wpAny_pure (wpAny_bind fin))
  |exact wpAny_bind fin
theorem oh {X:Cx} {pins:HL} {σ:St} {H:Hp} {s:Shared} {a:Addr} {y:V} {o:Option V} (I:aE X pins σ H s) (g:cT H a y o):s.TypeIs (.ref a) "dict" :=by
 rcases g with ⟨kvs,k,e,_,_⟩|⟨kvs,k,b,e,_,_,_⟩
 ·obtain ⟨_,_,vs,_,dd⟩:=jo I.hok e;exact dd.typeIs
 ·obtain ⟨_,_,xs,_,dd⟩:=jR I.hok e;exact dd.typeIs
def Bc (td ty:TE):TE:=fun σ H Q=>td σ H fun x H1=>ty σ H1 fun y H2=>∃a v,x= .ref a/\cT H2 a y (some v)/\Q v H2
def Dh (ty td:TE):TE:=fun σ H Q=>ty σ H fun y H1=>td σ H1 fun x H2=>∃a o,x= .ref a/\cT H2 a y o/\Q (.bl o.isSome) H2
def wN (ty td:TE):TE:=fun σ H Q=>ty σ H fun y H1=>td σ H1 fun x H2=>∃a o,x= .ref a/\cT H2 a y o/\Q (.bl (!o.isSome)) H2
def Be (td ty tv:TE):TS:=fun D σ H=>tv σ H fun v H1=>td σ H1 fun x H2=>ty σ H2 fun y H3=>∃a H4,x= .ref a/\eT H3 a y v H4/\D.nx σ H4
section
variable {o i e value:Expr} {pos pos' tpos:Pos} {td ty tv:TE}
theorem iE (hu:X.A.units+1<cLine) (ho:PE X o td) (hi:PE X i ty) (hs:Bb i):PE X (.Subscript o i pos) (Bc td ty):=by
 intro pins s σ H Q I h;refine wM PySem.F.slot_dict_getitem.lookup hs (bu (ho pins s σ H _ I h) fun u s1 ⟨x,H1,I1,rx,q1⟩=>bu (hi pins s1 σ H1 _ I1 q1) fun iv s2 ⟨y,H2,I2,ry,a,v,ex,g,q2⟩=>?_)
 subst ex;obtain rfl:u=Value.ref a:=rx;exact ⟨oh I2 g,sO hu I2 g ry fun w' s3 I3 rw'=>⟨v,H2,I3,rw',q2⟩⟩
theorem qi (hu:X.A.units+1<cLine) (hi:PE X i ty) (ho:PE X o td):PC X .In i o (Dh ty td):=by
 intro pins s σ H Q I h;refine bu (hi pins s σ H _ I h) fun iv s1 ⟨y,H1,I1,ry,q1⟩=>bu (ho pins s1 σ H1 _ I1 q1) fun u s2 ⟨x,H2,I2,rx,a,ov,ex,g,q2⟩=>?_
 subst ex;obtain rfl:u=Value.ref a:=rx;exact Dg hu I2 g ry fun s3 I3=>⟨.bl ov.isSome,H2,I3,rfl,q2⟩
theorem eU (hu:X.A.units+1<cLine) (hi:PE X i ty) (ho:PE X o td):PC X .NotIn i o (wN ty td):=by
 intro pins s σ H Q I h;refine bu (hi pins s σ H _ I h) fun iv s1 ⟨y,H1,I1,ry,q1⟩=>bu (ho pins s1 σ H1 _ I1 q1) fun u s2 ⟨x,H2,I2,rx,a,ov,ex,g,q2⟩=>?_
 subst ex;obtain rfl:u=Value.ref a:=rx;exact wL hu I2 g ry fun s3 I3=>⟨.bl (!ov.isSome),H2,I3,rfl,q2⟩
theorem cZ (hu:X.A.units+1<cLine) (ho:PE X o td) (hi:PE X i ty) (hv:PE X value tv) (hs:swapsWith value (some (.Subscript o i pos')) pos.line X.env=pure false):
  PS X (.Assign [.Subscript o i pos'] value pos) (Be td ty tv):=by
 intro pins s σ H D I h;refine wpAny_Assign_Subscript (bu (hv pins s σ H _ I h) fun r s1 ⟨v,H1,I1,rv,q1⟩=>bu (ho pins s1 σ H1 _ I1 q1) fun u s2 ⟨x,H2,I2,rx,q2⟩=>bu (hi pins s2 σ H2 _ I2 q2) fun iv s3 ⟨y,H3,I3,ry,a,H4,ex,g,q3⟩=>?_) hs
 subst ex;obtain rfl:u=Value.ref a:=rx;exact sP hu I3 g ry rv fun s4 I4=>⟨σ,H4,I4,q3⟩
end
theorem oj {P:Program} {w:World} {H:Hp} (h:Heap) (hb:sysModules<h.objs.size):a7 P w H (h.push {cls:= .type "dict",data:= .dict #[]}) h.objs.size (.dK []):=
 ⟨EO _,beq_eq_false_iff_ne.mpr (Ne.symm (EE hb)),[],.nil,Heap.DictOf.new h⟩
theorem uH {P:Program} {w:World} {H:Hp} (h:Heap) (hb:sysModules<h.objs.size):a7 P w H (h.push {cls:= .type "dict",data:= .dict #[]}) h.objs.size (.dT []):=
 ⟨EO _,beq_eq_false_iff_ne.mpr (Ne.symm (EE hb)),[],.nil,_,#[],0,Heap.get?_push_size _ rfl,⟨rfl,rfl,rfl⟩,rfl,rfl,FO⟩
def ze:TE:=fun _ H Q=>∀p,H p=none->Q (.ref p) (ay H p (.dK []))
def zf:TE:=fun _ H Q=>∀p,H p=none->Q (.ref p) (ay H p (.dT []))
section
variable {pos:Pos}
theorem cx:PE X (.Dict [] [] pos) ze:=fun pins s σ H Q I h=>
 wpAny_Dict_empty ⟨.ref s.heap.objs.size,_,I.laid (a:=s.heap.objs.size) (o:= .dK []) (t':=s.toks) (fun _ _ q=>Heap.get?_push_of_some _ q) (E4 _) (oj s.heap I.big),rfl,h _ (I.hok.fresh (E4 _))⟩
theorem ol:PE X (.Dict [] [] pos) zf:=fun pins s σ H Q I h=>
 wpAny_Dict_empty ⟨.ref s.heap.objs.size,_,I.laid (a:=s.heap.objs.size) (o:= .dT []) (t':=s.toks) (fun _ _ q=>Heap.get?_push_of_some _ q) (E4 _) (uH s.heap I.big),rfl,h _ (I.hok.fresh (E4 _))⟩
end
def qj:List (TE×TE)->St->Hp->(List (V×V)->Hp->Prop)->Prop
 | [],_,H,Q=>Q [] H
 |(tk,tv)::r,σ,H,Q=>tk σ H fun x H1=>tv σ H1 fun y H2=>qj r σ H2 fun ps H3=>Q ((x,y)::ps) H3
abbrev VV:List (V×V)->List (Value×Value)->Prop:=Paired fun p q=>RelV p.1 q.1/\RelV p.2 q.2
def CD (X:Cx) (pos:Pos) (keys:List (Option Expr)) (values:List Expr) (trs:List (TE×TE)):Prop:=
 ∀(pins:HL) (s:Shared) (σ:St) (H:Hp) (Q:List (V×V)->Hp->Prop),aE X pins σ H s->qj trs σ H Q->
  wpAny (model X.prog X.w) X.A (evalPairs (pairTrees keys values X.env pos)) (fun vs s'=>∃ps H',aE X pins σ H' s'/\VV ps vs/\Q ps H') X.xe s
theorem mR {X:Cx} {pos:Pos}:CD X pos [] [] []:=fun pins s σ H Q I h=>pairTrees_nil_walk ⟨[],H,I,.nil,h⟩
theorem jS {X:Cx} {pos:Pos} {k v:Expr} {ks:List (Option Expr)} {vs:List Expr} {tk tv:TE} {trs:List (TE×TE)} (hk:PE X k tk) (hv:PE X v tv) (hr:CD X pos ks vs trs):
  CD X pos (some k::ks) (v::vs) ((tk,tv)::trs):=fun pins s σ H Q I h=>
 pairTrees_cons_walk (bu (hk pins s σ H _ I h) fun u s1 ⟨x,H1,I1,rx,q1⟩=>bu (hv pins s1 σ H1 _ I1 q1) fun w2 s2 ⟨y,H2,I2,ry,q2⟩=>
  bu (hr pins s2 σ H2 _ I2 q2) fun ws s3 ⟨ps,H3,I3,rel,q3⟩=>⟨(x,y)::ps,H3,I3,.cons ⟨rx,ry⟩ rel,q3⟩)
def dm (kvs more:List (Key×V)):List (Key×V):=more.foldl (fun acc kv=>putK acc kv.1 kv.2) kvs
theorem KV.merge:∀{more:List (Key×V)} {rs:List (Key×Value)} {kvs:List (Key×V)} {vs:List (Key×Value)},KV more rs->KV kvs vs->KV (dm kvs more) (merged vs rs):=by
 intro more rs kvs vs r;unfold KV at r
 induction r generalizing kvs vs with
 |nil=>intro q;exact q
 | @cons p q ps qs h t ih=>
  intro r0;have e:KV (putK kvs p.1 p.2) (stored vs q.1 q.2):=by
   have:=r0.put p.1 h.2;rw[<-h.1];exact this
  exact ih e
theorem gJ:∀(more kvs:List (Key×V)),(dm kvs more).length<=kvs.length+more.length
 | [],kvs=>by show kvs.length<=kvs.length+0;lia
 |p::r,kvs=>by
  have h1:=gJ r (putK kvs p.1 p.2);have h2:=dA kvs p.1 p.2;show (dm (putK kvs p.1 p.2) r).length<=_;rw[Ep];lia
theorem jT {P:Program} {w:World}:∀{kvs:List (Key×V)} {ws:List (Value×Value)},VV (kvs.map fun kv=>(kV kv.1,kv.2)) ws->∃rs,Carries (bg P w) ws rs/\KV kvs rs
 | [],_,r=>by rw[List.map_nil] at r;cases r;exact ⟨[],True.intro,.nil⟩
 |p::kvs,_,r=>by
  rw[Ek] at r;cases r with
  | @cons a b as bs h t=>
   obtain ⟨rs,c,q⟩:=jT (P:=P) (w:=w) t;obtain ⟨b1,b2⟩:=b;exact ⟨(p.1,b2)::rs,⟨gH h.1,rfl,c⟩,.cons ⟨rfl,h.2⟩ q⟩
def Bf (trs:List (TE×TE)):TE:=fun σ H Q=>∀p,H p=none->qj trs σ (ay H p (.dK [])) fun ps H2=>H2 p=some (.dK [])/\∃kvs:List (Key×V),ps=kvs.map (fun kv=>(kV kv.1,kv.2))/\kvs.length<=15/\Q (.ref p) (ay H2 p (.dK (dm [] kvs)))
theorem mS {X:Cx} {pos:Pos} {keys:List (Option Expr)} {values:List Expr} {trs:List (TE×TE)} (h:CD X pos keys values trs) (hall:keys.all (·.isSome)=true) (hl:keys.length=values.length) (h0:keys≠ [])
  (h15:keys.length<=15):PE X (.Dict keys values pos) (Bf trs):=by
 intro pins s σ H Q I q;have hn:=I.hok.fresh (E4 s.heap.objs.size);have I1:=I.laid (a:=s.heap.objs.size) (o:= .dK []) (h':=s.heap.push {cls:= .type "dict",data:= .dict #[]}) (t':=s.toks) (fun _ _ q=>Heap.get?_push_of_some _ q) (E4 _) (oj s.heap I.big)
 refine wpAny_Dict_walk (knd:=bg X.prog X.w) hall hl h0 h15 (bu (h pins _ σ _ _ I1 (q _ hn)) fun ws s2 ⟨ps,H2,I2,rel,e,kvs,ep,lk,q2⟩=>?_)
 subst ep;obtain ⟨rs,c,rk⟩:=jT (P:=X.prog) (w:=X.w) rel;obtain ⟨z,hd,vs0,r0,dd⟩:=iC I2.hok e;cases r0;refine ⟨rs,c,dd,fun h' dd' hs=>⟨.ref s.heap.objs.size,_,?_,rfl,q2⟩⟩
 have hz:(dm [] kvs).length<=sizeLine:=by
  have h1:=gJ kvs [];rw[List.length_nil] at h1;rw[sizeLine_eq];lia
 have he:∃q,h'.get? s.heap.objs.size=some q:=let ⟨q,_,_,hq,_⟩:=dd';⟨q,hq⟩;exact iD I2 (by rw[e];exact True.intro) hs he (mQ hz hd (rk.merge .nil) dd')
structure M2 (X:Cx) (o:Expr) (m:Str) (apos:Pos) (e f:Expr) (cpos:Pos):Prop where
 base:attributeBase o m X.env (eval o X.env)=eval o X.env
 few:((backTo cpos (starEach [e,f] X.env)).all (fun x=> !x.1)&&(backToKw cpos (keywordEach [] X.env)).all (fun x=>x.1.isSome)
  &&decide (([e,f]:List Expr).length+([]:List Keyword).length+(if ([]:List Keyword).isEmpty then 0 else 1)<30))=true
 line:(apos.endLine==cpos.line)=true
 trees:backTo cpos (starEach [e,f] X.env)= [(false,eval e X.env),(false,eval f X.env)]
def Di (H:Hp) (a:Addr):Prop:=(∃kvs,Rd H a (.dK kvs))∨∃kvs,Rd H a (.dT kvs)
theorem uI {X:Cx} {pins:HL} {σ:St} {H:Hp} {s:Shared} {a:Addr} (I:aE X pins σ H s) (d:Di H a):
  s.TypeIs (.ref a) "dict" /\(∀b,Value.ref a= .ref b->∃ob,s.heap.get? b=some ob/\ob.dict=none)/\(a==sysModules)=false:=by
 rcases d with ⟨kvs,e⟩|⟨kvs,e⟩
 ·obtain ⟨_,hd,vs,_,dd⟩:=jo I.hok e;refine ⟨dd.typeIs,fun b q=>?_,hd⟩
  cases q;obtain ⟨ob,_,_,h1,h2,_⟩:=dd;exact ⟨ob,h1,h2.2.1⟩
 ·obtain ⟨_,hd,xs,_,dd⟩:=jR I.hok e;refine ⟨dd.typeIs,fun b q=>?_,hd⟩
  cases q;obtain ⟨ob,_,_,h1,h2,_⟩:=dd;exact ⟨ob,h1,h2.2.1⟩
section
variable {pins:HL} {σ:St} {H:Hp} {s:Shared} {a:Addr} {y d:V} {u r:Value} {o:Option V} {A:Around} {E:HF}
theorem zh {Q:HF} (hu:A.units+1<cLine) (I:aE X pins σ H s) (g:cT H a y o) (ry:RelV y u) (rd:RelV d r) (h:∀w' s',aE X pins σ H s'->RelV (o.getD d) w'->Q w' s'):
  wpAny (model X.prog X.w) A (call (.builtin "dict.get") [.ref a,u,r]) Q E s:=by
 rcases g with ⟨kvs,k,e,ey,l⟩|⟨kvs,k,b,e,ey,eb,l⟩
 ·subst ey;obtain ⟨z,hd,vs,rel,dd⟩:=jo I.hok e;refine call_meetsIn PySem.F.slot_dict_get dd.typeIs PySem.F.entry_dict_get (PySem.F.args_dict_get_3 _ _ _) (meets_dict_get_default (bg X.prog X.w) a (gH ry) hd r) ⟨_,dd.mapOf,h _ _ (I.tok _) ?_⟩;rw[l];exact (rel.val k).getD rd
 ·subst ey;cases (show u=Value.ref b from ry)
  obtain ⟨z,hd,xs,rel,dd⟩:=jR I.hok e;refine call_meetsIn PySem.F.slot_dict_get dd.typeIs PySem.F.entry_dict_get (PySem.F.args_dict_get_3 _ _ _) (meetsH_dict_get_default (tupleKind (bg X.prog X.w)) a b hd r) ⟨tupleKind_room_in1 hu,k,xs,i7 I.hok eb,dd,h _ _ (I.tok _) ?_⟩;rw[l];exact (rel.val k).getD rd
end
def zi (td ty tx:TE):TE:=fun σ H Q=>td σ H fun x H1=>∃a,x= .ref a/\Di H1 a/\ty σ H1 fun y H2=>tx σ H2 fun z H3=>∃o,cT H3 a y o/\Q (o.getD z) H3
def zj (td ty tx:TE):TE:=fun σ H Q=>td σ H fun x H1=>∃a,x= .ref a/\Di H1 a/\ty σ H1 fun y H2=>tx σ H2 fun z H3=>∃kvs k,H3 a=some (.dK kvs)/\y=kV k/\
 (∀v,aP kvs k=some v->Q v (ay H3 a (.dK (jQ kvs k))))/\(aP kvs k=none->Q z H3)
section
variable {o e f:Expr} {apos cpos:Pos} {td ty tx:TE}
theorem fX (hu:X.A.units+1<cLine) (ho:PE X o td) (he:PE X e ty) (hf:PE X f tx) (m:M2 X o "get" apos e f cpos):PE X (.Call (.Attribute o "get" apos) [e,f] [] cpos) (zi td ty tx):=by
 intro pins s σ H Q I h;refine wpAny_Call_method m.base m.few m.line FM PySem.F.slot_dict_get PySem.F.type_dict_get (bu (ho pins s σ H _ I h) fun u s1 ⟨x,H1,I1,rx,a,ex,d,q1⟩=>?_)
 subst ex;obtain rfl:u=Value.ref a:=rx;obtain ⟨t1,t2,_⟩:=uI I1 d;refine ⟨t1,t2,?_⟩;rw[m.trees];refine Calls.callWith_builtin rfl (Calls.evalArgs_plain (Calls.spliced_cons (bu (he pins s1 σ H1 _ I1 q1) fun iv s2 ⟨y,H2,I2,ry,q2⟩=>
  Calls.spliced_cons (bu (hf pins s2 σ H2 _ I2 q2) fun fv s3 ⟨z,H3,I3,rz,ov,g,q3⟩=>Calls.spliced_nil ?_))))
 exact zh hu I3 g ry rz fun w' s4 I4 rw'=>⟨_,H3,I4,rw',q3⟩
theorem uJ (ho:PE X o td) (he:PE X e ty) (hf:PE X f tx) (m:M2 X o "pop" apos e f cpos):PE X (.Call (.Attribute o "pop" apos) [e,f] [] cpos) (zj td ty tx):=by
 intro pins s σ H Q I h;refine wpAny_Call_method m.base m.few m.line FM PySem.F.slot_dict_pop PySem.F.type_dict_pop (bu (ho pins s σ H _ I h) fun u s1 ⟨x,H1,I1,rx,a,ex,d,q1⟩=>?_)
 subst ex;obtain rfl:u=Value.ref a:=rx;obtain ⟨t1,t2,_⟩:=uI I1 d;refine ⟨t1,t2,?_⟩;rw[m.trees];refine Calls.callWith_builtin rfl (Calls.evalArgs_plain (Calls.spliced_cons (bu (he pins s1 σ H1 _ I1 q1) fun iv s2 ⟨y,H2,I2,ry,q2⟩=>
  Calls.spliced_cons (bu (hf pins s2 σ H2 _ I2 q2) fun fv s3 ⟨z,H3,I3,rz,kvs,k,ea,ey,q3,q4⟩=>Calls.spliced_nil ?_))))
 subst ey;cases l:aP kvs k with
 |some v=>exact A9 I3 ea ry l (.inr ⟨fv,rfl⟩) fun w' s4 I4 rw'=>⟨v,_,I4,rw',q3 v l⟩
 |none=>exact zd I3 ea ry l fun s4 I4=>⟨z,H3,I4,rz,q4 l⟩
end
end L2
namespace Att
open PySem PySem.W PySem.Calls PyProof.Rows
theorem jA {P:Params} {h:Heap}:∀(ns:List Int) (vs:HQ),WellAll P h vs (ns.map WData.int)->IntsAre vs ns:=by
 intro ns
 induction ns with
 |nil=>
  intro vs w;rw[List.map_nil] at w;cases w;exact .nil
 |cons n ns ih=>
  intro vs w;rw[Ek] at w;cases w with
  |cons a b=>
   cases a;exact .cons _ _ (ih _ b)
theorem sQ {l:OpenLaw} {n:Nat} (hn:l.most=some n) {P:Params} {h:Heap} {args:List WData} {vals:HQ}
  (hpre:l.row.toRowW.claim.pre args=true) (hwl:WellAll P h vals args):
  ∃a vs ns,vals= [Value.ref a]/\args= [WData.list (ns.map WData.int)]/\h.get? a=some {cls:= .type "list",data:= .seq vs.toArray}/\IntsAre vs ns/\ns.length<=n:=by
 have hsh:WShape.hasAll [] args [.list .int]=true:=(pre_splitW hpre).1;have hc:l.pre.holds [] {args:=args}=true:=(pre_splitW hpre).2;obtain ⟨d,r,rfl,h1,h2⟩:=hasAllW_cons hsh;obtain rfl:=hasAllW_nil h2;obtain ⟨xs,rfl,h3⟩:=hasW_list h1;obtain ⟨ns,rfl⟩:=items_int h3;have hlen:ns.length<=n:=by
  unfold OpenLaw.pre at hc;have h4:(WTm.not (.lt (.lit (.int (n:Int))) (.len (.arg 0)))).holds [] {args:= [.list (ns.map .int)]}=true:=by
   have h4:=(holds_andW hc).1;rw[hn] at h4;exact h4
  have h5:=condW_of h4 (w_not (w_lt w_lit (w_len_list (w_arg rfl))));rw[E3] at h5;refine Nat.le_of_not_lt fun q=>?_
  have q':(n:Int)<((ns.length:Nat):Int):=by lia
  first
   |(rw[decide_eq_true q'] at h5;exact absurd h5 (by decide))
   |(simp at h5;lia)
 cases hwl with
 |cons w1 w2=>
  cases w2;cases w1 with
  |list ho hall=>exact ⟨_,_,ns,rfl,rfl,ho,jA ns _ hall,hlen⟩
theorem sR (l:OpenLaw) (args:List WData):l.row.toRowW.claim.post args (.bool true) args=true:=
 postW_of (r:=l.row.toRowW) (X:=(true==true))
  (show WShape.has [] (.bool true) .bool=true by first|rfl|decide|simp[WShape.has,WShape.arms,WShape.armsAll])
  (show (WTm.eq .res (.lit (.bool true))).value [] {args:=args,res:=some (.bool true),after:=args}=some (.bool (true==true)) from w_eq_bool (w_res rfl) w_lit) rfl
theorem om {l:OpenLaw} {n:Nat} {q:Program} {loose:HN} {XP:HG->Heap->Prop} {YP:World->Heap->Prop} {d:DefRec}
  (hn:l.most=some n) (hdf:d.params.defaults= [])
  (call:∀(w:World) (s₀ s₁:Shared) (mg mb:HG) (fa:Addr) (o:Obj) (pm cd doc:Value) (a:Addr) (vs:HQ) (ns:List Int),
   Ground q loose [] XP w s₀ mg mb s₁.heap->YP w s₁.heap->
   s₁.heap.get? fa=some o->o.data= .func (docDef d.name d.params d.body d.scope pm cd doc)->s₁.heap.CodeRec cd d.name->mg d.name=some (.ref fa)->
   s₁.heap.get? a=some {cls:= .type "list",data:= .seq vs.toArray}->IntsAre vs ns->ns.length<=n->s₁.gens= #[]->
   codeAny (model l.prog w) callerA (.call (.ref fa) ⟨[.ref a],[]⟩) (fun r s'=>r= .ok (.ret (.bool true))/\OldK s₁.heap s'.heap/\s'.os=s₁.os/\AllBare s'.gens) s₁):
  WalkO q loose XP YP l.row.toRowW d [] (fun f vs=>PySem.call f vs):=by
 intro w s₀ s₁ mg mb G Y fa o pm cd doc dV kV ho hd hcd hD hmg hg args vals as hpre hlay hrd hwl hlo;obtain rfl:dV= .none:=Dflts.none hD hdf;obtain rfl:kV= .none:=Dflts.noKw hD;obtain ⟨a,vs,ns,rfl,rfl,hobj,hints,hlen⟩:=sQ hn hpre hwl;refine enter_call (codeAny_mono (call w s₀ s₁ mg mb fa o pm cd doc a vs ns G Y ho (fd_plain hd) hcd hmg hobj hints hlen hg) fun r s' hq=>?_)
 obtain ⟨rfl,h2,h3,h4⟩:=hq;exact ⟨.inl ⟨.bool true,.bool true,[],rfl,fun _=>rfl,.bool true,sR l _,fun _=>⟨List.Pairwise.nil,fun _ hm=>(nomatch hm)⟩⟩,h2,h3,h4⟩
end Att
namespace L2
open PySem PySem.Spec PyProof.Rows
theorem lP:∀{vs:HQ} {ns:List Int},IntsAre vs ns->aT (ns.map V.int) vs
 |_,_,.nil=> .nil
 |_,_,.cons n t h=> .cons ⟨t,rfl⟩ (lP h)
def zk (H:Hp):Prop:=∀b,H b=none∨∃o xs,H b=some (.frz o (.lst xs))
theorem uK {P:Program} {w:World} {K:D9} {mg mb:HG} {CX:qc} {k:Nat} {fa a:Addr} {fd:FuncData} {x:Str} {sp:Sp} {s₁:Shared} {vs:HQ} {ns:List Int}
  (KX:K.In s₁.heap) (hns:s₁.heap.Ns mainGlobals mg) (hb:s₁.heap.Ns builtinsNs mb) (hbb:∀x:Str,x≠ "__name__" ->mb x=bootBuiltins x) (hlim:s₁.heap.NoLimit) (hg:s₁.gens= #[])
  (ha:s₁.heap.get? a=some {cls:= .type "list",data:= .seq vs.toArray}) (hi:IntsAre vs ns) (hl:ns.length<=sizeLine) (hr:bZ k callerA)
  (F:∀base:Heap,K.In base->base.Ns mainGlobals mg->a8 P w K mg base CX k fa fd [x] sp) (hbind:∀(s:Shared) (u:Value),BindsTo s fd ⟨[u],[]⟩ [(x,u)])
  (hsp:∀H:Hp,zk H->aQ K H a (ns.map V.int)->sp [.ref a] H (fun v _=>v= .bl true) fun _ _ _=>False)
  (hCX:∀H e s',CX [] H s₁ (fun _ _ _=>False) e s'->False):
  codeAny (model P w) callerA (.call (.ref fa) ⟨[.ref a],[]⟩) (fun r s'=>r= .ok (.ret (.bool true))/\OldK s₁.heap s'.heap/\s'.os=s₁.os/\AllBare s'.gens) s₁:=by
 have rv:=lP hi;have lenV:=hi.length;have core:∀H:Hp,zk H->aQ K H a (ns.map V.int)->eI P w H s₁.heap->(∀b,H b≠none->b=a)->(H a≠none->K.lookup a=none)->
   codeAny (model P w) callerA (.call (.ref fa) ⟨[.ref a],[]⟩) (fun r s'=>r= .ok (.ret (.bool true))/\OldK s₁.heap s'.heap/\s'.os=s₁.os/\AllBare s'.gens) s₁:=by
  intro H hO hS hok hA hK;have base_of:∀{b:Addr} {o:Obj},s₁.heap.get? b=some o->H b=none->(mF s₁.heap H).get? b=some o:=fun e n=>uq e n
  have noA:∀{b:Addr} {o:Obj} {es:Array DictEntry} {ep:Nat},s₁.heap.get? b=some o->o.data= .dict es ep->H b=none:=fun {b o es ep} e d=>by
   cases q:H b with
   |none=>rfl
   |some u=>
    have e':b=a:=hA b (by rw[q];simp)
    subst e';rw[ha] at e;cases e;have d':Data.seq vs.toArray _=Data.dict es ep:=d;cases d'
  have nsK:∀{b:Addr} {m:HG},s₁.heap.Ns b m->(mF s₁.heap H).Ns b m:=fun {b m} ⟨o,es,ep,e,d,r⟩=>⟨o,es,ep,base_of e (noA e d),d,r⟩
  have hKb:K.In (mF s₁.heap H):=fun b o e=>base_of (KX b o e) (by
   cases q:H b with
   |none=>rfl
   |some u=>
    have e':b=a:=hA b (by rw[q];simp)
    subst e';rw[hK (by rw[q];simp)] at e;cases e)
  have hM:Mod K mg (mF s₁.heap H):=⟨hKb,nsK hns,⟨mb,nsK hb,hbb⟩,let ⟨mc,h1,h2⟩:=hlim;⟨mc,nsK h1,h2⟩⟩;have e0:kR P w K mg (mF s₁.heap H) callerA [] s₁ H:=⟨rfl,hM,fun b o e=>ww e,Nat.le_of_eq (sI _ _),trivial,fun b hb=>absurd (show b∈([]:HP) from hb) (by simp),hok,.of_eq hg⟩
  refine codeAny_mono ((F _ hKb (nsK hns)).run callerA [] s₁ H ⟨[.ref a],[]⟩ [.ref a] [.ref a] _ _ hr e0 (hbind s₁ (.ref a)) (.cons rfl .nil) (hsp H hO hS)) fun r s' h=>?_
  cases r with
  |error e=>exact (hCX H e s' h).elim
  |ok fl=>
   cases fl with
   |next=>exact False.elim h
   |brk=>exact False.elim h
   |cont=>exact False.elim h
   |ret u=>
    obtain ⟨v,H',os,bare,un,hok',r',q⟩:=h;have q':v= .bl true:=q;subst q';obtain rfl:u=Value.bool true:=r';refine ⟨rfl,OldK.of_keep fun b o e=>?_,os,bare⟩
    cases q:H b with
    |none=>exact un.keep b o e q (by intro z;exact absurd (show b∈([]:HP) from z) (by simp)) (by simp)
    |some u=>
     rcases hO b with z|⟨ob,xs,z⟩
     ·rw[q] at z;cases z
     ·have z2:=un.frzs b ob _ z;obtain ⟨e1,_⟩:=hok b _ z;obtain ⟨e2,_⟩:=hok' b _ z2;rw[e] at e1;cases e1;exact e2
 cases hk:K.lookup a with
 |some o=>
  have e:=KX a o hk;rw[ha] at e;cases e;refine core (fun _=>none) (fun _=> .inl rfl) (.inr ⟨_,vs.toArray,_,hk,rfl,rfl,rfl,by rw[EM,lenV];exact hl,by simpa using rv⟩) (fun b u z=>by have z':(none:Option HO)=some u:=z;cases z') (fun b z=>absurd rfl z) fun z=>absurd rfl z
 |none=>
  refine core (fun b=>if b=a then some (.frz {cls:= .type "list",data:= .seq vs.toArray} (.lst (ns.map V.int))) else none) (fun b=>?_) (.inl (.inr ⟨{cls:= .type "list",data:= .seq vs.toArray},if_pos rfl⟩)) (fun b u z=>?_) (fun b z=>?_) fun _=>hk
  ·by_cases hb:b=a
   ·exact .inr ⟨_,_,if_pos hb⟩
   ·exact .inl (if_neg hb)
  ·by_cases hb:b=a
   ·have z':=(if_pos hb).symm.trans z;cases z';subst hb;exact ⟨ha,by rw[E3];exact hl,vs,_,rv,ha⟩
   ·have z':=(if_neg hb).symm.trans z;cases z'
  ·by_cases hb:b=a
   ·exact hb
   ·exact absurd (if_neg hb) z
theorem wO {l:PySem.W.OpenLaw} {n k:Nat} {q:Program} {loose:HN} {XP:HG->Heap->Prop} {YP:World->Heap->Prop} {d:DefRec} {K:Params->D9} {CX:World->qc} {sp:World->Sp} {x:Str}
  (hn:l.most=some n) (hn2:n<=sizeLine) (hdf:d.params.defaults= []) (hr:bZ k callerA)
  (hY:∀(w:World) (h:Heap),YP w h->(K w.params).In h)
  (F:∀(w:World) (mg:HG) (fa:Addr) (h:Heap),(K w.params).In h->h.Ns mainGlobals mg->mg d.name=some (.ref fa)->
   ∃fd:FuncData,(∀(s:Shared) (u:Value),BindsTo s fd ⟨[u],[]⟩ [(x,u)])/\
    ∀base:Heap,(K w.params).In base->base.Ns mainGlobals mg->a8 l.prog w (K w.params) mg base (CX w) k fa fd [x] (sp w))
  (hsp:∀(w:World) (H:Hp) (a:Addr) (ns:List Int),ns.length<=n->zk H->aQ (K w.params) H a (ns.map V.int)->sp w [.ref a] H (fun v _=>v= .bl true) fun _ _ _=>False)
  (hCX:∀(w:World) (H:Hp) (s:Shared) (e:Value) (s':Shared),CX w [] H s (fun _ _ _=>False) e s'->False):
  PySem.W.WalkO q loose XP YP l.row.toRowW d [] (fun f vs=>PySem.call f vs):=by
 refine Att.om hn hdf fun w s₀ s₁ mg mb fa o pm cd doc a vs ns G Y ho hd hcd hmg hobj hints hlen hg=>?_
 have KX:=hY w _ Y;obtain ⟨fd,hb,hF⟩:=F w mg fa _ KX G.T.g hmg;exact uK KX G.T.g G.T.b G.T.builtins G.T.nolimit hg hobj hints (EX hlen hn2) hr hF hb (fun H hO hS=>hsp w H a ns hlen hO hS) fun H e s'=>hCX w H s₁ e s'
def dq (s:Stmt):Arguments:=match s with
 | .FunctionDef _ a _ _ _ _ _ _ _ _=>a
 |_=>{posonlyargs:= [],args:= [],vararg:=none,kwonlyargs:= [],kw_defaults:= [],kwarg:=none,defaults:= []}
def cG (s:Stmt):List Stmt:=match s with
 | .FunctionDef _ _ b _ _ _ _ _ _ _=>b
 |_=> []
def au (s:Stmt):Scope:=match s with
 | .FunctionDef _ _ _ _ _ _ sc _ _ _=>sc
 |_=>{kind:= .function,names:= [],isGenerator:=false,isCoroutine:=false}
abbrev bj:qc:=fun _ _ _ _ _ _=>False
abbrev E0:XK:=fun _ _ _=>False
theorem oo {X:Cx}:iZ bj X E0:=fun _ _ _ _ _ _ _ h=>h.elim
theorem cf {A:Around} {k:Nat} (hr:bZ k A):A.units+1<cLine:=Nat.lt_of_le_of_lt (Nat.add_le_add_left (by decide:1<=64) _) hr.units
variable {X:Cx}
theorem pv (i:Nat) {x:Str} {pos:Pos} (hN:X.N[i]?=some x:=by rfl) (hv:AO X.env.scope x:=by first|exact Or.inl rfl|exact Or.inr (Or.inl rfl)|exact Or.inr (Or.inr rfl)) (hd:(x==("__debug__" :Str))=false:=by decide)
  (hcd:(x==("__classdict__" :Str))=false:=by decide):PE X (.Name x pos) (wx i):=yT hN hv hd hcd
theorem b4 {A B:Prop} (h:B):if false=true then A else B:=by
 rw[if_neg EL];exact h
theorem cU {A B:Prop} (h:A):if true=true then A else B:=by
 rw[if_pos rfl];exact h
def ax (H H':Hp):Prop:=∀b o,H b=some o->H' b=some o
theorem ax.refl (H:Hp):ax H H:=fun _ _ h=>h
theorem ax.trans {H H1 H2:Hp} (a:ax H H1) (b:ax H1 H2):ax H H2:=fun c o h=>b c o (a c o h)
theorem ax.free {H H':Hp} (e:ax H H') {l:Addr} (h:H' l=Option.none):H l=Option.none:=by
 cases q:H l with
 |none=>rfl
 |some o=>
  rw[e l o q] at h;cases h
theorem ax.seq {K:D9} {H H':Hp} {a:Addr} {xs:List V} (e:ax H H') (h:aQ K H a xs):aQ K H' a xs:=by
 rcases h with (h|⟨o,h⟩)|h
 ·exact .inl (.inl (e _ _ h))
 ·exact .inl (.inr ⟨o,e _ _ h⟩)
 ·exact .inr h
theorem bN:fU X (binaryOp .Mult) (rI (fun i j=>IntMulOk i j) fun i j=> .int (i*j)):=CC fun _ _ _ _ _ _ _ hc q=>mul_int q hc
theorem bD:fU X (binaryOp .FloorDiv) (rI (fun i j=>j≠0/\Builtin.divisionGoesByPylong i j=false) fun i j=> .int (i.fdiv j)):=CC fun _ _ _ _ _ _ _ hc q=>floordiv_int hc.1 q (.inl hc.2)
theorem jE:fU X (binaryOp .Pow) (rI (fun i j=>0<=j/\(Builtin.Int.intBits i:Int)*j<=2^27) fun i j=> .int (i^j.toNat)):=CC fun _ _ _ _ _ _ _ hc q=>pow_int hc.1 hc.2 q
theorem oq:cE X (.builtin "isinstance") (fun xs H Q=>∃i,xs= [.int i,.ty "int"]/\Q (.bl true) H):=by
 intro pins s σ H xs us Q I r h;obtain ⟨i,rfl,q⟩:=h;obtain ⟨u,w',rfl,⟨t,rfl⟩,e2⟩:=vals2 r;cases e2;exact PySem.call_isinstance (PySem.isinstance_true (Tx:= "int") PySem.F.isi_meta_int PySem.F.isi_self_int) ⟨rfl,⟨.bl true,H,I,rfl,q⟩⟩
theorem mT:cE X (.builtin "isinstance") (fun xs H Q=>∃i,xs= [.int i,.ty "bool"]/\Q (.bl false) H):=by
 intro pins s σ H xs us Q I r h;obtain ⟨i,rfl,q⟩:=h;obtain ⟨u,w',rfl,⟨t,rfl⟩,e2⟩:=vals2 r;cases e2;exact PySem.call_isinstance (PySem.isinstance_false_int (T:= "bool") (by decide) PySem.F.isi_meta_bool PySem.F.sub_int_bool) ⟨.bl false,H,I.tok _,rfl,q⟩
theorem ot:cE X (.builtin "isinstance") (fun xs H Q=>∃i,xs= [.bl i,.ty "bool"]/\Q (.bl true) H):=by
 intro pins s σ H xs us Q I r h;obtain ⟨i,rfl,q⟩:=h;obtain ⟨u,w',rfl,e1,e2⟩:=vals2 r;cases e1;cases e2;exact PySem.call_isinstance (PySem.isinstance_true (Tx:= "bool") PySem.F.isi_meta_bool PySem.F.isi_self_bool) ⟨rfl,⟨.bl true,H,I,rfl,q⟩⟩
theorem ou:cE X (.builtin "isinstance") (fun xs H Q=>∃a ys,xs= [.ref a,.ty "tuple"]/\bS X.K H a ys/\Q (.bl true) H):=by
 intro pins s σ H xs us Q I r h;obtain ⟨a,ys,rfl,hs,q⟩:=h;obtain ⟨u,w',rfl,e1,e2⟩:=vals2 r;cases e1;cases e2;obtain ⟨its,_,p1,_⟩:=I.tuple hs;exact PySem.call_isinstance (PySem.isinstance_true (Tx:= "tuple") PySem.F.isi_meta_tuple PySem.F.isi_self_tuple) ⟨p1.typeIs,⟨.bl true,H,I,rfl,q⟩⟩
def Dj (K:D9) (g:Bool->Bool):R2:=fun x y H Q=>∃a b p q p' q',x= .ref a/\y= .ref b/\bS K H a [.int p,.int q]/\bS K H b [.int p',.int q']/\Q (.bl (g (decide (p=p'/\q=q')))) H
theorem zm (hu:X.A.units<cLine):fU X (compareOp .Eq) (Dj X.K id):=by
 intro pins s σ H x y v u Q I rx ry h;obtain ⟨a,b,p,q,p',q',rfl,rfl,h1,h2,hq⟩:=h;cases rx;cases ry;obtain ⟨its,r1,p1,_⟩:=I.tuple h1;obtain ⟨its2,r2,p2,_⟩:=I.tuple h2;obtain ⟨w1,w2,rfl,⟨t1,rfl⟩,⟨t2,rfl⟩⟩:=vals2 r1;obtain ⟨w3,w4,rfl,⟨t3,rfl⟩,⟨t4,rfl⟩⟩:=vals2 r2;refine SeqAt.eq_tupleAt (e:=fun j=>if j=0 then p==p' else q==q') p1 p2 hu ?_ ?_
 ·intro j hj1 hj2
  match j,hj1,hj2 with
  |0,_,_=>exact SeqAt.EqAt.int_int p t1 p' t3
  |1,_,_=>exact SeqAt.EqAt.int_int q t2 q' t4
 ·refine ⟨.bl (decide (p=p'/\q=q')),H,I,?_,hq⟩;show Value.bool _=Value.bool _
  congr 1
  by_cases e1:p=p'<;>by_cases e2:q=q'<;>simp[e1,e2,List.range,List.range.loop]
end L2
namespace Sw
open PySem
def Bd (n:Nat) (x:Int):Prop:=x.natAbs<2^n
theorem Bd.mono {m n:Nat} {x:Int} (h:Bd m x) (e:m<=n):Bd n x:=EQ h (Nat.pow_le_pow_right (by decide) e)
theorem Bd.of_le {n:Nat} {x y:Int} (h:Bd n y) (e:x.natAbs<=y.natAbs):Bd n x:=Nat.lt_of_le_of_lt e h
theorem Bd.mul {m n:Nat} {x y:Int} (h:Bd m x) (g:Bd n y):Bd (m+n) (x*y):=by
 unfold Bd at*;rw[Int.natAbs_mul,Nat.pow_add];exact Nat.mul_lt_mul_of_lt_of_le h (Nat.le_of_lt g) (Nat.lt_of_le_of_lt (EO _) g)
theorem Bd.add {k:Nat} {x y:Int} (h:Bd k x) (g:Bd k y):Bd (k+1) (x+y):=by
 unfold Bd at*;rw[Nat.pow_succ];generalize 2^k=p at h g⊢
 lia
theorem Bd.ok {m n:Nat} {x y:Int} (h:Bd m x) (g:Bd n y) (e:m+n<=134217728:=by decide):IntMulOk x y:=
 IntMulOk.of_le (intBits_le_iff.mpr h) (intBits_le_iff.mpr g) e
theorem Bd.div {n:Nat} {x y:Int} (h:Bd n y) (y0:y≠0) (e:n<=9000:=by decide):Builtin.divisionGoesByPylong x y=false:=by
 refine PyProof.noPylong_of_log2 ((Nat.log2_lt (by lia)).mpr ?_)
 exact EQ h (Nat.pow_le_pow_right (by decide) e)
theorem Bd.one:Bd 1 1:=by unfold Bd;decide
theorem Bd.zero:Bd 1 0:=by unfold Bd;decide
def bW (a b:Int):Int:=((Int.gcd a b:Nat):Int)
theorem wP (a b:Int):0<=bW a b:=Int.natCast_nonneg _
theorem qk (a b:Int):bW (-a) b=bW a b:=by unfold bW;rw[Int.neg_gcd]
theorem ql (a b:Int):bW a (-b)=bW a b:=by unfold bW;rw[Int.gcd_neg]
theorem lQ {g l:Int} (hl:0<l):bW l (g.fmod l)=bW g l:=by
 unfold bW;have e:g.fmod l=g-(g.fdiv l)*l:=by rw[Int.fmod_def,Int.mul_comm]
 rw[e,Int.gcd_comm l,Int.gcd_sub_mul_right_left]
def uL (i:Int):Int:=if i<0 then-i else i
theorem ro (i:Int):0<=uL i:=by unfold uL;split<;>lia
theorem uM (a b:Int):bW (uL a) (uL b)=bW a b:=by
 unfold uL
 split<;>split<;>simp only[qk,ql]
theorem lR {g:Int} (h:0<=g):bW g 0=g:=by
 unfold bW;rw[Int.gcd_zero_right];lia
theorem iF {a b:Int} (h:bW a b=0):a=0/\b=0:=by
 unfold bW at h;exact Int.gcd_eq_zero_iff.mp (by lia)
theorem jU (a b:Int):bW a b∣a:=Int.gcd_dvd_left ..
theorem gO (a b:Int):bW a b∣b:=Int.gcd_dvd_right ..
structure Fr (p q a b:Int):Prop where
 pos:0<q
 low:bW p q=1
 same:p*b=a*q
 bt:p.natAbs<=a.natAbs
 bb:q.natAbs<=b.natAbs
structure nS (p q:Int):Prop where
 pos:0<q
 low:bW p q=1
theorem Fr.to {p q a b:Int} (h:Fr p q a b):nS p q:=⟨h.pos,h.low⟩
theorem dB {p q k:Int} (h:bW p q=1) (d:q∣p*k):q∣k:=by
 have c:Int.gcd q p=1:=by unfold bW at h;rw[Int.gcd_comm];lia
 have d':q.natAbs∣p.natAbs*k.natAbs:=by rw[<-Int.natAbs_mul];exact Int.natAbs_dvd_natAbs.mpr d
 exact Int.natAbs_dvd_natAbs.mp (Nat.Coprime.dvd_of_dvd_mul_left (show Nat.Coprime q.natAbs p.natAbs from c) d')
theorem fz {p q p' q':Int} (h:nS p q) (h':nS p' q') (e:p*q'=p'*q):p=p'/\q=q':=by
 have d1:q∣q':=dB h.low (by rw[e];exact Int.dvd_mul_left ..)
 have d2:q'∣q:=dB h'.low (by rw[<-e];exact Int.dvd_mul_left ..)
 have eq:q=q':=by
  have n1:=Int.le_of_dvd h'.pos d1;have n2:=Int.le_of_dvd h.pos d2
  lia
 subst eq;exact ⟨Int.eq_of_mul_eq_mul_right (by have:=h.pos;lia) e,rfl⟩
def kP (a b:Int):Int:=if b<0 then-bW a b else bW a b
theorem qm {a b:Int} (h:b≠0):kP a b≠0:=by
 have g:bW a b≠0:=fun z=>h (iF z).2
 unfold kP;split<;>lia
theorem yB {a b:Int} (h:b≠0):Fr (a.fdiv (kP a b)) (b.fdiv (kP a b)) a b:=by
 have g:bW a b≠0:=fun z=>h (iF z).2
 have p:0<bW a b:=by have:=wP a b;lia
 have c0:=qm (a:=a) h;have da:kP a b∣a:=by
  unfold kP;split
  ·exact Int.neg_dvd.mpr (jU a b)
  ·exact jU a b
 have db:kP a b∣b:=by
  unfold kP;split
  ·exact Int.neg_dvd.mpr (gO a b)
  ·exact gO a b
 obtain ⟨x,hx⟩:=da;obtain ⟨y,hy⟩:=db;have ex:a.fdiv (kP a b)=x:=by
  conv=>lhs;arg 1;rw[hx]
  exact Int.mul_fdiv_cancel_left x c0
 have ey:b.fdiv (kP a b)=y:=by
  conv=>lhs;arg 1;rw[hy]
  exact Int.mul_fdiv_cancel_left y c0
 rw[ex,ey];have yp:0<y:=by
  have e:=hy;unfold kP at e;rcases (by lia:y<0∨y=0∨0<y) with q|q|q
  ·exfalso
   split at e
   ·rename_i hb;have:=Int.mul_neg_of_pos_of_neg p q;rw[Int.neg_mul] at e
    lia
   ·have:=Int.mul_neg_of_pos_of_neg p q
    lia
  ·rw[q] at hy;lia
  ·exact q
 have lowx:bW x y=1:=by
  have m:bW (kP a b*x) (kP a b*y)=bW a b*bW x y:=by
   show ((Int.gcd _ _:Nat):Int)=_*((Int.gcd x y:Nat):Int);rw[Int.gcd_mul_left,Int.natCast_mul]
   congr 1
   unfold kP;split<;>lia
  rw[<-hx,<-hy] at m;exact Int.eq_one_of_mul_eq_self_right g m.symm
 refine ⟨yp,lowx,?_,?_,?_⟩
 ·conv=>lhs;rw[hy]
  conv=>rhs;rw[hx]
  rw[<-Int.mul_assoc,Int.mul_comm x]
 ·have:a.natAbs=(kP a b).natAbs*x.natAbs:=by conv=>lhs;rw[hx];rw[Int.natAbs_mul]
  rw[this];exact Nat.le_mul_of_pos_left _ (by lia)
 ·have:b.natAbs=(kP a b).natAbs*y.natAbs:=by conv=>lhs;rw[hy];rw[Int.natAbs_mul]
  rw[this];exact Nat.le_mul_of_pos_left _ (by lia)
end Sw
namespace L2
open PySem
inductive Bg (K:D9) (H:Hp):V->String->Bool->Prop where
 |ii (i:Int):Bg K H (.int i) "int" true
 |ib (i:Int):Bg K H (.int i) "bool" false
 |bb (b:Bool):Bg K H (.bl b) "bool" true
 |tt (a:Addr) (ys:List V) (h:bS K H a ys):Bg K H (.ref a) "tuple" true
theorem ow {X:Cx}:cE X (.builtin "isinstance") (fun xs H Q=>∃x T b,xs= [x,.ty T]/\Bg X.K H x T b/\Q (.bl b) H):=by
 intro pins s σ H xs us Q I r h;obtain ⟨x,T,b,rfl,i,q⟩:=h;cases i with
 |ii i=>exact oq pins s σ H _ us Q I r ⟨i,rfl,q⟩
 |ib i=>exact mT pins s σ H _ us Q I r ⟨i,rfl,q⟩
 |bb i=>exact ot pins s σ H _ us Q I r ⟨i,rfl,q⟩
 |tt a ys h=>exact ou pins s σ H _ us Q I r ⟨a,ys,rfl,h,q⟩
end L2
namespace Sw
open PySem L2
theorem dT {p A B:Prop} [Decidable p] (h:p) (a:A):if decide p=true then A else B:=by rw[if_pos (decide_eq_true h)];exact a
theorem dF {p A B:Prop} [Decidable p] (h:¬p) (b:B):if decide p=true then A else B:=by rw[if_neg (by simp[h])];exact b
theorem d2 {p A B:Prop} [Decidable p] (h1:p->A) (h2:¬p->B):if decide p=true then A else B:=by
 by_cases h:p
 ·exact dT h (h1 h)
 ·exact dF h (h2 h)
theorem nT {p A B:Prop} [Decidable p] (h:¬p) (a:A):if (!decide p)=true then A else B:=by rw[if_pos (by simp[h])];exact a
theorem nF {p A B:Prop} [Decidable p] (h:p) (b:B):if (!decide p)=true then A else B:=by rw[if_neg (by simp[h])];exact b
theorem vi {a b:Int} (h:a=b):V.int a=V.int b:=by rw[h]
theorem vj {a b:Int} (h:V.int a=V.int b):a=b:=by cases h;rfl
theorem Bh {a b:Int} {A B:Prop} (h1:a=b->A) (h2:a≠b->B):if decide (V.int a=V.int b)=true then A else B:=d2 (fun h=>h1 (vj h)) fun h=>h2 fun e=>h (vi e)
theorem CF {a b:Int} {A B:Prop} (h1:a≠b->A) (h2:a=b->B):if (!decide (V.int a=V.int b))=true then A else B:=by
 by_cases h:a=b
 ·exact nF (vi h) (h2 h)
 ·exact nT (fun e=>h (vj e)) (h1 h)
theorem Dk {a b:Int} {A B:Prop} (h:a≠b) (x:B):if decide (V.int a=V.int b)=true then A else B:=dF (fun e=>h (vj e)) x
theorem D4 {a b:Int} {A B:Prop} (h:a≠b) (x:A):if (!decide (V.int a=V.int b))=true then A else B:=nT (fun e=>h (vj e)) x
theorem CG {a b:Int} {A B:Prop} (h:a=b) (x:B):if (!decide (V.int a=V.int b))=true then A else B:=nF (vi h) x
def uN:Sp:=fun vs H Q _=>∃a b:Int,vs= [.int a,.int b]/\Q (.int (bW a b)) H
def mW (K:D9):Sp:=fun vs H Q _=>∃(a:Addr) (ns:List Int) (k:Int),vs= [.ref a,.int k]/\aQ K H a (ns.map V.int)/\0<=k/\∀v:Int,Q (.int v) H
def rp:Sp:=fun vs H Q _=>∃v:Int,vs= [.int v]/\Q (.bl true) H
def rq (K:D9):Sp:=fun vs H Q _=>∃(a:Addr) (ns:List Int),vs= [.ref a]/\aQ K H a (ns.map V.int)/\ns.length<=63/\∀H',Q (.bl true) H'
theorem wQ {ns:List Int} {k:Int} (h0:0<=k) (h:k<(((ns.map V.int).length:Nat):Int)):∃v:Int,fw (ns.map V.int) k=some (.int v):=by
 rw[E3] at h;have hk:k.toNat<ns.length:=by lia
 have ek:k=((k.toNat:Nat):Int):=by lia
 have q:fw (ns.map V.int) ((k.toNat:Nat):Int)=some (.int ns[k.toNat]):=bI (by rw[EA,E1 hk]<;>rfl)
 rw[<-ek] at q;exact ⟨_,q⟩
theorem cut {t u:TS} {D:Ends} {σ:L2.St} {H:Hp} (I:L2.St->Hp->Prop) (h1:∀N:L2.St->Hp->Prop,(∀σ H,I σ H->N σ H)->t {D with nx:=N} σ H) (h2:∀σ H,I σ H->u D σ H):yU t u D σ H:=h1 _ h2
theorem Bi {K:D9} {H H':Hp} {a:Addr} {xs:List V} (e:ax H H') (h:bS K H a xs):bS K H' a xs:=by
 rcases h with (h|⟨o,h⟩)|h
 ·exact .inl (.inl (e _ _ h))
 ·exact .inl (.inr ⟨o,e _ _ h⟩)
 ·exact .inr h
theorem aj {H:Hp} {p:Addr} (h:H p=none) (o:HO):ax H (ay H p o):=fun b u q=>by rw[ag (a9 q h)];exact q
theorem wR {a b:Int} (h:0<b):kP a b=bW a b:=by unfold kP;rw[if_neg (by lia)]
theorem uO {n:Nat} {a b:Int} (b0:b≠0) (h:Bd n b):Bd n (kP a b):=by
 have d:bW a b∣b:=gO a b;have k:=Nat.le_of_dvd (by lia) (Int.natAbs_dvd_natAbs.mpr d)
 refine h.of_le ?_;unfold kP
 split<;>lia
def Pair (H:Hp) (Q:VK) (p q:Int):Prop:=∀(t:Addr) (H':Hp),ax H H'->H' t=some (.tup [.int p,.int q])->Q (.ref t) H'
def oz:Sp:=fun vs H Q _=>∃a b:Int,vs= [.int a,.int b]/\0<b/\Bd 8500 b/\∀p q:Int,Fr p q a b->Pair H Q p q
def sS:Sp:=fun vs H Q _=>∃a b:Int,vs= [.int a,.int b]/\b≠0/\Bd 8500 b/\∀p q:Int,Fr p q a b->Pair H Q p q
structure gF (K:D9) (n:Nat) (H:Hp) (t:Addr) (p q:Int):Prop where
 at_:bS K H t [.int p,.int q]
 pos:0<q
 bp:Bd n p
 bq:Bd n q
theorem gF.same {K:D9} {n:Nat} {H H':Hp} {t:Addr} {p q:Int} (h:gF K n H t p q) (e:ax H H'):gF K n H' t p q:=⟨Bi e h.at_,h.pos,h.bp,h.bq⟩
theorem gF.mono {K:D9} {m n:Nat} {H:Hp} {t:Addr} {p q:Int} (h:gF K m H t p q) (e:m<=n):gF K n H t p q:=⟨h.at_,h.pos,h.bp.mono e,h.bq.mono e⟩
structure bA (K:D9) (x qual:Str) (st:Stmt) (dV:Value) (f:Addr) (fd:FuncData):Prop where
 ex:∃(oc:Value) (od:HR) (kV doc pm:Value) (an:HR) (cdv ct:Value) (osl:HM),
  fd=Es x qual (dq st) (cG st) (au st) dV kV doc pm an cdv ct/\K.lookup f=some ⟨oc,od,.func fd,osl⟩/\FF K cdv qual=true
 kp:En K (.ref f)=true
section
variable {P:Program} {w:World} {K:D9} {mg:HG} {base:Heap}
theorem bA.ok {x qual:Str} {st:Stmt} {dV:Value} {f:Addr} {fd:FuncData} {N ps:HN} {k:Nat} {sp:Sp} (F:bA K x qual st dV f fd) (S:aB N ps (au st)) (len:∀vs H Q E,sp vs H Q E->vs.length=ps.length)
  (hbody:∀(cdv:Value) (A:Around) (outer:List Env) (s:Shared) (H:Hp) (vs:List V) (Q:VK) (E:XK),bZ k (A.deeper (PyProof.Rows.envOfC qual (au st) s.heap.objs.size f cdv))->sp vs H Q E->
   ∃t,kO (i5 bj P w K mg base N qual (au st) f cdv A outer s H E).nox (cG st) t/\t {nx:=fun _ H'=>Q .non H',rt:=Q} (start N vs) H):a8 P w K mg base bj (k+1) f fd ps sp:=by
 obtain ⟨oc,od,kV,doc,pm,an,cdv,ct,osl,rfl,lk,hcd⟩:=F.ex;refine yx lk hcd S len fun A outer s H vs Q E hr hsp=>?_
 obtain ⟨t,h,q⟩:=hbody cdv A outer s H vs Q E hr hsp;exact ⟨t,h.nox,q⟩
theorem bA.binds {x qual:Str} {st:Stmt} {T:Addr} {f:Addr} {fd:FuncData} {ps:HN} {o:Obj} {items:Array Value} {n:Nat} {ds:HQ} (F:bA K x qual st (.ref T) f fd) (ho:K.lookup T=some o) (hs:o.data= .seq items n)
  (h:∀(kV doc pm:Value) (an:HR) (cdv ct:Value) (us:HQ),(us++ds).length=ps.length->∃k:Option (Array Value)->Sem (List (Str×Value)),bindArgs (Es x qual (dq st) (cG st) (au st) (.ref T) kV doc pm an cdv ct) ⟨us,[]⟩=seqItems? (.ref T)>>=k/\k (some items)=pure (ps.zip (us++ds))):Binds K fd ps ds:=by
 obtain ⟨oc,od,kV,doc,pm,an,cdv,ct,osl,rfl,lk,hcd⟩:=F.ex;intro s us KX hl;obtain ⟨k,h1,h2⟩:=h kV doc pm an cdv ct us hl;exact PySem.W.binds_K KX rfl ho hs h1 h2
theorem bA.binds0 {x qual:Str} {st:Stmt} {dV:Value} {f:Addr} {fd:FuncData} {ps:HN} (F:bA K x qual st dV f fd)
  (h:∀(kV doc pm:Value) (an:HR) (cdv ct:Value) (us:HQ),us.length=ps.length->bindArgs (Es x qual (dq st) (cG st) (au st) dV kV doc pm an cdv ct) ⟨us,[]⟩=pure (ps.zip us)):Binds K fd ps []:=by
 obtain ⟨oc,od,kV,doc,pm,an,cdv,ct,osl,rfl,lk,hcd⟩:=F.ex;exact .all (h kV doc pm an cdv ct)
theorem fA {x qual:Str} {st:Stmt} {f:Addr} {oc dV:Value} {od an:HR} {osl:HM} {kV doc pm cdv ct:Value} (l:K.lookup f=some ⟨oc,od,.func (Es x qual (dq st) (cG st) (au st) dV kV doc pm an cdv ct),osl⟩)
  (c:FF K cdv qual=true) (k:En K (.ref f)=true):bA K x qual st dV f (Es x qual (dq st) (cG st) (au st) dV kV doc pm an cdv ct):=⟨⟨oc,od,kV,doc,pm,an,cdv,ct,osl,rfl,l,c⟩,k⟩
end
def qo (K:D9):Sp:=fun vs H Q _=>∃(t t':Addr) (p q p' q':Int),vs= [.ref t,.ref t']/\gF K 4000 H t p q/\gF K 4000 H t' p' q'/\∀r s:Int,Fr r s (p*p') (q*q')->Pair H Q r s
theorem gP {x y k:Int} (h:x*k=y*k) (k0:k≠0):x=y:=Int.eq_of_mul_eq_mul_right k0 h
theorem uP {x y:Int} (h:0<x) (g:0<y):x*y≠0:=by have:=F6 h g;lia
end Sw
namespace XH
open PySem
structure Mv (fs ch:HP) (h h':Heap):Prop where
 keep:∀b o,b∉fs->b∉ch->h.get? b=some o->h'.get? b=some o
 slot:∀b o,b∈fs->b∉ch->h.get? b=some o->∃sl,h'.get? b=some {o with slots:=sl}
 there:∀b o,h.get? b=some o->∃o',h'.get? b=some o'
theorem Mv.refl (fs ch:HP) (h:Heap):Mv fs ch h h:=⟨fun _ _ _ _ q=>q,fun _ o _ _ q=>⟨o.slots,q⟩,fun _ o q=>⟨o,q⟩⟩
theorem Mv.trans {fs c1 c2 ch:HP} {h h1 h2:Heap} (x:Mv fs c1 h h1) (y:Mv fs c2 h1 h2) (k1:∀b,b∈c1->b∈ch) (k2:∀b,b∈c2->b∈ch):Mv fs ch h h2 where
 keep:=fun b o hf hc q=>y.keep b o hf (fun z=>hc (k2 b z)) (x.keep b o hf (fun z=>hc (k1 b z)) q)
 slot:=fun b o hf hc q=>by
  obtain ⟨sl,q1⟩:=x.slot b o hf (fun z=>hc (k1 b z)) q
  obtain ⟨sl2,q2⟩:=y.slot b _ hf (fun z=>hc (k2 b z)) q1
  exact ⟨sl2,q2⟩
 there:=fun b o q=>by
  obtain ⟨o1,q1⟩:=x.there b o q;exact y.there b o1 q1
inductive yC where
 |new
 |fl (v:Value)
def yC.Is (F:Addr->Prop) (h:Heap) (e:Addr) (vs:Array Value):yC->Prop
 | .new=>vs[1]?=some .none
 | .fl v=>∃T oT ts,vs[1]?=some (.ref T)/\F T/\T≠e/\h.get? T=some oT/\oT.data= .fields ts/\ts[3]?=some v
def Fz (vs:Array Value):Prop:=1<vs.size/\vs[2]?=some .none
theorem Fz.set {vs:Array Value} (h:Fz vs) (v:Value):Fz (vs.setIfInBounds 1 v):=⟨by simpa using h.1,by rw[Array.getElem?_setIfInBounds];simp[h.2]⟩
structure XO (F:Addr->Prop) (h:Heap) (e:Addr) (cls:Value) (dx:HR) (st:yC):Prop where
 ex:∃oe vs,h.get? e=some oe/\oe.cls=cls/\oe.dict=dx/\oe.data= .fields vs/\Fz vs/\st.Is F h e vs
 fr:F e
theorem XO.mono {F G:Addr->Prop} {h:Heap} {e:Addr} {cls:Value} {dx:HR} {st:yC} (x:XO F h e cls dx st) (k:∀b,F b->G b):XO G h e cls dx st:=by
 obtain ⟨⟨oe,vs,a,b,c,d,f,g⟩,fr⟩:=x;refine ⟨⟨oe,vs,a,b,c,d,f,?_⟩,k _ fr⟩;cases st with
 |new=>exact g
 |fl v=>
  obtain ⟨T,oT,ts,g1,g2,g3⟩:=g;exact ⟨T,oT,ts,g1,k _ g2,g3⟩
theorem lS (o:Obj) (f:Array Value->Array Value):(o.mapFields f).dict=o.dict:=by
 obtain ⟨c,d,dt,sl⟩:=o;cases dt<;>rfl
section
variable {M:Model} {A:Around} {E:HF} {s:Shared}
theorem oA {base:Heap} {env:Env} {outer:List Env} {L e:Addr} {oe:Obj} {vs:Array Value} {head:Value} {had:Bool} {Q:Unit->Shared->Prop}
  (hfr:A.frames=some (env::outer)) (hl:s.heap.FunFrames base (env::outer)) (hf:env.frame=some L) (he:s.heap.get? e=some oe) (hd:oe.data= .fields vs) (hsz:1<vs.size)
  (h:∀h' T,Mv ((env::outer).filterMap (·.frame)) [e] s.heap h'->s.heap.get? T=none->T≠e->h'.get? e=some (oe.mapFields (·.setIfInBounds 1 (.ref T)))->
   (∃oT ts,h'.get? T=some oT/\oT.data= .fields ts/\ts[3]?=some (rawInt L))->Q () {s with heap:=h'}):
  wpAny M A (do let a<-frameOf env;let pl<-entryPlaceOf L had;let b<-EntryCells.newEntry head a .none (rawInt L) .none pl;setField (.ref e) 1 b) Q E s:=by
 have hne:e∉(env::outer).filterMap (·.frame):=by
  intro hm;obtain ⟨_,o,ho,hnf⟩:=hl.mem hm;rw[he] at ho;cases ho;exact hnf vs hd
 apply wpAny_bind;apply wpAny_frameOf_fun hfr hl hf;intro h1 hs;apply wpAny_bind;apply wpAny_entryPlaceOf;intro pl hpl;unfold EntryCells.newEntry newFields;apply wpAny_bind;refine wpAny_newObj_type ?_ (hpl.sizeOk5 ..);have e1:h1.get? e=some oe:=(hs.2.1 e hne).trans he;generalize hob:({cls:= .type "traceback",dict:=none,data:= .fields ([head,.ref L,.none,rawInt L,.none]++(if pl.isEmpty then List.replicate 6 Value.none else pl)).toArray}:Obj)=ob
 have e2:=Heap.get?_push_of_some (h:=h1) ob e1;refine wpAny_setField e2 hd hsz ?_;have hTe:h1.objs.size≠e:=Nat.ne_of_gt (Heap.lt_size e1);have d3:=Obj.data_mapFields hd (·.setIfInBounds 1 (Value.ref h1.objs.size));have e3:=Heap.get?_update_self (Obj.mapFields (·.setIfInBounds 1 (Value.ref h1.objs.size))) e2 (Obj.isFreed_of_fields d3);have kp:∀b o,b≠e->h1.get? b=some o->((h1.push ob).update e (Obj.mapFields (·.setIfInBounds 1 (Value.ref h1.objs.size)))).get? b=some o:=by
  intro b o hb q;rw[Heap.get?_update_other _ _ (Ne.symm hb)];exact Heap.get?_push_of_some _ q
 have t3:((h1.push ob).update e (Obj.mapFields (·.setIfInBounds 1 (Value.ref h1.objs.size)))).get? h1.objs.size=some ob:=by
  rw[Heap.get?_update_other _ _ (Ne.symm hTe)];exact Heap.get?_push_size h1 (by rw[<-hob];rfl)
 refine h _ h1.objs.size ⟨?_,?_,?_⟩ ?_ hTe e3 ?_
 ·intro b o hb hc q;exact kp b o (fun z=>hc (by rw[z];exact E9.mpr rfl)) ((hs.2.1 b hb).trans q)
 ·intro b o hb hc q;obtain ⟨sl,q1⟩:=hs.2.2 b o q;exact ⟨sl,kp b _ (fun z=>hc (by rw[z];exact E9.mpr rfl)) q1⟩
 ·intro b o q
  by_cases hb:b=e
  ·subst hb;exact ⟨_,e3⟩
  ·obtain ⟨sl,q1⟩:=hs.2.2 b o q;exact ⟨_,kp b _ hb q1⟩
 ·exact Heap.get?_none_of_le (by rw[hs.1];exact E4 _)
 ·subst hob;refine ⟨_,_,t3,rfl,?_⟩;rcases hpl with rfl|⟨_,_,_,_,_,_,_,rfl⟩<;>simp
theorem sT {F:Addr->Prop} {e:Addr} {cls v:Value} {dx fl:HR} {Q:Unit->Shared->Prop} (x:XO F s.heap e cls dx (.fl v))
  (h:∀h' T,F T->Mv [] [T] s.heap h'->XO F h' e cls dx (.fl (fl.elim .none fun f=>rawInt f))->Q () {s with heap:=h'}):wpAny M A (setFlight (.ref e) fl) Q E s:=by
 obtain ⟨⟨oe,vs,he,hc,hdx,hd,hsz,T,oT,ts,h1,hF,hTe,hT,hdT,h3⟩,fr⟩:=x;have z3:3<ts.size:=(Array.getElem?_eq_some_iff.mp h3).1;have oth:∀b,b≠T->(s.heap.update T (Obj.mapFields (·.setIfInBounds 3 (fl.elim Value.none fun f=>rawInt f)))).get? b=s.heap.get? b:=fun b hb=>Heap.get?_update_other _ _ (Ne.symm hb)
 have t4:=Heap.get?_update_self (Obj.mapFields (·.setIfInBounds 3 (fl.elim Value.none fun f=>rawInt f))) hT (Obj.isFreed_of_fields (Obj.data_mapFields hdT _))
 unfold setFlight;apply wpAny_bind;apply wpAny_field he hd h1;rw[if_pos (by simp)]
 apply wpAny_setField hT hdT z3;refine h _ T hF ⟨?_,fun b o hb=>absurd hb (by simp),?_⟩ ⟨⟨oe,vs,(oth e (Ne.symm hTe)).trans he,hc,hdx,hd,hsz,T,_,_,h1,hF,hTe,t4,Obj.data_mapFields hdT _,by simp[z3]⟩,fr⟩
 ·intro b o _ hb q;exact (oth b (fun z=>hb (by rw[z];exact E9.mpr rfl))).trans q
 ·intro b o q
  by_cases hb:b=T
  ·subst hb;exact ⟨_,t4⟩
  ·exact ⟨o,(oth b hb).trans q⟩
theorem wS {F:Addr->Prop} {base:Heap} {env:Env} {outer:List Env} {L e:Addr} {cls:Value} {dx:HR} {st:yC} {Q:Unit->Shared->Prop}
  (hfr:A.frames=some (env::outer)) (hl:s.heap.FunFrames base (env::outer)) (hf:env.frame=some L) (x:XO F s.heap e cls dx st)
  (h:∀h' ch,(∀b∈ch,F b)->Mv ((env::outer).filterMap (·.frame)) ch s.heap h'->XO (fun b=>F b∨s.heap.get? b=none) h' e cls dx (.fl (rawInt L))->Q () {s with heap:=h'}):wpAny M A (noteFrame (.ref e) env) Q E s:=by
 obtain ⟨⟨oe,vs,he,hc,hdx,hd,hsz,hst⟩,fr⟩:=x;unfold noteFrame;simp only[hf];cases st with
 |new=>
  apply wpAny_bind;apply wpAny_field he hd hst;rw[if_neg (by decide)]
  refine oA hfr hl hf he hd hsz.1 fun h' T mv tn tne he' ⟨oT,ts,hT,hdT,h3⟩=>?_
  refine h h' [e] (fun b hb=>by rw[E9.mp hb];exact fr) mv ⟨⟨_,_,he',?_,?_,Obj.data_mapFields hd _,hsz.set _,T,oT,ts,by simp[hsz.1],.inr tn,tne,hT,hdT,h3⟩,.inl fr⟩
  ·rw[Obj.cls_mapFields];exact hc
  ·rw[lS];exact hdx
 |fl v=>
  obtain ⟨T,oT,ts,h1,hF,hTe,hT,hdT,h3⟩:=hst;have z3:3<ts.size:=(Array.getElem?_eq_some_iff.mp h3).1;apply wpAny_bind;apply wpAny_field he hd h1;rw[if_pos (by simp)]
  apply wpAny_bind;apply wpAny_field hT hdT h3
  by_cases hv:(v==rawInt L)=true
  ·rw[if_pos hv];have ev:v=rawInt L:=beq_iff_eq.mp hv;subst ev;refine wpAny_pure (h s.heap [] (fun b hb=>absurd hb (by simp)) (.refl ..) ⟨⟨oe,vs,he,hc,hdx,hd,hsz,T,oT,ts,h1,.inl hF,hTe,hT,hdT,h3⟩,.inl fr⟩)
  ·rw[if_neg hv];apply wpAny_bind;apply wpAny_setField hT hdT z3;have oth:∀b,b≠T->(s.heap.update T (Obj.mapFields (·.setIfInBounds 3 Value.none))).get? b=s.heap.get? b:=fun b hb=>Heap.get?_update_other _ _ (Ne.symm hb)
   have t4:=Heap.get?_update_self (Obj.mapFields (·.setIfInBounds 3 Value.none)) hT (Obj.isFreed_of_fields (Obj.data_mapFields hdT _));have nrec:∀b o,s.heap.get? b=some o->(∀vs,o.data≠ .fields vs)->b≠T:=by
    intro b o hb hn z;rw[z,hT] at hb;cases hb;exact hn ts hdT
   have mv1:Mv ((env::outer).filterMap (·.frame)) [T] s.heap (s.heap.update T (Obj.mapFields (·.setIfInBounds 3 Value.none))):=by
    refine ⟨fun b o _ hb q=>(oth b (fun z=>hb (by rw[z];exact E9.mpr rfl))).trans q,fun b o _ hb q=>⟨o.slots,(oth b (fun z=>hb (by rw[z];exact E9.mpr rfl))).trans q⟩,fun b o q=>?_⟩
    by_cases hb:b=T
    ·subst hb;exact ⟨_,t4⟩
    ·exact ⟨o,(oth b hb).trans q⟩
   refine oA (s:={s with heap:=s.heap.update T (Obj.mapFields (·.setIfInBounds 3 Value.none))}) hfr (hl.of_keeps fun b o hb hn=>⟨o,(oth b (nrec b o hb hn)).trans hb,rfl⟩) hf ((oth e (Ne.symm hTe)).trans he) hd hsz.1 fun h' T2 mv tn tne he' ⟨oT2,ts2,hT2,hdT2,h32⟩=>?_
   refine h h' [T,e] ?_ (mv1.trans mv (fun b hb=>by simp at hb;simp[hb]) (fun b hb=>by simp at hb;simp[hb])) ⟨⟨_,_,he',?_,?_,Obj.data_mapFields hd _,hsz.set _,T2,oT2,ts2,by simp[hsz.1],.inr ?_,tne,hT2,hdT2,h32⟩,.inl fr⟩
   ·intro b hb;simp at hb;rcases hb with rfl|rfl
    ·exact hF
    ·exact fr
   ·rw[Obj.cls_mapFields];exact hc
   ·rw[lS];exact hdx
   ·cases q:s.heap.get? T2 with
    |none=>rfl
    |some o=>
     obtain ⟨o',q'⟩:=mv1.there T2 o q;rw[q'] at tn;cases tn
end
end XH
namespace L2
open PySem PySem.Spec PyProof.Rows XH
structure fY (P:Program) (w:World) (outer:List Env) (H:Hp) (s:Shared) (a:Addr) (H':Hp) (cls:Value) (dx:HR) (st:yC) (s':Shared):Prop where
 os:s'.os=s.os
 bare:AllBare s'.gens
 un:Un (jn outer) [] H H' s.heap s'.heap
 hok:eI P w H' s'.heap
 xo:XO (fun b=>s.heap.get? b=none/\H' b=none) s'.heap a cls dx st
def dZ (P:Program) (w:World):qc:=fun outer H s E e s'=>∃a H' cls dx st,e= .ref a/\fY P w outer H s a H' cls dx st s'/\E cls dx H'
section
variable {P:Program} {w:World} {H H':Hp} {h h' h0:Heap} {fs ch:HP} {a:Addr} {o:HO}
theorem a7.there (x:a7 P w H h a o):∃u,h.get? a=some u:=by
 cases o with
 |lst xs=>obtain ⟨_,_,_,_,e⟩:=x;exact ⟨_,e⟩
 |tup xs=>obtain ⟨_,_,_,_,e,_⟩:=x;exact ⟨_,e⟩
 |dK kvs=>obtain ⟨_,_,_,_,_,_,_,e,_⟩:=x;exact ⟨_,e⟩
 |dT kvs=>obtain ⟨_,_,_,_,_,_,_,e,_⟩:=x;exact ⟨_,e⟩
 |set S n=>obtain ⟨_,_,_,_,e,_⟩:=x;exact ⟨_,e⟩
 |ins C dx fs=>obtain ⟨_,_,_,e,_⟩:=x;exact ⟨_,e⟩
 |own y=>exact x
 |xd fs=>obtain ⟨_,⟨_,_,_,e,_⟩,_⟩:=x;exact ⟨_,e⟩
 |rng lo hi=>obtain ⟨_,_,_,e⟩:=x;exact ⟨_,e⟩
 |frz ob u=>obtain ⟨e,_⟩:=x;exact ⟨_,e⟩
 |tbl ps=>exact ⟨_,show h.get? a=some _ from x⟩
 |met f y=>exact ⟨_,show h.get? a=some _ from x⟩
 |ext φ=>obtain ⟨_,⟨_,e⟩,_⟩:=x;exact ⟨_,e⟩
theorem eI.none_of (k:eI P w H h) (q:h.get? a=none):H a=none:=by
 cases r:H a with
 |none=>rfl
 |some o=>
  obtain ⟨u,e⟩:=(k a o r).there;rw[q] at e;cases e
theorem yD (u:Un fs [] H H' h0 h) (m:Mv fs ch h h') (hc:∀b∈ch,h0.get? b=none):Un fs [] H H' h0 h' where
 keep:=fun b o q n hb hx=>m.keep b o hb (fun z=>by rw[hc b z] at q;cases q) (u.keep b o q n hb hx)
 slot:=fun b o q n hb hx=>by
  obtain ⟨sl,q1⟩:=u.slot b o q n hb hx;obtain ⟨sl2,q2⟩:=m.slot b _ hb (fun z=>by rw[hc b z] at q;cases q) q1
  exact ⟨sl2,q2⟩
 free:=u.free
 there:=fun b o q hx=>by
  obtain ⟨o1,q1⟩:=u.there b o q hx;exact m.there b o1 q1
 tups:=u.tups
 frzs:=u.frzs
 tbls:=u.tbls
theorem uQ (k:eI P w H h) (m:Mv fs ch h h') (hc:∀b∈ch,H b=none) (hf:∀b∈fs,H b=none):eI P w H h':=fun a o e=>
 (k a o e).stay (fun b u hb q=>by
  have t:H b≠none:=by
   rcases hb with z|z
   ·rw[z,e];exact fun y=>nomatch y
   ·rw[z];exact fun y=>nomatch y
  exact m.keep b u (fun z=>t (hf b z)) (fun z=>t (hc b z)) q) (fun _ q=>q) fun _ _ q=>q
theorem _root_.XH.Mv.wider (m:Mv [] ch h h'):Mv fs ch h h':=⟨fun b o _ hc q=>m.keep b o (by simp) hc q,fun b o _ hc q=>⟨o.slots,m.keep b o (by simp) hc q⟩,m.there⟩
theorem rA {base:Heap} (u:Un fs [] H H' h h'):∀{l:List Env},h.FunFrames base l->(∀b∈jn l,b∈fs/\H b=none)->h'.FunFrames base l
 | [],_,_=>trivial
 |env::r,⟨hk,⟨L,o,hf,hn,ho,hd⟩,hr⟩,hs=>by
  have hL:L∈jn (env::r):=by unfold jn;rw[Ff,hf];exact F7
  obtain ⟨sl,e⟩:=u.slot L o ho (hs L hL).2 (hs L hL).1 (by simp)
  exact ⟨hk,⟨L,_,hf,hn,e,hd⟩,rA u hr fun b hb=>hs b (by unfold jn;rw[Ff,hf];exact Ea _ hb)⟩
end
section
variable {P:Program} {w:World} {H H':Hp} {s s':Shared} {a L:Addr} {cls v:Value} {dx:HR} {st:yC} {env:Env} {outer:List Env} {base:Heap} {M:Model} {A:Around} {Z:HF} {Q:Unit->Shared->Prop}
theorem fY.frees (c:fY P w outer H s a H' cls dx st s') (hl:s.heap.FunFrames base outer) (hH:∀b∈jn outer,H b=none):∀b∈jn outer,H' b=none:=fun b hb=>by
 obtain ⟨_,o,ho,_⟩:=hl.mem hb;exact c.un.free b o ho (hH b hb) (by simp)
theorem fY.note (c:fY P w (env::outer) H s a H' cls dx st s') (hfr:A.frames=some (env::outer)) (hf:env.frame=some L) (hl:s.heap.FunFrames base (env::outer)) (hH:∀b∈jn (env::outer),H b=none)
  (h:∀s'',fY P w (env::outer) H s a H' cls dx (.fl (rawInt L)) s''->Q () s''):wpAny M A (noteFrame (.ref a) env) Q Z s':=by
 refine wS hfr (rA c.un hl fun b hb=>⟨hb,hH b hb⟩) hf c.xo fun h' ch hch mv x=>h _ ?_
 refine ⟨c.os,c.bare,yD c.un mv fun b hb=>(hch b hb).1,uQ c.hok mv (fun b hb=>(hch b hb).2) (c.frees hl hH),x.mono ?_⟩
 rintro b (q|q)
 ·exact q
 ·refine ⟨?_,c.hok.none_of q⟩;cases r:s.heap.get? b with
  |none=>rfl
  |some o=>
   obtain ⟨o',r'⟩:=c.un.there b o r (by simp)
   rw[r'] at q;cases q
theorem fY.flight {fl:HR} (c:fY P w outer H s a H' cls dx (.fl v) s') (hl:s.heap.FunFrames base outer) (hH:∀b∈jn outer,H b=none)
  (h:∀s'',fY P w outer H s a H' cls dx (.fl (fl.elim .none fun f=>rawInt f)) s''->Q () s''):wpAny M A (setFlight (.ref a) fl) Q Z s':=by
 refine sT c.xo fun h' T hT mv x=>h _ ⟨c.os,c.bare,yD c.un mv.wider fun b hb=>?_,uQ c.hok (mv.wider (fs:=jn outer)) (fun b hb=>?_) (c.frees hl hH),x⟩
 ·rw[E9.mp hb];exact hT.1
 ·rw[E9.mp hb];exact hT.2
end
def XS (X:Cx) (E:St->XK):Value->Shared->Prop:=fun e s'=>∃σ H0 s0,aE X [] σ H0 s0/\dZ X.prog X.w X.stack H0 s0 (E σ) e s'
def gK (X:Cx) (E:St->XK):Prop:=∀(pins:HL) (σ:St) (H:Hp) (s:Shared) (e:Value) (s':Shared),aE X pins σ H s->dZ X.prog X.w X.stack H s (E σ) e s'->X.xe e s'
theorem cY {X:Cx} {E:St->XK}:gK (X.wish (XS X E)) E:=fun pins σ H s e s' I c=>⟨σ,H,s,I.unwish.pins_of (fun p hp=>absurd hp (by simp)),c⟩
def qp (sp:Sp) (dvs:List V) (E:St->XK) (t:TA):TE:=fun σ H Q=>t σ H fun vs H1=>sp (vs++dvs) H1 Q (E σ)
section
variable {X:Cx} {k:Nat} {f C:Addr} {fd:FuncData} {ps:HN} {sp:Sp} {dvs:List V} {ds:HQ} {E:St->XK} {x m:Str} {p pos apos:Pos} {e o:Expr} {es:List Expr} {ta:TE} {t:TA}
theorem rB {pins:HL} {σ:St} {H:Hp} {s:Shared} {Q:VK} {us:HQ} {vs:List V} (F:a8 X.prog X.w X.K X.mg X.base (dZ X.prog X.w) k f fd ps sp) (hr:bZ k X.A) (hb:Binds X.K fd ps ds) (hd:aT dvs ds) (hx:gK X E)
  (I:aE X pins σ H s) (r:aT vs us) (h:sp (vs++dvs) H Q (E σ)):wpAny (model X.prog X.w) X.A (call (.ref f) us) (EP X pins σ Q) X.xe s:=by
 have r2:aT (vs++dvs) (us++ds):=r.append hd;have hl:(us++ds).length=ps.length:=by rw[<-r2.length];exact F.len _ _ _ _ h
 refine wpAny_call (codeAny_mono (F.run X.A X.stack s H ⟨us,[]⟩ (us++ds) (vs++dvs) Q (E σ) hr I.env0 (hb s us I.kIn hl) r2 h) fun r s' hq=>?_)
 cases r with
 |error e=>exact hx pins σ H s e s' I hq
 |ok fl=>
  cases fl with
  |ret u=>exact I.after hq
  |next=>exact False.elim hq
  |brk=>exact False.elim hq
  |cont=>exact False.elim hq
theorem oB (F:a8 X.prog X.w X.K X.mg X.base (dZ X.prog X.w) k f fd ps sp) (hr:bZ k X.A) (hg:Gl X x) (hm:X.mg x=some (.ref f)) (hk:En X.K (.ref f)=true) (hb:Binds X.K fd ps ds) (hd:aT dvs ds) (hx:gK X E)
  (ha:PA X (e::es) t) (hdb:(x==("__debug__" :Str))=false:=by decide) (he:starEach (e::es) X.env=(false,eval e X.env)::starEach es X.env:=by rfl) (hpl:(backTo pos (starEach es X.env)).any (·.1)=false:=by rfl):
  PE X (.Call (.Name x p) (e::es) [] pos) (qp sp dvs E t):=by
 intro pins s σ H Q I h;refine wpAny_Call_Name_kw (dJ I hg hm ?_ hdb);refine FH (h₀:=X.base) I.ok.mod.kin hk (bu (ha pos pins s σ H _ I h) fun us s1 ⟨vs,H1,I1,r,q⟩=>⟨I1.kIn,?_⟩) he hpl
 exact rB F hr hb hd hx I1 r q
end
theorem kO.toX {X:Cx} {E':HF} {st:List Stmt} {t:TS} (h:kO (X.wish E') st t) (k:∀e s,E' e s->X.xe e s):kO X st t:=fun pins s σ H D I hw=>
 wpAny_mono (h pins s σ H D (I.wish _) hw) (fun _ _ q=>q.unwish) fun e s z=>k e s z
section
variable {P:Program} {w:World} {K:D9} {mg:HG} {base:Heap}
theorem uR {N:HN} {qual:Str} {scope:Scope} {f:Addr} {cd:Value} {A:Around} {outer:List Env} {s:Shared} {H:Hp} {E:XK} {e:Value} {s':Shared}
  (h:XS (i5 (dZ P w) P w K mg base N qual scope f cd A outer s H E) (fun _=>E) e s'):(i5 (dZ P w) P w K mg base N qual scope f cd A outer s H E).xe e s':=by
 obtain ⟨σ,H0,s0,I,a,H',cls,dx,st,rfl,c,hE⟩:=h;show wpAny (model P w) (A.deeper (envOfC qual scope s.heap.objs.size f cd)) (leaving (envOfC qual scope s.heap.objs.size f cd) (.ref a)) (fun _ s''=>dZ P w outer H s E (.ref a) s'') (fun e' s''=>dZ P w outer H s E e' s'') s'
 unfold leaving;apply wpAny_bind;refine c.note (L:=s.heap.objs.size) I.ok.frames rfl I.stack I.stkFree fun s1 c1=>?_
 refine c1.flight I.stack I.stkFree fun s2 c2=>?_
 have J:=I.call' c2.os c2.un c2.hok c2.bare (fun b z=>absurd z (by simp))
 refine ⟨a,H',cls,dx,_,rfl,⟨J.os,c2.bare,J.base,c2.hok,c2.xo.mono fun b q=>⟨?_,q.2⟩⟩,hE⟩
 cases r:s.heap.get? b with
 |none=>rfl
 |some o=>
  obtain ⟨o',r'⟩:=I.base.there b o r (fun z=>absurd (show b∈([]:HP) from z) (by simp))
  rw[q.1] at r';cases r'
theorem zp {k:Nat} {f:Addr} {name qual:Str} {params:Arguments} {body:List Stmt} {scope:Scope} {dV kV doc pm cdv ct oc:Value} {an od:HR}
  {osl:HM} {N ps:HN} {sp:Sp} (lk:K.lookup f=some ⟨oc,od,.func (Es name qual params body scope dV kV doc pm an cdv ct),osl⟩) (hcd:FF K cdv qual=true) (S:aB N ps scope)
  (len:∀vs H Q E,sp vs H Q E->vs.length=ps.length)
  (hbody:∀(A:Around) (outer:List Env) (s:Shared) (H:Hp) (vs:List V) (Q:VK) (E:XK),bZ k (A.deeper (envOfC qual scope s.heap.objs.size f cdv))->sp vs H Q E->
   ∃t,kO ((i5 (dZ P w) P w K mg base N qual scope f cdv A outer s H E).wish (XS (i5 (dZ P w) P w K mg base N qual scope f cdv A outer s H E) fun _=>E)) body t/\t {nx:=fun _ H'=>Q .non H',rt:=Q} (start N vs) H):
  a8 P w K mg base (dZ P w) (k+1) f (Es name qual params body scope dV kV doc pm an cdv ct) ps sp:=by
 refine yx lk hcd S len fun A outer s H vs Q E hr hsp=>?_
 obtain ⟨t,h,q⟩:=hbody A outer s H vs Q E hr hsp;exact ⟨t,h.toX fun e s' z=>uR z,q⟩
theorem a8.noraise {k:Nat} {f:Addr} {fd:FuncData} {ps:HN} {sp sp0:Sp} (F:a8 P w K mg base (dZ P w) k f fd ps sp) (h:∀vs H Q E,sp0 vs H Q E->sp vs H Q E0):a8 P w K mg base bj k f fd ps sp0:=
 ⟨fun vs H Q E q=>F.len vs H Q E0 (h _ _ _ _ q),fun A outer s H args us vs Q E hr he hb hv hs=>codeAny_mono (F.run A outer s H args us vs Q E0 hr he hb hv (h _ _ _ _ hs)) fun r s' hq=>by
  cases r with
  |error e=>obtain ⟨_,_,_,_,_,_,_,z⟩:=hq;exact z.elim
  |ok fl=>cases fl<;>exact hq⟩
end
abbrev Cx.tried (X:Cx) (pins:HL):Cx:={X with pn:=X.pn++pins}
abbrev Cx.suite (X:Cx) (pins:HL) (a:Addr):Cx:={X with A:=X.A.mark (some (.ref a)),calm:=false,pn:=X.pn++pins,xe:=fun _ _=>False}
def df (n:Bool) (a:Addr) (cls:Value) (dx:HR):HO:= .ext fun h=>∃ox vs,h.get? a=some ox/\ox.cls=cls/\ox.dict=dx/\ox.data= .fields vs/\vs[2]?=some .none/\(n=true->1<vs.size/\vs[1]?=some .none)
abbrev wT:=df false
theorem mX {P:Program} {w:World} {H:Hp} {h:Heap} {n:Bool} {a:Addr} {cls:Value} {dx:HR} {ox:Obj} {vs:Array Value} (h1:h.get? a=some ox) (h2:ox.cls=cls) (h3:ox.dict=dx) (h4:ox.data= .fields vs) (h6:vs[2]?=some .none) (h5:n=true->1<vs.size/\vs[1]?=some .none):a7 P w H h a (df n a cls dx):=
 ⟨⟨ox,vs,h1,h2,h3,h4,h6,h5⟩,⟨ox,h1⟩,fun _ _ ⟨oy,ws,q,r⟩ kp=>⟨oy,ws,kp _ q,r⟩⟩
abbrev TH:=Ends->St->Value->HR->Hp->Addr->Prop
def PH (X:Cx) (hs:List ExceptHandler) (th:TH):Prop:=
 ∀(pins:HL) (σ:St) (H0:Hp) (s0:Shared) (D:Ends) (a:Addr) (H':Hp) (cls v:Value) (dx:HR) (s':Shared),aE X pins σ H0 s0->fY X.prog X.w X.stack H0 s0 a H' cls dx (.fl v) s'->th D σ cls dx H' a->
  wpAny (model X.prog X.w) X.A (handleBy (.ref a) X.env hs) (SP X pins D) X.xe s'
variable {X:Cx} {pins:HL} {σ:St} {H H':Hp} {s s':Shared}
theorem aE.tried (I:aE X pins σ H s):aE (X.tried pins) [] σ H s:=
 ⟨⟨I.ok.mod,I.ok.kind,I.ok.glob,I.ok.blt,I.ok.above,I.ok.inj,I.ok.has,I.ok.cab,I.ok.hd,I.ok.frames,I.ok.stk,I.ok.exf,I.ok.bs,I.ok.bsz,I.ok.noex,I.ok.exfs,I.ok.funs,I.ok.frf⟩,
  I.os,I.bare,I.base,I.loc,I.cell,I.free,I.freeC,fun p hp=>I.pin p (by simpa using hp),I.hok,I.len⟩
theorem aE.untried (I:aE (X.tried pins) [] σ H s):aE X pins σ H s:=
 ⟨⟨I.ok.mod,I.ok.kind,I.ok.glob,I.ok.blt,I.ok.above,I.ok.inj,I.ok.has,I.ok.cab,I.ok.hd,I.ok.frames,I.ok.stk,I.ok.exf,I.ok.bs,I.ok.bsz,I.ok.noex,I.ok.exfs,I.ok.funs,I.ok.frf⟩,
  I.os,I.bare,I.base,I.loc,I.cell,I.free,I.freeC,fun p hp=>I.pin p (by simpa using hp),I.hok,I.len⟩
theorem aE.insuite (I:aE X pins σ H s) (a:Addr):aE (X.suite pins a) [] σ H s:=
 ⟨⟨I.ok.mod,I.ok.kind,I.ok.glob,I.ok.blt,I.ok.above,I.ok.inj,I.ok.has,I.ok.cab,fun z=>(Bool.noConfusion z),I.ok.frames,I.ok.stk,I.ok.exf,I.ok.bs,I.ok.bsz,I.ok.noex,I.ok.exfs,I.ok.funs,I.ok.frf⟩,
  I.os,I.bare,I.base,I.loc,I.cell,I.free,I.freeC,fun p hp=>I.pin p (by simpa using hp),I.hok,I.len⟩
theorem aE.outsuite {a:Addr} (ok:X.Ok) (I:aE (X.suite pins a) [] σ H s):aE X pins σ H s:=
 ⟨ok,I.os,I.bare,I.base,I.loc,I.cell,I.free,I.freeC,fun p hp=>I.pin p (by simpa using hp),I.hok,I.len⟩
theorem aE.unbound {n:Str} {i:Nat} {h':Heap} {m:HG} {v:HS} {t':Nat} (I:aE X pins σ H s) (hi:X.N[i]?=some n) (hN:X.N.Nodup)
  (hm:∀(j:Nat) (x:Str) (v:V),X.N[j]?=some x->σ[j]?=some (some v)->AO X.env.scope x->∃u,RelV v u/\Look X.env s.heap m x u)
  (hn:h'.Ns X.env.locals (fun x=>if x=n then v else m x)) (hs:Heap.SameBut X.env.locals s.heap h'):aE X pins (σ.set i none) H {s with heap:=h',toks:=t'}:=by
 obtain ⟨m0,hn0,_⟩:=id I.loc;obtain ⟨oL,_,_,hoL,_⟩:=id hn0;have cne:=I.cne;have low:∀b o,X.s₀.heap.get? b=some o->b≠X.env.locals:=fun b o e=>EE (EQ (Heap.lt_size e) I.ok.above)
 refine ⟨I.ok,I.os,I.bare,⟨fun b o e n hb hx=>?_,fun b o e n hb hx=>?_,I.base.free,fun b o e hx=>?_,I.base.tups,I.base.frzs,I.base.tbls⟩,⟨_,hn,fun j y v' e1 e2 e3=>?_⟩,fun y c e=>?_,I.free,I.freeC,fun p hp=>?_,fun b ob e=>?_,by simpa using I.len⟩
 ·exact (hs.2 b (low b o e)).trans (I.base.keep b o e n hb hx)
 ·obtain ⟨sl,e1⟩:=I.base.slot b o e n hb hx;exact ⟨sl,(hs.2 b (low b o e)).trans e1⟩
 ·obtain ⟨o',e1⟩:=I.base.there b o e hx;exact ⟨o',(hs.2 b (low b o e)).trans e1⟩
 ·by_cases hj:j=i
  ·subst hj;rw[List.getElem?_set] at e2;simp at e2
  ·rw[List.getElem?_set_ne (Ne.symm hj)] at e2;obtain ⟨u',r',q⟩:=hm j y v' e1 e2 e3;refine ⟨u',r',?_⟩;rcases q with ⟨k,e⟩|⟨k,c,e,z⟩
   ·refine .inl ⟨k,?_⟩;have:y≠n:=fun e=>hj (jK hN e1 (e▸hi))
    simp[this,e]
   ·exact .inr ⟨k,c,e,z.sameBut hs (cne y c e)⟩
 ·obtain ⟨w',z⟩:=I.cell y c e;exact ⟨w',z.sameBut hs (cne y c e)⟩
 ·obtain ⟨e,n,ne,nf,d⟩:=I.pin p hp;exact ⟨(hs.2 p.1 ne).trans e,n,ne,nf,d⟩
 ·refine (I.hok b ob e).stay (fun c w' hc q=>(hs.2 c ?_).trans q) (fun _ q=>q) fun _ _ q=>q
  rintro rfl;rcases hc with rfl|hc
  ·rw[I.free] at e;cases e
  ·rw[I.free] at hc;cases hc
theorem jV {fs:HP} {h0 h:Heap} {a:Addr} {o:HO} (u:Un fs [] H H' h0 h) (n0:h0.get? a=none) (na:H' a=none):Un fs [] H (ay H' a o) h0 h where
 keep:=u.keep
 slot:=u.slot
 free:=fun b ob q n hx=>by
  have:b≠a:=fun z=>by rw[z,n0] at q;cases q
  rw[ag this];exact u.free b ob q n hx
 there:=u.there
 tups:=fun b xs e=>by
  have q:=u.tups b xs e;rw[ag (a9 q na)];exact q
 frzs:=fun b o' w' e=>by
  have q:=u.frzs b o' w' e;rw[ag (a9 q na)];exact q
 tbls:=fun b ps e=>by
  obtain ⟨mo,q⟩:=u.tbls b ps e;exact ⟨mo,by rw[ag (a9 q na)];exact q⟩
theorem lT {P:Program} {w:World} {h:Heap} {a:Addr} {o:HO} (k:eI P w H h) (na:H a=none) (new:a7 P w (ay H a o) h a o):eI P w (ay H a o) h:=fun b u e=>by
 by_cases hb:b=a
 ·subst hb;rw[ac] at e;cases e;exact new
 ·rw[ag hb] at e;exact (k b u e).stay (fun c v _ q=>q) (fun c q=>by rw[ag (a9 q na)];exact q) fun c xs q=>by rw[ag (a9 q na)];exact q
theorem fY.caughtN {a:Addr} {cls:Value} {dx:HR} (I:aE X pins σ H s) (c:fY X.prog X.w X.stack H s a H' cls dx .new s'):aE X pins σ (ay H' a (df true a cls dx)) s':=by
 obtain ⟨⟨oe,vs,he,hc,hd,hda,hz,hn⟩,n0,na⟩:=c.xo;refine I.call' c.os (jV c.un n0 na) (lT c.hok na (mX he hc hd hda hz.2 fun _=>⟨hz.1,hn⟩)) c.bare fun b z=>absurd z (by simp)
theorem fY.caught {a:Addr} {cls:Value} {dx:HR} {st:yC} (I:aE X pins σ H s) (c:fY X.prog X.w X.stack H s a H' cls dx st s'):aE X pins σ (ay H' a (wT a cls dx)) s':=by
 obtain ⟨⟨oe,vs,he,hc,hd,hda,hz,_⟩,n0,na⟩:=c.xo;refine I.call' c.os (jV c.un n0 na) (lT c.hok na (mX he hc hd hda hz.2 fun z=>nomatch z)) c.bare fun b z=>absurd z (by simp)
section
variable {body:List Stmt} {h₀:ExceptHandler} {hs:List ExceptHandler} {pos:Pos} {th:TH}
def Dl (tb:(St->XK)->TS) (th:TH):TS:=fun D σ H=>tb (fun σ' cls dx H'=>∀a,H' a=none->th D σ' cls dx H' a) D σ H
theorem SP.untried {pins:HL} {E:HF} {D:Ends} {f:Flow} {s':Shared} (h:SP ((X.tried pins).wish E) [] D f s'):SP X pins D f s':=by
 cases f with
 |next=>obtain ⟨σ',H',I,q⟩:=h;exact ⟨σ',H',I.unwish.untried,q⟩
 |brk=>obtain ⟨σ',H',I,q⟩:=h;exact ⟨σ',H',I.unwish.untried,q⟩
 |cont=>obtain ⟨σ',H',I,q⟩:=h;exact ⟨σ',H',I.unwish.untried,q⟩
 |ret u=>obtain ⟨v,σ',H',I,r,q⟩:=h;exact ⟨v,σ',H',I.unwish.untried,r,q⟩
theorem uS {tb:(St->XK)->TS} (hstk:X.stack=X.env::X.outer) (hfm:X.env.frame=some X.env.locals)
  (hb:∀(pins:HL) (E:St->XK),kO ((X.tried pins).wish (XS (X.tried pins) E)) body (tb E)) (hh:PH X (h₀::hs) th):PS X (.Try body (h₀::hs) [] [] pos) (Dl tb th):=by
 intro pins s σ H D I h;refine wpAny_Try_except ?_;refine wpAny_mono (hb pins _ [] s σ H D (I.tried.wish _) h) (fun f s1 q=>?_) fun e s1 hx=>?_
 ·have q:=q.untried;cases f with
  |next=>exact wpAny_execs_nil q
  |brk=>exact q
  |cont=>exact q
  |ret u=>exact q
 ·obtain ⟨σ',H0,s0,I0,a,H',cls,dx,st,rfl,c,hE⟩:=hx;have c':fY X.prog X.w (X.env::X.outer) H0 s0 a H' cls dx st s1:=hstk▸c;have J:=I0.untried;have fr:X.A.frames=some (X.env::X.outer):=by rw[<-hstk];exact J.ok.frames
  have st1:s0.heap.FunFrames X.base (X.env::X.outer):=by rw[<-hstk];exact J.stack
  have sf:∀b∈jn (X.env::X.outer),H0 b=none:=by rw[<-hstk];exact J.stkFree
  refine c'.note fr hfm st1 sf fun s2 c2=>?_
  refine c2.flight st1 sf fun s3 c3=>?_
  exact hh pins σ' H0 s0 D a H' cls _ dx s3 J (hstk▸c3) (hE a c3.xo.fr.2)
theorem uT:PH X [] (fun _ _ _ _ _ _=>False):=fun _ _ _ _ _ _ _ _ _ _ _ _ _ h=>h.elim
end
structure XT (K:D9) (C:Addr):Prop where
 ty:PySem.W.typeIn K (.ref C)=some (.type "type")
 cl:(PySem.W.clsIn K C).isSome=true
 ex:PySem.W.subIn K (.ref C) (.type "BaseException")=some true
theorem iG {K:D9} {M:Model} {h:Heap} {C:Addr} (X:K.In h) (e:(PySem.W.clsIn K C).isSome=true):PySem.W.Looks M h (isType (.ref C)) true:=by
 unfold PySem.W.clsIn at e
 split at e
 ·rename_i ho;intro A' Q' E' s' k q;unfold isType loadHead;exact wpAny_bind (wpAny_loadPart (k _ _ (X _ _ ho)) (wpAny_pure q))
 ·cases e
structure XG (K:D9) (C:Addr):Prop where
 ga:EV K (.ref C) "__getattribute__" =some (some (.builtin "BaseException.__getattribute__"))
 gt:EV K (.ref C) "__getattr__" =some none
 be:PySem.W.mroIn K C (.type "BaseException")=some true
section
variable {prog:Program} {w:World} {A:Around} {E:HF} {K:D9} {h:Heap} {g:Array GenState} {d:Drawn} {t:Nat} {os:OsState} {x C:Addr} {ox:Obj} {od:Option Obj} {name:Str}
open PySem.W in
theorem sU {nameV:Value} {Q:Unit->Shared->Prop} (X:K.In h) (I:InstAt h x ox C od) (G:XG K C) (hq:Q () ⟨h,g,d,t,os⟩):
  wpAny (model prog w) A (checkBuiltinCall "BaseException.__getattribute__" ⟨[.ref x,nameV],[]⟩) Q E ⟨h,g,d,t,os⟩:=by
 have hk:builtinKind "BaseException.__getattribute__" =some .slot:=by decide+kernel
 have hs:splitId "BaseException.__getattribute__" =some ("BaseException","__getattribute__"):=by decide+kernel
 have l0:=I.type (M:=model prog w);have l1:=looks_mroIn (M:=model prog w) X G.be;have ha:=F.args_bexc_ga (.ref x) nameV;have l2:Looks (model prog w) h (isInstance (.ref x) (.type "BaseException")) true:=l0.andThen l1;simp only[checkBuiltinCall,hk,hs];refine wpAny_bind ?_;unfold isInstance;have hx:=I.at_;have hc:=I.cls
 repeat (first|(with_reducible refine wpAny_loadPart_at hx ?_;rw[hc])|with_reducible refine l1.at ?_|wp_step)
 exact hq
open PySem.W in
theorem jB {tk:Tok} {v:Value} {Q:Fin->Shared->Prop} (X:K.In h) (I:InstAt h x ox C od) (hf:findObj K C od name=some (.value v)) (hq:Q (.done (.ret v)) ⟨h,g,d,t,os⟩):
  wpAny (model prog w) A (Builtin.«object.__getattribute__» ⟨[.ref x,.str name tk],[]⟩) Q E ⟨h,g,d,t,os⟩:=by
 have l0:=I.type (M:=model prog w);have l1:=looks_find (M:=model prog w) X I hf;unfold Builtin.«object.__getattribute__»;refine wpAny_bind (wpAny_pure (wpAny_bind (wpAny_pure (wpAny_bind (l0.at (wpAny_bind (l1.at ?_)))))));exact wpAny_pure hq
open PySem.W in
theorem jW {tk:Tok} {gv a:Value} {Q:Fin->Shared->Prop} (X:K.In h) (I:InstAt h x ox C od) (hf:findObj K C od name=some (.bind gv a))
  (hq:wpAny (model prog w) A (call gv [a,.ref x,.ref C]) (fun v s'=>Q (.done (.ret v)) s') E ⟨h,g,d,t,os⟩):
  wpAny (model prog w) A (Builtin.«object.__getattribute__» ⟨[.ref x,.str name tk],[]⟩) Q E ⟨h,g,d,t,os⟩:=by
 have l0:=I.type (M:=model prog w);have l1:=looks_find (M:=model prog w) X I hf;unfold Builtin.«object.__getattribute__»;refine wpAny_bind (wpAny_pure (wpAny_bind (wpAny_pure (wpAny_bind (l0.at (wpAny_bind (l1.at ?_)))))));show wpAny _ _ (holding [a] (call gv [a,.ref x,.ref C])>>=ret) _ _ _;exact wpAny_bind (wpAny_holding (wpAny_mono hq (fun v s' z=>wpAny_pure z) fun _ _ z=>z))
open PySem.W in
theorem uU {tk:Tok} {fill expr:Bool} {Q:HF} (X:K.In h) (I:InstAt h x ox C od) (G:XG K C)
  (hq:∀A':Around,wpAny (model prog w) A' (Builtin.«object.__getattribute__» ⟨[.ref x,.str name tk],[]⟩) (fun fin s'=>match fin with| .done (.ret v)=>wpAny (model prog w) A (handedOut v) Q E s'|_=>False) (fun _ _=>False) ⟨h,g,d,t,os⟩):
  wpAny (model prog w) A (getAttrBy (.ref x) (.str name tk) fill expr) Q E ⟨h,g,d,t,os⟩:=by
 have l0:=I.type (M:=model prog w);have l1:=looks_findIn (M:=model prog w) X G.ga;have l2:=looks_findIn (M:=model prog w) X G.gt;have fb:=F.attrBase_ValueError;have f3:=fb.ga.bind (.ref x);unfold getAttrBy;refine wpAny_holding (wpAny_bind (l0.at (wpAny_bind (l1.at ?_))));have hx2:(Value.builtin "BaseException.__getattribute__" ==Value.builtin "object.__getattribute__")=false:=by decide+kernel
 simp only[hx2,Bool.and_false,Bool.false_eq_true,if_false];unfold getAttrByItsOwn hookBefore;refine wpAny_bind ?_;rw[if_pos (show onTheHeap (.ref C)=true from rfl)]
 refine l2.at ?_;refine wpAny_bind (wpAny_attempt (wpAny_holding ?_));unfold callGetattribute;rw[if_neg (by cases expr<;>exact EL)]
 unfold boundAndCalled;refine wpAny_bind (wpAny_of_eq f3 ?_);refine wpAny_call (codeAny_call_builtin fb.ga.plain F.entry_bexc_ga (sU X I G (wpAny_mono (hq _) (fun fin s' z=>?_) fun _ _ z=>z.elim)))
 rcases fin with (_|_|_|_)|_<;>first|exact z.elim|exact z
end
section
variable {prog:Program} {w:World} {A:Around} {E:HF} {K:D9}
theorem qr {h:Heap} {g:Array GenState} {d:Drawn} {t:Nat} {os:OsState} {e C C':Addr} {oe:Obj} {b:Bool} {Q:Bool->Shared->Prop} (KX:K.In h) (he:h.get? e=some oe) (hc:oe.cls= .ref C) (T:XT K C')
  (hsub:PySem.W.subIn K (.ref C) (.ref C')=some b) (hq:Q b ⟨h,g,d,t,os⟩):wpAny (model prog w) A (excMatches (.ref e) (.ref C')) Q E ⟨h,g,d,t,os⟩:=by
 have l1:=PySem.W.looks_typeIn (M:=model prog w) KX T.ty;have l2:=PySem.W.looks_subIn (M:=model prog w) KX T.ex;have l3:=PySem.W.looks_subIn (M:=model prog w) KX hsub;have l4:=iG (M:=model prog w) KX T.cl;have l5:PySem.W.Looks (model prog w) h (isInstance (.ref C') (.type "tuple")) false:=l1.andThen (PySem.W.Looks.of_pure tc_notTuple);have l6:PySem.W.Looks (model prog w) h (isExcClass (.ref C')) true:=by
  unfold isExcClass;refine l4.andThen ?_;exact l2
 unfold excMatches
 repeat (first|with_reducible refine wpAny_bind (l5.at ?_)|with_reducible refine wpAny_bind (l6.at ?_)|with_reducible refine wpAny_bind (l3.at ?_)|(with_reducible refine wpAny_loadPart_at he ?_;rw[hc])|wp_step)
 cases b<;>(wp_walk;exact hq)
end
def Bj (i:Nat) (D:Ends):Ends:={nx:=fun σ H=>D.nx (σ.set i none) H,rt:=D.rt,bk:=fun σ H=>D.bk (σ.set i none) H,ct:=fun σ H=>D.ct (σ.set i none) H}
section
variable {x n:Str} {np pos:Pos} {b0:Stmt} {suite:List Stmt} {rest:List ExceptHandler} {i:Nat} {C':Addr} {t:TS} {th:TH}
theorem wU {pins:HL} {a:Addr} {D:Ends} {f:Flow} {s:Shared} {M:Model} {A:Around} {E:HF} (ok:X.Ok) (hN:X.N.Nodup) (hi:X.N[i]?=some n) (hloc:X.env.scope.names.lookup n=some .local)
  (q:SP (X.suite pins a) [] (Bj i D) f s):wpAny M A (do bindName X.env n .none;unbindBehindTheSuite X.env n pos) (fun _ s'=>SP X pins D f s') E s:=by
 have hcls:(X.env.scope.kind== .class||(X.env.scope.kind== .module&&X.env.locals !=X.env.globals))=false:=by rw[ok.kind];rfl
 cases f with
 |next=>
  obtain ⟨σ,H,I,q⟩:=q;have J:=I.outsuite ok;obtain ⟨m,hn,hl⟩:=id J.loc;exact wpAny_nameGoes_keeps hloc hn hcls fun h' v hn' hs=>⟨_,H,J.unbound hi hN hl hn' hs,q⟩
 |brk=>
  obtain ⟨σ,H,I,q⟩:=q;have J:=I.outsuite ok;obtain ⟨m,hn,hl⟩:=id J.loc;exact wpAny_nameGoes_keeps hloc hn hcls fun h' v hn' hs=>⟨_,H,J.unbound hi hN hl hn' hs,q⟩
 |cont=>
  obtain ⟨σ,H,I,q⟩:=q;have J:=I.outsuite ok;obtain ⟨m,hn,hl⟩:=id J.loc;exact wpAny_nameGoes_keeps hloc hn hcls fun h' v hn' hs=>⟨_,H,J.unbound hi hN hl hn' hs,q⟩
 |ret u=>
  obtain ⟨v,σ,H,I,r,q⟩:=q;have J:=I.outsuite ok;obtain ⟨m,hn,hl⟩:=id J.loc;exact wpAny_nameGoes_keeps hloc hn hcls fun h' v' hn' hs=>⟨v,_,H,J.unbound hi hN hl hn' hs,r,q⟩
theorem jX {E:St->XK} (hstk:X.stack=X.env::X.outer) (hfm:X.env.frame=some X.env.locals):PassesOwn (model X.prog X.w) X.A X.env (XS X E):=by
 intro e s1 hx;obtain ⟨σ',H0,s0,J,a,H',cls,dx,st,rfl,c,hE⟩:=hx;have c':fY X.prog X.w (X.env::X.outer) H0 s0 a H' cls dx st s1:=hstk▸c;have fr:X.A.frames=some (X.env::X.outer):=by rw[<-hstk];exact J.ok.frames
 have st1:s0.heap.FunFrames X.base (X.env::X.outer):=by rw[<-hstk];exact J.stack
 have sf:∀b∈jn (X.env::X.outer),H0 b=none:=by rw[<-hstk];exact J.stkFree
 unfold notedBy;refine c'.note fr hfm st1 sf fun s2 c2=>?_
 unfold cameBackBy;obtain ⟨oe,vs,he,_,_,hd,_,T,_,_,h1,_⟩:=c2.xo.ex;apply wpAny_bind;apply wpAny_field he hd h1;rw[if_neg (by simp)]
 refine c2.flight st1 sf fun s3 c3=>?_
 exact ⟨σ',H0,s0,J,a,H',cls,dx,_,rfl,hstk▸c3,hE⟩
end
def ug:HQ:= [.type "ValueError",.type "Exception",.type "BaseException",.type "object"]
theorem zq {K:D9} {h:Heap} {C:Addr} {bmB:HQ} {nw:String} (X:K.In h) (q:FK K C bmB nw=true):
  ∃bm N nm qn bs hdct sn sub ab col dd k0 k1 k2 k3 k5 mN,h.get? C=some (excClassObj nm qn C N bs bm hdct sn sub ab col dd k0 k1 k2 k3 k5 nw)/\h.Ns N mN/\mN "__init__" =none/\OwnTail h bmB bm:=by
 unfold FK at q
 split at q
 ·rename_i dd cd sl ho
  split at q
  ·rename_i C' bm k0 k1 k2 k3 n k5 hm hs;simp only[Bool.and_eq_true,beq_iff_eq,Bool.not_eq_true'] at q;obtain ⟨⟨⟨⟨⟨e1,e2⟩,hdel⟩,ht⟩,hok⟩,hni⟩:=q;subst e1 e2;obtain ⟨nm,bs,mro,ns,qn,hd,sn,sub,ab,col,del⟩:=cd;dsimp only at hm hdel hok hni;subst hm hdel;obtain ⟨l⟩:=sl;have hl:l= [k0,k1,k2,k3,some (.builtin n),k5]:=hs;subst hl;exact ⟨bm,ns,nm,qn,bs,hd,sn,sub,ab,col,dd,k0,k1,k2,k3,k5,_,X _ _ ho,.of_isNs (PySem.W.isNs_of_in X hok),PySem.W.nsMap_none_of_in X hok hni,PySem.W.tail_of_in X ht⟩
  ·cases q
 ·cases q
def zr (C:Addr) (E:St->XK) (t:TA):TS:=fun _ σ H=>t σ H fun vs H1=>vs.length<=sizeLine/\E σ (.ref C) none H1
section
variable {x:Str} {np cpos pos:Pos} {e₀:Expr} {rest:List Expr} {C:Addr} {t:TA} {E:St->XK}
theorem rC {pins:HL} {σ:St} {H:Hp} {s:Shared} {h':Heap} {e:Addr} {us:HQ} (I:aE X pins σ H s) (mk:Heap.MadeExcOf s.heap h' e (.ref C) us):fY X.prog X.w X.stack H s e H (.ref C) none .new {s with heap:=h'}:=by
 obtain ⟨t,ht,_,_⟩:=mk.there;exact ⟨rfl,I.bare,Un.kept mk.keeps,I.hok.kept mk.keeps,⟨⟨_,_,ht,rfl,rfl,rfl,⟨by show 1<6;decide,rfl⟩,rfl⟩,mk.new,I.hok.none_of mk.new⟩⟩
theorem eV (q:FK X.K C ug "ValueError.__new__" =true) (hg:Gl X x) (hm:X.mg x=some (.ref C)) (hc:X.calm=true) (hp:gK X E) (ha:PA X (e₀::rest) t) (hd:(x==("__debug__" :Str))=false:=by decide)
  (he:starEach (e₀::rest) X.env=(false,eval e₀ X.env)::starEach rest X.env:=by rfl) (hpl:(backTo cpos (starEach rest X.env)).any (·.1)=false:=by rfl):
  PS X (.Raise (some (.Call (.Name x np) (e₀::rest) [] cpos)) none pos) (zr C E t):=by
 intro pins s σ H D I h;obtain ⟨bm,N,nm,qn,bs,hdct,sn,sub,ab,col,dd,k0,k1,k2,k3,k5,mN,hC,hN,hni,TL⟩:=zq I.ok.mod.kin q;have F:=PySem.F.excBase_ValueError;have W:=ha cpos pins s σ H _ I h;refine wpAny_Raise_call_subT (C:=C) (nm:=nm) (q:=qn) (N:=N) (bs:=bs) (bm:=bm) (hdct:=hdct) (sn:=sn) (sub:=sub) (ab:=ab) (col:=col) (dd:=dd) (k0:=k0) (k1:=k1) (k2:=k2) (k3:=k3) (k5:=k5) (mN:=mN)
  F (TL.hasType F.hasBase) (I.ok.hd hc) (by rw[he];exact hpl) hni (dJ I hg hm ⟨rfl,?_⟩ hd)
 rw[he] at W⊢;refine Calls.evalArgs_plain (bu W fun us s2 ⟨vs,H1,I1,r,hl,z⟩=>⟨rfl,by rw[<-r.length];exact hl,I1.bk _ _ hC,hN.keeps I1.bk,TL.keeps I1.bk,fun h' e mk=>?_⟩)
 exact hp pins σ H1 s2 _ _ I1 ⟨e,H1,.ref C,none,.new,rfl,rC I1 mk,z⟩
end
structure XI (K:D9) (C:Addr):Prop where
 gg:XG K C
 cl:(PySem.W.clsIn K C).isSome=true
 at_:EV K (.ref C) "__class__" =some (some (.builtin "object.__class__"))
 gt:PySem.W.specialIn K (.builtin "object.__class__") "__get__" =some (some (.builtin "getset_descriptor.__get__"))
 tk:PySem.W.takesIn K (.builtin "object.__class__")=some true
 ob:PySem.W.mroIn K C (.type "object")=some true
theorem findObj_cls {K:D9} {C:Addr} {od:Option Obj} (x:XI K C):PySem.W.findObj K C od "__class__" =some (.bind (.builtin "getset_descriptor.__get__") (.builtin "object.__class__")):=by
 obtain ⟨cd,hc⟩:=F4.mp x.cl;unfold PySem.W.findObj;rw[hc,Option.bind_some,x.at_,Option.bind_some];simp[x.gt,x.tk]
theorem jY {K:D9} {a C:Addr} (x:XI K C):PySem.W.KitX K (.ref a) (.ref C) (fun h=>∃ox od,PySem.W.InstAt h a ox C od) where
 ty:=fun _ _ _ ⟨_,_,I⟩=>I.type
 it:=fun _ _ X _=>iG X x.cl
 ne:=fun h tp dd its n sl X htp=>by
  refine Bool.eq_false_iff.mpr fun q=>?_
  have e:C=tp:=Value.ref.inj (beq_iff_eq.mp q);subst e;have c:=x.cl;unfold PySem.W.clsIn at c
  split at c
  ·rename_i ho;have z:=(X _ _ ho).symm.trans htp;cases z
  ·cases c
 ca:=fun {_ _ _ _ _ s} X I k=>by
  obtain ⟨ox,od,I⟩:=I;obtain ⟨hh,g,d,t,os⟩:=s;unfold getAttr? getAttrBy?;refine wpAny_bind (wpAny_mkText (wpAny_bind (wpAny_attempt (uU (h:=hh) X I x.gg fun A'=>jW X I (findObj_cls x) ?_))))
  exact wpAny_call (PySem.W.class_get (s:=⟨hh,g,d,t+1,os⟩) (ox:=ox) (od:=od) X I x.ob (PySem.W.handed_on rfl (wpAny_pure k)))
def uV (H:Hp) (dx:HR):Prop:=match dx with
 |none=>True
 |some d=>∃fs,H d=some (.xd fs)
theorem mY {X:Cx} {pins:HL} {σ:St} {H:Hp} {s:Shared} {a C:Addr} {n:Bool} {dx:HR} (I:aE X pins σ H s) (e:H a=some (df n a (.ref C) dx)) (d:uV H dx):∃ox od,PySem.W.InstAt s.heap a ox C od:=by
 obtain ⟨⟨ox,vs,h1,h2,h3,h4,_⟩,_⟩:=(show a7 X.prog X.w H s.heap a (df n a (.ref C) dx) from I.hok a _ e)
 have nc:PySem.W.notCls ox=true:=by unfold PySem.W.notCls;rw[h4]
 cases dx with
 |none=>exact ⟨ox,none,h1,h2,nc,by rw[h3];trivial⟩
 |some d'=>
  obtain ⟨fs,hd⟩:=d;obtain ⟨mA,⟨o,es,ep,e',_⟩,_⟩:=(show a7 X.prog X.w H s.heap d' (.xd fs) from I.hok d' _ hd)
  exact ⟨ox,some o,h1,h2,nc,by rw[h3];exact e'⟩
inductive Dm (K:D9) (C:Addr):V->Bool->Prop where
 |own {D:Addr} {b:Bool} (h:El K (.ref C) (.ref D)=some b):Dm K C (.ref D) b
 |ty {T:String} {b:Bool} (h:El K (.ref C) (.type T)=some b):Dm K C (.ty T) b
theorem sV {X:Cx} {K:D9} (hK:X.K=K):cE X (.builtin "isinstance") (fun xs H Q=>∃a C dx c b,xs= [.ref a,c]/\(∃n,H a=some (df n a (.ref C) dx))/\uV H dx/\XI K C/\Dm K C c b/\Q (.bl b) H):=by
 subst hK;intro pins s σ H xs us Q I r h;obtain ⟨a,C,dx,c,b,rfl,⟨n,e⟩,d,xi,xs,q⟩:=h;obtain ⟨u,w',rfl,e1,e2⟩:=vals2 r;cases e1;cases xs with
 |own h=>
  cases e2;exact Eu (jY xi) I.kIn (mY I e d) h (fun z=>nomatch z) fun tk=>⟨.bl b,H,I.tok tk,rfl,q⟩
 |ty h=>
  cases e2;exact Eu (jY xi) I.kIn (mY I e d) h (fun z=>nomatch z) fun tk=>⟨.bl b,H,I.tok tk,rfl,q⟩
abbrev Cx.block (X:Cx) (scope:Scope) (cl:List (Str×Addr)) (C:Addr) (N:HN) (own:Str) (fp:HP) (s:Shared) (H:Hp):Cx:=
 {X with env:=compEnvC scope cl C X.env,N:=N,s₀:=s,H₀:=H,outer:=X.stack,stack:=X.stack,ex:=fp,fn:=fun y=>y==own,pn:= [],xe:=fun _ _=>False}
structure gQ (X:Cx) (scope:Scope) (cl:List (Str×Addr)) (own:Str) (ys:HN) (js:List Nat):Prop where
 clos:closureFor scope X.env=pure cl
 nocell:(scope.names.all fun p=> !(p.2== .cell))=true
 kind:scope.kind= .function
 loc:(scope.names.all fun p=> !(p.2== .local)||scope.names.lookup p.1==some .local)=true
 ownL:scope.names.lookup own=some .local
 sub:∀p∈cl,X.env.cells.lookup p.1=some p.2
 has:((relabel scope X.env).names.all fun p=> !(p.2== .cell||p.2== .free)||(cl.lookup p.1).isSome)=true
 noown:cl.lookup own=none
 nd:(own::ys).Nodup
 at_:∀(i:Nat) (y:Str),ys[i]?=some y->∃j:Nat,js[i]?=some j/\X.N[j]?=some y/\(X.env.scope.names.lookup y=some .cell∨X.env.scope.names.lookup y=some .free)/\((relabel scope X.env).names.lookup y=some .cell∨(relabel scope X.env).names.lookup y=some .free)
 len:js.length=ys.length
def bh (js:List Nat) (σ:St):St:=js.map fun j=>(σ[j]?).getD none
def rD (js:List Nat) (te:TE) (σ:St) (Q:VK):It->Hp->Prop:=fun J H1=>∀p,H1 p=none->∃W:Nat->Nat->List V->Hp->Prop,(∃m,W 0 m [] (ay H1 p (.lst [])))/\
 ∀i m ys H2,W i m ys H2->H2 p=some (.lst ys)/\((J.stop i H2/\Q (.ref p) H2)∨(J.go i H2/\ys.length<sizeLine/\∀x H3,J.yld i H2 x H3->te (some x::bh js σ) H3 fun y H4=>H4 p=some (.lst ys)/\∃m',m'<m/\W (i+1) m' (ys++ [y]) (ay H4 p (.lst (ys++ [y])))))
def uW (wi:TI) (js:List Nat) (te:TE):TE:=fun σ H Q=>wi σ H (rD js te σ Q)
theorem lookup_all {α:Type} {f:Str×α->Bool} {x:Str} {a:α}:∀{l:List (Str×α)},l.all f=true->l.lookup x=some a->f (x,a)=true:=by
 intro l h e;exact Er.mp h _ (Ej e)
section
variable {prog:Program} {w:World} {A:Around} {R:Result->Shared->Prop}
theorem fB {elt target iter:Expr} {scope:Scope} {pos:Pos} {it acc:Value} {env:Env} (I:Nat->Shared->Prop)
  (turn:∀n s,I n s->wpAny (model prog w) A (pyNext it) (fun r s1=>match r with
   |none=>R (.ok .next) s1
   |some v=>wpAny (model prog w) A (letOwnedTupleGo target it v) (fun _ s2=>wpAny (model prog w) A (assign target env v) (fun _ s3=>wpAny (model prog w) A (eval elt env) (fun x s4=>
     wpAny (model prog w) A (call (.builtin "list.append") [acc,x]) (fun _ s5=>∃m,m<n/\I m s5) (fun _ _=>False) s4) (fun _ _=>False) s3) (fun _ _=>False) s2) (fun _ _=>False) s1) (fun _ _=>False) s)
  (n:Nat) (h:I n s):codeAny (model prog w) A (.compLoop (.ListComp elt [⟨target,iter,[],0⟩] scope pos) 0 it acc env) R s:=by
 apply codeAny_loop rfl I ?_ n h;intro n s hI;show wpAny _ _ ((compTurn (.ListComp elt [⟨target,iter,[],0⟩] scope pos) 0 it acc env).onRaise _) _ _ s;apply wpAny_noted;rw[compTurn_list1];apply wpAny_bind;apply wpAny_standAt;apply wpAny_bind;refine wpAny_mono (turn n s hI) (fun r s1 h1=>?_) fun _ _ z=>z.elim
 cases r with
 |none=>exact wpAny_pure h1
 |some v=>
  apply wpAny_bind;refine wpAny_mono h1 (fun _ s2 h2=>?_) fun _ _ z=>z.elim
  apply wpAny_bind;refine wpAny_mono h2 (fun _ s3 h3=>?_) fun _ _ z=>z.elim
  apply wpAny_bind;apply wpAny_bind;refine wpAny_mono h3 (fun x s4 h4=>?_) fun _ _ z=>z.elim
  apply wpAny_bind;refine wpAny_mono h4 (fun _ s5 h5=>?_) fun _ _ z=>z.elim
  exact wpAny_pure (wpAny_pure ⟨rfl,h5⟩)
end
section
variable {scope:Scope} {cl:List (Str×Addr)} {own:Str} {ys:HN} {js:List Nat} {fp:HP} {s4:Shared}
theorem dC {h1:Heap} (ok:gQ X scope cl own ys js) (I:aE X pins σ H s) (hf:∀b∈fp,dR X pins H b) (hlt:∀b∈fp,b<s.heap.objs.size) (hns:h1.Ns s.heap.objs.size (fun _=>none))
  (hk:∀b o,s.heap.get? b=some o->h1.get? b=some o) (tk:Nat):
  aE (X.block scope cl s.heap.objs.size (own::ys) own fp s H) [] (none::bh js σ) H {s with heap:=h1,toks:=tk}:=by
 have sub:∀y c,cl.lookup y=some c->X.env.cells.lookup y=some c:=fun y c e=>ok.sub (y,c) (Ej e)
 refine ⟨⟨I.ok.mod,ok.kind,I.ok.glob,I.ok.blt,E4 _,fun x y c e1 e2=>I.ok.inj x y c (sub x c e1) (sub y c e2),fun x hx=>?_,fun x c e1 e2=>?_,I.ok.hd,I.ok.frames,.inl rfl,fun b hb=>⟨EE (hlt b hb),fun x c e=>(hf b hb).2.2.2.2.1 x c (sub x c e)⟩,
  I.bs,EX I.ok.bsz I.sz,fun b o e hb=>?_,fun b hb z=>?_,I.stack,I.stkFree⟩,rfl,I.bare,Un.kept hk,⟨_,hns,fun i y v e1 e2 e3=>?_⟩,fun y c e=>?_,I.hok.fresh (E4 _),fun y c e=>I.freeC y c (sub y c e),fun p hp=>absurd (show p∈([]:HL) from hp) (by simp),I.hok.kept hk,?_⟩
 ·have hx':(relabel scope X.env).names.lookup x=some .cell∨(relabel scope X.env).names.lookup x=some .free:=hx;rcases hx' with z|z
  ·have q:=lookup_all ok.has z;simp only[beq_self_eq_true,Bool.true_or,Bool.not_true,Bool.false_or] at q;exact F4.mp q
  ·have q:=lookup_all ok.has z;simp only[beq_self_eq_true,Bool.or_true,Bool.not_true,Bool.false_or] at q;exact F4.mp q
 ·have e1':(x==own)=true:=e1;have e:x=own:=beq_iff_eq.mp e1';have e2':cl.lookup x=some c:=e2;rw[e,ok.noown] at e2';cases e2'
 ·rcases (hf b hb).2.2.2.1 with z|z
  ·exact I.ok.noex b o e z
  ·exact absurd (EQ (Heap.lt_size (I.ok.bs b o e).1) z) (FS _)
 ·rcases EC.mp (I.stkSub b z) with q|q
  ·exact (hf b hb).2.1 q
  ·exact (hf b hb).2.2.1 q
 ·cases i with
  |zero=>cases e2
  |succ i=>
   have e1':ys[i]?=some y:=e1;obtain ⟨j,hj,hN,hX,hc⟩:=ok.at_ i y e1';have e2':(bh js σ)[i]?=some (some v):=e2;unfold bh at e2';rw[EA,hj] at e2';have hs:σ[j]?=some (some v):=by
    cases q:σ[j]? with
    |none=>rw[Fg,q] at e2';cases e2'
    |some o=>rw[Fg,q] at e2';exact e2'
   obtain ⟨m,hn,hl⟩:=I.loc;obtain ⟨u,r,l⟩:=hl j y v hN hs (hX.elim (fun z=> .inr (.inl z)) fun z=> .inr (.inr z))
   refine ⟨u,r,.inr ⟨hc,?_⟩⟩;rcases l with ⟨k,_⟩|⟨k,c,hcl,hcell⟩
   ·have k':X.env.scope.names.lookup y=some .local:=k;rcases hX with z|z<;>(rw[z] at k';cases k')
   ·have ex:∃c',cl.lookup y=some c':=by
     rcases hc with z|z
     ·have q:=lookup_all ok.has z;simp only[beq_self_eq_true,Bool.true_or,Bool.not_true,Bool.false_or] at q;exact F4.mp q
     ·have q:=lookup_all ok.has z;simp only[beq_self_eq_true,Bool.or_true,Bool.not_true,Bool.false_or] at q;exact F4.mp q
    obtain ⟨c',hc'⟩:=ex;have e:=sub y c' hc';rw[hcl] at e;cases e;obtain ⟨oc,hoc,hd⟩:=hcell;exact ⟨c,hc',oc,hk _ _ hoc,hd⟩
 ·obtain ⟨v,oc,hoc,hd⟩:=I.cell y c (sub y c e);exact ⟨v,oc,hk _ _ hoc,hd⟩
 ·show (none::bh js σ).length=(own::ys).length;simp[bh,ok.len]
theorem eW {H':Hp} {h':Heap} {σ':St} (I:aE X pins σ H s) (hf:∀b∈fp,dR X pins H b) (J:aE (X.block scope cl s.heap.objs.size (own::ys) own fp s H) [] σ' H' s4) (hs:Heap.SameBut s.heap.objs.size s4.heap h'):
  aE X pins σ H' {s4 with heap:=h'}:=by
 have low:∀b o,s.heap.get? b=some o->b≠s.heap.objs.size:=fun b o e=>EE (Heap.lt_size e)
 have B:=J.base;have u:Un (jn X.stack) fp H H' s.heap h':={
  keep:=fun b o q n hb hx=>(hs.2 b (low b o q)).trans (B.keep b o q n hb hx)
  slot:=fun b o q n hb hx=>by
   obtain ⟨sl,e⟩:=B.slot b o q n hb hx;exact ⟨sl,(hs.2 b (low b o q)).trans e⟩
  free:=B.free
  there:=fun b o q hx=>by
   obtain ⟨o',e⟩:=B.there b o q hx;exact ⟨o',(hs.2 b (low b o q)).trans e⟩
  tups:=B.tups
  frzs:=B.frzs
  tbls:=B.tbls}
 have hn:H' s.heap.objs.size=none:=J.free;have hk:eI X.prog X.w H' h':=fun a o e=>(J.hok a o e).stay (fun b v hb q=>(hs.2 b (by
  intro z;rcases hb with z'|z'
  ·rw[<-z',z,hn] at e;cases e
  ·rw[z,hn] at z';cases z')).trans q) (fun _ q=>q) fun _ _ q=>q
 exact I.call' (s':={s4 with heap:=h'}) (ch:=fp) J.os u hk J.bare fun b hb=>⟨(hf b hb).2.2.2.1,(hf b hb).2.1,(hf b hb).2.2.2.2.1,(hf b hb).2.2.2.2.2⟩
end
section
variable {scope:Scope} {cl:List (Str×Addr)} {own:Str} {ys:HN} {js:List Nat} {elt iter:Expr} {px pos:Pos} {wi:TI} {te:TE}
theorem mZ (hc:X.calm=true) (ok:gQ X scope cl own ys js) (hi:PI X (.Name own px) iter wi)
  (he:∀(C:Addr) (fp:HP) (s:Shared) (H:Hp),PE (X.block scope cl C (own::ys) own fp s H) elt te)
  (hs:∀x,foldedSetIterable iter X.env x=pure x:=by intro _;rfl):PE X (.ListComp elt [⟨.Name own px,iter,[],0⟩] scope pos) (uW wi js te):=by
 intro pins s σ H Q I h;rw[eval_ListComp];have ncell:∀y∈scope.names,y.2≠ .cell:=fun y hy z=>by
  have q:=Er.mp ok.nocell y hy;rw[z] at q;simp at q
 have nloc:∀y∈scope.names,y.2= .local->scope.names.lookup y.1=some .local:=fun y hy z=>by
  have q:=Er.mp ok.loc y hy;rw[z] at q
  simpa using q
 refine wpAny_comprehension_free (use:=none) rfl hs ok.clos ok.kind nloc (bu (hi pins s σ H _ I h) fun v s1 h1=>bu h1 fun itv s2 h2=>?_)
 obtain ⟨it,fp,tn,J,H2,rfl,I2,T,st2,f2,q2⟩:=h2;obtain ⟨W,⟨m0,w0⟩,turn⟩:=q2 s2.heap.objs.size (I2.hok.fresh (E4 _));refine wpAny_newObj_type (wpAny_newFunctionEnv ncell (by intro y hy;simp at hy) (fun h1 hns hsb=>?_) ok.kind)
 have I3:=I2.laid (a:=s2.heap.objs.size) (o:= .lst []) (h':=s2.heap.push {cls:= .type "list",dict:=none,data:= .seq ([]:HQ).toArray}) (t':=s2.toks) (fun b u q=>Heap.get?_push_of_some _ q) (E4 _)
  ⟨EO _,[],0,.nil,Heap.get?_push_size _ rfl⟩
 have fpo:∀b∈fp,b<s2.heap.objs.size:=fun b hb=>by
  obtain ⟨o,e,_⟩:=T.obj 0 _ st2 b hb;exact Heap.lt_size e
 have f3:∀b∈fp,dR X pins (ay H2 s2.heap.objs.size (.lst [])) b:=fun b hb=>⟨by rw[ag (EE (fpo b hb))];exact (f2 b hb).1,(f2 b hb).2⟩
 generalize hs3:({s2 with heap:=s2.heap.push {cls:= .type "list",dict:=none,data:= .seq ([]:HQ).toArray},toks:=s2.toks}:Shared)=s3 at I3
 have e3:s3.heap=s2.heap.push {cls:= .type "list",dict:=none,data:= .seq ([]:HQ).toArray}:=by rw[<-hs3]
 have lt3:∀b∈fp,b<s3.heap.objs.size:=fun b hb=>by rw[e3,Heap.size_push];exact F3 (fpo b hb)
 dsimp only at hns hsb⊢;rw[<-e3] at hns hsb;have hk:∀b o,s3.heap.get? b=some o->h1.get? b=some o:=fun b o e=>hsb.extBut b o (EE (Heap.lt_size e)) (Heap.get?_push_of_some _ e)
 have J0:=dC (h1:=h1) ok I3 f3 lt3 hns hk (s2.toks+0);have t0:tn 0 h1:=T.keep 0 _ _ st2 fun b hb o e=>hk b o (by rw[e3];exact Heap.get?_push_of_some _ e)
 have fpB:∀{H':Hp},(∀b∈fp,H' b=none)->∀b∈fp,dR (X.block scope cl s3.heap.objs.size (own::ys) own fp s3 (ay H2 s2.heap.objs.size (.lst []))) [] H' b:=fun {H'} hn b hb=>
  ⟨hn b hb,EE (lt3 b hb),fun z=>(EC.mp (I3.stkSub b z)).elim (f3 b hb).2.1 (f3 b hb).2.2.1,.inl hb,fun x c e=>(f3 b hb).2.2.2.2.1 x c (ok.sub (x,c) (Ej e)),fun p hp=>absurd (show p∈([]:HL) from hp) (by simp)⟩
 have loop:codeAny (model X.prog X.w) X.A (.compLoop (.ListComp elt [⟨.Name own px,iter,[],0⟩] scope pos) 0 (.ref it) (.ref s2.heap.objs.size) (compEnvC scope cl s3.heap.objs.size X.env))
   (compPost (model X.prog X.w) X.A X.xe none (EP X pins σ Q) (.ref s2.heap.objs.size) s3.heap.objs.size) {s3 with heap:=h1,toks:=s2.toks+0}:=by
  refine fB (fun n s'=>∃i zs o0 H',aE (X.block scope cl s3.heap.objs.size (own::ys) own fp s3 (ay H2 s2.heap.objs.size (.lst []))) [] (o0::bh js σ) H' s'/\tn i s'.heap/\(∀b∈fp,H' b=none)/\W i n zs H') ?_ m0
   ⟨0,[],none,_,J0,t0,fun b hb=>(f3 b hb).1,w0⟩
  rintro n s5 ⟨i,zs,o0,H5,I5,t5,n5,w5⟩;obtain ⟨hD,hw⟩:=turn i n zs H5 w5;rcases hw with ⟨stop,qn⟩|⟨go,hz,step⟩
  ·refine bu (T.done (X.block scope cl s3.heap.objs.size (own::ys) own fp s3 (ay H2 s2.heap.objs.size (.lst []))) rfl rfl rfl hc i [] s5 _ H5 (fun _ _=>False) I5 (fpB n5) t5 stop) fun r s6 ⟨hr,I6⟩=>?_
   subst hr;obtain ⟨m,hn,_⟩:=id I6.loc;exact ⟨m,hn,fun h' hs'=>⟨V.ref s2.heap.objs.size,H5,eW I3 f3 I6 hs',rfl,qn⟩⟩
  ·refine bu (T.item (X.block scope cl s3.heap.objs.size (own::ys) own fp s3 (ay H2 s2.heap.objs.size (.lst []))) rfl rfl rfl hc i [] s5 _ H5 (fun _ _=>False) I5 (fpB n5) t5 go) fun r s6 ⟨u,hr,h6⟩=>?_
   subst hr;refine bu h6 fun _ s7 ⟨x,H7,I7,r7,y7,t7,n7⟩=>?_
   have I7':=I7.pinned (fpB n7) (T.obj _ _ t7);have hst:=step x H7 y7;have own':(relabel scope X.env).names.lookup own=some .local:=lookup_relabel_local ok.ownL;refine bu (gq (X:=X.block scope cl s3.heap.objs.size (own::ys) own fp s3 (ay H2 s2.heap.objs.size (.lst []))) (i:=0) (x:=own) (pos:=px) ok.nd rfl (.inl own') (.inr own') _ s7 _ H7 x u (fun σ' H'=>σ'=some x::bh js σ/\H'=H7) I7' r7 ⟨rfl,rfl⟩) fun _ s8 ⟨σ8,H8,I8,e8,eH8⟩=>?_
   subst e8 eH8;refine bu (he _ _ _ _ _ s8 _ H8 _ I8 hst) fun yv s9 ⟨y,H9,I9,r9,hD9,m',hm,w9⟩=>?_
   refine bu (bC _ s9 _ H9 (.ref s2.heap.objs.size) [y] (.ref s2.heap.objs.size) [yv] (fun _ H'=>H'=ay H9 s2.heap.objs.size (.lst (zs++ [y]))) I9 rfl (.cons r9 .nil) ⟨_,zs,y,rfl,rfl,hD9,hz,rfl⟩) fun _ s10 ⟨_,H10,I10,_,e10⟩=>?_
   subst e10;refine ⟨m',hm,i+1,zs++ [y],some x,_,I10.unpinned,T.keep _ _ _ t7 fun b hb o e=>(I10.pin (b,o) (ED _ (ED _ (bU hb e)))).1,fun b hb=>?_,w9⟩
   obtain ⟨o,e,d⟩:=T.obj _ _ t7 b hb;exact (I10.pin (b,o) (ED _ (ED _ (bU hb e)))).2.1
 subst hs3;exact codeAny_compStart_list loop (T.self _ 0 _ _ _ t0 loop)
end
open PySem.Builtin PySem.Builtin.ObjectAttr
structure XA (K:D9) (C S:Addr):Prop where
 sa:EV K (.ref C) "__setattr__" =some (some (.builtin "object.__setattr__"))
 mro:(PySem.W.clsIn K C).map (·.mro)=some (.ref C:: .ref S::ug)
 dct:PySem.W.hasDictIn K C=true
 ob:PySem.W.mroIn K C (.type "object")=some true
theorem uX (self:Value) (C S:Addr):refuseLoop self "__setattr__" (.ref C:: .ref S::ug)=pure ():=by
 rw[refuseLoop_ref,refuseLoop_ref]
 kernel_rfl
section
variable {prog:Program} {w:World} {A:Around} {E:HF} {K:D9} {x C S:Addr} {ox:Obj} {od:Option Obj} {name:Str} {v:Value}
open PySem.W in
theorem wV {R:Result->Shared->Prop} {tk:Tok} (X:K.In s.heap) (I:InstAt s.heap x ox C od) (N:XA K C S) (hn:findIn K (.ref C) name=some none)
  (h:wpAny (model prog w) A.in1 (storeInOwnDict (.ref x) (.ref C) (.str name tk) name v false) (fun fin s'=>match fin with| .done f=>R (.ok f) s'| .again c'=>c'.quiet=true/\codeAny (model prog w) A c' R s') (fun e s'=>R (.error e) s') s):
  codeAny (model prog w) A (.call (.builtin "object.__setattr__") ⟨[.ref x,.str name tk,v],[]⟩) R s:=by
 have so:=PySem.F.store_object;obtain ⟨cd,hc,hm⟩:=Et.mp N.mro;have sub:Looks (model prog w) s.heap (isInstance (.ref x) (.type "object")) true:=I.type.andThen (looks_mroIn X N.ob);have lm:Looks (model prog w) s.heap (mroOf (.ref C)) cd.mro:=(looks_clsIn X hc).andThen .now;have ck:∀{A':Around} {Q':Unit->Shared->Prop} {E':HF},Q' () s->wpAny (model prog w) A' (checkBuiltinCall "object.__setattr__" ⟨[.ref x,.str name tk,v],[]⟩) Q' E' s:=fun {A' Q' E'} q=>
  check_slot (M:=model prog w) (A:=A') (E:=E') (s:=s) (i:= "object.__setattr__") (owner:= "object") (n:= "__setattr__") (self:= .ref x) (rest:= [.str name tk,v]) (kw:= []) (Q:=Q') so.kind so.split sub (so.args (.ref x) (.str name tk) v) q
 refine codeAny_call_builtin so.slot.plain so.entry (ck ?_);rw[osa_eq,refuse_eq];refine wpAny_bind (wpAny_bind (I.type.here ?_));refine wpAny_bind (lm.here ?_);rw[hm,uX];refine wpAny_pure (wpAny_bind ?_);refine I.type.here (wpAny_bind ?_);refine (looks_findIn X hn).here (wpAny_bind (wpAny_pure ?_));exact h
open PySem.W in
theorem wW {vs:Array Value} {Q:Unit->Shared->Prop} (X:K.In s.heap) (he:s.heap.get? x=some ox) (hc:ox.cls= .ref C) (hdx:ox.dict=none) (hda:ox.data= .fields vs) (N:XA K C S) (hn:findIn K (.ref C) name=some none)
  (h:∀h',(∀b o,b≠x->s.heap.get? b=some o->h'.get? b=some o)->h'.get? x=some {ox with dict:=some s.heap.objs.size}->h'.Ns1 s.heap.objs.size (fun y=>if y=name then some v else none)->
   Q () {s with heap:=h',toks:=s.toks+2}):wpAny (model prog w) A (setAttr (.ref x) name v) Q E s:=by
 have I:InstAt s.heap x ox C none:=⟨he,hc,by unfold notCls;rw[hda],by rw[hdx];trivial⟩
 apply set_plain X I N.sa;have I2:InstAt ({s with toks:=s.toks+1}:Shared).heap x ox C none:=I
 apply wV (s:={s with toks:=s.toks+1}) X I2 N hn
 obtain ⟨cd,hcd,hd⟩:=any_some N.dct;obtain ⟨oc,odi,oda,osl⟩:=ox;dsimp only at hc hdx hda;subst hc hdx hda;refine wpAny_bind (wpAny_pure (wpAny_bind (wpAny_bind (wpAny_loadPart he ?_))));refine wpAny_bind (Looks.here (s:={s with toks:=s.toks+1}) (looks_clsIn X hcd) ?_)
 rw[hd];show wpAny _ _ (alloc {cls:= .type "dict",data:= .dict #[]}>>=fun d=>update x (fun o=>{o with dict:=some d})>>=fun _=>dictMade (.ref C) x d) _ _ _
 refine wpAny_bind (wpAny_alloc ?_);have lt:=Heap.lt_size he;have hne:x≠s.heap.objs.size:=EE lt;have he1:=Heap.get?_push_of_some (h:=s.heap) {cls:= .type "dict",data:= .dict #[]} he;have e1:(s.heap.push EY).get? s.heap.objs.size=some EY:=Heap.get?_push_size s.heap rfl;have e2:(s.heap.push EY).Ns s.heap.objs.size (fun _=>none):=⟨EY,#[],_,e1,rfl,(fun e he=>absurd he (by simp)),fun _=>rfl⟩
 refine wpAny_bind (wpAny_update he1 ?_);refine wpAny_pure ?_;have up:∀b,b≠x->((s.heap.push EY).update x (fun o=>{o with dict:=some s.heap.objs.size})).get? b=(s.heap.push EY).get? b:=fun b hb=>Heap.get?_update_other _ _ (Ne.symm hb)
 have e3:((s.heap.push EY).update x (fun o=>{o with dict:=some s.heap.objs.size})).Ns1 s.heap.objs.size (fun _=>none):=(Heap.Ns1.of_empty e2).at fun o q=>(up _ (Ne.symm hne)).trans q
 have e4:((s.heap.push EY).update x (fun o=>{o with dict:=some s.heap.objs.size})).get? x=some ⟨.ref C,some s.heap.objs.size,.fields vs,osl⟩:=Heap.get?_update_self _ he1 rfl
 refine wpAny_bind (wpAny_pure (wpAny_bind ?_));refine wpAny_nsSet1 (s:=⟨(s.heap.push EY).update x (fun o=>{o with dict:=some s.heap.objs.size}),s.gens,s.drawn,s.toks+1,s.os⟩) e3 fun h' hn2 hs2=>?_
 obtain ⟨oD,esD,epD,hoD,hdD,hcD⟩:=hn2.count (ns:= [name]) (PySem.Within.cons (ns:= []) name v (fun y hy=>absurd rfl hy))
 refine wpAny_bind (wpAny_lookBehind hoD (by rw[hdD];exact pastItsLine_dict (EX hcD (by show 1<=sizeLine+1;decide))) ?_)
 refine wpAny_pure (h h' (fun b o hb q=>?_) ((hs2.2 x hne).trans e4) hn2)
 have hbd:b≠s.heap.objs.size:=EE (Heap.lt_size q);exact (hs2.2 b hbd).trans ((up b hb).trans (Heap.get?_push_of_some _ q))
end
def Bk (K:D9) (ta tv:TE) (f:Str):TS:=fun D σ H=>tv σ H fun y H1=>ta σ H1 fun x H2=>∃a C S n,x= .ref a/\H2 a=some (df n a (.ref C) none)/\XA K C S/\EV K (.ref C) f=some none/\
 ∀d,H2 d=none->D.nx σ (ay (ay H2 d (.xd [(f,y)])) a (df n a (.ref C) (some d)))
section
variable {o value:Expr} {f:Str} {pos pos':Pos} {ta tv:TE}
theorem wX {pins:HL} {σ:St} {H:Hp} {s:Shared} {a C S:Addr} {y:V} {u:Value} {n:Bool} {A:Around} {E:HF} {Q:Unit->Shared->Prop} (I:aE X pins σ H s) (e:H a=some (df n a (.ref C) none)) (N:XA X.K C S)
  (hn:EV X.K (.ref C) f=some none) (ry:RelV y u) (h:∀d s',H d=none->aE X pins σ (ay (ay H d (.xd [(f,y)])) a (df n a (.ref C) (some d))) s'->Q () s'):
  wpAny (model X.prog X.w) A (setAttr (.ref a) f u) Q E s:=by
 obtain ⟨⟨ox,vs,h1,h2,h3,h4,h6,h5⟩,_⟩:=(show a7 X.prog X.w H s.heap a (df n a (.ref C) none) from I.hok a _ e)
 refine wW I.kIn h1 h2 h3 h4 N hn fun h' kp ha hd=>?_
 have nd:H s.heap.objs.size=none:=I.hok.fresh (E4 _);have ad:a≠s.heap.objs.size:=a9 e nd;refine h s.heap.objs.size _ nd ?_;have ne:∀b o,H b=some o->b≠s.heap.objs.size:=fun b o q=>a9 q nd
 have nea:∀b,H b=none->b≠a:=fun b q z=>by rw[z,e] at q;cases q
 refine I.un (t':=s.toks+2) (h':=h') ⟨?_,?_,?_,?_,?_,?_,?_⟩ ?_
 ·intro b o q n hb _;exact kp b o (nea b n) q
 ·intro b o q n hb _;exact ⟨o.slots,kp b o (nea b n) q⟩
 ·intro b o q n _;rw[ag (nea b n),ag (EE (Heap.lt_size q))];exact n
 ·intro b o q _
  by_cases hb:b=a
  ·subst hb;exact ⟨_,ha⟩
  ·exact ⟨o,kp b o hb q⟩
 ·intro b xs q;have hb:b≠a:=cJ q e (by intro z;cases z)
  rw[ag hb,ag (ne b _ q)];exact q
 ·intro b o' u' q;have hb:b≠a:=cJ q e (by intro z;cases z)
  rw[ag hb,ag (ne b _ q)];exact q
 ·intro b ps q;have hb:b≠a:=cJ q e (by intro z;cases z)
  exact ⟨#[],by rw[ag hb,ag (ne b _ q),q];simp⟩
 ·intro b ob q
  by_cases hb:b=a
  ·subst hb;rw[ac] at q;cases q;exact mX ha h2 rfl h4 h6 h5
  ·rw[ag hb] at q
   by_cases hbd:b=s.heap.objs.size
   ·subst hbd;rw[ac] at q;cases q;refine ⟨_,hd,fun g=>?_⟩
    show eA (FP g [(f,y)]) (if g=f then some u else none)
    by_cases hg:g=f
    ·subst hg;rw[if_pos rfl];simp only[FP,beq_self_eq_true];exact ry
    ·rw[if_neg hg];have:(g==f)=false:=beq_eq_false_iff_ne.mpr hg;simp only[FP,this]
     trivial
   ·rw[ag hbd] at q;refine (I.hok b ob q).stay (fun c v hc z=>kp c v (fun y=>?_) z) (fun c z=>?_) fun c xs z=>?_
    ·rcases hc with z'|z'
     ·exact hb (z'.symm.trans y)
     ·rw[y,e] at z';cases z'
    ·have hc:c≠a:=cJ z e (by intro z;cases z)
     rw[ag hc,ag (ne c _ z)];exact z
    ·have hc:c≠a:=cJ z e (by intro z;cases z)
     rw[ag hc,ag (ne c _ z)];exact z
end
section
variable {o e value:Expr} {f:Str} {pos pos':Pos} {ta tv:TE}
theorem rE {K:D9} (hK:X.K=K) (ha:PE X o ta) (hv:PE X value tv) (hs:swapsWith value (some (.Attribute o f pos')) pos.line X.env=pure false):PS X (.Assign [.Attribute o f pos'] value pos) (Bk K ta tv f):=by
 subst hK;intro pins s σ H D I h;refine plainObj_wpAny_Assign_Attribute (bu (hv pins s σ H _ I h) fun u s1 ⟨y,H1,I1,ry,q⟩=>bu (ha pins s1 σ H1 _ I1 q) fun ov s2 ⟨x,H2,I2,rx,a,C,S,nb,ex,ea,n,hn,q2⟩=>?_) hs
 subst ex;obtain rfl:ov=Value.ref a:=rx;exact wX I2 ea n hn ry fun d s3 nd I3=>⟨σ,_,I3,q2 d nd⟩
structure XF (K:D9) (C:Addr) (f:Str):Prop where
 gg:XG K C
 dct:PySem.W.hasDictIn K C=true
 no:EV K (.ref C) f=some none
def Bl (K:D9) (ta:TE) (f:Str):TE:=fun σ H Q=>ta σ H fun x H1=>∃a C d fs v n,x= .ref a/\H1 a=some (df n a (.ref C) (some d))/\H1 d=some (.xd fs)/\XF K C f/\fs.lookup f=some v/\Q v H1
theorem rF {K:D9} (hK:X.K=K) (he:PE X e ta) (hb:attributeBase e f X.env (eval e X.env)=eval e X.env):PE X (.Attribute e f pos) (Bl K ta f):=by
 subst hK;intro pins s σ H Q I h;refine rg hb (bu (he pins s σ H _ I h) fun ov s1 ⟨x,H1,I1,rx,a,C,d,fs,v,nb,ex,ea,ed,n,l,q⟩=>?_)
 subst ex;obtain rfl:ov=Value.ref a:=rx;obtain ⟨⟨ox,vs,h1,h2,h3,h4,_⟩,_⟩:=(show a7 X.prog X.w H1 s1.heap a (df nb a (.ref C) (some d)) from I1.hok a _ ea)
 obtain ⟨mA,ns,rel⟩:=(show a7 X.prog X.w H1 s1.heap d (.xd fs) from I1.hok d _ ed)
 obtain ⟨od,hod,lk⟩:=lD ns;obtain ⟨u,hu,ru⟩:=eA.some_of (v:=v) (o:=mA f) (by rw[<-l];exact rel f)
 have J:PySem.W.InstAt s1.heap a ox C (some od):=⟨h1,h2,by unfold PySem.W.notCls;rw[h4],by rw[h3];exact hod⟩
 have KX:=I1.kIn;have I2:=I1.tok (s1.toks+1);obtain ⟨hh,g,dr,t,os⟩:=s1;unfold getAttr;refine wpAny_bind (wpAny_mkText (uU (h:=hh) KX J n.gg fun A'=>jB KX J (PySem.W.findObj_own n.dct n.no rfl (by rw[lk,hu])) ?_))
 exact PySem.W.handed_on (lE ru) ⟨v,H1,I2,ru,q⟩
end
theorem wY {K:D9} {h:Heap} {N:Addr} {mg:HG} {n:Str} {v:Value} (X:K.In h) (G:h.Ns N mg) (e:EI K N n=some (some v)):mg n=some v:=by
 obtain ⟨o,es,ep,ho,hd,_,hf⟩:=G;unfold EI at e
 split at e
 ·rename_i q;have z:=X _ _ q;rw[ho] at z;cases z;cases hd
  split at e
  ·rename_i he;cases e;rw[<-hf];unfold nsFind findBy;rw[<-Array.find?_toList,he]
   rfl
  ·split at e<;>cases e
 ·cases e
structure Bm (K:D9) (C f:Addr):Prop where
 ex:∃bm N nm q bs hdct sn sub ab col dd k0 k1 k2 k3 k5,K.lookup C=some (excClassObj nm q C N bs bm hdct sn sub ab col dd k0 k1 k2 k3 k5 "ValueError.__new__")/\PySem.W.nsOkIn K N=true/\EI K N "__init__" =some (some (.ref f))/\PySem.W.tailIn K ug bm=true
 fn:PySem.W.typeIn K (.ref f)=some (.type "function")
 kp:En K (.ref C)=true
section
variable {prog:Program} {w:World} {A:Around} {E:HF} {h:Heap} {g:Array GenState} {d:Drawn} {t:Nat} {os:OsState}
variable {nm q:Str} {C N:Addr} {bs bm:HQ} {hdct:Bool} {sn:HN} {sub:HQ} {ab:Bool} {col:Option Bool} {dd:HR} {k0 k1 k2 k3 k5:HS}
theorem jZ {mN:HG} {rest:HQ} {fI:Addr} {oI:Obj} {Q:Fin->Shared->Prop} (tl:OwnTail h ug bm)
  (cl:h.get? C=some (excClassObj nm q C N bs bm hdct sn sub ab col dd k0 k1 k2 k3 k5 "ValueError.__new__")) (nn:h.Ns N mN) (ni:mN "__init__" =some (.ref fI)) (gI:h.get? fI=some oI) (cI:oI.cls= .type "function")
  (kq:∀h' e,Heap.MadeExcOf h h' e (.ref C) rest->wpAny (model prog w) A (call (.ref fI) (.ref e::rest)) (fun r s'=>r= .none/\Q (.done (.ret (.ref e))) s') E ⟨h',g,d,t,os⟩) (lr:rest.length<=sizeLine):
  wpAny (model prog w) A (Builtin.«type.__call__» ⟨.ref C::rest,[]⟩) Q E ⟨h,g,d,t,os⟩:=by
 have FV:=PySem.F.excBase_ValueError
 repeat (first|with_reducible refine wpAny_loadPart_at cl ?_|with_reducible refine wpAny_madeBy_exc cl ?_|wp_step)
 refine codeAny_call_builtin_code (Code.quiet_builtin _ FV.quiet) (wpAny_check_new_subT FV tl cl ?_);refine codeAny_exc_new_subT FV tl cl ?_ lr;show wpAny _ _ _ _ _ _;generalize hp:(h.push {cls:= .type "tuple",data:= .seq rest.toArray}).push {cls:= .ref C,data:= .fields #[.ref h.objs.size,.none,.none,.none,.bool false,.none]}=h2;have kp:∀b o,h.get? b=some o->h2.get? b=some o:=fun b o z=>by rw[<-hp];exact Heap.get?_push_of_some _ (Heap.get?_push_of_some _ z)
 have ge:h2.get? (h.objs.size+1)=some {cls:= .ref C,data:= .fields #[.ref h.objs.size,.none,.none,.none,.bool false,.none]}:=by rw[<-hp];heap_get
 have gt:h2.get? h.objs.size=some {cls:= .type "tuple",data:= .seq rest.toArray}:=by rw[<-hp];exact Heap.get?_push_of_some _ (Heap.get?_push_at rfl rfl)
 have cl2:=kp _ _ cl;have nn2:h2.Ns N mN:=nn.keeps kp;have self:(Value.ref C::bm).contains (.ref C)=true:=by simp
 unfold isInstance
 repeat (first|with_reducible refine wpAny_loadPart_at ge ?_|(with_reducible refine wpAny_isSubtype_exc cl2 ?_;rw[self])|wp_step)
 show wpAny _ _ (typeLookup (.ref C) _) _ _ _;refine wpAny_typeLookup_tail cl2 nn2 (tl.keeps kp) FV.mroIs FV.init.lookup ?_;rw[ni];refine wpAny_holding (wpAny_bind ?_);unfold bindSpecial;refine wpAny_bind (wpAny_typeOf (T:= "function") ⟨_,kp _ _ gI,cI⟩ ?_);rw[if_pos (by decide)]
 refine wpAny_pure (wpAny_bind ?_);refine wpAny_mono (kq h2 (h.objs.size+1) ⟨kp,Heap.get?_none_of_le (Nat.le_succ _),h.objs.size,ge,Heap.get?_none_of_le (E4 _),gt⟩) (fun r s' hr=>?_) fun _ _ z=>z
 obtain ⟨rfl,z⟩:=hr
 wp_walk
 exact z
theorem sW {mN:HG} {rest:HQ} {fI:Addr} {oI:Obj} {Q:HF} (tl:OwnTail h ug bm)
  (cl:h.get? C=some (excClassObj nm q C N bs bm hdct sn sub ab col dd k0 k1 k2 k3 k5 "ValueError.__new__")) (nn:h.Ns N mN) (ni:mN "__init__" =some (.ref fI)) (gI:h.get? fI=some oI) (cI:oI.cls= .type "function")
  (kq:∀h' e,Heap.MadeExcOf h h' e (.ref C) rest->wpAny (model prog w) (A.under (.builtin "type.__call__" ⟨.ref C::rest,[]⟩)) (call (.ref fI) (.ref e::rest)) (fun r s'=>r= .none/\Q (.ref e) s') E ⟨h',g,d,t,os⟩) (lr:rest.length<=sizeLine):
  wpAny (model prog w) A (call (.ref C) rest) Q E ⟨h,g,d,t,os⟩:=by
 have a1:=tc_lookup;have a2:=tc_bind (.ref C);have ty:(⟨h,g,d,t,os⟩:Shared).TypeIs (.ref C) "type" :=⟨_,cl,rfl⟩;refine wpAny_call (codeAny_of_tree ?_);show wpAny _ _ (callAny (.ref C) _) _ _ _
 repeat (any_goals (first|assumption|with_reducible refine wpAny_loadPart_at cl ?_|wp_step))
 refine ⟨rfl,?_⟩;refine codeAny_call_builtin_at (Code.quiet_builtin _ (by decide+kernel)) entry_typeCall (wpAny_check_type_call_sub cl ?_)
 exact jZ tl cl nn ni gI cI (fun h' e mk=>kq h' e mk) lr
end
section
variable {x:Str} {p pos:Pos} {e:Expr} {es:List Expr} {C fI:Addr} {t:TA} {k:Nat} {fd:FuncData} {ps:HN} {sp:Sp}
theorem uY {pins:HL} {σ:St} {H:Hp} {s:Shared} {Q:HF} {us:HQ} {vs:List V} {E:HF} {R:Addr->Hp->Prop} (M:Bm X.K C fI) (F:a8 X.prog X.w X.K X.mg X.base bj k fI fd ps sp) (hr:bZ (k+1) X.A) (hb:Binds X.K fd ps [])
  (I:aE X pins σ H s) (r:aT vs us) (lr:vs.length<=sizeLine) (h:∀a,H a=none->sp (.ref a::vs) (ay H a (df true a (.ref C) none)) (fun v H2=>v= .non/\R a H2) E0)
  (hq:∀a h' H2 s2,Heap.MadeExcOf s.heap h' a (.ref C) us->s2.os=s.os->AllBare s2.gens->Un (jn X.stack) [] H H2 s.heap s2.heap->eI X.prog X.w H2 s2.heap->R a H2->Q (.ref a) s2):
  wpAny (model X.prog X.w) X.A (call (.ref C) us) Q E s:=by
 obtain ⟨bm,N,nm,qn,bs,hdct,sn,sub,ab,col,dd,k0,k1,k2,k3,k5,lk,ok,ini,tl⟩:=M.ex;have KX:=I.kIn;have lr':us.length<=sizeLine:=by rw[<-r.length];exact lr
 have fn:=M.fn;unfold PySem.W.typeIn at fn;obtain ⟨oI,gI,cI⟩:=Et.mp fn;have nn:s.heap.Ns N (s.heap.nsMap N):= .of_isNs (PySem.W.isNs_of_in KX ok);have key:=fun h' a (mk:Heap.MadeExcOf s.heap h' a (.ref C) us)=>(rC I mk).caughtN I
 have un:=fun h' a (mk:Heap.MadeExcOf s.heap h' a (.ref C) us)=>jV (o:=df true a (.ref C) none) (Un.kept (fs:=jn X.stack) (ex:= []) (H:=H) mk.keeps) mk.new (I.hok.none_of mk.new)
 obtain ⟨hh,g,d,tk,os⟩:=s;refine sW (PySem.W.tail_of_in KX tl) (KX _ _ lk) nn (wY KX nn ini) (KX _ _ gI) cI (fun h' a mk=>?_) lr'
 have I2:=key h' a mk;have na:H a=none:=I.hok.none_of mk.new;have hs:=h a na;have r2:aT (V.ref a::vs) (Value.ref a::us):= .cons rfl r;have hl:(Value.ref a::us++ []).length=ps.length:=by
  rw[Fj,<-r2.length];exact F.len _ _ _ _ hs
 have hb':=hb ⟨h',g,d,tk,os⟩ (Value.ref a::us) I2.kIn hl;rw[Fj] at hb';refine wpAny_call (codeAny_mono (F.run _ X.stack _ _ ⟨Value.ref a::us,[]⟩ (Value.ref a::us) _ _ E0 (hr.make C us []) (I2.env0.make C us []) hb' r2 hs) fun rr s' hq'=>?_)
 cases rr with
 |error z=>exact hq'.elim
 |ok fl=>
  cases fl with
  |ret u=>
   obtain ⟨v,H2,os',bare,un2,hok,rv,ev,q2⟩:=hq';subst ev;exact ⟨rv,hq a h' H2 s' mk os' bare ((un h' a mk).trans un2) hok q2⟩
  |next=>exact False.elim hq'
  |brk=>exact False.elim hq'
  |cont=>exact False.elim hq'
end
section
variable {M:Model} {A:Around} {E:HF} {env:Env}
variable {nm q:Str} {C N:Addr} {bs bm:HQ} {hdct:Bool} {sn:HN} {sub:HQ} {ab:Bool} {col:Option Bool} {dd:HR} {k0 k1 k2 k3 k5:HS} {nw:String}
theorem sY {s:Shared} {x:Sem Value} {Q:Flow->Shared->Prop} (hb:bm.contains (.type "BaseException")=true) (hh:A.handled=none)
  (h:wpAny M A x (fun v s1=>∃e dx ws sl,v= .ref e/\s1.heap.get? C=some (excClassObj nm q C N bs bm hdct sn sub ab col dd k0 k1 k2 k3 k5 nw)/\s1.heap.get? e=some ⟨.ref C,dx,.fields ws,sl⟩/\ws[1]?=some .none/\E (.ref e) s1) E s):
  wpAny M A (raiseStmt env (some x) none) Q E s:=by
 have cb:(Value.ref C::bm).contains (.type "BaseException")=true:=by rw[List.contains_cons,hb,Bool.or_true]
 unfold raiseStmt;apply wpAny_bind;refine wpAny_mono h (fun v s1 h1=>?_) fun _ _ z=>z
 obtain ⟨e,dx,ws,sl,rfl,cl,ge,n1,he⟩:=h1;obtain ⟨hp,g,d,tk,os⟩:=s1
 repeat (first|with_reducible refine wpAny_loadPart_at ge ?_|with_reducible refine wpAny_loadPart_at cl ?_|(with_reducible refine wpAny_isSubtype_exc cl ?_;rw[cb])|wp_step)
 rw[n1];refine wpAny_pure ?_;rw[if_neg (by decide)]
 exact wpAny_pure (wpAny_raiseNew_none hh he)
end
def del (H:Hp) (a:Addr):Hp:=fun b=>if b=a then none else H b
theorem fD {H:Hp} {a b:Addr} (h:b≠a):del H a b=H b:=if_neg h
theorem j5 {H:Hp} {a:Addr}:del H a a=none:=if_pos rfl
theorem zt {fs:HP} {H H2:Hp} {h0 h:Heap} {a:Addr} (u:Un fs [] H H2 h0 h) (na:H a=none):Un fs [] H (del H2 a) h0 h where
 keep:=u.keep
 slot:=u.slot
 free:=fun b o q n hx=>by
  by_cases hb:b=a
  ·rw[hb,j5]
  ·rw[fD hb];exact u.free b o q n hx
 there:=u.there
 tups:=fun b xs e=>by rw[fD (a9 e na)];exact u.tups b xs e
 frzs:=fun b o w e=>by rw[fD (a9 e na)];exact u.frzs b o w e
 tbls:=fun b ps e=>by rw[fD (a9 e na)];exact u.tbls b ps e
theorem wZ {P:Program} {w:World} {H:Hp} {h:Heap} {a:Addr} {φ:Heap->Prop} (k:eI P w H h) (e:H a=some (.ext φ)):eI P w (del H a) h:=fun b o q=>by
 by_cases hb:b=a
 ·rw[hb,j5] at q;cases q
 ·rw[fD hb] at q;refine (k b o q).stay (fun c v _ z=>z) (fun c z=>?_) fun c xs z=>?_
  ·rw[fD (cJ z e (by intro y;cases y))];exact z
  ·rw[fD (cJ z e (by intro y;cases y))];exact z
def rG (C:Addr) (sp:Sp) (E:St->XK) (t:TA):TS:=fun _ σ H=>t σ H fun vs H1=>vs.length<=sizeLine/\∀a,H1 a=none->sp (.ref a::vs) (ay H1 a (df true a (.ref C) none)) (fun v H2=>v= .non/\∃d,H2 a=some (df true a (.ref C) (some d))/\E σ (.ref C) (some d) (del H2 a)) E0
section
variable {x:Str} {np cpos pos:Pos} {e₀:Expr} {rest:List Expr} {C fI:Addr} {t:TA} {k:Nat} {fd:FuncData} {ps:HN} {sp:Sp} {E:St->XK}
theorem sZ (M:Bm X.K C fI) (F:a8 X.prog X.w X.K X.mg X.base bj k fI fd ps sp) (hr:bZ (k+1) X.A) (hg:Gl X x) (hm:X.mg x=some (.ref C)) (hb:Binds X.K fd ps []) (hc:X.calm=true) (hp:gK X E) (ha:PA X (e₀::rest) t) (hd:(x==("__debug__" :Str))=false:=by decide)
  (he:starEach (e₀::rest) X.env=(false,eval e₀ X.env)::starEach rest X.env:=by rfl) (hpl:(backTo cpos (starEach rest X.env)).any (·.1)=false:=by rfl):
  PS X (.Raise (some (.Call (.Name x np) (e₀::rest) [] cpos)) none pos) (rG C sp E t):=by
 intro pins s σ H D I h;obtain ⟨bm,N,nm,qn,bs,hdct,sn,sub,ab,col,dd,k0,k1,k2,k3,k5,lk,ok,ini,tl⟩:=M.ex;have bb:bm.contains (.type "BaseException")=true:=(PySem.W.tail_of_in I.kIn tl).hasType PySem.F.excBase_ValueError.hasBase;have body:wpAny (model X.prog X.w) X.A (eval (.Call (.Name x np) (e₀::rest) [] cpos) X.env) (fun v s1=>∃e dx ws sl,v= .ref e/\s1.heap.get? C=some (excClassObj nm qn C N bs bm hdct sn sub ab col dd k0 k1 k2 k3 k5 "ValueError.__new__")/\s1.heap.get? e=some ⟨.ref C,dx,.fields ws,sl⟩/\ws[1]?=some .none/\X.xe (.ref e) s1) X.xe s:=by
  refine wpAny_Call_Name_kw (dJ I hg hm ?_ hd);refine FH (h₀:=X.base) I.ok.mod.kin M.kp (bu (ha cpos pins s σ H _ I h) fun us s1 ⟨vs,H1,I1,r,lr,q⟩=>⟨I1.kIn,?_⟩) he hpl
  refine uY M F hr hb I1 r lr q fun a h' H2 s2 mk os bare un hok q2=>?_
  obtain ⟨d,ed,hE⟩:=q2;have I2:=I1.call' os un hok bare (fun b z=>absurd z (by simp))
  obtain ⟨⟨ox,ws,g1,g2,g3,g4,g6,g5⟩,_⟩:=(show a7 X.prog X.w H2 s2.heap a (df true a (.ref C) (some d)) from hok a _ ed)
  have na:=I1.hok.none_of mk.new;obtain ⟨oc,odx,oda,osl⟩:=ox;dsimp only at g2 g3 g4;subst g2 g3 g4;refine ⟨a,some d,ws,osl,rfl,I2.kIn _ _ lk,g1,(g5 rfl).2,hp pins σ H1 s1 _ _ I1 ⟨a,del H2 a,.ref C,some d,.new,rfl,⟨os,bare,zt un na,wZ hok ed,⟨⟨_,ws,g1,rfl,rfl,rfl,⟨(g5 rfl).1,g6⟩,(g5 rfl).2⟩,mk.new,j5⟩⟩,hE⟩⟩
 rw[arm_exec_Raise];apply wpAny_bind;apply wpAny_standAt;refine sY (C:=C) (nm:=nm) (q:=qn) (N:=N) (bs:=bs) (bm:=bm) (hdct:=hdct) (sn:=sn) (sub:=sub) (ab:=ab) (col:=col) (dd:=dd) (k0:=k0) (k1:=k1) (k2:=k2) (k3:=k3) (k5:=k5) (nw:= "ValueError.__new__") bb (I.ok.hd hc) ?_;apply wpAny_bind;refine wpAny_mono body (fun v s1 h1=>?_) fun _ _ z=>z
 apply wpAny_bind;apply wpAny_standAt;exact wpAny_pure h1
end
theorem kU:entryFor table "proto.unchain" =some Builtin.«proto.unchain» :=entryFor_of_fast (by kernel_rfl)
def qu (hd:HS) (H:Hp):Prop:=∀v,hd=some v->∃a n cls dx,v= .ref a/\H a=some (df n a cls dx)
theorem qu.no {H:Hp}:qu none H:=fun _ z=>nomatch z
section
variable {prog:Program} {w:World} {A:Around} {E:HF}
theorem qw {it hx:Addr} {ox:Obj} {vs:Array Value} {x left step:Int} {Q:HS->Shared->Prop} (hh:A.handled=some (.ref hx)) (ho:s.heap.get? hx=some ox) (hd:ox.data= .fields vs) (h2:vs[2]?=some .none)
  (hit:IsRangeIter s.heap it x left step) (hleft:left<=0) (hQ:∀h',Heap.ExtBut it s.heap h'->Q none {s with heap:=h'}):wpAny (model prog w) A (pyNext (.ref it)) Q E s:=by
 have hT:s.TypeIs (.ref it) "range_iterator" :=⟨_,hit,rfl⟩;unfold pyNext;refine wpAny_bind (wpAny_attempt (wpAny_callSpecial?_slot (name:=Str.ofString "__next__") hT F.slot_range_iterator_next
  (wpAny_call_entry F.slot_range_iterator_next hT F.entry_range_iterator_next ?_ (F.args_range_iterator_next_1 _))))
 show wpAny _ _ (field (.ref it) 0>>=_) _ _ s;refine wpAny_bind (wpAny_field hit rfl (x:=rawInt x) rfl ?_);show wpAny _ _ (field (.ref it) 1>>=_) _ _ s;refine wpAny_bind (wpAny_field hit rfl (x:=rawInt left) rfl ?_);show wpAny _ _ (field (.ref it) 2>>=_) _ _ s;refine wpAny_bind (wpAny_field hit rfl (x:=rawInt step) rfl ?_);show wpAny _ _ (if left<=0 then _ else _) _ _ s
 rw[if_pos hleft];refine wpAny_bind (wpAny_rule ?_);refine wpAny_bind ?_;show wpAny _ _ (newExc (.type "StopIteration") []>>=_) _ _ _;refine wpAny_bind ?_;simp only[newExc,newTuple];refine wpAny_bind (wpAny_newObj_type ?_ (by size_fits))
 refine wpAny_bind (m:=firstArgMember _ _) (wpAny_of_eq (a:=Value.none) (by first|rfl|(simp only[firstArgMember];rfl)) ?_)
 refine wpAny_newObj_type ?_ (by size_fits)
 simp only[raiseNew];refine wpAny_bind (wpAny_handled ?_);rw[show A.in1.handled=some (.ref hx) from hh]
 have g0:s.heap.get? (s.heap.push {cls:= .type "tuple",dict:=none,data:= .seq ([]:HQ).toArray}).objs.size=none:=Heap.get?_none_of_le (by rw[Heap.size_push];lia)
 have ne:hx≠(s.heap.push {cls:= .type "tuple",dict:=none,data:= .seq ([]:HQ).toArray}).objs.size:=fun z=>by
  rw[z,g0] at ho;cases ho
 dsimp only;rw[if_pos (bne_iff_ne.mpr fun z=>ne (Value.ref.inj z))]
 refine wpAny_bind (wpAny_holding (wpAny_runValue (codeAny_builtin kU ?_)));show wpAny _ _ (field (.ref hx) 2>>=_) _ _ _;refine wpAny_bind (wpAny_field (Heap.get?_push_of_some _ (Heap.get?_push_of_some _ ho)) hd h2 ?_);rw[if_pos (by rfl)]
 refine wpAny_bind (wpAny_pure (wpAny_pure ?_));refine wpAny_bind (m:=updateField _ 2 _) (wpAny_setField (Heap.get?_push_size _ rfl) rfl (by show 2<6;decide) ?_)
 refine wpAny_throw ?_;refine wpAny_bind (wpAny_isInstance (T:= "StopIteration") (b:=true) ⟨_,Heap.get?_update_self _ (Heap.get?_push_size _ rfl) rfl,rfl⟩ isSubtype_stop ?_);refine wpAny_pure (hQ _ fun b o hb e=>?_)
 rw[Heap.get?_update_other _ _ (by
  intro z;rw[z] at g0;rw[g0] at e;cases e)]
 exact Heap.get?_push_of_some _ (Heap.get?_push_of_some _ e)
end
structure yE (hd:HS) (P:Program) (w:World) (K:D9) (tg:Expr) (J:It) (fp:HP) (it:Addr) (tn:Nat->Heap->Prop):Prop where
 mem:it∈fp
 obj:∀i h,tn i h->∀b∈fp,∃o,h.get? b=some o/\∀v,o.data≠ .cell v
 keep:∀i h h',tn i h->(∀b∈fp,∀o,h.get? b=some o->h'.get? b=some o)->tn i h'
 item:∀(X:Cx),X.prog=P->X.w=w->X.K=K->X.A.handled=hd->∀(i:Nat) (pins:HL) (s:Shared) (σ:St) (H:Hp) (E:HF),aE X pins σ H s->(∀b∈fp,dR X pins H b)->tn i s.heap->J.go i H->
  wpAny (model P w) X.A (pyNext (.ref it)) (fun r s1=>∃u,r=some u/\
   wpAny (model P w) X.A (letOwnedTupleGo tg (.ref it) u) (fun _ s2=>∃x H',aE X pins σ H' s2/\RelV x u/\J.yld i H x H'/\tn (i+1) s2.heap/\∀b∈fp,H' b=none) E s1) E s
 done:∀(X:Cx),X.prog=P->X.w=w->X.K=K->X.A.handled=hd->∀(i:Nat) (pins:HL) (s:Shared) (σ:St) (H:Hp) (E:HF),aE X pins σ H s->(∀b∈fp,dR X pins H b)->tn i s.heap->J.stop i H->
  wpAny (model P w) X.A (pyNext (.ref it)) (fun r s1=>r=none/\aE X pins σ H s1) E s
 self:∀(A:Around) (i:Nat) (s:Shared) (Q:HF) (E:HF),tn i s.heap->Q (.ref it) s->wpAny (model P w) A (pyIter (.ref it)) Q E s
def Bo (hd:HS) (X:Cx) (pins:HL) (σ:St) (tg:Expr) (R:It->Hp->Prop) (itv:Value) (s2:Shared):Prop:=
 ∃(it:Addr) (fp:HP) (tn:Nat->Heap->Prop) (J:It) (H':Hp),itv= .ref it/\aE X pins σ H' s2/\yE hd X.prog X.w X.K tg J fp it tn/\tn 0 s2.heap/\(∀b∈fp,dR X pins H' b)/\R J H'
def DN (hd:HS) (X:Cx) (tg iter:Expr) (wi:TI):Prop:=
 ∀(pins:HL) (s:Shared) (σ:St) (H:Hp) (R:It->Hp->Prop),aE X pins σ H s->wi σ H R->
  wpAny (model X.prog X.w) X.A (eval iter X.env) (fun v s1=>wpAny (model X.prog X.w) X.A (pyIter v) (Bo hd X pins σ tg R) X.xe s1) X.xe s
def w6 (hd:HS) (lo:Int) (n:Nat):It:=⟨fun i _=>i<n,fun i H x H'=>H'=H/\x= .int (lo+i),fun i H=>n<=i/\qu hd H⟩
theorem oC {hd:HS} {P:Program} {w:World} {K:D9} {tg:Expr} (it:Addr) (lo:Int) (n:Nat):yE hd P w K tg (w6 hd lo n) [it] it (fun i h=>IsRangeIter h it (lo+(i:Nat)*1) ((n:Int)-(i:Nat)) 1) where
 mem:=by simp
 obj:=fun i h st b hb=>by
  have e:b=it:=by simpa using hb
  subst e;exact ⟨_,st,fun v z=>by
   have z':Data.fields _=Data.cell v:=z;cases z'⟩
 keep:=fun i h h' st k=>k it (by simp) _ st
 item:=by
  intro X hP hw hK hA i pins s σ H E I hf st hg;subst hP hw hK;obtain ⟨f0,f1,f2,f3,f4,f5⟩:=hf it (by simp)
  have hg':i<n:=hg;refine wpAny_pyNext_range_item st (by lia) fun h' st' sb=>?_
  have I1:aE X pins σ H {s with heap:=h',toks:=s.toks+1}:=I.turned (fun b o hb e=>(sb.2 b hb).trans e) f0 f1 f3 f4 f5
  have st2:IsRangeIter h' it (lo+((i+1:Nat):Int)*1) ((n:Int)-((i+1:Nat):Int)) 1:=by
   have e1:lo+((i+1:Nat):Int)*1=lo+(i:Int)*1+1:=by push_cast;lia
   have e2:(n:Int)-((i+1:Nat):Int)=(n:Int)-(i:Int)-1:=by push_cast;lia
   rw[e1,e2];exact st'
  refine ⟨_,rfl,lq (s:={s with heap:=h',toks:=s.toks+1}) (n:= "range_iterator") st2 rfl rfl (by decide) ⟨.int (lo+i),H,I1,⟨s.toks,?_⟩,⟨rfl,rfl⟩,st2,fun b hb=>(hf b hb).1⟩⟩
  rw[Int.mul_one]
 done:=by
  intro X hP hw hK hA i pins s σ H E I hf st hg;subst hP hw hK;obtain ⟨f0,f1,f2,f3,f4,f5⟩:=hf it (by simp)
  obtain ⟨hl,hk⟩:=hg;cases hd with
  |none=>exact wpAny_pyNext_range_end hA st (by lia) fun h' eb=>⟨rfl,I.turned (t':=s.toks) (fun b o hb e=>eb b o hb e) f0 f1 f3 f4 f5⟩
  |some v=>
   obtain ⟨a,m,cls,dx,rfl,e⟩:=hk v rfl;obtain ⟨⟨ox,vs,h1,h2,h3,h4,h6,h5⟩,_⟩:=(show a7 X.prog X.w H s.heap a (df m a cls dx) from I.hok a _ e)
   exact qw hA h1 h4 h6 st (by lia) fun h' eb=>⟨rfl,I.turned (t':=s.toks) (fun b o hb e=>eb b o hb e) f0 f1 f3 f4 f5⟩
 self:=fun _ _ _ _ _ st h=>wpAny_pyIter_rangeiter st h
def Bp (hd:HS) (ta:TA):TI:=fun σ H R=>ta σ H fun vs H1=>∃j:Int,vs= [.int j]/\ -(2^62)<=j/\j<2^62/\R (w6 hd 0 j.toNat) H1
section
variable {tg:Expr} {hd:HS}
theorem tj {pins:HL} {σ:St} {H:Hp} {s:Shared} {R:It->Hp->Prop} {E:HF} {lo hi:Int} {t u v:Tok} {tk:Nat} (I:aE X pins σ H s) (h1: -(2^62)<=lo) (h2:lo<2^62) (h3: -(2^62)<=hi) (h4:hi<2^62)
  (q:R (w6 hd lo (hi-lo).toNat) H):wpAny (model X.prog X.w) X.A (pyIter (.ref s.heap.objs.size)) (Bo hd X pins σ tg R) E {s with heap:=s.heap.push {cls:= .type "range",data:= .fields #[.int lo t,.int hi u,.int 1 v]},toks:=tk}:=by
 refine wpAny_pyIter_range (IsRange.new ..) (small_one h1 h2 h3 h4) ?_;have I1:aE X pins σ H {s with heap:=s.heap.push {cls:= .type "range",data:= .fields #[.int lo t,.int hi u,.int 1 v]},toks:=tk}:=I.kept fun b o e=>Heap.get?_push_of_some _ e
 refine ⟨(s.heap.push {cls:= .type "range",data:= .fields #[.int lo t,.int hi u,.int 1 v]}).objs.size,[(s.heap.push {cls:= .type "range",data:= .fields #[.int lo t,.int hi u,.int 1 v]}).objs.size],_,_,H,rfl,
  I1.kept (t':=tk) fun b o e=>Heap.get?_push_of_some _ e,oC _ lo (hi-lo).toNat,?_,fun b hb=>?_,q⟩
 ·have e1:lo+((0:Nat):Int)*1=lo:=by simp
  have e2:(((hi-lo).toNat:Nat):Int)-((0:Nat):Int)=Builtin.Range.rangeSize lo hi 1:=by rw[rangeSize_one];split<;>lia
  show IsRangeIter _ _ (lo+((0:Nat):Int)*1) ((((hi-lo).toNat:Nat):Int)-((0:Nat):Int)) 1;rw[e1,e2];exact Heap.get?_push_size _ rfl
 ·have e:b=(s.heap.push {cls:= .type "range",data:= .fields #[.int lo t,.int hi u,.int 1 v]}).objs.size:=by simpa using hb
  subst e;exact I1.fpOk (E4 _) (I1.hok.fresh (E4 _))
theorem tm {a:Expr} {ta:TA} {p pos:Pos} (hg:Gl X "range") (hm:X.mg "range" =none) (ha:PA X [a] ta) (hs:starEach [a] X.env= [(false,eval a X.env)]:=by rfl):DN hd X tg (.Call (.Name "range" p) [a] [] pos) (Bp hd ta):=by
 intro pins s σ H R I h;refine Call_ (fS I hg hm boot_range (F5 (bu (ha pos pins s σ H _ I h) fun us s1 ⟨vs,H1,I1,r1,q1⟩=>?_) hs rfl))
 obtain ⟨j,e,q1,q2,q⟩:=q1;subst e;cases r1 with
 |cons r rr=>
  cases rr;obtain ⟨t,rfl⟩:=r;exact call_range_1 (tj I1 (by lia) (by lia) q1 q2 (by simpa using q))
end
section
variable {scope:Scope} {cl:List (Str×Addr)} {own:Str} {ys:HN} {js:List Nat} {elt iter:Expr} {px pos:Pos} {wi:TI} {te:TE} {hd:HS}
theorem uZ {i:Nat} {y:Str} {py spos:Pos} (hN:X.N.Nodup) (hi':X.N[i]?=some y) (hy:X.env.scope.names.lookup y=some .local) (hA:X.A.handled=hd) (ok:gQ X scope cl own ys js) (hi:DN hd X (.Name own px) iter wi)
  (he:∀(C:Addr) (fp:HP) (s:Shared) (H:Hp),PE (X.block scope cl C (own::ys) own fp s H) elt te)
  (hsw:swapsWith (.ListComp elt [⟨.Name own px,iter,[],0⟩] scope pos) (some (.Name y py)) spos.line X.env=pure true:=by rfl) (hs:∀x,foldedSetIterable iter X.env x=pure x:=by intro _;rfl):
  PS X (.Assign [.Name y py] (.ListComp elt [⟨.Name own px,iter,[],0⟩] scope pos) spos) (ut (uW wi js te) (aM i)):=by
 intro pins s σ H D I h;have ncell:∀y∈scope.names,y.2≠ .cell:=fun y hy z=>by
  have q:=Er.mp ok.nocell y hy;rw[z] at q;simp at q
 have nloc:∀y∈scope.names,y.2= .local->scope.names.lookup y.1=some .local:=fun y hy z=>by
  have q:=Er.mp ok.loc y hy;rw[z] at q
  simpa using q
 show wpAny _ _ (exec _ X.env) _ _ _;rw[exec_Assign_Name_used _ _ _ _ hsw];refine wpAny_bind (wpAny_standAt (wpAny_bind ?_));show wpAny _ X.A (do let _<-comprehension (.ListComp elt [⟨.Name own px,iter,[],0⟩] scope pos) scope X.env _ (newList []) false (eval iter X.env) (some (assign (.Name y py) X.env))) _ _ s
 refine wpAny_bind (wpAny_mono (wpAny_comprehension_free (use:=some (assign (.Name y py) X.env)) (Q:=fun _ s'=>SP X pins D .next s') rfl hs ok.clos ok.kind nloc (bu (hi pins s σ H _ I h) fun v s1 h1=>bu h1 fun itv s2 h2=>?_)) (fun _ s' hq=>wpAny_pure (wpAny_pure hq)) fun _ _ e=>e)
 obtain ⟨it,fp,tn,J,H2,rfl,I2,T,st2,f2,q2⟩:=h2;obtain ⟨W,⟨m0,w0⟩,turn⟩:=q2 s2.heap.objs.size (I2.hok.fresh (E4 _));refine wpAny_newObj_type (wpAny_newFunctionEnv ncell (by intro y hy;simp at hy) (fun h1 hns hsb=>?_) ok.kind)
 have I3:=I2.laid (a:=s2.heap.objs.size) (o:= .lst []) (h':=s2.heap.push {cls:= .type "list",dict:=none,data:= .seq ([]:HQ).toArray}) (t':=s2.toks) (fun b u q=>Heap.get?_push_of_some _ q) (E4 _)
  ⟨EO _,[],0,.nil,Heap.get?_push_size _ rfl⟩
 have fpo:∀b∈fp,b<s2.heap.objs.size:=fun b hb=>by
  obtain ⟨o,e,_⟩:=T.obj 0 _ st2 b hb;exact Heap.lt_size e
 have f3:∀b∈fp,dR X pins (ay H2 s2.heap.objs.size (.lst [])) b:=fun b hb=>⟨by rw[ag (EE (fpo b hb))];exact (f2 b hb).1,(f2 b hb).2⟩
 generalize hs3:({s2 with heap:=s2.heap.push {cls:= .type "list",dict:=none,data:= .seq ([]:HQ).toArray},toks:=s2.toks}:Shared)=s3 at I3
 have e3:s3.heap=s2.heap.push {cls:= .type "list",dict:=none,data:= .seq ([]:HQ).toArray}:=by rw[<-hs3]
 have lt3:∀b∈fp,b<s3.heap.objs.size:=fun b hb=>by rw[e3,Heap.size_push];exact F3 (fpo b hb)
 dsimp only at hns hsb⊢;rw[<-e3] at hns hsb;have hk:∀b o,s3.heap.get? b=some o->h1.get? b=some o:=fun b o e=>hsb.extBut b o (EE (Heap.lt_size e)) (Heap.get?_push_of_some _ e)
 have J0:=dC (h1:=h1) ok I3 f3 lt3 hns hk (s2.toks+0);have t0:tn 0 h1:=T.keep 0 _ _ st2 fun b hb o e=>hk b o (by rw[e3];exact Heap.get?_push_of_some _ e)
 have fpB:∀{H':Hp},(∀b∈fp,H' b=none)->∀b∈fp,dR (X.block scope cl s3.heap.objs.size (own::ys) own fp s3 (ay H2 s2.heap.objs.size (.lst []))) [] H' b:=fun {H'} hn b hb=>
  ⟨hn b hb,EE (lt3 b hb),fun z=>(EC.mp (I3.stkSub b z)).elim (f3 b hb).2.1 (f3 b hb).2.2.1,.inl hb,fun x c e=>(f3 b hb).2.2.2.2.1 x c (ok.sub (x,c) (Ej e)),fun p hp=>absurd (show p∈([]:HL) from hp) (by simp)⟩
 have loop:codeAny (model X.prog X.w) X.A (.compLoop (.ListComp elt [⟨.Name own px,iter,[],0⟩] scope pos) 0 (.ref it) (.ref s2.heap.objs.size) (compEnvC scope cl s3.heap.objs.size X.env))
   (compPost (model X.prog X.w) X.A X.xe (some (assign (.Name y py) X.env)) (fun _ s'=>SP X pins D .next s') (.ref s2.heap.objs.size) s3.heap.objs.size) {s3 with heap:=h1,toks:=s2.toks+0}:=by
  refine fB (fun n s'=>∃i zs o0 H',aE (X.block scope cl s3.heap.objs.size (own::ys) own fp s3 (ay H2 s2.heap.objs.size (.lst []))) [] (o0::bh js σ) H' s'/\tn i s'.heap/\(∀b∈fp,H' b=none)/\W i n zs H') ?_ m0
   ⟨0,[],none,_,J0,t0,fun b hb=>(f3 b hb).1,w0⟩
  rintro n s5 ⟨i,zs,o0,H5,I5,t5,n5,w5⟩;obtain ⟨hD,hw⟩:=turn i n zs H5 w5;rcases hw with ⟨stop,qn⟩|⟨go,hz,step⟩
  ·refine bu (T.done (X.block scope cl s3.heap.objs.size (own::ys) own fp s3 (ay H2 s2.heap.objs.size (.lst []))) rfl rfl rfl hA i [] s5 _ H5 (fun _ _=>False) I5 (fpB n5) t5 stop) fun r s6 ⟨hr,I6⟩=>?_
   subst hr;obtain ⟨m,hn,_⟩:=id I6.loc;have J:aE X pins σ H5 s6:=eW (h':=s6.heap) I3 f3 I6 (Heap.SameBut.refl _ _);have fC:=I3.fpOk (E4 _) (show H5 s3.heap.objs.size=none from I6.free)
   obtain ⟨k0,k1,k2,k3,k4,k5⟩:=fC;show wpAny _ X.A (assign (.Name y py) X.env (.ref s2.heap.objs.size)) _ _ _;refine wpAny_assign_Name (gp (v:= .ref s2.heap.objs.size) J hN hi' (.inl hy) rfl (fun s7 I7 hsb=>?_) (.inr hy))
   obtain ⟨a',sb,ha⟩:=hsb;have ne:s3.heap.objs.size≠a':=by
    rcases ha with z|z
    ·rw[z];exact k1
    ·exact fun w=>k4 _ _ z w.symm
   exact ⟨m,hn.sameBut sb ne,fun h' hs'=>⟨_,H5,I7.turned (t':=s7.toks) (fun b o hb e=>(hs'.2 b hb).trans e) k0 k1 k3 k4 k5,qn⟩⟩
  ·refine bu (T.item (X.block scope cl s3.heap.objs.size (own::ys) own fp s3 (ay H2 s2.heap.objs.size (.lst []))) rfl rfl rfl hA i [] s5 _ H5 (fun _ _=>False) I5 (fpB n5) t5 go) fun r s6 ⟨u,hr,h6⟩=>?_
   subst hr;refine bu h6 fun _ s7 ⟨x,H7,I7,r7,y7,t7,n7⟩=>?_
   have I7':=I7.pinned (fpB n7) (T.obj _ _ t7);have hst:=step x H7 y7;have own':(relabel scope X.env).names.lookup own=some .local:=lookup_relabel_local ok.ownL;refine bu (gq (X:=X.block scope cl s3.heap.objs.size (own::ys) own fp s3 (ay H2 s2.heap.objs.size (.lst []))) (i:=0) (x:=own) (pos:=px) ok.nd rfl (.inl own') (.inr own') _ s7 _ H7 x u (fun σ' H'=>σ'=some x::bh js σ/\H'=H7) I7' r7 ⟨rfl,rfl⟩) fun _ s8 ⟨σ8,H8,I8,e8,eH8⟩=>?_
   subst e8 eH8;refine bu (he _ _ _ _ _ s8 _ H8 _ I8 hst) fun yv s9 ⟨y,H9,I9,r9,hD9,m',hm,w9⟩=>?_
   refine bu (bC _ s9 _ H9 (.ref s2.heap.objs.size) [y] (.ref s2.heap.objs.size) [yv] (fun _ H'=>H'=ay H9 s2.heap.objs.size (.lst (zs++ [y]))) I9 rfl (.cons r9 .nil) ⟨_,zs,y,rfl,rfl,hD9,hz,rfl⟩) fun _ s10 ⟨_,H10,I10,_,e10⟩=>?_
   subst e10;refine ⟨m',hm,i+1,zs++ [y],some x,_,I10.unpinned,T.keep _ _ _ t7 fun b hb o e=>(I10.pin (b,o) (ED _ (ED _ (bU hb e)))).1,fun b hb=>?_,w9⟩
   obtain ⟨o,e,d⟩:=T.obj _ _ t7 b hb;exact (I10.pin (b,o) (ED _ (ED _ (bU hb e)))).2.1
 subst hs3;exact codeAny_compStart_list loop (T.self _ 0 _ _ _ t0 loop)
end
def Bq (K:D9) (C':Addr) (i:Nat) (t:Addr->TS) (r:TH):TH:=fun D σ cls dx H a=>∃C b,cls= .ref C/\PySem.W.subIn K (.ref C) (.ref C')=some b/\
 if b=true then t a (Bj i D) (σ.set i (some (.ref a))) (ay H a (wT a cls dx)) else r D σ cls dx H a
section
variable {x n:Str} {np pos:Pos} {b0:Stmt} {suite:List Stmt} {rest:List ExceptHandler} {i:Nat} {C':Addr} {tA:Addr->TS} {th:TH}
theorem u0 (T:XT X.K C') (hg:Gl X x) (hm:X.mg x=some (.ref C')) (hN:X.N.Nodup) (hi:X.N[i]?=some n) (hloc:X.env.scope.names.lookup n=some .local)
  (hs:∀(pins:HL) (a:Addr),kO (X.suite pins a) (b0::suite) (tA a)) (hrest:PH X rest th) (hd:(x==("__debug__" :Str))=false:=by decide):
  PH X (.ExceptHandler (some (.Name x np)) (some n) (b0::suite) pos::rest) (Bq X.K C' i tA th):=by
 intro pins σ H0 s0 D a H' cls v dx s' I c h;obtain ⟨C,b,rfl,hsub,h⟩:=h;have J:aE X pins σ H' s':=I.call' c.os c.un c.hok c.bare (fun b z=>absurd z (by simp))
 obtain ⟨oe,vs,he,hc,_,_,_⟩:=c.xo.ex;refine wpAny_handleBy_cons (codeAny_handlers_test (dJ (X:=X.suite pins a) (J.insuite a) hg hm ?_ hd)) (by intro q;cases q)
 have KX:=J.kIn;obtain ⟨hh,g,d,tk,os⟩:=s';refine qr KX he hc T hsub ?_;cases b with
 |false=>exact hrest pins σ H0 s0 D a H' _ v dx _ I c h
 |true=>
  refine codeAny_handlers_suite_as ?_;refine c.flight I.stack I.stkFree fun s2 c2=>?_
  have J2:=(c2.caught I).insuite a;refine eJ (X:=X.suite pins a) (v:=V.ref a) J2 hN hi (.inl hloc) (show RelV (V.ref a) (Value.ref a) from rfl) (fun s3 I3=>?_) (.inr hloc)
  refine wpAny_mono (hs pins a [] s3 _ _ _ I3 h) (fun f s4 q=>?_) fun _ _ z=>z.elim
  exact wU I.ok hN hi hloc q
end
structure dI (hd:HS) (k:Nat) (A:Around):Prop where
 hd:A.handled=hd
 dp:A.depth+3*k+5<recursionLimit
 un:A.units+16*k+200<cLine
theorem dI.mono {hd:HS} {j k:Nat} {A:Around} (r:dI hd k A) (h:j<=k):dI hd j A:=⟨r.hd,by have:=r.dp;lia,by have:=r.un;lia⟩
theorem dI.deeper {hd:HS} {k:Nat} {A:Around} (r:dI hd (k+1) A) (env:Env):dI hd k (A.deeper env):=
 ⟨r.hd,by have:=r.dp;show A.depth+1+3*k+5<_;lia,by have:=r.un;show A.units+3+16*k+200<_;lia⟩
theorem dI.depth {hd:HS} {k:Nat} {A:Around} (r:dI hd k A):A.depth<recursionLimit:=by have:=r.dp;lia
theorem bZ.h {k:Nat} {A:Around} (r:bZ k A):dI none k A:=⟨r.hd,r.dp,r.un⟩
theorem bZ.suite {k:Nat} {A:Around} (r:bZ k A) (v:Value):dI (some v) k (A.mark (some v)):=⟨rfl,r.dp,r.un⟩
structure yF (hd:HS) (P:Program) (w:World) (K:D9) (mg:HG) (base:Heap) (k:Nat) (f:Addr) (fd:FuncData) (ps:HN) (sp:Sp):Prop where
 len:∀vs H Q E,sp vs H Q E->vs.length=ps.length
 run:∀(A:Around) (outer:List Env) (s:Shared) (H:Hp) (args:Args) (us:HQ) (vs:List V) (Q:VK) (E:XK),dI hd k A->kR P w K mg base A outer s H->BindsTo s fd args (ps.zip us)->aT vs us->sp vs H Q E->
  codeAny (model P w) A (.call (.ref f) args) (CR bj outer P w H s Q E) s
section
variable {P:Program} {w:World} {K:D9} {mg:HG} {base:Heap} {hd:HS}
theorem yF.calm {k:Nat} {f:Addr} {fd:FuncData} {ps:HN} {sp:Sp} (F:yF none P w K mg base k f fd ps sp):a8 P w K mg base bj k f fd ps sp:=
 ⟨F.len,fun A outer s H args us vs Q E hr=>F.run A outer s H args us vs Q E hr.h⟩
def zu (hd:HS) (P:Program) (w:World) (K:D9) (mg:HG) (base:Heap) (N:HN) (qual:Str) (scope:Scope) (f:Addr) (cd:Value) (A:Around) (outer:List Env) (s:Shared) (H:Hp) (E:XK):Cx:=
 {i5 bj P w K mg base N qual scope f cd A outer s H E with calm:=hd.isNone}
theorem qx {N ps:HN} {qual:Str} {scope:Scope} {f:Addr} {cd:Value} {A:Around} {outer:List Env} {s s1:Shared} {H:Hp} {E:XK} {us:HQ} {vs:List V}
  (S:aB N ps scope) (hA:A.handled=hd) (e0:kR P w K mg base A outer s H) (hl:vs.length=ps.length) (r:aT vs us)
  (x:InCallC s s.heap.objs.size (bindL (envOfC qual scope s.heap.objs.size f cd).kindOf (ps.zip us) fun _=>none) (cellsFrom (s.heap.objs.size+1) scope.names []) (bindC (envOfC qual scope s.heap.objs.size f cd).kindOf (ps.zip us) fun _=>none) s1):
  aE (zu hd P w K mg base N qual scope f cd A outer s H E) [] (start N vs) H s1:=by
 have e0':kR P w K mg base {A with handled:=none} outer s H:=⟨e0.frames,e0.mod,e0.bs,e0.bsz,e0.funs,e0.frf,e0.hok,e0.bare⟩
 have I:=lM (CX:=bj) (E:=E) S (A:={A with handled:=none}) rfl e0' hl r x
 have hh:(zu hd P w K mg base N qual scope f cd A outer s H E).calm=true->(zu hd P w K mg base N qual scope f cd A outer s H E).A.handled=none:=fun z=>by
  cases hd with
  |none=>exact hA
  |some v=>cases (show false=true from z)
 exact ⟨⟨I.ok.mod,I.ok.kind,I.ok.glob,I.ok.blt,I.ok.above,I.ok.inj,I.ok.has,I.ok.cab,hh,I.ok.frames,I.ok.stk,I.ok.exf,I.ok.bs,I.ok.bsz,I.ok.noex,I.ok.exfs,I.ok.funs,I.ok.frf⟩,
  I.os,I.bare,I.base,I.loc,I.cell,I.free,I.freeC,I.pin,I.hok,I.len⟩
theorem zw {k:Nat} {f:Addr} {name qual:Str} {params:Arguments} {body:List Stmt} {scope:Scope} {dV kV doc pm cdv ct oc:Value} {an od:HR}
  {osl:HM} {N ps:HN} {sp:Sp} (lk:K.lookup f=some ⟨oc,od,.func (Es name qual params body scope dV kV doc pm an cdv ct),osl⟩) (hcd:FF K cdv qual=true) (S:aB N ps scope)
  (len:∀vs H Q E,sp vs H Q E->vs.length=ps.length)
  (hbody:∀(A:Around) (outer:List Env) (s:Shared) (H:Hp) (vs:List V) (Q:VK) (E:XK),dI hd k (A.deeper (envOfC qual scope s.heap.objs.size f cdv))->sp vs H Q E->
   ∃t,kO (zu hd P w K mg base N qual scope f cdv A outer s H E) body t/\t {nx:=fun _ H'=>Q .non H',rt:=Q} (start N vs) H):
  yF hd P w K mg base (k+1) f (Es name qual params body scope dV kV doc pm an cdv ct) ps sp:=by
 refine ⟨len,fun A outer s H args us vs Q E hr e0 hb r hsp=>?_⟩
 have hl:=len _ _ _ _ hsp;have KX:K.In s.heap:=e0.mod.kin.keeps fun b o e=>(e0.bs b o e).1
 have lim:s.heap.NoLimit:=e0.mod.nolimit.keeps fun b o e=>(e0.bs b o e).1
 have hkind:∀y∈ps.zip us,scope.names.lookup y.1=some .local∨(scope.names.lookup y.1=some .cell/\((cellsFrom (s.heap.objs.size+1) scope.names []).lookup y.1).isSome=true):=fun ⟨n,v⟩ hy=>by
  rcases S.par n (List.of_mem_zip hy).1 with q|q
  ·exact .inl q
  ·exact .inr ⟨q,PySem.W.cellsFrom_some _ _ _ (.inl q)⟩
 refine codeAny_call_function hr.depth (KX _ _ lk) rfl S.co S.gen rfl (PySem.W.codeRec_of KX hcd) (hb _ _ _ _ ?_);refine wpAny_newFunctionEnv_cells S.kind hkind fun env he s1 x=>?_
 subst he;refine ⟨lim.keeps x.toInCall.keep,codeAny_func ?_⟩;obtain ⟨t,ht,hq⟩:=hbody A outer s H vs Q E (hr.deeper _) hsp;have I:aE (zu hd P w K mg base N qual scope f cdv A outer s H E) [] (start N vs) H s1:=qx S hr.hd e0 hl r x;refine wpAny_mono (ht [] s1 (start N vs) H _ I hq) (fun fl s' hs=>?_) fun e s' hs=>hs
 have fin:∀{σ':St} {H':Hp} {v:V} {u:Value},aE (zu hd P w K mg base N qual scope f cdv A outer s H E) [] σ' H' s'->RelV v u->Q v H'->CE outer P w H s Q u s':=
  fun {σ' H' v u} J rv q=>⟨v,H',J.os,J.bare,J.base,J.hok,rv,q⟩
 cases fl with
 |ret u=>
  obtain ⟨v,σ',H',J,rv,q⟩:=hs;exact fin J rv q
 |next=>
  obtain ⟨σ',H',J,q⟩:=hs;exact fin (v:=V.non) (u:=Value.none) J rfl q
 |brk=>
  obtain ⟨_,_,_,q⟩:=hs;exact False.elim q
 |cont=>
  obtain ⟨_,_,_,q⟩:=hs;exact False.elim q
end
section
variable {k:Nat} {f:Addr} {fd:FuncData} {ps:HN} {sp:Sp} {dvs:List V} {ds:HQ} {x:Str} {p pos:Pos} {e:Expr} {es:List Expr} {t:TA} {hd:HS}
theorem w8 {pins:HL} {σ:St} {H:Hp} {s:Shared} {Q:VK} {us:HQ} {vs:List V} (F:yF hd X.prog X.w X.K X.mg X.base k f fd ps sp) (hr:dI hd k X.A) (hb:Binds X.K fd ps ds) (hv:aT dvs ds)
  (I:aE X pins σ H s) (r:aT vs us) (h:sp (vs++dvs) H Q E0):wpAny (model X.prog X.w) X.A (call (.ref f) us) (EP X pins σ Q) X.xe s:=by
 have r2:aT (vs++dvs) (us++ds):=r.append hv;have hl:(us++ds).length=ps.length:=by rw[<-r2.length];exact F.len _ _ _ _ h
 refine wpAny_call (codeAny_mono (F.run X.A X.stack s H ⟨us,[]⟩ (us++ds) (vs++dvs) Q E0 hr I.env0 (hb s us I.kIn hl) r2 h) fun r s' hq=>?_)
 cases r with
 |error e=>exact False.elim hq
 |ok fl=>
  cases fl with
  |ret u=>exact I.after hq
  |next=>exact False.elim hq
  |brk=>exact False.elim hq
  |cont=>exact False.elim hq
theorem u3 (F:yF hd X.prog X.w X.K X.mg X.base k f fd ps sp) (hr:dI hd k X.A) (hg:Gl X x) (hm:X.mg x=some (.ref f)) (hk:En X.K (.ref f)=true) (hb:Binds X.K fd ps ds) (hv:aT dvs ds)
  (ha:PA X (e::es) t) (hdb:(x==("__debug__" :Str))=false:=by decide) (he:starEach (e::es) X.env=(false,eval e X.env)::starEach es X.env:=by rfl) (hpl:(backTo pos (starEach es X.env)).any (·.1)=false:=by rfl):
  PE X (.Call (.Name x p) (e::es) [] pos) (lG sp dvs E0 t):=by
 intro pins s σ H Q I h;refine wpAny_Call_Name_kw (dJ I hg hm ?_ hdb);refine FH (h₀:=X.base) I.ok.mod.kin hk (bu (ha pos pins s σ H _ I h) fun us s1 ⟨vs,H1,I1,r,q⟩=>⟨I1.kIn,?_⟩) he hpl
 exact w8 F hr hb hv I1 r q
end
end L2
namespace Sw
open PySem L2 XH
structure Dx (P:Program) (w:World) (K:D9) (mg:HG) (base:Heap) (CX:qc) (k:Nat) (x:Str) (ps:HN) (dvs:List V) (sp:Sp) where
 f:Addr
 fd:FuncData
 ok:a8 P w K mg base CX k f fd ps sp
 m:mg x=some (.ref f)
 q:En K (.ref f)=true
 b:Binds K fd ps []
 bd:∃ds,Binds K fd ps ds/\aT dvs ds
def Dx.calm {P:Program} {w:World} {K:D9} {mg:HG} {base:Heap} {k:Nat} {x:Str} {ps:HN} {dvs:List V} {sp sp0:Sp} (D:Dx P w K mg base (dZ P w) k x ps dvs sp) (h:∀vs H Q E,sp0 vs H Q E->sp vs H Q E0):Dx P w K mg base bj k x ps dvs sp0:=
 ⟨D.f,D.fd,D.ok.noraise h,D.m,D.q,D.b,D.bd⟩
section
variable {X:Cx} {k j:Nat} {x:Str} {ps:HN} {sp:Sp} {p pos:Pos} {e:Expr} {es:List Expr} {t:TA} {dvs:List V} {E:St->XK}
theorem u4 (D:Dx X.prog X.w X.K X.mg X.base bj k x ps dvs sp) (hr:bZ j X.A) (hk:k<=j) (hg:Gl X x) (ha:PA X (e::es) t) (hdb:(x==("__debug__" :Str))=false:=by decide)
  (he:starEach (e::es) X.env=(false,eval e X.env)::starEach es X.env:=by rfl) (hpl:(backTo pos (starEach es X.env)).any (·.1)=false:=by rfl):
  PE X (.Call (.Name x p) (e::es) [] pos) (lG sp [] E0 t):=
 ri D.ok (hr.mono hk) hg D.m D.q D.b .nil oo ha hdb he hpl
theorem xc (D:Dx X.prog X.w X.K X.mg X.base bj k x ps dvs sp) (hr:bZ j X.A) (hk:k<=j) (hg:Gl X x) (ha:PA X (e::es) t) (hdb:(x==("__debug__" :Str))=false:=by decide)
  (he:starEach (e::es) X.env=(false,eval e X.env)::starEach es X.env:=by rfl) (hpl:(backTo pos (starEach es X.env)).any (·.1)=false:=by rfl):
  PE X (.Call (.Name x p) (e::es) [] pos) (lG sp dvs E0 t):=by
 obtain ⟨ds,hb,hv⟩:=D.bd;exact ri D.ok (hr.mono hk) hg D.m D.q hb hv oo ha hdb he hpl
theorem fE (D:Dx X.prog X.w X.K X.mg X.base (dZ X.prog X.w) k x ps dvs sp) (hr:bZ j X.A) (hk:k<=j) (hg:Gl X x) (hx:gK X E) (ha:PA X (e::es) t) (hdb:(x==("__debug__" :Str))=false:=by decide)
  (he:starEach (e::es) X.env=(false,eval e X.env)::starEach es X.env:=by rfl) (hpl:(backTo pos (starEach es X.env)).any (·.1)=false:=by rfl):
  PE X (.Call (.Name x p) (e::es) [] pos) (qp sp [] E t):=
 oB D.ok (hr.mono hk) hg D.m D.q D.b .nil hx ha hdb he hpl
theorem rH (D:Dx X.prog X.w X.K X.mg X.base (dZ X.prog X.w) k x ps dvs sp) (hr:bZ j X.A) (hk:k<=j) (hg:Gl X x) (hx:gK X E) (ha:PA X (e::es) t) (hdb:(x==("__debug__" :Str))=false:=by decide)
  (he:starEach (e::es) X.env=(false,eval e X.env)::starEach es X.env:=by rfl) (hpl:(backTo pos (starEach es X.env)).any (·.1)=false:=by rfl):
  PE X (.Call (.Name x p) (e::es) [] pos) (qp sp dvs E t):=by
 obtain ⟨ds,hb,hv⟩:=D.bd;exact oB D.ok (hr.mono hk) hg D.m D.q hb hv hx ha hdb he hpl
end
theorem bA.okX {P:Program} {w:World} {K:D9} {mg:HG} {base:Heap} {x qual:Str} {st:Stmt} {dV:Value} {f:Addr} {fd:FuncData} {N ps:HN} {k:Nat} {sp:Sp} (F:bA K x qual st dV f fd) (S:aB N ps (au st)) (len:∀vs H Q E,sp vs H Q E->vs.length=ps.length)
  (hbody:∀(cdv:Value) (A:Around) (outer:List Env) (s:Shared) (H:Hp) (vs:List V) (Q:VK) (E:XK),bZ k (A.deeper (PyProof.Rows.envOfC qual (au st) s.heap.objs.size f cdv))->sp vs H Q E->
   ∃t,kO ((i5 (dZ P w) P w K mg base N qual (au st) f cdv A outer s H E).wish (XS (i5 (dZ P w) P w K mg base N qual (au st) f cdv A outer s H E) fun _=>E)) (cG st) t/\t {nx:=fun _ H'=>Q .non H',rt:=Q} (start N vs) H):a8 P w K mg base (dZ P w) (k+1) f fd ps sp:=by
 obtain ⟨oc,od,kV,doc,pm,an,cdv,ct,osl,rfl,lk,hcd⟩:=F.ex;exact zp lk hcd S len fun A outer s H vs Q E hr hsp=>hbody cdv A outer s H vs Q E hr hsp
def oE (c:Addr):Sp:=fun vs H Q E=>∃a b:Int,vs= [.int a,.int b]/\Bd 8500 b/\(b≠0->∀p q:Int,Fr p q a b->Pair H Q p q)/\(b=0->E (.ref c) none H)
theorem zx {c:Addr}:∀vs H Q E,sS vs H Q E->oE c vs H Q E0:=fun vs H Q E ⟨a,b,e,b0,hb,q⟩=>⟨a,b,e,hb,fun _=>q,fun z=>absurd z b0⟩
end Sw
namespace L2
open PySem PySem.Spec PyProof.Rows XH
theorem tu {X:Cx} {K:D9} (hK:X.K=K):cE X (.builtin "isinstance") (fun xs H Q=>∃x t T b,xs= [x,.ty T]/\eP K H x t/\El K t (.type T)=some b/\Q (.bl b) H):=by
 subst hK;intro pins s σ H xs us Q I r h;obtain ⟨x,t,T,b,rfl,ty,e,q⟩:=h;obtain ⟨u,w',rfl,e1,e2⟩:=vals2 r;cases e2;exact sM I e1 ty e fun tk=>⟨.bl b,H,I.tok tk,rfl,q⟩
end L2
namespace Sw
open PySem L2 XH
inductive Wh (K:D9) (H:Hp):V->Bool->Prop where
 |mk {x:V} {t:Value} {b1 b2:Bool} (ty:eP K H x t) (h1:El K t (.type "int")=some b1) (h2:El K t (.type "bool")=some b2):Wh K H x (b1&& !b2)
section
variable {K:D9} {H:Hp}
theorem u5 (i:Int):Wh K H (.int i) true:= .mk (b1:=true) (b2:=false) (.int i) (by kernel_rfl) (by kernel_rfl)
theorem m3 {H':Hp} (g:ax H H') {x:V} {t:Value} (h:eP K H x t):eP K H' x t:=by
 cases h with
 |non=>exact .non
 |bl b=>exact .bl b
 |int i=>exact .int i
 |str x=>exact .str x
 |flt x=>exact .flt x
 |lst e=>exact .lst (g _ _ e)
 |frz e=>exact .frz (g _ _ e)
 |tup e=>exact .tup (g _ _ e)
 |dK e=>exact .dK (g _ _ e)
 |dT e=>exact .dT (g _ _ e)
 |ins e c a n k m=>exact .ins (g _ _ e) c a n k m
theorem Wh.same {H':Hp} (g:ax H H') {x:V} {b:Bool} (h:Wh K H x b):Wh K H' x b:=by
 cases h with
 |mk ty h1 h2=>exact .mk (m3 g ty) h1 h2
end
def Br (K:D9):Sp:=fun vs H Q _=>∃(x:V) (b:Bool),vs= [x]/\Wh K H x b/\Q (.bl b) H
inductive tD (K:D9) (H:Hp):V->Bool->Prop where
 |no {x:V} {t:Value} (ty:eP K H x t) (h:El K t (.type "tuple")=some false):tD K H x false
 |len {a:Addr} {ys:List V} (e:H a=some (.tup ys)) (h:((ys.length:Nat):Int)≠2):tD K H (.ref a) false
 |top {a:Addr} {y z:V} (e:H a=some (.tup [y,z])) (h:Wh K H y false):tD K H (.ref a) false
 |bot {a:Addr} {y z:V} (e:H a=some (.tup [y,z])) (h:Wh K H y true) (h':Wh K H z false):tD K H (.ref a) false
 |two {a:Addr} {p q:Int} (e:H a=some (.tup [.int p,.int q])):tD K H (.ref a) (decide (1<=q)&&decide (bW p q=1))
theorem tD.same {K:D9} {H H':Hp} (g:ax H H') {x:V} {b:Bool} (h:tD K H x b):tD K H' x b:=by
 cases h with
 |no ty h=>exact .no (m3 g ty) h
 |len e h=>exact .len (g _ _ e) h
 |top e h=>exact .top (g _ _ e) (h.same g)
 |bot e h h'=>exact .bot (g _ _ e) (h.same g) (h'.same g)
 |two e=>exact .two (g _ _ e)
def u6 (K:D9):Sp:=fun vs H Q _=>∃(x:V) (b:Bool),vs= [x]/\tD K H x b/\Q (.bl b) H
theorem jF (K:D9):El K (.type "tuple") (.type "tuple")=some true:=by kernel_rfl
theorem zy {K:D9} {H:Hp} {a:Addr} {p q:Int} {b:Bool} (e:H a=some (.tup [.int p,.int q])) (h:(decide (1<=q)&&decide (bW p q=1))=b):tD K H (.ref a) b:=h▸ .two e
end Sw
namespace L2
open PySem PySem.Spec PyProof.Rows XH
def DO:V->Prop
 | .bl _=>True
 | .int _=>True
 | .str _=>True
 | .non=>True
 |_=>False
theorem u7 {A:Around} {s:Shared} {v:V} {u w:Value} (h:DO v) (r1:RelV v u) (r2:RelV v w):SeqAt.EqAt A s u w true:=by
 cases v with
 |bl b=>
  cases r1;cases r2;have z:=SeqAt.EqAt.bool_bool (A:=A) (s:=s) b b;rw[beq_self_eq_true] at z;exact z
 |int i=>
  obtain ⟨t,rfl⟩:=r1;obtain ⟨t',rfl⟩:=r2;have z:=SeqAt.EqAt.int_int (A:=A) (s:=s) i t i t';rw[beq_self_eq_true] at z;exact z
 |str i=>
  obtain ⟨t,rfl⟩:=r1;obtain ⟨t',rfl⟩:=r2;have z:=SeqAt.EqAt.str_str (A:=A) (s:=s) i t i t';rw[beq_self_eq_true] at z;exact z
 |non=>
  cases r1;cases r2;exact SeqAt.EqAt.same _
 |_=>exact absurd h (fun z=>z)
end L2
namespace Sw
open PySem L2 XH PyProof.Rows
structure AK (hd:HS) (P:Program) (w:World) (K:D9) (mg:HG) (base:Heap) (k:Nat) (x:Str) (ps:HN) (sp:Sp) where
 f:Addr
 fd:FuncData
 ok:yF hd P w K mg base k f fd ps sp
 m:mg x=some (.ref f)
 q:En K (.ref f)=true
 b:Binds K fd ps []
def AK.calm {P:Program} {w:World} {K:D9} {mg:HG} {base:Heap} {k:Nat} {x:Str} {ps:HN} {sp:Sp} (D:AK none P w K mg base k x ps sp):Dx P w K mg base bj k x ps [] sp:=
 ⟨D.f,D.fd,D.ok.calm,D.m,D.q,D.b,⟨[],D.b,.nil⟩⟩
structure Bs (P:Program) (w:World) (K:D9) (mg:HG) (base:Heap) (k:Nat) (C:Addr) (ps:HN) (sp:Sp) where
 f:Addr
 fd:FuncData
 ok:a8 P w K mg base bj k f fd ps sp
 ci:Bm K C f
 b:Binds K fd ps []
section
variable {X:Cx} {k j:Nat} {x:Str} {ps:HN} {sp:Sp} {p np pos cpos:Pos} {e:Expr} {es:List Expr} {t:TA} {hd:HS} {C:Addr} {E:L2.St->XK}
theorem u8 (D:AK hd X.prog X.w X.K X.mg X.base k x ps sp) (hr:dI hd j X.A) (hk:k<=j) (hg:Gl X x) (ha:PA X (e::es) t) (hdb:(x==("__debug__" :Str))=false:=by decide)
  (he:starEach (e::es) X.env=(false,eval e X.env)::starEach es X.env:=by rfl) (hpl:(backTo pos (starEach es X.env)).any (·.1)=false:=by rfl):
  PE X (.Call (.Name x p) (e::es) [] pos) (lG sp [] E0 t):=
 u3 D.ok (hr.mono hk) hg D.m D.q D.b .nil ha hdb he hpl
theorem rJ (D:Bs X.prog X.w X.K X.mg X.base k C ps sp) (hr:bZ j X.A) (hk:k+1<=j) (hg:Gl X x) (hm:X.mg x=some (.ref C)) (hc:X.calm=true) (hp:gK X E) (ha:PA X (e::es) t) (hdb:(x==("__debug__" :Str))=false:=by decide)
  (he:starEach (e::es) X.env=(false,eval e X.env)::starEach es X.env:=by rfl) (hpl:(backTo cpos (starEach es X.env)).any (·.1)=false:=by rfl):
  PS X (.Raise (some (.Call (.Name x np) (e::es) [] cpos)) none pos) (rG C sp E t):=
 sZ D.ci D.ok (hr.mono hk) hg hm D.b hc hp ha hdb he hpl
end
theorem bA.okH {hd:HS} {P:Program} {w:World} {K:D9} {mg:HG} {base:Heap} {x qual:Str} {st:Stmt} {dV:Value} {f:Addr} {fd:FuncData} {N ps:HN} {k:Nat} {sp:Sp} (F:bA K x qual st dV f fd) (S:aB N ps (au st)) (len:∀vs H Q E,sp vs H Q E->vs.length=ps.length)
  (hbody:∀(cdv:Value) (A:Around) (outer:List Env) (s:Shared) (H:Hp) (vs:List V) (Q:VK) (E:XK),dI hd k (A.deeper (envOfC qual (au st) s.heap.objs.size f cdv))->sp vs H Q E->
   ∃t,kO (zu hd P w K mg base N qual (au st) f cdv A outer s H E) (cG st) t/\t {nx:=fun _ H'=>Q .non H',rt:=Q} (start N vs) H):yF hd P w K mg base (k+1) f fd ps sp:=by
 obtain ⟨oc,od,kV,doc,pm,an,cdv,ct,osl,rfl,lk,hcd⟩:=F.ex;exact zw lk hcd S len fun A outer s H vs Q E hr hsp=>hbody cdv A outer s H vs Q E hr hsp
theorem zz {hd:HS} {H H':Hp} (h:qu hd H) (g:ax H H'):qu hd H':=fun v e=>by
 obtain ⟨a,n,cls,dx,e1,e2⟩:=h v e;exact ⟨a,n,cls,dx,e1,g _ _ e2⟩
theorem dM {H H':Hp} {p:Addr} (g:ax H H') (h:H p=none) (o:HO):ax H (ay H' p o):=fun b u q=>by
 rw[ag (a9 q h)];exact g b u q
def m4 (X:Cx) (scope:Scope) (ys:HN) (js:List Nat):Prop:=∀(i:Nat) (y:Str),ys[i]?=some y->∃j:Nat,js[i]?=some j/\X.N[j]?=some y/\(X.env.scope.names.lookup y=some .cell∨X.env.scope.names.lookup y=some .free)/\((relabel scope X.env).names.lookup y=some .cell∨(relabel scope X.env).names.lookup y=some .free)
theorem xf {X:Cx} {scope:Scope}:m4 X scope [] []:=fun i y h=>by simp at h
theorem yG {X:Cx} {scope:Scope} {ys:HN} {js:List Nat} {y:Str} {j:Nat} (t:m4 X scope ys js) (h1:X.N[j]?=some y:=by rfl) (h2:X.env.scope.names.lookup y=some .cell∨X.env.scope.names.lookup y=some .free:=by first|exact Or.inl rfl|exact Or.inr rfl)
  (h3:(relabel scope X.env).names.lookup y=some .cell∨(relabel scope X.env).names.lookup y=some .free:=by first|exact Or.inl rfl|exact Or.inr rfl):m4 X scope (y::ys) (j::js):=fun i z h=>by
 cases i with
 |zero=>
  cases h;exact ⟨j,rfl,h1,h2,h3⟩
 |succ i=>exact t i z h
inductive tE (X:Cx):List (Str×Addr)->Prop where
 |nil:tE X []
 |cons {y:Str} {c:Addr} {cl:List (Str×Addr)} (h:X.env.cells.lookup y=some c) (t:tE X cl):tE X ((y,c)::cl)
theorem tE.all {X:Cx} {cl:List (Str×Addr)} (h:tE X cl):∀p∈cl,X.env.cells.lookup p.1=some p.2:=by
 induction h with
 |nil=>intro p hp;simp at hp
 |cons h _ ih=>
  intro p hp;rcases EC.mp hp with e|e
  ·rw[e];exact h
  ·exact ih p e
theorem xg {X:Cx} {scope:Scope} {cl:List (Str×Addr)} {own:Str} {ys:HN} {js:List Nat} (a:m4 X scope ys js) (s:tE X cl) (nd:(own::ys).Nodup) (len:js.length=ys.length) (clos:closureFor scope X.env=pure cl) (nocell:(scope.names.all fun p=> !(p.2== .cell))=true) (kind:scope.kind= .function)
  (loc:(scope.names.all fun p=> !(p.2== .local)||scope.names.lookup p.1==some .local)=true) (ownL:scope.names.lookup own=some .local) (has:((relabel scope X.env).names.all fun p=> !(p.2== .cell||p.2== .free)||(cl.lookup p.1).isSome)=true) (noown:cl.lookup own=none):gQ X scope cl own ys js:=
 ⟨clos,nocell,kind,loc,ownL,s.all,has,noown,nd,a,len⟩
def gR (C:Addr) (f:Str):Sp:=fun vs H Q _=>∃a y n,vs= [.ref a,y]/\H a=some (df n a (.ref C) none)/\∀d,H d=none->Q .non (L2.ay (L2.ay H d (.xd [(f,y)])) a (df n a (.ref C) (some d)))
theorem rK {H:Hp} {Q:VK} {a C:Addr} {f:Str} {y:V} (na:H a=none) (h:∀d H2,ax H H2->H2 a=some (df true a (.ref C) (some d))->H2 d=some (.xd [(f,y)])->d≠a->ax H (del H2 a)->del H2 a d=some (.xd [(f,y)])->Q .non H2) {E:XK}:
  gR C f [.ref a,y] (L2.ay H a (df true a (.ref C) none)) Q E:=by
 refine ⟨a,y,true,rfl,ac,fun d hd=>?_⟩
 have ne:d≠a:=by
  intro z;rw[z,ac] at hd;cases hd
 have nd:H d=none:=by rwa [ag ne] at hd
 have g:ax H (L2.ay (L2.ay (L2.ay H a (df true a (.ref C) none)) d (.xd [(f,y)])) a (df true a (.ref C) (some d))):=dM (dM (dM (fun _ _ q=>q) na _) nd _) na _
 have e2:L2.ay (L2.ay (L2.ay H a (df true a (.ref C) none)) d (.xd [(f,y)])) a (df true a (.ref C) (some d)) d=some (.xd [(f,y)]):=by rw[ag ne,ac]
 exact h d _ g ac e2 ne (fun b o q=>by rw[fD (a9 q na)];exact g b o q) (by rw[fD ne];exact e2)
structure i8 (P:Program) (w:World) (K:D9) (mg:HG) (base:Heap) (CX:qc) (k:Nat) (f:Addr) (ps:HN) (dvs:List V) (sp:Sp) where
 fd:FuncData
 ok:a8 P w K mg base CX k f fd ps sp
 b:Binds K fd ps []
 bd:∃ds,Binds K fd ps ds/\aT dvs ds
def i8.calm {P:Program} {w:World} {K:D9} {mg:HG} {base:Heap} {k:Nat} {f:Addr} {ps:HN} {dvs:List V} {sp sp0:Sp} (D:i8 P w K mg base (dZ P w) k f ps dvs sp) (h:∀vs H Q E,sp0 vs H Q E->sp vs H Q E0):i8 P w K mg base bj k f ps dvs sp0:=
 ⟨D.fd,D.ok.noraise h,D.b,D.bd⟩
def zA (K:D9) (m:Str) (f:Addr) (sp:Sp) (dvs:List V) (ta:TE) (t:TA):TE:=fun σ H Q=>ta σ H fun x H1=>∃a C dx fs,x= .ref a/\H1 a=some (.ins C dx fs)/\pQ K C/\fj K C m f/\fs.lookup m=none/\
 t σ H1 fun vs H2=>sp (x::(vs++dvs)) H2 Q E0
section
variable {X:Cx} {k j:Nat} {f C:Addr} {ps:HN} {sp:Sp} {dvs:List V} {x m:Str} {p pos apos:Pos} {e o:Expr} {es:List Expr} {ta tb:TE} {t:TA}
theorem zB (M:Mk X.K C f) (D:i8 X.prog X.w X.K X.mg X.base bj k f ps dvs sp) (hr:bZ j X.A) (hk:k+1<=j) (hg:Gl X x) (hm:X.mg x=some (.ref C)) (ha:PA X (e::es) t) (hdb:(x==("__debug__" :Str))=false:=by decide)
  (he:starEach (e::es) X.env=(false,eval e X.env)::starEach es X.env:=by rfl) (hpl:(backTo pos (starEach es X.env)).any (·.1)=false:=by rfl):PE X (.Call (.Name x p) (e::es) [] pos) (rh C sp [] E0 t):=
 wD M D.ok (hr.mono hk) hg hm D.b .nil oo ha hdb he hpl
theorem zC (M:Mk X.K C f) (D:i8 X.prog X.w X.K X.mg X.base bj k f ps dvs sp) (hr:bZ j X.A) (hk:k+1<=j) (hg:Gl X x) (hm:X.mg x=some (.ref C)) (hdb:(x==("__debug__" :Str))=false:=by decide):PE X (.Call (.Name x p) [] [] pos) (rh C sp [] E0 y6):=
 uB M D.ok (hr.mono hk) hg hm D.b .nil oo hdb
theorem u9 {pins:HL} {σ:L2.St} {H1:Hp} {s1:Shared} {Q:VK} {a dx:Addr} {fs:List (Str×V)} {pl:Sem Bool} {ds:HQ} (F:a8 X.prog X.w X.K X.mg X.base bj k f fd ps sp) (hr:bZ k X.A) (hb:Binds X.K fd ps ds) (hd:aT dvs ds) (ha:PA X (e::es) t)
  (hst:starEach (e::es) X.env=(false,eval e X.env)::starEach es X.env) (hpl:(backTo pos (starEach es X.env)).any (·.1)=false)
  (I1:aE X pins σ H1 s1) (ea:H1 a=some (.ins C dx fs)) (c:pQ X.K C) (hm:fj X.K C m f) (l:fs.lookup m=none) (q:t σ H1 fun vs H2=>sp (.ref a::(vs++dvs)) H2 Q E0):
  wpAny (model X.prog X.w) X.A (getMethod (.ref a) m pl) (fun fx s2=>wpAny (model X.prog X.w) X.A (callWith pos fx.1 fx.2 (backTo pos (starEach (e::es) X.env)) (backToKw pos (keywordEach [] X.env))) (EP X pins σ Q) X.xe s2) X.xe s1:=by
 refine jP I1 ea c hm l ?_;refine FH (first:= [.ref a]) (h₀:=X.base) I1.ok.mod.kin hm.kp (bu (ha pos pins s1 σ H1 _ I1 q) fun us s2 ⟨vs,H2,I2,r,q2⟩=>⟨I2.kIn,?_⟩) hst hpl
 exact uA (us:= .ref a::us) (vs:= .ref a::vs) F hr hb hd oo I2 (.cons rfl r) q2
theorem fZ {pl:Sem Bool} (he:PE X o ta) (D:i8 X.prog X.w X.K X.mg X.base bj k f ps dvs sp) (hr:bZ j X.A) (hk:k<=j) (ha:PA X (e::es) t)
  (hst:starEach (e::es) X.env=(false,eval e X.env)::starEach es X.env:=by rfl) (hpl:(backTo pos (starEach es X.env)).any (·.1)=false:=by rfl)
  (ht:eval (.Call (.Attribute o m apos) (e::es) [] pos) X.env=(do
   let ov<-eval o X.env
   standAt apos.atName
   let (f,first)<-holding [ov] (getMethod ov m pl)
   callWith pos f first (backTo pos (starEach (e::es) X.env)) (backToKw pos (keywordEach [] X.env))):=by rfl):
  PE X (.Call (.Attribute o m apos) (e::es) [] pos) (zA X.K m f sp [] ta t):=by
 intro pins s σ H Q I h;refine PySem.W.methodCall_KW (pl:=pl) (bu (he pins s σ H _ I h) fun u s1 ⟨x,H1,I1,rx,a,C,dx,fs,ex,ea,c,hm,l,q⟩=>?_) ht
 subst ex;obtain rfl:u=Value.ref a:=rx;exact u9 D.ok (hr.mono hk) D.b .nil ha hst hpl I1 ea c hm l q
end
def zD (K:D9) (m:Str) (f:Addr) (sp:Sp) (dvs:List V) (E:L2.St->XK) (ta:TE) (t:TA):TE:=fun σ H Q=>ta σ H fun x H1=>∃a C dx fs,x= .ref a/\H1 a=some (.ins C dx fs)/\pQ K C/\fj K C m f/\fs.lookup m=none/\
 t σ H1 fun vs H2=>sp (x::(vs++dvs)) H2 Q (E σ)
section
variable {X:Cx} {k j:Nat} {f C:Addr} {ps:HN} {sp:Sp} {dvs:List V} {x m:Str} {p pos apos:Pos} {e o:Expr} {es:List Expr} {ta tb:TE} {t:TA} {E:L2.St->XK}
theorem tF {pins:HL} {σ:L2.St} {H1:Hp} {s1:Shared} {Q:VK} {a dx:Addr} {fs:List (Str×V)} {pl:Sem Bool} {ds:HQ} {fd:FuncData} (F:a8 X.prog X.w X.K X.mg X.base (dZ X.prog X.w) k f fd ps sp) (hr:bZ k X.A) (hb:Binds X.K fd ps ds) (hd:aT dvs ds) (hx:gK X E) (ha:PA X (e::es) t)
  (hst:starEach (e::es) X.env=(false,eval e X.env)::starEach es X.env) (hpl:(backTo pos (starEach es X.env)).any (·.1)=false)
  (I1:aE X pins σ H1 s1) (ea:H1 a=some (.ins C dx fs)) (c:pQ X.K C) (hm:fj X.K C m f) (l:fs.lookup m=none) (q:t σ H1 fun vs H2=>sp (.ref a::(vs++dvs)) H2 Q (E σ)):
  wpAny (model X.prog X.w) X.A (getMethod (.ref a) m pl) (fun fx s2=>wpAny (model X.prog X.w) X.A (callWith pos fx.1 fx.2 (backTo pos (starEach (e::es) X.env)) (backToKw pos (keywordEach [] X.env))) (EP X pins σ Q) X.xe s2) X.xe s1:=by
 refine jP I1 ea c hm l ?_;refine FH (first:= [.ref a]) (h₀:=X.base) I1.ok.mod.kin hm.kp (bu (ha pos pins s1 σ H1 _ I1 q) fun us s2 ⟨vs,H2,I2,r,q2⟩=>⟨I2.kIn,?_⟩) hst hpl
 exact rB (us:= .ref a::us) (vs:= .ref a::vs) F hr hb hd hx I2 (.cons rfl r) q2
theorem vc {pl:Sem Bool} (D:i8 X.prog X.w X.K X.mg X.base (dZ X.prog X.w) k f ps dvs sp) (hr:bZ j X.A) (hk:k<=j) (hx:gK X E) (he:PE X o ta) (ha:PA X (e::es) t)
  (hst:starEach (e::es) X.env=(false,eval e X.env)::starEach es X.env:=by rfl) (hpl:(backTo pos (starEach es X.env)).any (·.1)=false:=by rfl)
  (ht:eval (.Call (.Attribute o m apos) (e::es) [] pos) X.env=(do
   let ov<-eval o X.env
   standAt apos.atName
   let (f,first)<-holding [ov] (getMethod ov m pl)
   callWith pos f first (backTo pos (starEach (e::es) X.env)) (backToKw pos (keywordEach [] X.env))):=by rfl):
  PE X (.Call (.Attribute o m apos) (e::es) [] pos) (zD X.K m f sp [] E ta t):=by
 intro pins s σ H Q I h;refine PySem.W.methodCall_KW (pl:=pl) (bu (he pins s σ H _ I h) fun u s1 ⟨x,H1,I1,rx,a,C,dx,fs,ex,ea,c,hm,l,q⟩=>?_) ht
 subst ex;obtain rfl:u=Value.ref a:=rx;exact tF D.ok (hr.mono hk) D.b .nil hx ha hst hpl I1 ea c hm l q
end
end Sw
namespace L2
open PySem PySem.Spec PyProof.Rows XH
def Bt (x:Str):It:=⟨fun i _=>i<x.cps.size,fun i H v H'=>H'=H/\∃c,x.cps[i]?=some c/\v= .str ⟨#[c]⟩,fun i _=>i=x.cps.size⟩
theorem vd {P:Program} {w:World} {K:D9} {tg:Expr} {ty:String} (hty:ty= "str_ascii_iterator" ∨ty= "str_iterator") (it:Addr) (x:Str) (t:Tok):Turn P w K tg (Bt x) [it] it (fun i h=>h.IsStrIter it ty x t i) where
 mem:=by simp
 obj:=fun i h st b hb=>by
  have e:b=it:=by simpa using hb
  subst e;obtain ⟨o,e,c,d⟩:=st;exact ⟨o,e,fun v z=>by rw[d] at z;cases z⟩
 keep:=fun i h h' st k=>by
  obtain ⟨o,e,c,d⟩:=st;exact ⟨o,k it (by simp) o e,c,d⟩
 item:=by
  intro X hP hw hK hc i pins s σ H E I hf st hg;subst hP hw hK;obtain ⟨f0,f1,f2,f3,f4,f5⟩:=hf it (by simp)
  have W:Walks X.prog X.w X.A it [it] [it] x.cps.size (SignAt x) (fun i h=>h.IsStrIter it ty x t i):=by
   rcases hty with rfl|rfl
   ·exact Walks.strAscii (I.ok.hd hc) it x t
   ·exact Walks.strWide (I.ok.hd hc) it x t
  refine W.item i s _ _ hg st fun v h' tk hv st' kk=>?_
  obtain ⟨c,u,hc',rfl⟩:=hv;have I1:aE X pins σ H {s with heap:=h',toks:=tk}:=I.turned (fun b o hb e=>kk b o (by simpa using hb) e) f0 f1 f3 f4 f5
  obtain ⟨o,e,c1,d1⟩:=id st';refine ⟨_,rfl,lq (s:={s with heap:=h',toks:=tk}) (n:=ty) e c1 d1 (by rcases hty with rfl|rfl<;>decide) ⟨.str ⟨#[c]⟩,H,I1,⟨u,rfl⟩,⟨rfl,c,hc',rfl⟩,st',fun b hb=>(hf b hb).1⟩⟩
 done:=by
  intro X hP hw hK hc i pins s σ H E I hf st hg;subst hP hw hK;obtain ⟨f0,f1,f2,f3,f4,f5⟩:=hf it (by simp)
  have W:Walks X.prog X.w X.A it [it] [it] x.cps.size (SignAt x) (fun i h=>h.IsStrIter it ty x t i):=by
   rcases hty with rfl|rfl
   ·exact Walks.strAscii (I.ok.hd hc) it x t
   ·exact Walks.strWide (I.ok.hd hc) it x t
  have hg':i=x.cps.size:=hg;subst hg';exact W.done s _ _ st fun h' tk kk=>⟨rfl,I.turned (fun b o hb e=>kk b o (by simpa using hb) e) f0 f1 f3 f4 f5⟩
 self:=fun _ _ _ _ _ st h=>by
  rcases hty with rfl|rfl
  ·exact wpAny_pyIter_striter_ascii st h
  ·exact wpAny_pyIter_striter_wide st h
def Dn (tl:TE):TI:=fun σ H R=>tl σ H fun x H1=>∃z,x= .str z/\R (Bt z) H1
variable {X:Cx} {tg:Expr}
theorem zE {l:Expr} {tl:TE} (hl:PE X l tl):PI X tg l (Dn tl):=by
 intro pins s σ H R I h;refine bu (hl pins s σ H _ I h) fun v s1 ⟨x,H1,I1,r1,q1⟩=>?_
 obtain ⟨z,rfl,q⟩:=q1;obtain ⟨t,rfl⟩:=r1;have fin:∀{ty:String} {o:Obj},(ty= "str_ascii_iterator" ∨ty= "str_iterator")->(s1.heap.push o).IsStrIter s1.heap.objs.size ty z t 0->CZ X pins σ tg R (.ref s1.heap.objs.size) {s1 with heap:=s1.heap.push o}:=fun {ty o} hty st=>by
  refine ⟨s1.heap.objs.size,[s1.heap.objs.size],_,_,H1,rfl,I1.kept (t':=s1.toks) fun b o e=>Heap.get?_push_of_some _ e,vd hty _ z t,st,fun b hb=>?_,q⟩
  have e:b=s1.heap.objs.size:=by simpa using hb
  subst e;exact I1.fpOk (E4 _) (I1.hok.fresh (E4 _))
 cases ha:z.cps.all (· <128)
 ·exact wpAny_pyIter_wide ha (fin (.inr rfl) ⟨_,Heap.get?_push_size _ rfl,rfl,rfl⟩)
 ·exact wpAny_pyIter_ascii ha (fin (.inl rfl) ⟨_,Heap.get?_push_size _ rfl,rfl,rfl⟩)
theorem xh {z:Str} {g:TG} {tb:TS} {D:Ends} {σ:St} {H:Hp} (Pv:Nat->St->Hp->Prop) (h0:Pv 0 σ H)
  (hs:∀i c σ H,z.cps[i]?=some c->Pv i σ H->g (.str ⟨#[c]⟩) σ H fun σ2 H2=>tb {D with nx:=Pv (i+1),ct:=Pv (i+1),bk:=D.nx} σ2 H2) (hd:∀σ H,Pv z.cps.size σ H->D.nx σ H):
  ∃W:Nat->Nat->St->Hp->Prop,(∃m,W 0 m σ H)/\∀i m σ H,W i m σ H->
   ((Bt z).stop i H/\D.nx σ H)∨((Bt z).go i H/\∃N:St->Hp->Prop,(∀σ' H',N σ' H'->∃m',m'<m/\W (i+1) m' σ' H')/\∀x H',(Bt z).yld i H x H'->g x σ H' fun σ2 H2=>tb {D with nx:=N,ct:=N,bk:=D.nx} σ2 H2):=by
 refine ⟨fun i m σ H=>m=z.cps.size-i/\i<=z.cps.size/\Pv i σ H,⟨z.cps.size,by simp,EO _,h0⟩,?_⟩
 rintro i m σ H ⟨rfl,hi,p⟩
 by_cases hlt:i<z.cps.size
 ·refine .inr ⟨hlt,Pv (i+1),fun σ' H' p'=>⟨z.cps.size-(i+1),by lia,rfl,hlt,p'⟩,fun x H' y=>?_⟩
  obtain ⟨e,c,hc,rfl⟩:=y;subst e;exact hs i c σ _ hc p
 ·have e:i=z.cps.size:=by lia
  subst e;exact .inl ⟨rfl,hd σ H p⟩
def dN (x:Str) (lo hi:Option Int):Str:=⟨((x.cps.toList.drop (HT.dY x.length 0 lo)).take (HT.dY x.length x.length hi-HT.dY x.length 0 lo)).toArray⟩
theorem Bu (lo hi:Option Int) (n:Nat):Builtin.Str.strSliceIndices lo hi 1 n=(List.range (HT.dY n n hi-HT.dY n 0 lo)).map (HT.dY n 0 lo+ ·):=by
 have h1:(match lo with|none=>(0:Int)|some i=>max 0 (min (if i<0 then i+(n:Int) else i) n))=((HT.dY n 0 lo:Nat):Int):=by
  cases lo with
  |none=>simp[HT.dY]
  |some i=>
   simp only[HT.dY]
   by_cases h:i<0
   ·simp only[h,if_true]<;>lia
   ·simp only[h,if_false]<;>lia
 have h2:(match hi with|none=>(n:Int)|some i=>max 0 (min (if i<0 then i+(n:Int) else i) n))=((HT.dY n n hi:Nat):Int):=by
  cases hi with
  |none=>simp[HT.dY]
  |some i=>
   simp only[HT.dY]
   by_cases h:i<0
   ·simp only[h,if_true]<;>lia
   ·simp only[h,if_false]<;>lia
 rw[<-sliceRange_one,<-h1,<-h2];cases lo<;>cases hi<;>rfl
theorem oF (x:Str) (l u:Option (Int×Tok)):(⟨((slicePicked x l u none).filterMap (x.cps[·]?)).toArray⟩:Str)=dN x (l.map (·.1)) (u.map (·.1)):=by
 show (⟨((Builtin.Str.strSliceIndices (l.map (·.1)) (u.map (·.1)) 1 x.length).filterMap (x.cps[·]?)).toArray⟩:Str)=_;rw[Bu,pick_run]
 rfl
theorem eE (x:Str) (lo hi:Option Int):(dN x lo hi).length<=x.length:=by
 show ((x.cps.toList.drop _).take _).toArray.size<=x.cps.size;rw[EM,EN,List.length_drop];simp only[Ez]
 lia
theorem qy (x:Str) (l u:Option (Int×Tok)) (h:(slicePicked x l u none).length=x.length):dN x (l.map (·.1)) (u.map (·.1))=x:=by
 have h':(Builtin.Str.strSliceIndices (l.map (·.1)) (u.map (·.1)) 1 x.length).length=x.length:=h;rw[Bu,E3,List.length_range] at h';have hs:HT.dY x.length x.length (u.map (·.1))<=x.length∨x.length<HT.dY x.length x.length (u.map (·.1)):=by lia
 have hu:HT.dY x.length x.length (u.map (·.1))<=x.length:=by
  cases u with
  |none=>exact E4 _
  |some p=>
   show (if p.1<0 then (p.1+(x.length:Int)).toNat else min p.1.toNat x.length)<=x.length
   by_cases hp:p.1<0
   ·rw[if_pos hp];lia
   ·rw[if_neg hp];lia
 unfold dN
 by_cases hx:x.length=0
 ·have e:x.cps.toList= []:=by
   have:x.cps.toList.length=0:=by rw[Ez];exact hx
   exact F9 this
  rw[e,List.drop_nil,List.take_nil];obtain ⟨c⟩:=x;have e':c= #[]:=Array.toList_inj.mp (by simpa using e)
  rw[e']
 ·have h0:HT.dY x.length 0 (l.map (·.1))=0:=by lia
  rw[h0,List.drop_zero,Ey (by rw[Ez];show x.length<=_;lia)]
theorem part_of {v:Value} {o:Option Int} (p:IsPart v o):∃l:Option (Int×Tok),partValue l=v/\l.map (·.1)=o:=by
 cases p with
 |none=>exact ⟨none,rfl,rfl⟩
 |int i t=>exact ⟨some (i,t),rfl,rfl⟩
theorem gU {X:Cx}:C5 X (fun x lo hi H Q=>∃z,x= .str z/\z.length<=sizeLine/\Q (.str (dN z lo hi)) H):=by
 intro pins s σ H x v vl vu lo hi sl Q I rx hs pl pu h;obtain ⟨z,rfl,hz,q⟩:=h;obtain ⟨t,rfl⟩:=rx;obtain ⟨l,rfl,rfl⟩:=part_of pl;obtain ⟨u,rfl,rfl⟩:=part_of pu;refine ⟨"str",_,slot_str_getitem.lookup,typeIs_str s z t,?_⟩;refine wpAny_getItem_str_slice (l:=l) (u:=u) (st:=none) hs rfl ?_;unfold sliceMade
 by_cases hw:(slicePicked z l u none).length=z.length
 ·rw[if_pos (by simp[hw])]
  refine ⟨.str (dN z (l.map (·.1)) (u.map (·.1))),H,I,⟨t,by rw[qy z l u hw]⟩,q⟩
 ·rw[if_neg (by simp[hw])]
  rw[oF];exact ⟨EX (eE _ _ _) hz,.str (dN z (l.map (·.1)) (u.map (·.1))),H,I.tok _,⟨_,rfl⟩,q⟩
end L2
namespace Sw
open PySem PySem.NumText
end Sw
namespace L2
open PySem PySem.Spec PyProof.Rows XH
section
variable {X:Cx} {a b e o:Expr} {es:List Expr} {t te to:TE} {ta:TA} {pos apos cpos:Pos} {x y:Str}
theorem ve {z:Str} {p:Pos} (hg:Gl X x) (h:∃t,X.mg x=some (.str z t)) (hd:(x==("__debug__" :Str))=false:=by decide):PE X (.Name x p) (tC (.str z)):=by
 obtain ⟨t,h⟩:=h;exact b9 hg h ⟨t,rfl⟩ hd
theorem oG {i:Int} {p:Pos} (hg:Gl X x) (h:∃t,X.mg x=some (.int i t)) (hd:(x==("__debug__" :Str))=false:=by decide):PE X (.Name x p) (tC (.int i)):=by
 obtain ⟨t,h⟩:=h;exact b9 hg h ⟨t,rfl⟩ hd
end
end L2
namespace Sw
open PySem L2 XH PySem.NumText
def sL (z:Str):List Nat:=z.cps.toList
def DP (l:List Nat):Str:=⟨l.toArray⟩
theorem m7 (z:Str):(sL z).length=z.length:=by simp[sL,Str.length]
theorem zF (x y:Str):sL (x++y)=sL x++sL y:=by
 show (x.cps++y.cps).toList=_;rw[Array.toList_append]
 rfl
theorem zG (z:Str) (c:Nat):(!(Builtin.Str.occurrences z (DP [c]) 0 z.length 1).isEmpty)=decide (c∈sL z):=StrLaws.found_one z c
theorem DQ {b:Bool} {A B:Prop} (h1:b=false->A) (h2:b=true->B):if (!b)=true then A else B:=by
 cases b with
 |false=>exact cU (h1 rfl)
 |true=>exact b4 (h2 rfl)
theorem zH {xs:List V} {i:Int} (h0:0<=i) (h:i<(xs.length:Int)):∃v∈xs,fw xs i=some v:=by
 have hk:i.toNat<xs.length:=by lia
 have ek:i=((i.toNat:Nat):Int):=by lia
 refine ⟨xs[i.toNat],List.getElem_mem hk,?_⟩;have q:fw xs ((i.toNat:Nat):Int)=some xs[i.toNat]:=bI (E1 hk);rw[<-ek] at q;exact q
theorem xj {xs:List Nat} {i:Int} (h0:0<=i) (h:i<(xs.length:Int)):∃v,fw xs i=some v:=by
 have hk:i.toNat<xs.length:=by lia
 have ek:i=((i.toNat:Nat):Int):=by lia
 refine ⟨xs[i.toNat],?_⟩;have q:fw xs ((i.toNat:Nat):Int)=some xs[i.toNat]:=bI (E1 hk);rw[<-ek] at q;exact q
end Sw
namespace L2
open PySem PySem.Spec PyProof.Rows XH
theorem vf {K:D9} {a:Addr} {xs:List V} {js:List Nat} {te:TE} {σ:L2.St} {H1:Hp} {Q:VK} (P:V->V->Prop) (hS:aQ K H1 a xs) (hz:xs.length<=sizeLine)
  (step:∀x∈xs,∀H3,ax H1 H3->∀Q':VK,(∀y H4,P x y->ax H3 H4->Q' y H4)->te (some x::bh js σ) H3 Q')
  (fin:∀(p:Addr) (ys:List V) (H':Hp),H1 p=none->ys.length=xs.length->(∀(i:Nat) (x y:V),xs[i]?=some x->ys[i]?=some y->P x y)->ax H1 H'->H' p=some (.lst ys)->Q (.ref p) H'):rD js te σ Q (yt K a) H1:=by
 intro p hp;refine ⟨fun i m ys H2=>i<=xs.length/\m=xs.length-i/\ys.length=i/\(∀(i:Nat) (x y:V),xs[i]?=some x->ys[i]?=some y->P x y)/\ax H1 H2/\H2 p=some (.lst ys),⟨xs.length,EO _,rfl,rfl,fun j x y _ e=>by simp at e,Sw.aj hp _,ac⟩,?_⟩
 rintro i m ys H2 ⟨hi,rfl,hl,hP,g,e⟩;refine ⟨e,?_⟩;have S2:=g.seq hS
 by_cases hin:i<xs.length
 ·refine .inr ⟨⟨xs,xs[i],S2,E1 hin⟩,by lia,fun x H3 hy=>?_⟩
  obtain ⟨rfl,hx⟩:=hy;have ex:=hx xs S2;refine step x (E6 ex) H3 g _ fun y H4 py g4=>⟨g4 _ _ e,xs.length-(i+1),by lia,hin,rfl,by simp[hl],fun j x' y' e1 e2=>?_,Sw.dM (g.trans g4) hp _,ac⟩
  by_cases hj:j<ys.length
  ·rw[E5 hj] at e2;exact hP j x' y' e1 e2
  ·have ej:j=i:=by
    have:=(E2.mp e2).1;simp at this
    lia
   subst ej;rw[E7 (by lia),hl] at e2
   simp at e2;subst e2;rw[ex] at e1;cases e1;exact py
 ·have e2:i=xs.length:=by lia
  subst e2;exact .inl ⟨⟨xs,S2,E4 _⟩,fin p ys H2 hp hl hP g e⟩
end L2
namespace Sw
open PySem L2 XH PySem.NumText
theorem CH {v:V} {Q:V->Prop} (q:Q (.bl true)):Q (.bl (decide (v=v))):=by rw[decide_eq_true rfl];exact q
def zI:Str:= "abcdefghijklmnopqrstuvwxyz"
def Nm (z:Str):Prop:=1<=(sL z).length/\(sL z).length<=12/\∀c∈sL z,97<=c/\c<=122
theorem rL (c:Nat):(!(Builtin.Str.occurrences zI (DP [c]) 0 zI.length 1).isEmpty)=decide (97<=c/\c<=122):=by
 rw[zG];have e:sL zI=(List.range 26).map (97+ ·):=by decide
 rw[e];apply decide_eq_decide.mpr;constructor
 ·intro h;obtain ⟨i,hi,rfl⟩:=EF.mp h;have:=List.mem_range.mp hi
  lia
 ·intro h;exact EF.mpr ⟨c-97,List.mem_range.mpr (by lia),by lia⟩
def oH (K:D9):Sp:=fun vs H Q _=>∃x:V,vs= [x]/\((∃z:Str,x= .str z/\z.length<=1000000/\(Nm z->Q (.bl true) H)/\(¬Nm z->Q (.bl false) H))∨∃ty,eP K H x ty/\El K ty (.type "str")=some false/\Q (.bl false) H)
def j6 (x:V):Prop:=∃z,x= .str z/\Nm z
def eY (K:D9) (H:Hp) (x:V):Prop:=(∃z,x= .str z/\z.length<=1000000/\¬Nm z)∨∃ty,eP K H x ty/\El K ty (.type "str")=some false
theorem eY.same {K:D9} {H H':Hp} {x:V} (g:ax H H') (h:eY K H x):eY K H' x:=by
 rcases h with h|⟨ty,a,b⟩
 ·exact .inl h
 ·exact .inr ⟨ty,m3 g a,b⟩
theorem tG {xs:List V} (h:1<=xs.length):kS xs none (some (-1))=xs.dropLast:=by
 unfold kS;have e1:HT.dY xs.length 0 none=0:=rfl;have e2:HT.dY xs.length xs.length (some (-1))=xs.length-1:=by
  unfold HT.dY;simp;omega
 rw[e1,e2,List.drop_zero,Nat.sub_zero,List.dropLast_eq_take]
theorem zJ {z:Str} (h:Nm z):z.length<=1000000:=by
 have:=h.2.1;have e:=m7 z
 lia
def yH:Sp:=fun vs H Q _=>∃(l:Addr) (xs:List V),vs= [.ref l]/\H l=some (.lst xs)/\(∀x∈xs,j6 x)/\Q .non H
def f8 (K:D9) (c:Addr):Sp:=fun vs H Q E=>∃(l:Addr) (xs:List V),vs= [.ref l]/\H l=some (.lst xs)/\(∀x∈xs,j6 x∨eY K H x)/\((∀x∈xs,j6 x)->Q .non H)/\((¬ ∀x∈xs,j6 x)->∀H',ax H H'->E (.ref c) none H')
theorem zK {K:D9} {c:Addr} {vs:List V} {H:Hp} {Q:VK} {E:XK} (h:yH vs H Q E):f8 K c vs H Q E0:=by
 obtain ⟨l,xs,e,h1,h2,h3⟩:=h;exact ⟨l,xs,e,h1,fun x hx=> .inl (h2 x hx),fun _=>h3,fun z=>absurd h2 z⟩
end Sw
namespace So
open PySem PyProof.Rows
def kk (κ:KeyKind) (p:Keyed):κ.α:=(κ.keyOf p.1).getD κ.dflt
def Kd (κ:KeyKind) (p:Keyed):Prop:=∃a,κ.keyOf p.1=some a
def AL (prog:Program) (w:World) (A:Around) (E:HF) (s:Shared) (κ:KeyKind) (kd:SortKind):Prop:=∀(st:SortSt) (x y:Keyed) (Q:Option Bool->SortSt->Prop),kindOf st=kd->Kd κ x->Kd κ y->Q (some (κ.blt (kk κ x) (kk κ y))) st->wpS (model prog w) A E s (lt' x y) Q st
section
variable {prog:Program} {w:World} {A:Around} {E:HF} {s:Shared} {κ:KeyKind} {kd:SortKind}
theorem j7 {α β:Type} {st:SortSt} {x:StateT SortSt Sem α} {f:α->StateT SortSt Sem β} {Q:β->SortSt->Prop} (h:wpS (model prog w) A E s (x>>=f) Q st):wpS (model prog w) A E s (x>>=f) Q st:=h
theorem vg (hO:AL prog w A E s κ kd) {st:SortSt} {x y:Keyed} {Q:Option Bool->SortSt->Prop} (hk:kindOf st=kd) (hx:Kd κ x) (hy:Kd κ y) (h:Q (some (κ.blt (kk κ x) (kk κ y))) st):wpS (model prog w) A E s (lt' x y) Q st:=hO st x y Q hk hx hy h
theorem iH {st:SortSt} {arr:Array Keyed} {i:Nat} {p:Keyed} {Q:Keyed->SortSt->Prop} (e:arr[i]?=some p) (h:Q p st):wpS (model prog w) A E s (elem' arr i) Q st:=by
 rw[elem'_eq,e];exact wpS_pure h
end
def Lq (κ:KeyKind) (p q:Keyed):Prop:=κ.kle (kk κ p) (kk κ q)
section
variable {prog:Program} {w:World} {A:Around} {E:HF} {s:Shared} {κ:KeyKind} {kd:SortKind}
theorem oJ {st:SortSt} {r:String} {Q:Unit->SortSt->Prop} (h:Q () st):wpS (model prog w) A E s (liftM (rule r):StateT SortSt Sem Unit) Q st:=wpS_lift (wpAny_rule ⟨rfl,h⟩)
end
section
variable {prog:Program} {w:World} {A:Around} {E:HF} {s:Shared} {κ:KeyKind} {kd:SortKind}
theorem xm {arr:Array Keyed} {P R:List Keyed} (e:arr.toList=P++R) {i:Nat} {x:Keyed} (h:R[i]?=some x):arr[P.length+i]?=some x:=by
 have:arr.toList[P.length+i]?=some x:=by rw[e,E7 (by lia),Nat.add_sub_cancel_left];exact h
 simpa using this
theorem iI (hO:AL prog w A E s κ kd) {st:SortSt} {P R:List Keyed} {i j i' j':Nat} {x y:Keyed} {Q:Option Bool->SortSt->Prop} (hk:kindOf st=kd) (ka:∀x∈R,Kd κ x) (e:(arrOf st).toList=P++R)
  (hi:R[i]?=some x) (hj:R[j]?=some y) (ei:i'=P.length+i) (ej:j'=P.length+j) (h:Q (some (κ.blt (kk κ x) (kk κ y))) st):wpS (model prog w) A E s (ltAt' i' j') Q st:=by
 subst ei ej;rw[ltAt'_eq];refine wpS_bind (wpS_get ?_);exact wpS_bind (iH (xm e hi) (wpS_bind (iH (xm e hj) (vg hO hk (ka x (E6 hi)) (ka y (E6 hj)) h))))
theorem take_snoc {R:List Keyed} {n:Nat} {x:Keyed} (h:R[n]?=some x):R.take (n+1)=R.take n++ [x]:=by
 rw[List.take_succ,h]
 rfl
theorem rise {R:List Keyed} {n:Nat} {x y:Keyed} (h1:1<=n) (hs:(R.take n).Pairwise (Lq κ)) (hy:R[n-1]?=some y) (hx:R[n]?=some x) (l:Lq κ y x):(R.take (n+1)).Pairwise (Lq κ):=by
 have e1:R.take n=R.take (n-1)++ [y]:=by
  have:=take_snoc hy
  rwa [show n-1+1=n by lia] at this
 rw[take_snoc hx,F8];refine ⟨hs,by simp,fun u hu v hv=>?_⟩
 simp at hv;rw[hv];rw[e1] at hu hs;rcases EK.mp hu with k|k
 ·exact KeyOrd.kle_trans ((F8.mp hs).2.2 u k y (by simp)) l
 ·simp at k;rw[k];exact l
theorem rM {st:SortSt} {R:List Keyed} {n0 N:Nat} (hN:N=R.length) {body:Nat->Option (Option Nat)×Nat->StateT SortSt Sem (ForInStep (Option (Option Nat)×Nat))} {Q:Option (Option Nat)×Nat->SortSt->Prop} (h1:1<=n0) (hn:n0<=R.length) (hs:(R.take n0).Pairwise (Lq κ))
  (hb:∀n x y (i:Nat) (Q':ForInStep (Option (Option Nat)×Nat)->SortSt->Prop),1<=n->R[n]?=some x->R[n-1]?=some y->(κ.blt (kk κ x) (kk κ y)=true->Q' (.done (none,n)) st)->(κ.blt (kk κ x) (kk κ y)=false->Q' (.yield (none,n+1)) st)->wpS (model prog w) A E s (body i (none,n)) Q' st)
  (h:∀n,n0<=n->n<=R.length->(R.take n).Pairwise (Lq κ)->(n=R.length∨∃x y,R[n]?=some x/\R[n-1]?=some y/\κ.blt (kk κ x) (kk κ y)=true)->Q (none,n) st):wpS (model prog w) A E s (forIn [n0:N] (none,n0) body) Q st:=by
 subst hN;refine wpS_forRange (I:=fun i c st'=>st'=st/\c=(none,i)/\n0<=i/\(R.take i).Pairwise (Lq κ)) ?_ ?_ ⟨rfl,rfl,E4 _,hs⟩
 ·rintro i c st' hi1 hi2 ⟨rfl,rfl,h3,h4⟩;have ex:=E1 hi2;have ey:=E1 (show i-1<R.length by lia)
  refine hb i _ _ i _ (by lia) ex ey (fun c=>h i h3 (by lia) h4 (.inr ⟨_,_,ex,ey,c⟩)) (fun c=>⟨rfl,rfl,by lia,rise (by lia) h4 ey ex c⟩)
 ·rintro c st' ⟨rfl,rfl,h3,h4⟩;rw[Nat.max_eq_right hn] at h3 h4⊢;exact h _ h3 (E4 _) h4 (.inl rfl)
theorem jp {arr:Array Keyed} {P D S:List Keyed} (e:arr.toList=P++(D++S)):(mirror arr P.length (P.length+D.length) ((P.length+D.length-P.length)/2)).toList=P++(D.reverse++S):=by
 have sz:arr.size=P.length+(D.length+S.length):=by
  have:=congrArg List.length e
  simpa using this
 apply FU;intro k;have q:=getElem?_mirror_all (xs:=arr) (i:=P.length) (j:=P.length+D.length) (by lia) k
 have q':(mirror arr P.length (P.length+D.length) ((P.length+D.length-P.length)/2)).toList[k]?=(mirror arr P.length (P.length+D.length) ((P.length+D.length-P.length)/2))[k]?:=by simp
 have ga:∀i,arr[i]?=(P++(D++S))[i]?:=fun i=>by rw[<-e,Em]
 rw[q',q,ga,ga]
 by_cases c:P.length<=k/\k<P.length+D.length
 ·rw[if_pos c,E7 (by lia),E5 (by lia),E7 (by lia),E5 (by rw[Eo];lia),List.getElem?_reverse (by lia)]
  congr 1
  lia
 ·rw[if_neg c]
  by_cases c2:k<P.length
  ·rw[E5 c2,E5 c2]
  ·rw[E7 (by lia),E7 (by lia),E7 (by lia),E7 (by rw[Eo];lia),Eo]
structure Kp (st st':SortSt):Prop where
 kind:kindOf st'=kindOf st
 failed:failedOf st'=failedOf st
 pend:pendingOf st'=pendingOf st
def NI (κ:KeyKind) (L:List Keyed) (n:Nat):Prop:=((L.map (kk κ)).take n).Pairwise fun a b=>κ.blt a b=false
theorem NI.snoc {L:List Keyed} {n:Nat} {x y:Keyed} (h1:1<=n) (h:NI κ L n) (hy:L[n-1]?=some y) (hx:L[n]?=some x) (l:κ.blt (kk κ y) (kk κ x)=false):NI κ L (n+1):=by
 have ey:(L.map (kk κ))[n-1]?=some (kk κ y):=by rw[EA,hy];rfl
 have ex:(L.map (kk κ))[n]?=some (kk κ x):=by rw[EA,hx];rfl
 unfold NI at h⊢;have e1:(L.map (kk κ)).take n=(L.map (kk κ)).take (n-1)++ [kk κ y]:=by
  have:=List.take_succ (l:=L.map (kk κ)) (i:=n-1);rw[show n-1+1=n by lia,ey] at this
  exact this
 have e2:(L.map (kk κ)).take (n+1)=(L.map (kk κ)).take n++ [kk κ x]:=by
  rw[List.take_succ,ex]
  rfl
 rw[e2,F8];refine ⟨h,by simp,fun u hu v hv=>?_⟩
 simp at hv;rw[hv];rw[e1] at hu h;rcases EK.mp hu with k|k
 ·have q:=(F8.mp h).2.2 u k (kk κ y) (by simp)
  exact KeyOrd.kle_trans (O:=κ.toKeyOrd) l q
 ·simp at k;rw[k];exact l
theorem NI.falls {L:List Keyed} {n:Nat} (h:NI κ L n):(L.take n).Pairwise (fun p q=>Lq κ q p):=by
 unfold NI at h;rw[<-List.map_take,List.pairwise_map] at h;exact h
def yI (κ:KeyKind) (L:List Keyed) (n m:Nat):Prop:=∃(D1 D2 S:List Keyed) (a:κ.α),L=D1++(D2++S)/\D1.length+D2.length=n/\D2.length=m+1/\∀x∈D2,kk κ x=a
theorem tH {D:List Keyed} {a:κ.α} (h:∀x∈D,kk κ x=a):D.reverse.map (kk κ)=D.map (kk κ):=by
 have e1:D.map (kk κ)=List.replicate D.length a:=List.eq_replicate_iff.mpr ⟨by simp,fun b hb=>by
  obtain ⟨x,hx,rfl⟩:=EF.mp hb;exact h x hx⟩
 have e2:D.reverse.map (kk κ)=List.replicate D.length a:=List.eq_replicate_iff.mpr ⟨by simp,fun b hb=>by
  obtain ⟨x,hx,rfl⟩:=EF.mp hb;exact h x (List.mem_reverse.mp hx)⟩
 rw[e1,e2]
theorem j8 {st:SortSt} {P L:List Keyed} {n m i j:Nat} {Q:Unit->SortSt->Prop} (e:(arrOf st).toList=P++L) (q:yI κ L n m) (ei:i=P.length+n-(m+1)) (ej:j=P.length+n)
  (h:∀st' L',Kp st st'->(arrOf st').toList=P++L'->L'.Perm L->L'.map (kk κ)=L.map (kk κ)->(∀k,n<=k->L'[k]?=L[k]?)->Q () st'):wpS (model prog w) A E s (reverseSlice' i j) Q st:=by
 obtain ⟨D1,D2,S,a,rfl,l1,l2,al⟩:=q;refine wpS_reverse ?_;have er:(arrOf st).toList=(P++D1)++(D2++S):=by rw[e];simp
 have em:=jp er;have i1:i=(P++D1).length:=by rw[E8];lia
 have j1:j=(P++D1).length+D2.length:=by rw[E8];lia
 rw[i1,j1];refine h (setArr st (mirror (arrOf st) (P++D1).length ((P++D1).length+D2.length) (((P++D1).length+D2.length-(P++D1).length)/2))) (D1++(D2.reverse++S)) ⟨rfl,rfl,rfl⟩ ?_ ?_ ?_ fun k hk=>?_
 ·rw[<-List.append_assoc];exact em
 ·exact List.Perm.append_left _ (List.Perm.append_right _ (List.reverse_perm _))
 ·simp only[Ed];rw[tH al]
 ·rw[E7 (by lia),E7 (by rw[Eo];lia),E7 (by lia),E7 (by lia),Eo]
theorem Kp.trans {a b c:SortSt} (h1:Kp a b) (h2:Kp b c):Kp a c:=⟨h2.kind.trans h1.kind,h2.failed.trans h1.failed,h2.pend.trans h1.pend⟩
theorem m8 {L:List Keyed} {n:Nat} (h:n<L.length):yI κ L (n+1) 0:=by
 refine ⟨L.take n,[L[n]],L.drop (n+1),kk κ L[n],?_,by rw[EN];simp;lia,rfl,fun x hx=>by simp at hx;rw[hx]⟩
 have:=List.drop_eq_getElem_cons h;rw[List.singleton_append,<-this,Ei]
theorem yI.more {L:List Keyed} {n m:Nat} {x y:Keyed} (h:yI κ L n m) (hy:L[n-1]?=some y) (hx:L[n]?=some x) (e:kk κ x=kk κ y):yI κ L (n+1) (m+1):=by
 obtain ⟨D1,D2,S,a,rfl,l1,l2,al⟩:=h;have my:y∈D2:=by
  rw[E7 (by lia),E5 (by lia)] at hy
  exact E6 hy
 rw[E7 (by lia),E7 (by lia)] at hx
 have z:n-D1.length-D2.length=0:=by lia
 rw[z] at hx;cases S with
 |nil=>simp at hx
 |cons s S=>
  simp at hx;subst hx;refine ⟨D1,D2++ [s],S,a,by simp,by simp;lia,by simp;lia,fun u hu=>?_⟩
  rcases EK.mp hu with k|k
  ·exact al u k
  ·simp at k;rw[k,e];exact al y my
theorem vh {st st6:SortSt} {P L R:List Keyed} {n:Nat} {f:Unit->StateT SortSt Sem (Option Nat)} {Q:Option Nat->SortSt->Prop} (kp:Kp st st6) (e:(arrOf st6).toList=P++L) (pr:L.Perm R) (hn:n<=R.length) (ni:NI κ L n)
  (h:∀st7 M,Kp st st7->(arrOf st7).toList=P++M->M.Perm R->(M.take n).Pairwise (Lq κ)->wpS (model prog w) A E s (f ()) Q st7):wpS (model prog w) A E s (reverseSlice' P.length (P.length+n)>>=f) Q st6:=by
 have tl:(L.take n).length=n:=by rw[EN,pr.length_eq];lia
 have er:(arrOf st6).toList=P++(L.take n++L.drop n):=by rw[Ei];exact e
 have em:=jp er;rw[tl] at em;refine wpS_bind (wpS_reverse (h _ ((L.take n).reverse++L.drop n) ⟨kp.kind,kp.failed,kp.pend⟩ em ?_ ?_))
 ·refine List.Perm.trans (List.Perm.append_right _ (List.reverse_perm _)) ?_;rw[Ei];exact pr
 ·rw[List.take_left' (by rw[Eo,tl]),List.pairwise_reverse]
  exact ni.falls
theorem oK (hO:AL prog w A E s κ kd) {st:SortSt} {P R:List Keyed} {Q:Option Nat->SortSt->Prop} (hk:kindOf st=kd) (ka:∀x∈R,Kd κ x) (e:(arrOf st).toList=P++R) (hR:1<=R.length)
  (h:∀st' X S,Kp st st'->(arrOf st').toList=P++(X++S)->X.Pairwise (Lq κ)->(X++S).Perm R->1<=X.length->Q (some X.length) st'):wpS (model prog w) A E s (countRun' P.length R.length) Q st:=by
 have got:∀n,1<=n->n<=R.length->(R.take n).Pairwise (Lq κ)->Q (some n) st:=fun n h1 h2 h3=>by
  have q:=h st (R.take n) (R.drop n) ⟨rfl,rfl,rfl⟩ (by rw[Ei];exact e) h3 (by rw[Ei]) (by rw[EN];lia)
  rwa [EN,Nat.min_eq_left h2] at q
 unfold countRun';refine j7 ?_;try dsimp only
 refine wpS_bind (rM (κ:=κ) (R:=R) rfl (E4 1) hR ?_ (fun n x y i Q' h1 hx hy ht hf=>?_) fun n h1 h2 h3 h4=>?_)
 ·cases R with
  |nil=>simp
  |cons=>simp
 ·refine wpS_bind (iI hO hk ka e hx hy rfl (by lia) ?_)
  cases c:κ.blt (kk κ x) (kk κ y) with
  |true=>exact wpS_pure (ht c)
  |false=>exact wpS_pure (hf c)
 try dsimp only
 by_cases c1:n=R.length
 ·rw[if_pos (beq_iff_eq.mpr c1)];exact wpS_pure (got n h1 h2 h3)
 rw[if_neg (fun z=>c1 (beq_iff_eq.mp z))]
 rcases h4 with h4|⟨x,y,hx,hy,lt⟩
 ·exact absurd h4 c1
 have nl:n<R.length:=by lia
 have all:∀(i j:Nat) (u v:Keyed),i<=j->j<n->R[i]?=some u->R[j]?=some v->Lq κ u v:=fun i j u v hij hj hu hv=>by
  rcases Nat.lt_or_ge i j with c|c
  ·obtain ⟨l1,g1⟩:=E2.mp hu;obtain ⟨l2,g2⟩:=E2.mp hv;have q:=List.pairwise_iff_getElem.mp h3 i j (by rw[EN];lia) (by rw[EN];lia) c
   rw[List.getElem_take,List.getElem_take,g1,g2] at q;exact q
  ·have:i=j:=by lia
   subst this;rw[hu] at hv;cases hv;exact KeyOrd.kle_refl _
 by_cases c2:n>1
 case' pos=>
  rw[if_pos c2];obtain ⟨x0,hx0⟩:∃x,R[0]?=some x:=⟨_,E1 (by lia)⟩
  refine wpS_bind (iI hO hk ka e hx0 hy rfl (by lia) ?_)
  try dsimp only
  cases rose:κ.blt (kk κ x0) (kk κ y) with
  |true=>exact wpS_pure (got n h1 h2 h3)
  |false=>?_
  try dsimp only
  rw[if_neg (by decide)]
  have al:∀z∈R.take n,kk κ z=kk κ x0:=fun z hz=>by
   obtain ⟨k,hk'⟩:=EH.mp hz;have kn:k<n:=by
    have:=(E2.mp hk').1;rw[EN] at this
    lia
   rw[Fh kn] at hk';have a1:=all 0 k x0 z (by lia) kn hx0 hk'
   have a2:=all k (n-1) z y (by lia) (by lia) hk' hy
   exact KeyOrd.kle_antisymm (O:=κ.toKeyOrd) (KeyOrd.kle_trans (O:=κ.toKeyOrd) a2 rose) a1
  have eq0:yI κ R n (n-1):=⟨[],R.take n,R.drop n,kk κ x0,by simp,by rw[EN];simp;lia,by rw[EN];lia,al⟩
  have ni0:NI κ R n:=by
   unfold NI;rw[<-List.map_take];refine List.pairwise_map.mpr (List.Pairwise.imp_of_mem (R:=fun _ _=>True) (fun {u v} hu hv _=>?_) (List.pairwise_of_forall fun _ _=>trivial))
   rw[al u hu,al v hv];exact κ.irrefl _
  have ni1:NI κ R (n+1):=ni0.snoc h1 hy hx (KeyOrd.kle_of_klt lt);refine wpS_bind (j8 (κ:=κ) e eq0 (by lia) rfl fun st1 L0 kp1 e1 p1 m1 _=>?_)
  have niL:NI κ L0 (n+1):=by
   unfold NI at ni1⊢;rw[m1];exact ni1
 case' neg=>
  rw[if_neg c2];have n1:n=1:=by lia
  have ni1:NI κ R (n+1):=by
   refine NI.snoc h1 ?_ hy hx (KeyOrd.kle_of_klt lt);rw[n1];unfold NI;cases R with
   |nil=>simp
   |cons=>simp
  have kp1:Kp st st:=⟨rfl,rfl,rfl⟩;have e1:=e;have p1:=List.Perm.refl R;have niL:=ni1
 all_goals
  refine wpS_bind (oJ ?_);have n2:2<=n+1:=by lia
  refine wpS_bind (wpS_mono (wpS_forRange (I:=fun i c st'=>∃L m,c=(none,i,m)/\Kp st st'/\(arrOf st').toList=P++L/\L.Perm R/\NI κ L i/\yI κ L i m/\2<=i)
   (Q:=fun c st'=>∃n' L m,c=(none,n',m)/\Kp st st'/\(arrOf st').toList=P++L/\L.Perm R/\NI κ L n'/\yI κ L n' m/\2<=n'/\n'<=R.length) ?ds ?de ⟨_,0,rfl,kp1,e1,p1,niL,?i0,n2⟩) ?dp)
  case i0=>
   exact m8 (by rw[p1.length_eq];lia)
  case de=>
   rintro c st' ⟨L,m,rfl,kp,eL,pL,ni,eq,g1⟩;have:max (n+1) R.length=R.length:=by lia
   rw[this] at ni eq g1⊢;exact ⟨_,L,m,rfl,kp,eL,pL,ni,eq,g1,E4 _⟩
  case ds=>
   rintro i c st' hi1 hi2 ⟨L,m,rfl,kp,eL,pL,ni,eq,g1⟩;have hi3:i<L.length:=by rw[pL.length_eq];exact hi2
   have ex:=E1 hi3;have ey:=E1 (show i-1<L.length by lia)
   have kL:∀x∈L,Kd κ x:=fun x hx=>ka x (pL.mem_iff.mp hx)
   have hk':=kp.kind.trans hk;try dsimp only
   refine wpS_bind (iI hO hk' kL eL ex ey rfl (by lia) ?_)
   try dsimp only
   cases c:κ.blt (kk κ L[i]) (kk κ L[i-1]) with
   |true=>
    rw[if_pos rfl]
    by_cases hm:m>0
    ·rw[if_pos hm];refine wpS_bind (j8 (κ:=κ) eL eq rfl rfl fun st6 L6 kp6 e6 p6 m6 g6=>wpS_pure ⟨L6,0,rfl,kp.trans kp6,e6,p6.trans pL,?_,m8 (by rw[p6.length_eq];lia),by lia⟩)
     have:=ni.snoc (by lia) ey ex (KeyOrd.kle_of_klt c)
     unfold NI at this⊢;rw[m6];exact this
    ·rw[if_neg hm];exact wpS_pure ⟨L,0,rfl,kp,eL,pL,ni.snoc (by lia) ey ex (KeyOrd.kle_of_klt c),m8 (by lia),by lia⟩
   |false=>
    rw[if_neg (by decide)]
    refine wpS_bind (iI hO hk' kL eL ey ex (by lia) rfl ?_)
    try dsimp only
    cases c':κ.blt (kk κ L[i-1]) (kk κ L[i]) with
    |true=>exact wpS_pure ⟨i,L,m,rfl,kp,eL,pL,ni,eq,g1,by lia⟩
    |false=>exact wpS_pure ⟨L,m+1,rfl,kp,eL,pL,ni.snoc (by lia) ey ex c',eq.more ey ex (κ.total _ _ c c'),by lia⟩
  case dp=>
   rintro c st' ⟨n',L,m,rfl,kp,eL,pL,ni,eq,g1,g2⟩;try dsimp only
   by_cases hm:m>0
   case' pos=>
    rw[if_pos hm];refine wpS_bind (j8 (κ:=κ) eL eq rfl rfl fun st6 L6 kp6' e6 p6' m6 g6=>?_)
    have kp6:=kp.trans kp6';have p6:=p6'.trans pL;have ni6:NI κ L6 n':=by
     unfold NI at ni⊢;rw[m6];exact ni
   case' neg=>
    rw[if_neg hm];have kp6:=kp;have e6:=eL;have p6:=pL;have ni6:=ni
   all_goals
    refine vh (κ:=κ) kp6 e6 p6 g2 ni6 fun st7 M kp7 e7 p7 s7=>?_
    have rl:=p7.length_eq;have kM:∀x∈M,Kd κ x:=fun x hx=>ka x (p7.mem_iff.mp hx)
    refine wpS_bind (rM (κ:=κ) (R:=M) rl.symm (by lia) (by lia) s7 (fun m x y i Q' h1 hx hy ht hf=>?_) fun m h1 h2 h3 _=>?_)
    ·try dsimp only
     refine wpS_bind (iI hO (kp7.kind.trans hk) kM e7 hx hy rfl (by lia) ?_)
     cases c:κ.blt (kk κ x) (kk κ y) with
     |true=>exact wpS_pure (ht c)
     |false=>exact wpS_pure (hf c)
    ·have q:=h st7 (M.take m) (M.drop m) kp7 (by rw[Ei];exact e7) h3 (by rw[Ei];exact p7) (by rw[EN];lia)
     rw[EN,Nat.min_eq_left h2] at q;exact wpS_pure q
end
theorem oM {arr:Array Keyed} {B V W:List Keyed} {x:Keyed} (e:arr.toList=B++(V++x::W)):(bubble arr (B.length+V.length) V.length).toList=B++(x::(V++W)):=by
 have sz:arr.size=B.length+(V.length+(W.length+1)):=by
  have:=congrArg List.length e
  simpa using this
 apply FU;intro k;have q:=getElem?_bubble (xs:=arr) (src:=B.length+V.length) (by lia) V.length (by lia) k
 rw[Nat.add_sub_cancel] at q;have ga:∀i,arr[i]?=(B++(V++x::W))[i]?:=fun i=>by rw[<-e,Em]
 rw[Em,q,ga,ga,ga]
 by_cases c1:k=B.length
 ·rw[if_pos c1];subst c1;simp
 rw[if_neg c1]
 by_cases c2:B.length<k/\k<=B.length+V.length
 ·rw[if_pos c2,E7 (by lia),E5 (by lia),E7 (by lia)]
  have:k-B.length=(k-1-B.length)+1:=by lia
  rw[this,List.getElem?_cons_succ,E5 (by lia)]
 rw[if_neg c2]
 by_cases c3:k<B.length
 ·rw[E5 c3,E5 c3]
 ·rw[E7 (by lia),E7 (by lia),E7 (by lia)]
  have e1:k-B.length-V.length=(k-B.length-V.length-1)+1:=by lia
  have e2:k-B.length=(k-B.length-1)+1:=by lia
  rw[e1,List.getElem?_cons_succ,e2,List.getElem?_cons_succ,E7 (by lia)]
  congr 1
  lia
section
variable {prog:Program} {w:World} {A:Around} {E:HF} {s:Shared} {κ:KeyKind} {kd:SortKind}
theorem tI (hO:AL prog w A E s κ kd) {st:SortSt} {P D S:List Keyed} {ok n:Nat} {Q:Bool->SortSt->Prop} (hn:n=D.length) (hk:kindOf st=kd) (ka:∀x∈D,Kd κ x) (e:(arrOf st).toList=P++(D++S)) (h1:1<=ok) (h2:ok<=D.length) (hs:(D.take ok).Pairwise (Lq κ))
  (h:∀st' X,Kp st st'->(arrOf st').toList=P++(X++S)->X.Pairwise (Lq κ)->X.Perm D->Q true st'):wpS (model prog w) A E s (binarySort' P.length n ok) Q st:=by
 subst hn;unfold binarySort';refine j7 ?_;try dsimp only
 have mx:max ok 1=ok:=by lia
 rw[mx];refine wpS_bind (wpS_mono (wpS_forRange (I:=fun k c st'=>c=(none,())/\Kp st st'/\∃X,(arrOf st').toList=P++(X++S)/\X.Perm D/\(X.take k).Pairwise (Lq κ))
  (Q:=fun c st'=>c=(none,())/\Kp st st'/\∃X,(arrOf st').toList=P++(X++S)/\X.Perm D/\X.Pairwise (Lq κ)) ?s1 ?e1 ⟨rfl,⟨rfl,rfl,rfl⟩,D,e,List.Perm.refl _,hs⟩) ?p1)
 case e1=>
  rintro c st' ⟨rfl,kp,X,eX,pX,sX⟩;rw[Nat.max_eq_right h2,Ey (by rw[pX.length_eq];exact E4 _)] at sX
  exact ⟨rfl,kp,X,eX,pX,sX⟩
 case p1=>
  rintro c st' ⟨rfl,kp,X,eX,pX,sX⟩;exact wpS_pure (h st' X kp eX sX pX)
 case s1=>
  rintro k c st' hk1 hk2 ⟨rfl,kp,X,eX,pX,sX⟩;have xl:=pX.length_eq;have kaX:∀x∈X++S,x∈X->Kd κ x:=fun x _ hx=>ka x (pX.mem_iff.mp hx)
  have hkx:k<X.length:=by lia
  have ex:=E1 hkx;generalize X[k]=x at ex;have eX':(arrOf st').toList=P++X++S:=by rw[eX,List.append_assoc]
  have lt:∀{i:Nat} {y:Keyed} {Q':Option Bool->SortSt->Prop},X[i]?=some y->Q' (some (κ.blt (kk κ x) (kk κ y))) st'->wpS (model prog w) A E s (ltAt' (P.length+k) (P.length+i)) Q' st':=fun {i y Q'} hy hq=>by
   have il:=(E2.mp hy).1;rw[ltAt'_eq];refine wpS_bind (wpS_get ?_);exact wpS_bind (iH (xm eX (by rw[E5 hkx];exact ex)) (wpS_bind (iH (xm eX (by rw[E5 il];exact hy)) (vg hO (kp.kind.trans hk) (ka x (pX.mem_iff.mp (E6 ex))) (ka y (pX.mem_iff.mp (E6 hy))) hq))))
  have mono:∀{i j:Nat} {u v:Keyed},i<=j->j<k->X[i]?=some u->X[j]?=some v->Lq κ u v:=fun {i j u v} hij hj hu hv=>by
   rcases Nat.lt_or_ge i j with c|c
   ·obtain ⟨l1,g1⟩:=E2.mp hu;obtain ⟨l2,g2⟩:=E2.mp hv;have q:=List.pairwise_iff_getElem.mp sX i j (by rw[EN];lia) (by rw[EN];lia) c
    rw[List.getElem_take,List.getElem_take,g1,g2] at q;exact q
   ·have:i=j:=by lia
    subst this;rw[hu] at hv;cases hv;exact KeyOrd.kle_refl _
  try dsimp only
  refine wpS_bind (wpS_mono (wpS_forRange (I:=fun i c st''=>st''=st'/\∃l r,c=(none,l,r)/\l<=r/\r<=k/\(∀j u,j<l->X[j]?=some u->Lq κ u x)/\(∀j u,r<=j->j<k->X[j]?=some u->Lq κ x u)/\r-l+i<=k)
   (Q:=fun c st''=>st''=st'/\∃l,c=(none,l,l)/\l<=k/\(∀j u,j<l->X[j]?=some u->Lq κ u x)/\(∀j u,l<=j->j<k->X[j]?=some u->Lq κ x u)) ?s2 ?e2 ⟨rfl,0,k,rfl,by lia,by lia,fun j u z=>absurd z (by lia),fun j u z z'=>absurd z' (by lia),by lia⟩) ?p2)
  case e2=>
   rintro c st'' ⟨rfl,l,r,rfl,a1,a2,a3,a4,a5⟩;have:l=r:=by lia
   subst this;exact ⟨rfl,l,rfl,a2,a3,a4⟩
  case s2=>
   rintro i c st'' _ hi ⟨rfl,l,r,rfl,a1,a2,a3,a4,a5⟩;try dsimp only
   by_cases c:l≥r
   ·rw[if_pos c];have:l=r:=by lia
    subst this;exact wpS_pure ⟨rfl,l,rfl,a2,a3,a4⟩
   ·rw[if_neg c];have ml:(l+r)/2<X.length:=by lia
    have em:=E1 ml;refine wpS_bind (lt em ?_);try dsimp only
    cases cc:κ.blt (kk κ x) (kk κ X[(l+r)/2]) with
    |true=>exact wpS_pure ⟨rfl,_,_,rfl,by lia,by lia,a3,fun j u hj hj2 hu=>KeyOrd.kle_trans (KeyOrd.kle_of_klt cc) (mono hj hj2 em hu),by lia⟩
    |false=>exact wpS_pure ⟨rfl,_,_,rfl,by lia,by lia,fun j u hj hu=>KeyOrd.kle_trans (mono (show j<=(l+r)/2 by lia) (by lia) hu em) cc,a4,by lia⟩
  case p2=>
   rintro c st'' ⟨rfl,l,rfl,a2,a3,a4⟩;try dsimp only
   have eX2:X=X.take l++((X.take k).drop l++x::X.drop (k+1)):=by
    obtain ⟨l1,g1⟩:=E2.mp ex;have d1:X.drop k=x::X.drop (k+1):=by rw[List.drop_eq_getElem_cons l1,g1]
    have t1:X.take k=X.take l++(X.take k).drop l:=by
     have q:=(Ei l (X.take k)).symm;rw[List.take_take,Nat.min_eq_left a2] at q;exact q
    rw[<-d1,<-List.append_assoc,<-t1,Ei]
   have lv:((X.take k).drop l).length=k-l:=by rw[List.length_drop,EN];lia
   have lu:(X.take l).length=l:=by rw[EN];lia
   have mU:∀u∈X.take l,Lq κ u x:=fun u hu=>by
    obtain ⟨j,hj⟩:=EH.mp hu;have jl:=(E2.mp hj).1;rw[lu] at jl;rw[Fh jl] at hj;exact a3 j u jl hj
   have mV:∀u∈(X.take k).drop l,Lq κ x u:=fun u hu=>by
    obtain ⟨j,hj⟩:=EH.mp hu;have jl:=(E2.mp hj).1;rw[lv] at jl;rw[List.getElem?_drop,Fh (by lia)] at hj
    exact a4 (l+j) u (by lia) (by lia) hj
   have sUV:(X.take l++(X.take k).drop l).Pairwise (Lq κ):=by
    have q:=(Ei l (X.take k)).symm;rw[List.take_take,Nat.min_eq_left a2] at q;rw[<-q];exact sX
   generalize X.take l=U at*;generalize (X.take k).drop l=V at*;generalize X.drop (k+1)=W at*;subst eX2;have eb:(arrOf st'').toList=(P++U)++(V++x::(W++S)):=by rw[eX];simp
   have bl:=oM eb;have l1:(P++U).length+V.length=P.length+k:=by rw[E8];lia
   rw[l1] at bl;have l2:P.length+k-(P.length+l)=V.length:=by lia
   have sp:=F8.mp sUV;refine wpS_bind ?_;show wpS _ _ _ _ (moveDown' (P.length+k) (P.length+l)) _ _;rw[moveDown'_eq];refine wpS_modify (wpS_pure ⟨rfl,⟨kp.kind,kp.failed,kp.pend⟩,U++(x::(V++W)),?_,?_,?_⟩)
   ·show (bubble (arrOf st'') (P.length+k) (P.length+k-(P.length+l))).toList=_;rw[l2,bl];simp
   ·refine List.Perm.trans (List.Perm.append_left _ ?_) pX;exact (List.perm_middle).symm
   ·have t:U++(x::(V++W))=(U++x::V)++W:=by simp
    rw[t,List.take_left' (by simp;lia),F8,List.pairwise_cons]
    refine ⟨sp.1,⟨mV,sp.2.1⟩,fun u hu v hv=>?_⟩
    rcases EC.mp hv with c|c
    ·rw[c];exact mU u hu
    ·exact sp.2.2 u hu v c
end
end So
namespace L2
open PySem PySem.Spec PyProof.Rows XH
def zL (a:Addr) (o:Obj) (kvs:List (Key×V)):It:=
 ⟨fun i H=>H a=some (.frz o (.dK kvs))/\i<kvs.length,fun i H v H'=>H'=H/\∃k x,kvs[i]?=some (k,x)/\v=kV k,fun i H=>H a=some (.frz o (.dK kvs))/\i=kvs.length⟩
theorem rN {P:Program} {w:World} {k:Key} {u:Value} (h:(bg P w).is k u=true):RelV (kV k) u:=by
 rcases bX h with ⟨i,t,rfl,rfl⟩|⟨x,t,rfl,rfl⟩
 ·exact ⟨t,rfl⟩
 ·exact ⟨t,rfl⟩
theorem vk {κ:Type}:∀{kvs:List (κ×V)} {vs:List (κ×Value)} (r:KV kvs vs) (i:Nat) {k:κ} {x:V},kvs[i]?=some (k,x)->∃u,vs[i]?=some (k,u)/\RelV x u
 |_,_,.nil,i,k,x,h=>by simp at h
 |_,_,.cons (b:=q) r t,0,k,x,h=>by
  simp at h;subst h;obtain ⟨q1,q2⟩:=q;have e:k=q1:=r.1;subst e;exact ⟨q2,by simp,r.2⟩
 |_,_,.cons r t,i+1,k,x,h=>by
  obtain ⟨u,e,rx⟩:=vk t i (by simpa using h)
  exact ⟨u,by simpa using e,rx⟩
theorem oN {X:Cx} {pins:HL} {σ:St} {H:Hp} {s:Shared} {a:Addr} {o:Obj} {kvs:List (Key×V)} {es0:Array DictEntry} {ep:Nat} (I:aE X pins σ H s) (h:H a=some (.frz o (.dK kvs))) (hd:o.data= .dict es0 ep):
  ∃vs,KV kvs vs/\s.heap.DictAt (bg X.prog X.w) a vs ep:=by
 obtain ⟨ho,z,y,vs,rel,ob,es,ep',e,c,d,rest⟩:=(show a7 X.prog X.w H s.heap a (.frz o (.dK kvs)) from I.hok a _ h)
 rw[ho] at e;cases e;have e2:ep'=ep:=by rw[hd] at d;cases d;rfl
 subst e2;exact ⟨vs,rel,o,es,ho,c,d,rest⟩
theorem tJ {P:Program} {w:World} {K:D9} {tg:Expr} (it a:Addr) (o:Obj) (kvs:List (Key×V)) {es0:Array DictEntry} {ep:Nat} (hd:o.data= .dict es0 ep):Turn P w K tg (zL a o kvs) [it] it (fun i h=>h.IsKeyIter it a i kvs.length ep) where
 mem:=by simp
 obj:=fun i h st b hb=>by
  have e:b=it:=by simpa using hb
  subst e;obtain ⟨o,e,c,d⟩:=st;exact ⟨o,e,fun v z=>by rw[d] at z;cases z⟩
 keep:=fun i h h' st k=>by
  obtain ⟨o,e,c,d⟩:=st;exact ⟨o,k it (by simp) o e,c,d⟩
 item:=by
  intro X hP hw hK hc i pins s σ H E I hf st hg;subst hP hw hK;obtain ⟨f0,f1,f2,f3,f4,f5⟩:=hf it (by simp)
  obtain ⟨hz,hlt⟩:=hg;obtain ⟨vs,rel,D⟩:=oN I hz hd;obtain ⟨⟨k,x⟩,hx⟩:∃p,kvs[i]?=some p:=⟨kvs[i],E1 hlt⟩;obtain ⟨u,hu,_⟩:=vk rel i hx;have st':=st;rw[rel.length] at st';refine wpAny_pyNext_dict_item st' D hu fun key h' hkey hit' hs'=>?_
  rw[<-rel.length] at hit';have I1:aE X pins σ H {s with heap:=h',toks:=s.toks}:=I.turned (fun b ob hb e=>hs'.extBut b ob hb e) f0 f1 f3 f4 f5
  obtain ⟨oi,ei,ci,di⟩:=id hit';exact ⟨_,rfl,lq (s:={s with heap:=h'}) (n:= "dict_keyiterator") ei ci di (by decide) ⟨kV k,H,I1,rN hkey,⟨rfl,k,x,hx,rfl⟩,hit',fun b hb=>(hf b hb).1⟩⟩
 done:=by
  intro X hP hw hK hc i pins s σ H E I hf st hg;subst hP hw hK;obtain ⟨f0,f1,f2,f3,f4,f5⟩:=hf it (by simp)
  obtain ⟨hz,rfl⟩:=hg;obtain ⟨vs,rel,D⟩:=oN I hz hd;rw[rel.length] at st;refine wpAny_pyNext_dict_end (I.ok.hd hc) st D (by simp) fun h' he'=>⟨rfl,I.turned (t':=s.toks) (fun b ob hb e=>he' b ob hb e) f0 f1 f3 f4 f5⟩
 self:=fun _ _ _ _ _ st h=>wpAny_pyIter_keyiter st h
def NF (X:Cx) (a:Addr):Prop:=∀o u,X.H₀ a≠some (.frz o u)
theorem aE.nf {X:Cx} {pins:HL} {σ:St} {H:Hp} {s:Shared} {a:Addr} {kvs:List (Key×V)} (I:aE X pins σ H s) (h:H a=some (.dK kvs)):NF X a:=fun o u e=>by
 have:=I.base.frzs a o u e;rw[h] at this;cases this
theorem aE.freeze {X:Cx} {pins:HL} {σ:St} {H:Hp} {s:Shared} {a:Addr} {kvs:List (Key×V)} {o:Obj} (I:aE X pins σ H s) (h:H a=some (.dK kvs)) (ho:s.heap.get? a=some o):aE X pins σ (ay H a (.frz o (.dK kvs))) s:=by
 refine I.un (H':=ay H a (.frz o (.dK kvs))) (h':=s.heap) (t':=s.toks) ⟨fun b ob q n _ _=>q,fun b ob q n _ _=>⟨ob.slots,q⟩,fun b ob q n _=>?_,fun b ob q _=>⟨ob,q⟩,fun b xs q=>?_,fun b ob u q=>?_,fun b ps q=>⟨#[],?_⟩⟩ ?_
 ·rw[ag (fun z=>by subst z;rw[h] at n;cases n)];exact n
 ·rw[ag (fun z=>by subst z;rw[h] at q;cases q)];exact q
 ·rw[ag (fun z=>by subst z;rw[h] at q;cases q)];exact q
 ·rw[ag (fun z=>by subst z;rw[h] at q;cases q),q];simp
 ·intro b u q
  by_cases hb:b=a
  ·subst hb;rw[ac] at q;cases q;exact ⟨ho,(I.hok b _ h).stay (fun _ _ _ q=>q) (fun c q=>by rw[ag (fun z=>by subst z;rw[h] at q;cases q)];exact q) fun c xs q=>by rw[ag (fun z=>by subst z;rw[h] at q;cases q)];exact q⟩
  ·rw[ag hb] at q;exact (I.hok b _ q).stay (fun _ _ _ q=>q) (fun c q=>by rw[ag (fun z=>by subst z;rw[h] at q;cases q)];exact q) fun c xs q=>by rw[ag (fun z=>by subst z;rw[h] at q;cases q)];exact q
theorem aE.thaw {X:Cx} {pins:HL} {σ:St} {H:Hp} {s:Shared} {a:Addr} {kvs:List (Key×V)} {o:Obj} (I:aE X pins σ H s) (h:H a=some (.frz o (.dK kvs))) (nf:NF X a):aE X pins σ (ay H a (.dK kvs)) s:=by
 have hn:∀{b:Addr} {u:HO},H b=some u->(∀o' v,u≠ .frz o' v)->ay H a (.dK kvs) b=some u:=fun {b u} q n=>by
  rw[ag (fun z=>by subst z;rw[h] at q;cases q;exact n _ _ rfl)];exact q
 have hf:∀{b:Addr},H b=none->ay H a (.dK kvs) b=none:=fun {b} n=>by
  rw[ag (fun z=>by subst z;rw[h] at n;cases n)];exact n
 refine ⟨I.ok,I.os,I.bare,⟨I.base.keep,I.base.slot,fun b ob q n hx=>hf (I.base.free b ob q n hx),I.base.there,fun b xs q=>hn (I.base.tups b xs q) (fun _ _ z=>nomatch z),fun b ob u q=>?_,fun b ps q=>?_⟩,I.loc,I.cell,hf I.free,fun y c e=>hf (I.freeC y c e),fun p hp=>?_,?_,I.len⟩
 ·have q':=I.base.frzs b ob u q;rw[ag (fun z=>by subst z;exact nf _ _ q)]
  exact q'
 ·obtain ⟨more,q'⟩:=I.base.tbls b ps q;exact ⟨more,hn q' (fun _ _ z=>nomatch z)⟩
 ·obtain ⟨p1,p2,p3⟩:=I.pin p hp;exact ⟨p1,hf p2,p3⟩
 ·intro b u q
  by_cases hb:b=a
  ·subst hb;rw[ac] at q;cases q;obtain ⟨_,q2⟩:=(show a7 X.prog X.w H s.heap b (.frz o (.dK kvs)) from I.hok b _ h)
   exact a7.stay (o:= .dK kvs) q2 (fun _ _ _ q=>q) (fun c q=>hn q (fun _ _ z=>nomatch z)) fun c xs q=>hn q (fun _ _ z=>nomatch z)
  ·rw[ag hb] at q;exact (I.hok b _ q).stay (fun _ _ _ q=>q) (fun c q=>hn q (fun _ _ z=>nomatch z)) fun c xs q=>hn q (fun _ _ z=>nomatch z)
def Bv (X:Cx) (tl:TE):TI:=fun σ H R=>tl σ H fun x H1=>∃a kvs,x= .ref a/\H1 a=some (.dK kvs)/\∀o,NF X a->R (zL a o kvs) (ay H1 a (.frz o (.dK kvs)))
variable {X:Cx} {tg:Expr}
theorem jG {l:Expr} {tl:TE} (hl:PE X l tl):PI X tg l (Bv X tl):=by
 intro pins s σ H R I h;refine bu (hl pins s σ H _ I h) fun v s1 ⟨x,H1,I1,r1,q1⟩=>?_
 obtain ⟨a,kvs,rfl,hk,q⟩:=q1;cases r1;obtain ⟨z,y,vs,rel,ob,es,ep,e,c,d,rest⟩:=(show a7 X.prog X.w H1 s1.heap a (.dK kvs) from I1.hok a _ hk)
 have D:s1.heap.DictAt (bg X.prog X.w) a vs ep:=⟨ob,es,e,c,d,rest⟩;have I2:=I1.freeze hk e;refine wpAny_pyIter_dict y D ?_;refine ⟨s1.heap.objs.size,[s1.heap.objs.size],_,_,_,rfl,I2.kept (t':=s1.toks) fun b o e=>Heap.get?_push_of_some _ e,tJ _ a ob kvs d,⟨_,Heap.get?_push_size _ rfl,rfl,by rw[rel.length];rfl⟩,fun b hb=>?_,q ob (I1.nf hk)⟩
 have e:b=s1.heap.objs.size:=by simpa using hb
 subst e;exact I2.fpOk (E4 _) (I2.hok.fresh (E4 _))
def Bw (X:Cx) (P:Hp->Prop) (H:Hp):Prop:=∃a o kvs,H a=some (.frz o (.dK kvs))/\NF X a/\P (ay H a (.dK kvs))
def Do (X:Cx) (D:Ends):Ends:={nx:=fun σ=>Bw X (D.nx σ),bk:=fun σ=>Bw X (D.bk σ),ct:=fun σ=>Bw X (D.ct σ),rt:=fun v=>Bw X (D.rt v)}
theorem vm {X:Cx} {st:Stmt} {t:TS} (h:PS X st t):PS X st (fun D σ H=>t (Do X D) σ H):=by
 intro pins s σ H D I q;refine bu (h pins s σ H _ I q) fun f s1 q1=>?_
 cases f with
 |next=>
  obtain ⟨σ',H',I',a,o,kvs,e,nf,p⟩:=q1;exact ⟨σ',_,I'.thaw e nf,p⟩
 |brk=>
  obtain ⟨σ',H',I',a,o,kvs,e,nf,p⟩:=q1;exact ⟨σ',_,I'.thaw e nf,p⟩
 |cont=>
  obtain ⟨σ',H',I',a,o,kvs,e,nf,p⟩:=q1;exact ⟨σ',_,I'.thaw e nf,p⟩
 |ret u=>
  obtain ⟨v,σ',H',I',r,a,o,kvs,e,nf,p⟩:=q1;exact ⟨v,σ',_,I'.thaw e nf,r,p⟩
theorem vo {X:Cx} {e:Expr} {t:TE} (h:PE X e t):PE X e (fun σ H Q=>t σ H fun v=>Bw X (Q v)):=by
 intro pins s σ H Q I q;refine bu (h pins s σ H _ I q) fun u s1 ⟨v,H1,I1,r,a,o,kvs,e,nf,p⟩=>?_
 exact ⟨v,_,I1.thaw e nf,r,p⟩
theorem vq {a:Addr} {o:Obj} {kvs:List (Key×V)} {g:TG} {tb:TS} {D:Ends} {σ:St} {H:Hp} (Pv:Nat->St->Hp->Prop) (h0:Pv 0 σ H) (hz:∀i σ H,i<=kvs.length->Pv i σ H->H a=some (.frz o (.dK kvs)))
  (hs:∀i k x σ H,kvs[i]?=some (k,x)->Pv i σ H->g (kV k) σ H fun σ2 H2=>tb {D with nx:=Pv (i+1),ct:=Pv (i+1),bk:=D.nx} σ2 H2) (hd:∀σ H,Pv kvs.length σ H->D.nx σ H):
  ∃W:Nat->Nat->St->Hp->Prop,(∃m,W 0 m σ H)/\∀i m σ H,W i m σ H->
   ((zL a o kvs).stop i H/\D.nx σ H)∨((zL a o kvs).go i H/\∃N:St->Hp->Prop,(∀σ' H',N σ' H'->∃m',m'<m/\W (i+1) m' σ' H')/\∀x H',(zL a o kvs).yld i H x H'->g x σ H' fun σ2 H2=>tb {D with nx:=N,ct:=N,bk:=D.nx} σ2 H2):=by
 refine ⟨fun i m σ H=>m=kvs.length-i/\i<=kvs.length/\Pv i σ H,⟨kvs.length,by simp,EO _,h0⟩,?_⟩
 rintro i m σ H ⟨rfl,hi,p⟩
 by_cases hlt:i<kvs.length
 ·refine .inr ⟨⟨hz i σ H hi p,hlt⟩,Pv (i+1),fun σ' H' p'=>⟨kvs.length-(i+1),by lia,rfl,hlt,p'⟩,fun x H' y=>?_⟩
  obtain ⟨e,k,v,hk,rfl⟩:=y;subst e;exact hs i k v σ _ hk p
 ·have e:i=kvs.length:=by lia
  subst e;exact .inl ⟨⟨hz _ σ H hi p,rfl⟩,hd σ H p⟩
def m9 (js:List Nat) (tc:TT) (te:TE) (σ:St) (Q:VK):It->Hp->Prop:=fun J H1=>∀p,H1 p=none->∃W:Nat->Nat->List V->Hp->Prop,(∃m,W 0 m [] (ay H1 p (.lst [])))/\
 ∀i m ys H2,W i m ys H2->H2 p=some (.lst ys)/\((J.stop i H2/\Q (.ref p) H2)∨(J.go i H2/\ys.length<sizeLine/\∀x H3,J.yld i H2 x H3->tc (some x::bh js σ) H3 fun b H4=>
  if b=true then te (some x::bh js σ) H4 fun y H5=>H5 p=some (.lst ys)/\∃m',m'<m/\W (i+1) m' (ys++ [y]) (ay H5 p (.lst (ys++ [y]))) else ∃m',m'<m/\W (i+1) m' ys H4))
def rO (wi:TI) (js:List Nat) (tc:TT) (te:TE):TE:=fun σ H Q=>wi σ H (m9 js tc te σ Q)
section
variable {prog:Program} {w:World} {A:Around} {R:Result->Shared->Prop} {s:Shared}
theorem jq {elt target iter cond:Expr} {scope:Scope} {pos:Pos} {it acc:Value} {env:Env} (I:Nat->Shared->Prop)
  (turn:∀n s,I n s->wpAny (model prog w) A (pyNext it) (fun r s1=>match r with
   |none=>R (.ok .next) s1
   |some v=>wpAny (model prog w) A (letOwnedTupleGo target it v) (fun _ s2=>wpAny (model prog w) A (assign target env v) (fun _ s3=>wpAny (model prog w) A (isTrue cond env (eval cond env)) (fun ok s4=>
     if ok=true then wpAny (model prog w) A (eval elt env) (fun x s5=>wpAny (model prog w) A (call (.builtin "list.append") [acc,x]) (fun _ s6=>∃m,m<n/\I m s6) (fun _ _=>False) s5) (fun _ _=>False) s4
     else ∃m,m<n/\I m s4) (fun _ _=>False) s3) (fun _ _=>False) s2) (fun _ _=>False) s1) (fun _ _=>False) s)
  (n:Nat) (h:I n s):codeAny (model prog w) A (.compLoop (.ListComp elt [⟨target,iter,[cond],0⟩] scope pos) 0 it acc env) R s:=by
 apply codeAny_loop rfl I ?_ n h;intro n s hI;show wpAny _ _ ((compTurn (.ListComp elt [⟨target,iter,[cond],0⟩] scope pos) 0 it acc env).onRaise _) _ _ s;apply wpAny_noted;rw[compTurn_list];apply wpAny_bind;apply wpAny_standAt;apply wpAny_bind;refine wpAny_mono (turn n s hI) (fun r s1 h1=>?_) fun _ _ z=>z.elim
 cases r with
 |none=>exact wpAny_pure h1
 |some v=>
  apply wpAny_bind;refine wpAny_mono h1 (fun _ s2 h2=>?_) fun _ _ z=>z.elim
  apply wpAny_bind;refine wpAny_mono h2 (fun _ s3 h3=>?_) fun _ _ z=>z.elim
  apply wpAny_bind;refine wpAny_mono (wpAny_tests_one h3) (fun ok s4 h4=>?_) fun _ _ z=>z.elim
  cases ok with
  |true=>
   apply wpAny_bind;apply wpAny_bind;refine wpAny_mono h4 (fun x s5 h5=>?_) fun _ _ z=>z.elim
   apply wpAny_bind;refine wpAny_mono h5 (fun _ s6 h6=>?_) fun _ _ z=>z.elim
   exact wpAny_pure (wpAny_pure ⟨rfl,h6⟩)
  |false=>
   have h4':∃m,m<n/\I m s4:=h4;exact wpAny_pure ⟨rfl,h4'⟩
end
section
variable {scope:Scope} {cl:List (Str×Addr)} {own:Str} {ys:HN} {js:List Nat} {elt iter cond:Expr} {px pos:Pos} {wi:TI} {te:TE} {tc:TT}
theorem lV (hc:X.calm=true) (ok:gQ X scope cl own ys js) (hi:PI X (.Name own px) iter wi)
  (hq:∀(C:Addr) (fp:HP) (s:Shared) (H:Hp),PT (X.block scope cl C (own::ys) own fp s H) cond tc)
  (he:∀(C:Addr) (fp:HP) (s:Shared) (H:Hp),PE (X.block scope cl C (own::ys) own fp s H) elt te)
  (hs:∀x,foldedSetIterable iter X.env x=pure x:=by intro _;rfl):PE X (.ListComp elt [⟨.Name own px,iter,[cond],0⟩] scope pos) (rO wi js tc te):=by
 intro pins s σ H Q I h;rw[eval_ListComp];have ncell:∀y∈scope.names,y.2≠ .cell:=fun y hy z=>by
  have q:=Er.mp ok.nocell y hy;rw[z] at q;simp at q
 have nloc:∀y∈scope.names,y.2= .local->scope.names.lookup y.1=some .local:=fun y hy z=>by
  have q:=Er.mp ok.loc y hy;rw[z] at q
  simpa using q
 refine wpAny_comprehension_free (use:=none) rfl hs ok.clos ok.kind nloc (bu (hi pins s σ H _ I h) fun v s1 h1=>bu h1 fun itv s2 h2=>?_)
 obtain ⟨it,fp,tn,J,H2,rfl,I2,T,st2,f2,q2⟩:=h2;obtain ⟨W,⟨m0,w0⟩,turn⟩:=q2 s2.heap.objs.size (I2.hok.fresh (E4 _));refine wpAny_newObj_type (wpAny_newFunctionEnv ncell (by intro y hy;simp at hy) (fun h1 hns hsb=>?_) ok.kind)
 have I3:=I2.laid (a:=s2.heap.objs.size) (o:= .lst []) (h':=s2.heap.push {cls:= .type "list",dict:=none,data:= .seq ([]:HQ).toArray}) (t':=s2.toks) (fun b u q=>Heap.get?_push_of_some _ q) (E4 _)
  ⟨EO _,[],0,.nil,Heap.get?_push_size _ rfl⟩
 have fpo:∀b∈fp,b<s2.heap.objs.size:=fun b hb=>by
  obtain ⟨o,e,_⟩:=T.obj 0 _ st2 b hb;exact Heap.lt_size e
 have f3:∀b∈fp,dR X pins (ay H2 s2.heap.objs.size (.lst [])) b:=fun b hb=>⟨by rw[ag (EE (fpo b hb))];exact (f2 b hb).1,(f2 b hb).2⟩
 generalize hs3:({s2 with heap:=s2.heap.push {cls:= .type "list",dict:=none,data:= .seq ([]:HQ).toArray},toks:=s2.toks}:Shared)=s3 at I3
 have e3:s3.heap=s2.heap.push {cls:= .type "list",dict:=none,data:= .seq ([]:HQ).toArray}:=by rw[<-hs3]
 have lt3:∀b∈fp,b<s3.heap.objs.size:=fun b hb=>by rw[e3,Heap.size_push];exact F3 (fpo b hb)
 dsimp only at hns hsb⊢;rw[<-e3] at hns hsb;have hk:∀b o,s3.heap.get? b=some o->h1.get? b=some o:=fun b o e=>hsb.extBut b o (EE (Heap.lt_size e)) (Heap.get?_push_of_some _ e)
 have J0:=dC (h1:=h1) ok I3 f3 lt3 hns hk (s2.toks+0);have t0:tn 0 h1:=T.keep 0 _ _ st2 fun b hb o e=>hk b o (by rw[e3];exact Heap.get?_push_of_some _ e)
 have fpB:∀{H':Hp},(∀b∈fp,H' b=none)->∀b∈fp,dR (X.block scope cl s3.heap.objs.size (own::ys) own fp s3 (ay H2 s2.heap.objs.size (.lst []))) [] H' b:=fun {H'} hn b hb=>
  ⟨hn b hb,EE (lt3 b hb),fun z=>(EC.mp (I3.stkSub b z)).elim (f3 b hb).2.1 (f3 b hb).2.2.1,.inl hb,fun x c e=>(f3 b hb).2.2.2.2.1 x c (ok.sub (x,c) (Ej e)),fun p hp=>absurd (show p∈([]:HL) from hp) (by simp)⟩
 have loop:codeAny (model X.prog X.w) X.A (.compLoop (.ListComp elt [⟨.Name own px,iter,[cond],0⟩] scope pos) 0 (.ref it) (.ref s2.heap.objs.size) (compEnvC scope cl s3.heap.objs.size X.env))
   (compPost (model X.prog X.w) X.A X.xe none (EP X pins σ Q) (.ref s2.heap.objs.size) s3.heap.objs.size) {s3 with heap:=h1,toks:=s2.toks+0}:=by
  refine jq (fun n s'=>∃i zs o0 H',aE (X.block scope cl s3.heap.objs.size (own::ys) own fp s3 (ay H2 s2.heap.objs.size (.lst []))) [] (o0::bh js σ) H' s'/\tn i s'.heap/\(∀b∈fp,H' b=none)/\W i n zs H') ?_ m0
   ⟨0,[],none,_,J0,t0,fun b hb=>(f3 b hb).1,w0⟩
  rintro n s5 ⟨i,zs,o0,H5,I5,t5,n5,w5⟩;obtain ⟨hD,hw⟩:=turn i n zs H5 w5;rcases hw with ⟨stop,qn⟩|⟨go,hz,step⟩
  ·refine bu (T.done (X.block scope cl s3.heap.objs.size (own::ys) own fp s3 (ay H2 s2.heap.objs.size (.lst []))) rfl rfl rfl hc i [] s5 _ H5 (fun _ _=>False) I5 (fpB n5) t5 stop) fun r s6 ⟨hr,I6⟩=>?_
   subst hr;obtain ⟨m,hn,_⟩:=id I6.loc;exact ⟨m,hn,fun h' hs'=>⟨V.ref s2.heap.objs.size,H5,eW I3 f3 I6 hs',rfl,qn⟩⟩
  ·refine bu (T.item (X.block scope cl s3.heap.objs.size (own::ys) own fp s3 (ay H2 s2.heap.objs.size (.lst []))) rfl rfl rfl hc i [] s5 _ H5 (fun _ _=>False) I5 (fpB n5) t5 go) fun r s6 ⟨u,hr,h6⟩=>?_
   subst hr;refine bu h6 fun _ s7 ⟨x,H7,I7,r7,y7,t7,n7⟩=>?_
   have I7':=I7.pinned (fpB n7) (T.obj _ _ t7);have hst:=step x H7 y7;have own':(relabel scope X.env).names.lookup own=some .local:=lookup_relabel_local ok.ownL;refine bu (gq (X:=X.block scope cl s3.heap.objs.size (own::ys) own fp s3 (ay H2 s2.heap.objs.size (.lst []))) (i:=0) (x:=own) (pos:=px) ok.nd rfl (.inl own') (.inr own') _ s7 _ H7 x u (fun σ' H'=>σ'=some x::bh js σ/\H'=H7) I7' r7 ⟨rfl,rfl⟩) fun _ s8 ⟨σ8,H8,I8,e8,eH8⟩=>?_
   subst e8 eH8;refine bu (hq _ _ _ _ _ s8 _ H8 _ I8 hst) fun ok s9 ⟨H9,I9,h9⟩=>?_
   have frame:∀{s':Shared} {H':Hp},aE (X.block scope cl s3.heap.objs.size (own::ys) own fp s3 (ay H2 s2.heap.objs.size (.lst []))) ([]++iX fp s7.heap) (some x::bh js σ) H' s'->tn (i+1) s'.heap/\∀b∈fp,H' b=none:=fun {s' H'} I'=>
    ⟨T.keep _ _ _ t7 fun b hb o e=>(I'.pin (b,o) (ED _ (ED _ (bU hb e)))).1,fun b hb=>by
     obtain ⟨o,e,d⟩:=T.obj _ _ t7 b hb;exact (I'.pin (b,o) (ED _ (ED _ (bU hb e)))).2.1⟩
   cases ok with
   |true=>
    refine bu (he _ _ _ _ _ s9 _ H9 _ I9 h9) fun yv s10 ⟨y,H10,I10,r10,hD10,m',hm,w10⟩=>?_
    refine bu (bC _ s10 _ H10 (.ref s2.heap.objs.size) [y] (.ref s2.heap.objs.size) [yv] (fun _ H'=>H'=ay H10 s2.heap.objs.size (.lst (zs++ [y]))) I10 rfl (.cons r10 .nil) ⟨_,zs,y,rfl,rfl,hD10,hz,rfl⟩) fun _ s11 ⟨_,H11,I11,_,e11⟩=>?_
    subst e11;exact ⟨m',hm,i+1,zs++ [y],some x,_,I11.unpinned,(frame I11).1,(frame I11).2,w10⟩
   |false=>
    obtain ⟨m',hm,w10⟩:=h9;exact ⟨m',hm,i+1,zs,some x,_,I9.unpinned,(frame I9).1,(frame I9).2,w10⟩
 subst hs3;exact codeAny_compStart_list loop (T.self _ 0 _ _ _ t0 loop)
end
theorem lW:C6 X "dict.setdefault" (fun x vs H Q=>∃a kvs k v,x= .ref a/\vs= [kV k,v]/\H a=some (.dK kvs)/\kvs.length<sizeLine/\(∀w,aP kvs k=some w->Q w H)/\(aP kvs k=none->Q v (ay H a (.dK (putK kvs k v))))):=by
 intro pins s σ H x vs v us Q I rx rv h;obtain ⟨a,kvs,k,y,rfl,rfl,hk,hz,q1,q2⟩:=h;cases rx;obtain ⟨u,w',rfl,ru,rw'⟩:=vals2 rv;obtain ⟨z,hS,ws,rel,D⟩:=iC I.hok hk;refine call_meetsIn F.slot_dict_setdefault D.typeIs F.entry_dict_setdefault (F.args_dict_setdefault_3 _ _ _) (kt_meets_setdefault (bg X.prog X.w) a (gH ru) hS w') ⟨ws,D,by rw[<-rel.length];exact z,fun v' hv=>?_,fun hn h' D' hs'=>?_⟩
 ·have r:=rel.val k;rw[hv] at r;cases e:aP kvs k with
  |none=>rw[e] at r;exact r.elim
  |some y'=>
   rw[e] at r;exact ⟨y',H,I.tok _,r,q1 y' e⟩
 ·have r:=rel.val k;rw[hn] at r;have e:aP kvs k=none:=by
   cases e:aP kvs k with
   |none=>rfl
   |some y'=>rw[e] at r;exact r.elim
  obtain ⟨od,_,_,ho,_⟩:=id D';refine ⟨y,_,iD I (by rw[hk];trivial) hs' ⟨od,ho⟩ (mQ (by have:=dA kvs k y;lia) hS (rel.put k rw') D'),rw',q2 e⟩
theorem xq:typeLookup (.type "list_reverseiterator") "__len__" =pure none:=by
 rw[typeLookup_type,builtinLookup_eq_fast]
 kernel_rfl
theorem vt:typeLookup (.type "list_reverseiterator") "__length_hint__" =pure (some (.builtin "list_reverseiterator.__length_hint__")):=by
 rw[typeLookup_type,builtinLookup_eq_fast]
 kernel_rfl
section
variable {prog:Program} {w:World} {A:Around} {R:Result->Shared->Prop} {s:Shared} {I l S:Addr} {items:Array Value}
abbrev zM (items:Array Value):Nat->Value->Prop:=fun i v=>items[items.size-1-i]?=some v
theorem qA (hh:A.in1.handled=none) (hlI:l≠I) (hSI:S≠I) (hSl:S≠l) (res:Value) (c:Nat) (hit:s.heap.IsRevIter I l ((items.size:Int)-1)) (hl:s.heap.IsList l items)
  (hS:s.heap.get? S=some {cls:= .type "list",data:= .seq #[] c}) (hn:items.size<=sizeLine)
  (fin:∀s' acc c',Moved [S,I] (fun a b=>b=a) s s'->s'.heap.get? S=some {cls:= .type "list",dict:=none,data:= .seq acc c',slots:= #[]}->ItemsOf (zM items) acc items.size->R (.ok (.ret res)) s'):
  wpAny (model prog w) A.in1 (Builtin.List.listExtendWith (.ref S) (.ref I) res)
   (fun fin s'=>match fin with| .done f=>R (.ok f) s'| .again c'=>c'.quiet=true/\codeAny (model prog w) A c' R s') (fun e s'=>R (.error e) s') s:=by
 have ty:s.TypeIs (.ref I) "list_reverseiterator" :=hit.typeIs;have ns:Builtin.List.listSameRef (.ref S) (.ref I)=false:=by
  simp[Builtin.List.listSameRef,hSI]
 unfold Builtin.List.listExtendWith;apply wpAny_bind;apply wpAny_typeOf ty;rw[if_neg (by rw[ns];decide)]
 apply wpAny_bind;apply wpAny_pyIter_revIter hit;apply wpAny_bind;apply wpAny_holding;unfold Builtin.List.listLengthHint;apply wpAny_bind;apply wpAny_specialOf ty xq;show wpAny _ _ (specialOf (Value.ref I) (Str.ofString "__length_hint__")>>=_) _ _ s;apply wpAny_bind;apply wpAny_specialOf ty vt;generalize hid:("list_reverseiterator.__length_hint__" :String)=id0
 wp_delta
 rw[show splitId id0=some ("list_reverseiterator","__length_hint__") from by subst hid;decide+kernel]
 subst hid;apply wpAny_bind;refine wpAny_isInstance (b:=true) ty (by rw[isSubtype_type];kernel_rfl) ?_
 apply wpAny_pure;rw[if_neg (by decide)]
 have W:=(Walks.listRev (prog:=prog) (w:=w) hh I l hlI items).toS;have out:S∉ [I,l]:=by
  simp only[EC,Eg,or_false,not_or];exact ⟨hSI,hSl⟩
 have st:(0:Nat)<=items.size/\s.heap.IsRevIter I l ((items.size:Int)-1-((0:Nat):Int))/\s.heap.IsList l items:=⟨EO _,by simpa using hit,hl⟩
 apply wpAny_pure;refine ⟨plainId_quiet PySem.F.plain_extend_loop _,?_⟩;exact codeAny_extend_loopS W hn S out res items.size 0 s #[] c rfl (EO _) st hS (ItemsOf.nil _) fin
theorem vv {E:HF} {Q:HF} (hh:A.handled=none) (hlI:l≠I) (hit:s.heap.IsRevIter I l ((items.size:Int)-1)) (hl:s.heap.IsList l items) (hn:items.size<=sizeLine)
  (fin:∀h' tk acc c',(∀b o,b≠I->s.heap.get? b=some o->h'.get? b=some o)->h'.get? s.heap.objs.size=some {cls:= .type "list",dict:=none,data:= .seq acc c',slots:= #[]}->ItemsOf (zM items) acc items.size->Q (.ref s.heap.objs.size) {s with heap:=h',toks:=tk}):
  wpAny (model prog w) A (call (.type "list") [.ref I]) Q E s:=by
 have lI:I<s.heap.objs.size:=by
  obtain ⟨o,e,_⟩:=hit;exact Heap.lt_size e
 have ll:l<s.heap.objs.size:=by
  obtain ⟨o,e,_⟩:=hl;exact Heap.lt_size e
 refine callType_codes (Q₁:=fun v s1=>v= .ref s.heap.objs.size/\s1={s with heap:=s.heap.push {cls:= .type "list",data:= .seq #[]}}) PySem.F.called_list (PySem.F.typeCall_list_1 _) PySem.F.entry_list_init (code_list_new _ ⟨rfl,rfl⟩) ?_
 rintro v s1 ⟨rfl,rfl⟩;have e0:(s.heap.push {cls:= .type "list",data:= .seq #[]}).get? s.heap.objs.size=some {cls:= .type "list",data:= .seq #[]}:=Heap.get?_push_size _ rfl;refine ⟨⟨_,e0,rfl⟩,PySem.F.args_list_init_2 _ _,?_⟩;show wpAny _ _ (Builtin.List.listItems (.ref s.heap.objs.size)>>=fun old=>Builtin.List.listUpdate (.ref s.heap.objs.size) (fun _=> #[])>>=fun _=>letGo old.toList.reverse>>=fun _=>Builtin.List.listExtendWith (.ref s.heap.objs.size) (.ref I) .none) _ _ _
 apply wpAny_bind;unfold Builtin.List.listItems;apply wpAny_bind;apply wpAny_seqItems e0 rfl;apply wpAny_pure;show wpAny _ _ (updateSeq s.heap.objs.size (fun _=> #[])>>=fun _=>letGo (#[]:Array Value).toList.reverse>>=fun _=>Builtin.List.listExtendWith (.ref s.heap.objs.size) (.ref I) .none) _ _ _
 apply wpAny_bind;apply wpAny_updateSeq e0 rfl;have e1:=Heap.get?_update_self (Obj.mapSeq (fun _=>(#[]:Array Value))) e0 rfl
 have old:∀b o,b≠s.heap.objs.size->s.heap.get? b=some o->((s.heap.push {cls:= .type "list",data:= .seq #[]}).update s.heap.objs.size (Obj.mapSeq (fun _=>(#[]:Array Value)))).get? b=some o:=fun b o hb e=>
  (Heap.get?_update_other _ _ (Ne.symm hb)).trans (Heap.get?_push_of_some _ e)
 apply wpAny_bind;apply wpAny_letGo;refine qA (A:=A.in1) (by simpa using hh) hlI (Nat.ne_of_gt lI) (Nat.ne_of_gt ll) .none _ ?_ ?_ e1 hn fun s' acc c' mv eS it=>?_
 ·obtain ⟨o,e,z⟩:=hit;exact ⟨o,old _ _ (EE lI) e,z⟩
 ·obtain ⟨o,e,z⟩:=hl;exact ⟨o,old _ _ (EE ll) e,z⟩
 ·obtain ⟨h',g',d',tk',os'⟩:=s';have eg:g'=s.gens:=mv.gens;have ed:d'=s.drawn:=mv.drawn;have eo:os'=s.os:=mv.os;subst eg ed eo;refine ⟨rfl,fin h' tk' acc c' (fun b o hb e=>?_) eS it⟩
  refine mv.heap b o ?_ (old b o (EE (Heap.lt_size e)) e);simp only[EC,Eg,or_false,not_or];exact ⟨EE (Heap.lt_size e),hb⟩
end
theorem oO:∀{xs:List V} {us:HQ},aT xs us->aT xs.reverse us.reverse
 |_,_,.nil=> .nil
 |_,_,.cons r t=>by
  rw[List.reverse_cons,List.reverse_cons];exact (oO t).append (.cons r .nil)
theorem tK {us:HQ} {acc:Array Value} (h:ItemsOf (zM us.toArray) acc us.toArray.size):acc.toList=us.reverse:=by
 obtain ⟨h1,h2⟩:=h;refine FU fun i=>?_
 by_cases hi:i<acc.size
 ·have e:=h2 i acc[i] (Fd hi);rw[Em,Fd hi,List.getElem?_reverse (by simpa [h1] using hi)]
  simpa using e.symm
 ·rw[Ew (by simpa using hi),Ew (by rw[Eo];simp[h1] at hi;lia)]
def Dp (K:D9) (te:TE):TE:=fun σ H Q=>te σ H fun x H1=>∃a xs,x= .ref a/\aQ K H1 a xs/\∀l,H1 l=none->Q (.ref l) (ay H1 l (.lst xs.reverse))
section
variable {e:Expr} {te:TE} {p1 p2 pos pos2:Pos}
theorem gW (hc:X.calm=true) (g1:Gl X "list") (m1:X.mg "list" =none) (g2:Gl X "reversed") (m2:X.mg "reversed" =none) (b1:bootBuiltins "list" =some (.type "list")) (b2:bootBuiltins "reversed" =some (.type "reversed")) (he:PE X e te)
  (hs:starEach [e] X.env= [(false,eval e X.env)]:=by rfl):
  PE X (.Call (.Name "list" p1) [.Call (.Name "reversed" p2) [e] [] pos2] [] pos) (Dp X.K te):=by
 intro pins s σ H Q I h;apply wpAny_Call_Name_kw;refine fS I g1 m1 b1 ?_ (by decide) (by decide)
 refine F5 ?_ rfl rfl;refine Calls.spliced_cons (x:=eval (.Call (.Name "reversed" p2) [e] [] pos2) X.env) (rest:= []) ?_;apply wpAny_Call_Name_kw;refine fS I g2 m2 b2 ?_ (by decide) (by decide)
 refine F5 ?_ hs rfl;rw[hs];refine Calls.spliced_cons (x:=eval e X.env) (rest:= []) (bu (he pins s σ H _ I h) fun v s1 ⟨x,H1,I1,r1,a,xs,ex,hq,q⟩=>?_)
 subst ex;cases r1;apply Calls.spliced_nil;obtain ⟨its,rv,pl,hz⟩:=I1.list hq;have hli:s1.heap.IsList a its.toArray:=pl.isList;have alt:a<s1.heap.objs.size:=by
  obtain ⟨o,eo,_⟩:=id hli;exact Heap.lt_size eo
 apply call_reversed_list hli;apply Calls.spliced_nil;have I2:aE X pins σ H1 {s1 with heap:=s1.heap.push (revObj a ((its.toArray.size:Int)-1)),toks:=s1.toks}:=I1.kept fun b o e=>Heap.get?_push_of_some _ e
 have sz:its.toArray.size=xs.length:=by rw[EM,rv.length]
 refine vv (l:=a) (items:=its.toArray) (I.ok.hd hc) (EE alt) ⟨_,Heap.get?_push_size _ rfl,rfl,rfl⟩ (hli.push _) (by rw[sz];exact hz) fun h' tk acc c' kp eL itm=>?_
 have er:=tK itm;have sl:s1.heap.objs.size<=(s1.heap.push (revObj a ((its.toArray.size:Int)-1))).objs.size:=by
  rw[Heap.size_push];exact Nat.le_succ _
 refine ⟨.ref _,_,I1.laid (a:=(s1.heap.push (revObj a ((its.toArray.size:Int)-1))).objs.size) (o:= .lst xs.reverse) (h':=h') (t':=tk) (fun b o eo=>kp b o (EE (Heap.lt_size eo)) (Heap.get?_push_of_some _ eo)) sl ?_,rfl,q _ (I1.hok.fresh sl)⟩
 refine ⟨by rw[Eo];exact hz,acc.toList,c',by rw[er];exact oO rv,?_⟩
 rw[Array.toArray_toList];exact eL
end
theorem ja {X:Cx}:cE X (.builtin "len") (fun xs H Q=>∃a kvs,xs= [.ref a]/\Rd H a (.dK kvs)/\Q (.int kvs.length) H):=by
 intro pins s σ H xs us Q I r h;obtain ⟨a,kvs,rfl,e,q⟩:=h;obtain ⟨u,rfl,r1⟩:=vals1 r;cases r1;exact Ba I e fun t s' I'=>⟨.int kvs.length,H,I',⟨t,rfl⟩,q⟩
end L2
namespace Sw
open PySem L2
inductive Led (ps:HK) (x:Str):Str->Prop where
 |self:Led ps x x
 |step {y z:Str}:Led ps x y->(y,z)∈ps->Led ps x z
theorem Led.closed {ps:HK} {x y:Str} {S:Str->Prop} (hx:S x) (hc:∀a b,S a->(a,b)∈ps->S b) (l:Led ps x y):S y:=by
 induction l with
 |self=>exact hx
 |step _ m ih=>exact hc _ _ ih m
def aY (ks:HN) (v:V):List (Key×V):=ks.map fun y=>(.inr y,v)
def cu (ks:HN) (y:Str):HN:=if y∈ks then ks else ks++ [y]
theorem b8 (ks:HN) (v:V):(aY ks v).length=ks.length:=E3 _
theorem vx (ks:HN) (v:V) (y:Str):((aY ks v).any fun kv=>decide (kv.1=(.inr y:Key)))=decide (y∈ks):=by
 unfold aY;rw[FR];simp
theorem f9 (ks:HN) (v:V) (y:Str):aP (aY ks v) (.inr y)=if y∈ks then some v else none:=by
 induction ks with
 |nil=>rfl
 |cons k ks ih=>
  by_cases e:k=y
  ·subst e;rw[if_pos (by simp)]
   exact bJ rfl
  ·have n:¬((.inr k:Key)= .inr y):=fun z=>e (Sum.inr.inj z)
   have h:aP (aY (k::ks) v) (.inr y)=aP (aY ks v) (.inr y):=bK n;rw[h,ih];simp[Ne.symm e,show ¬y=k from fun z=>e z.symm]
theorem eZ (ks:HN) (v:V) (y:Str):putK (aY ks v) (.inr y) v=aY (cu ks y) v:=by
 unfold putK cu;rw[vx]
 by_cases h:y∈ks
 ·rw[if_pos (decide_eq_true h),if_pos h];unfold aY;rw[Eh];refine List.map_congr_left fun z hz=>?_
  show (if (.inr z:Key)= .inr y then ((.inr z:Key),v) else (.inr z,v))=_
  split<;>rfl
 ·rw[if_neg (by simpa using h),if_neg h]
  unfold aY;simp
theorem cL {ks:HN} {y z:Str}:z∈cu ks y↔z∈ks∨z=y:=by
 unfold cu
 split
 ·rename_i h;constructor
  ·exact .inl
  ·rintro (k|rfl)
   ·exact k
   ·exact h
 ·simp
theorem dS {ks:HN} {y:Str} (h:ks.Nodup):(cu ks y).Nodup:=by
 unfold cu
 split
 ·exact h
 ·rename_i n;rw[F2];refine ⟨h,by simp,?_⟩
  intro a ha b hb;simp at hb;subst hb;exact fun e=>n (e▸ha)
theorem dD (ks:HN) (y:Str):ks.length<=(cu ks y).length/\((cu ks y).length=ks.length->y∈ks)/\(cu ks y).length<=ks.length+1:=by
 unfold cu
 split
 ·rename_i h;exact ⟨E4 _,fun _=>h,Nat.le_succ _⟩
 ·simp
def iJ (l ks:HN):Nat:=(l.filter fun y=> !decide (y∈ks)).length
theorem xu (l:HN) {ks ks':HN} (h:∀y∈ks,y∈ks'):iJ l ks'<=iJ l ks:=by
 unfold iJ
 induction l with
 |nil=>exact E4 _
 |cons a l ih=>
  by_cases h1:a∈ks
  ·simp[h1,h a h1,ih]
  ·by_cases h2:a∈ks'
   ·simp[h1,h2];lia
   ·simp[h1,h2];lia
theorem jt (l ks:HN):iJ l ks<=l.length:=FT _ _
theorem xv {l ks ks':HN} {y:Str} (h:∀z∈ks,z∈ks') (yl:y∈l) (n:y∉ks) (y':y∈ks'):iJ l ks'<iJ l ks:=by
 unfold iJ
 induction l with
 |nil=>simp at yl
 |cons a l ih=>
  have le:=xu l h;unfold iJ at le
  by_cases e:a=y
  ·subst e;simp[n,y']
   lia
  ·have yl':y∈l:=by
    rcases EC.mp yl with z|z
    ·exact absurd z.symm e
    ·exact z
   have ih:=ih yl'
   by_cases h1:a∈ks
   ·simp[h1,h a h1];exact ih
   ·by_cases h2:a∈ks'
    ·simp[h1,h2];lia
    ·simp[h1,h2];exact ih
theorem lX {l ks:HN} {y:Str} (yl:y∈l):(cu ks y).length+iJ l (cu ks y)<=ks.length+iJ l ks:=by
 by_cases h:y∈ks
 ·unfold cu;rw[if_pos h];exact E4 _
 ·have lt:=xv (ks':=cu ks y) (fun z hz=>cL.mpr (.inl hz)) yl h (cL.mpr (.inr rfl))
  have:=(dD ks y).2.2
  lia
def dU:Str:= "abcdefghijklmnopqrstuvwxyz"
theorem rP {i:Int} (h0:0<=i) (h:i<26):∃c,fw dU.cps.toList i=some c:=by
 refine xj h0 ?_;have e:dU.cps.toList.length=26:=by decide
 rw[e];exact h
def aZ:HJ->Str->Str->HJ
 | [],x,y=> [(x,[y])]
 |(a,ys)::r,x,y=>if a=x then (a,cu ys y)::r else (a,ys)::aZ r x y
def j9 (rows:HJ) (x y:Str):Prop:=∃ys,(x,ys)∈rows/\y∈ys
theorem cM {a:Str} {ys:HN} {r:HJ} {x y:Str}:j9 ((a,ys)::r) x y↔(a=x/\y∈ys)∨j9 r x y:=by
 constructor
 ·rintro ⟨zs,h,k⟩;rcases EC.mp h with e|e
  ·cases e;exact .inl ⟨rfl,k⟩
  ·exact .inr ⟨zs,e,k⟩
 ·rintro (⟨rfl,k⟩|⟨zs,h,k⟩)
  ·exact ⟨ys,by simp,k⟩
  ·exact ⟨zs,by simp[h],k⟩
theorem kc:∀(rows:HJ) (x y a b:Str),j9 (aZ rows x y) a b↔j9 rows a b∨(a=x/\b=y)
 | [],x,y,a,b=>by
  simp only[aZ,cM];constructor
  ·rintro (⟨rfl,k⟩|⟨_,h,_⟩)
   ·exact .inr ⟨rfl,by simpa using k⟩
   ·simp at h
  ·rintro (⟨_,h,_⟩|⟨rfl,rfl⟩)
   ·simp at h
   ·exact .inl ⟨rfl,by simp⟩
 |(c,ys)::r,x,y,a,b=>by
  have ih:=kc r x y a b;unfold aZ
  by_cases e:c=x
  ·subst e;rw[if_pos rfl,cM,cM,cL];constructor
   ·rintro (⟨rfl,k|rfl⟩|h)
    ·exact .inl (.inl ⟨rfl,k⟩)
    ·exact .inr ⟨rfl,rfl⟩
    ·exact .inl (.inr h)
   ·rintro ((⟨rfl,k⟩|h)|⟨rfl,rfl⟩)
    ·exact .inl ⟨rfl,.inl k⟩
    ·exact .inr h
    ·exact .inl ⟨rfl,.inr rfl⟩
  ·rw[if_neg e,cM,cM,ih];constructor
   ·rintro (h|h|h)
    ·exact .inl (.inl h)
    ·exact .inl (.inr h)
    ·exact .inr h
   ·rintro ((h|h)|h)
    ·exact .inl h
    ·exact .inr (.inl h)
    ·exact .inr (.inr h)
theorem fF:∀(rows:HJ) (x y:Str),(aZ rows x y).map (·.1)=cu (rows.map (·.1)) x
 | [],x,y=>by simp[aZ,cu]
 |(c,ys)::r,x,y=>by
  have ih:=fF r x y;unfold aZ
  by_cases e:c=x
  ·subst e;rw[if_pos rfl];simp[cu]
  ·rw[if_neg e];simp only[Ek,ih];unfold cu;have e':¬x=c:=fun z=>e z.symm
   simp only[EC,e',false_or]
   split<;>rfl
theorem kW {n:Nat}:∀{rows:HJ} (x y:Str),rows.length<=n->(∀p∈rows,p.2.length<=n/\p.2.Nodup)->(aZ rows x y).length<=n+1/\∀p∈aZ rows x y,p.2.length<=n+1/\p.2.Nodup:=by
 intro rows x y h1 h2;have hl:(aZ rows x y).length<=rows.length+1:=by
  have:=congrArg List.length (fF rows x y);rw[E3] at this;have k:=(dD (rows.map (·.1)) x).2.2;rw[E3] at k
  lia
 refine ⟨by lia,?_⟩
 clear hl h1
 induction rows with
 |nil=>
  intro p hp;simp[aZ] at hp;subst hp;simp
 |cons a r ih=>
  obtain ⟨c,ys⟩:=a;have ih:=ih fun p hp=>h2 p (by simp[hp])
  have hc:=h2 (c,ys) (by simp)
  intro p hp;unfold aZ at hp
  split at hp
  ·rcases EC.mp hp with rfl|k
   ·have:=(dD ys y).2.2;exact ⟨EX this (by have:=hc.1;simp at this⊢;lia),dS hc.2⟩
   ·have:=h2 p (by simp[k])
    exact ⟨by lia,this.2⟩
  ·rcases EC.mp hp with rfl|k
   ·exact ⟨by have:=hc.1;simp at this⊢;lia,hc.2⟩
   ·exact ih p k
structure cC (rows:HJ) (ps:HK):Prop where
 mem:∀a b,j9 rows a b↔(a,b)∈ps
 keys:(rows.map (·.1)).Nodup
 few:rows.length<=ps.length
 small:∀p∈rows,p.2.length<=ps.length/\p.2.Nodup
theorem cC.nil:cC [] []:=⟨fun a b=>⟨fun ⟨_,h,_⟩=>by simp at h,fun h=>by simp at h⟩,by simp,by simp,fun p hp=>by simp at hp⟩
theorem cC.add {rows:HJ} {ps:HK} (h:cC rows ps) (p:Str×Str):cC (aZ rows p.1 p.2) (ps++ [p]):=by
 obtain ⟨k1,k2⟩:=kW p.1 p.2 h.few h.small;refine ⟨fun a b=>?_,by rw[fF];exact dS h.keys,by simpa using k1,fun q hq=>by simpa using k2 q hq⟩
 rw[kc,h.mem];obtain ⟨p1,p2⟩:=p;simp
def bL (H:Hp):HJ->HP->Prop
 | [],[]=>True
 |(_,ys)::rows,r::rs=>H r=some (.dK (aY ys (.bl true)))/\bL H rows rs
 |_,_=>False
def dH:HJ->HP->List (Key×V)
 |(x,_)::rows,r::rs=>(.inr x,.ref r)::dH rows rs
 |_,_=> []
theorem bL.len {H:Hp}:∀{rows:HJ} {rs:HP},bL H rows rs->rs.length=rows.length/\(dH rows rs).length=rows.length
 | [],[],_=>⟨rfl,rfl⟩
 |_::_,_::_,h=>by
  have:=bL.len h.2;exact ⟨by simp[this.1],by simp[dH,this.2]⟩
 | [],_::_,h=>h.elim
 |_::_,[],h=>h.elim
theorem bL.same {H H':Hp} (g:ax H H'):∀{rows:HJ} {rs:HP},bL H rows rs->bL H' rows rs
 | [],[],_=>trivial
 |_::_,_::_,h=>⟨g _ _ h.1,bL.same g h.2⟩
 | [],_::_,h=>h.elim
 |_::_,[],h=>h.elim
theorem bL.other {H:Hp} {a:Addr} {o:HO}:∀{rows:HJ} {rs:HP},bL H rows rs->a∉rs->bL (ay H a o) rows rs
 | [],[],_,_=>trivial
 |_::_,r::_,h,n=>⟨by rw[ag (fun e=>n (by simp[e]))];exact h.1,bL.other h.2 fun k=>n (by simp[k])⟩
 | [],_::_,h,_=>h.elim
 |_::_,[],h,_=>h.elim
theorem bL.at_some {H:Hp} {x y:Str} {w:V}:∀{rows:HJ} {rs:HP},bL H rows rs->rs.Nodup->aP (dH rows rs) (.inr x)=some w->
  ∃r ys,w= .ref r/\r∈rs/\(x,ys)∈rows/\H r=some (.dK (aY ys (.bl true)))/\bL (ay H r (.dK (aY (cu ys y) (.bl true)))) (aZ rows x y) rs/\dH (aZ rows x y) rs=dH rows rs
 | [],[],_,_,e=>by cases e
 |(c,ys)::rows,r::rs,h,nd,e=>by
  by_cases z:c=x
  ·subst z;have e':aP (dH ((c,ys)::rows) (r::rs)) (.inr c)=some (.ref r):=bJ rfl;rw[e'] at e;cases e;refine ⟨r,ys,rfl,by simp,by simp,h.1,?_,?_⟩
   ·unfold aZ;rw[if_pos rfl];exact ⟨ac,h.2.other (EW.mp nd).1⟩
   ·unfold aZ;rw[if_pos rfl]
    rfl
  ·have n:¬((.inr c:Key)= .inr x):=fun q=>z (Sum.inr.inj q)
   have e':aP (dH ((c,ys)::rows) (r::rs)) (.inr x)=aP (dH rows rs) (.inr x):=bK n;rw[e'] at e;obtain ⟨r',ys',rfl,hr,hm,hH,hD,hT⟩:=bL.at_some (y:=y) h.2 (EW.mp nd).2 e;refine ⟨r',ys',rfl,by simp[hr],by simp[hm],hH,?_,?_⟩
   ·unfold aZ;rw[if_neg z];refine ⟨?_,hD⟩;rw[ag]
    ·exact h.1
    ·intro q;exact (EW.mp nd).1 (q▸hr)
   ·unfold aZ;rw[if_neg z];show _::_=_::_;rw[hT]
 | [],_::_,h,_,_=>h.elim
 |_::_,[],h,_,_=>h.elim
theorem bL.at_none {H:Hp} {x y:Str} {p:Addr}:∀{rows:HJ} {rs:HP},bL H rows rs->aP (dH rows rs) (.inr x)=none->
  aZ rows x y=rows++ [(x,[y])]/\dH (rows++ [(x,[y])]) (rs++ [p])=dH rows rs++ [(.inr x,.ref p)]/\∀b,¬j9 rows x b
 | [],[],_,_=>⟨rfl,rfl,fun b ⟨_,h,_⟩=>by simp at h⟩
 |(c,ys)::rows,r::rs,h,e=>by
  have z:¬c=x:=fun z=>by
   subst z;have e':aP (dH ((c,ys)::rows) (r::rs)) (.inr c)=some (.ref r):=bJ rfl;rw[e'] at e;cases e
  have n:¬((.inr c:Key)= .inr x):=fun q=>z (Sum.inr.inj q)
  have e':aP (dH ((c,ys)::rows) (r::rs)) (.inr x)=aP (dH rows rs) (.inr x):=bK n;rw[e'] at e;obtain ⟨h1,h2,h3⟩:=bL.at_none (y:=y) (p:=p) h.2 e;refine ⟨?_,?_,fun b hb=>?_⟩
  ·unfold aZ;rw[if_neg z,h1]
   rfl
  ·exact congrArg (((.inr c:Key),V.ref r):: ·) h2
  ·rcases cM.mp hb with ⟨q,_⟩|k
   ·exact z q
   ·exact h3 b k
 | [],_::_,h,_=>h.elim
 |_::_,[],h,_=>h.elim
theorem bL.snoc {H:Hp} {x:Str} {ys:HN} {p:Addr} (e:H p=some (.dK (aY ys (.bl true)))):∀{rows:HJ} {rs:HP},bL H rows rs->bL H (rows++ [(x,ys)]) (rs++ [p])
 | [],[],_=>⟨e,trivial⟩
 |_::_,_::_,h=>⟨h.1,bL.snoc e h.2⟩
 | [],_::_,h=>h.elim
 |_::_,[],h=>h.elim
structure DD (H:Hp) (d:Addr) (rows:HJ):Prop where
 ex:∃rs:HP,bL H rows rs/\H d=some (.dK (dH rows rs))/\rs.Nodup/\d∉rs
theorem DD.same {H H':Hp} {d:Addr} {rows:HJ} (h:DD H d rows) (g:ax H H'):DD H' d rows:=by
 obtain ⟨rs,h1,h2,h3,h4⟩:=h.ex;exact ⟨rs,h1.same g,g _ _ h2,h3,h4⟩
def qB:Option Str->V
 |none=> .non
 |some p=> .str p
def bc (es:List (Str×Option Str)):List (Key×V):=es.map fun e=>(.inr e.1,qB e.2)
def aS (es:List (Str×Option Str)):HN:=es.map (·.1)
theorem fG (es:List (Str×Option Str)):(bc es).length=(aS es).length:=by simp[bc,aS]
theorem jb:∀(es:List (Str×Option Str)) (b:Str),(aP (bc es) (.inr b)).isSome=decide (b∈aS es)
 | [],b=>by simp[bc,aS,aP]
 |(c,o)::es,b=>by
  by_cases e:c=b
  ·subst e;have:aP (bc ((c,o)::es)) (.inr c)=some (qB o):=bJ rfl;rw[this];simp[aS]
  ·have n:¬((.inr c:Key)= .inr b):=fun z=>e (Sum.inr.inj z)
   have h:aP (bc ((c,o)::es)) (.inr b)=aP (bc es) (.inr b):=bK n;rw[h,jb es b];have e':¬b=c:=fun z=>e z.symm
   show decide (b∈aS es)=decide (b∈c::aS es);rw[decide_eq_decide];simp[e']
theorem qC {es:List (Str×Option Str)} {b:Str} (h:b∉aS es):aP (bc es) (.inr b)=none:=by
 have:=jb es b;rw[decide_eq_false h] at this;cases e:aP (bc es) (.inr b) with
 |none=>rfl
 |some=>rw[e] at this;cases this
theorem tL {es:List (Str×Option Str)} {b nm:Str} (h:b∉aS es):putK (bc es) (.inr b) (.str nm)=bc (es++ [(b,some nm)]):=by
 rw[fW _ (qC h)];simp[bc,qB]
theorem vy {es:List (Str×Option Str)} (nd:(aS es).Nodup) {i:Nat} {y:Str} {o:Option Str} (h:es[i]?=some (y,o)):aP (bc es) (.inr y)=some (qB o):=by
 induction es generalizing i with
 |nil=>simp at h
 |cons e es ih=>
  obtain ⟨c,oc⟩:=e;cases i with
  |zero=>
   simp at h;obtain ⟨rfl,rfl⟩:=h;exact bJ rfl
  |succ i=>
   have hm:y∈aS es:=EF.mpr ⟨(y,o),E6 (by simpa using h),rfl⟩
   have nd':=EW.mp nd;have n:¬((.inr c:Key)= .inr y):=fun z=>nd'.1 (by rw[Sum.inr.inj z];exact hm)
   have hv:aP (bc ((c,oc)::es)) (.inr y)=aP (bc es) (.inr y):=bK n;rw[hv];exact ih nd'.2 (by simpa using h)
structure dE (ps:HK) (good:Str) (es:List (Str×Option Str)):Prop where
 first:es[0]?=some (good,none)
 nd:(aS es).Nodup
 led:∀y∈aS es,Led ps good y
 par:∀(i:Nat) (y:Str) (o:Option Str),es[i]?=some (y,o)->(o=none->i=0)/\∀p,o=some p->(p,y)∈ps/\∃j o',j<i/\es[j]?=some (p,o')
 room:(aS es).length+iJ (ps.map (·.2)) (aS es)<=1001
theorem dE.start (ps:HK) (good:Str) (few:ps.length<=1000):dE ps good [(good,none)] where
 first:=rfl
 nd:=by simp[aS]
 led:=fun y hy=>by simp[aS] at hy;subst hy;exact .self
 par:=fun i y o h=>by
  cases i with
  |zero=>simp at h;exact ⟨fun _=>rfl,fun p hp=>by rw[<-h.2] at hp;cases hp⟩
  |succ i=>simp at h
 room:=by
  have:=jt (ps.map (·.2)) (aS [(good,none)]);rw[E3] at this;show 1+_<=_
  lia
theorem fH (es:List (Str×Option Str)) (b:Str) (o:Option Str):aS (es++ [(b,o)])=aS es++ [b]:=by simp[aS]
theorem dE.add {ps:HK} {good:Str} {es:List (Str×Option Str)} (h:dE ps good es) {nm b:Str} (hn:nm∈aS es) (hb:b∉aS es) (hp:(nm,b)∈ps):dE ps good (es++ [(b,some nm)]) where
 first:=by
  rw[E5]
  ·exact h.first
  ·exact (E2.mp h.first).1
 nd:=by
  rw[fH,F2];refine ⟨h.nd,by simp,?_⟩
  intro u hu v hv;simp at hv;subst hv;exact fun z=>hb (z▸hu)
 led:=fun y hy=>by
  rw[fH] at hy;rcases EK.mp hy with k|k
  ·exact h.led y k
  ·simp at k;subst k;exact .step (h.led nm hn) hp
 par:=fun i y o hi=>by
  by_cases c:i<es.length
  ·rw[E5 c] at hi;obtain ⟨h1,h2⟩:=h.par i y o hi;refine ⟨h1,fun p e=>?_⟩
   obtain ⟨k1,j,o',jl,ej⟩:=h2 p e;exact ⟨k1,j,o',jl,by rw[E5 (by lia)];exact ej⟩
  ·rw[E7 (by lia)] at hi
   have e0:i-es.length=0:=by
    rcases FQ (i-es.length) with z|z
    ·exact z
    ·rw[Ew (by simp;lia)] at hi;cases hi
   rw[e0] at hi;simp at hi;obtain ⟨rfl,rfl⟩:=hi;refine ⟨(fun z=>nomatch z),fun p e=>?_⟩
   cases e;obtain ⟨q,hq,rfl⟩:=EF.mp hn;obtain ⟨j,hj⟩:=EH.mp hq;have jl:=(E2.mp hj).1;exact ⟨hp,j,q.2,by lia,by rw[E5 jl];exact hj⟩
 room:=by
  have:=lX (ks:=aS es) (show b∈ps.map (·.2) from EF.mpr ⟨_,hp,rfl⟩)
  have e:cu (aS es) b=aS es++ [b]:=if_neg hb;rw[e] at this;rw[fH];exact EX this h.room
theorem dE.good {ps:HK} {good:Str} {es:List (Str×Option Str)} (h:dE ps good es):good∈aS es:=EF.mpr ⟨(good,none),E6 h.first,rfl⟩
theorem vz {H H':Hp} (g:ax H H') (a:Addr) (o:HO):ax (ay H a o) (ay H' a o):=fun b u e=>by
 by_cases z:b=a
 ·subst z;rw[ac] at e⊢;exact e
 ·rw[ag z] at e⊢;exact g b u e
theorem xw {ys:HN} {v x:V} {i:Nat} {k:Key} (h:(aY ys v)[i]?=some (k,x)):∃b,ys[i]?=some b/\k= .inr b:=by
 unfold aY at h;rw[EA] at h;cases e:ys[i]? with
 |none=>rw[e] at h;cases h
 |some b=>rw[e] at h;cases h;exact ⟨b,rfl,rfl⟩
structure xz (ps:HK) (good:Str) (es:List (Str×Option Str)):Prop where
 base:dE ps good es
 all:∀y,y∈aS es↔Led ps good y
def rQ:Sp:=fun vs H Q _=>∃(d:Addr) (good:Str) (rows:HJ) (ps:HK),vs= [.ref d,.str good]/\DD H d rows/\cC rows ps/\ps.length<=1000/\
 ∀(ah:Addr) (H':Hp) (es:List (Str×Option Str)),ax H H'->H' ah=some (.dK (bc es))->xz ps good es->Q (.ref ah) H'
theorem zN {H:Hp} {rows:HJ} {rs:HP} {ps:HK} {x:Str} (dr:bL H rows rs) (nd:rs.Nodup) (ok:cC rows ps):
  (aP (dH rows rs) (.inr x)=none/\∀b,(x,b)∉ps)∨∃r ys,aP (dH rows rs) (.inr x)=some (.ref r)/\r∈rs/\H r=some (.dK (aY ys (.bl true)))/\ys.length<=ps.length/\ys.Nodup/\∀b,b∈ys↔(x,b)∈ps:=by
 cases e:aP (dH rows rs) (.inr x) with
 |none=>
  refine .inl ⟨rfl,fun b hb=>?_⟩
  exact (dr.at_none (y:=x) (p:=0) e).2.2 b ((ok.mem x b).mpr hb)
 |some w=>
  obtain ⟨r,ys,rfl,hr,hm,hH,_,_⟩:=dr.at_some (y:=x) nd e;refine .inr ⟨r,ys,rfl,hr,hH,(ok.small _ hm).1,(ok.small _ hm).2,fun b=>?_⟩
  rw[<-ok.mem];constructor
  ·exact fun h=>⟨ys,hm,h⟩
  ·rintro ⟨zs,hz,hb⟩;have:zs=ys:=by
    have inj:∀{l:HJ},(l.map (·.1)).Nodup->∀{a b c},(a,b)∈l->(a,c)∈l->b=c:=by
     intro l
     induction l with
     |nil=>intro _ a b c h;simp at h
     |cons p l ih=>
      intro nd a b c h1 h2;have nd':=EW.mp nd;rcases EC.mp h1 with e1|e1
      ·rcases EC.mp h2 with e2|e2
       ·rw[<-e1] at e2;cases e2;rfl
       ·exact absurd (EF.mpr ⟨(a,c),e2,by rw[<-e1]⟩) nd'.1
      ·rcases EC.mp h2 with e2|e2
       ·exact absurd (EF.mpr ⟨(a,b),e1,by rw[<-e2]⟩) nd'.1
       ·exact ih nd'.2 e1 e2
    exact inj ok.keys hz hm
   rw[<-this];exact hb
structure Way (ps:HK) (good goal:Str) (c:HN):Prop where
 first:c[0]?=some good
 last:c.getLast?=some goal
 nd:c.Nodup
 pair:∀(i:Nat) (a b:Str),c[i]?=some a->c[i+1]?=some b->(a,b)∈ps
 alone:goal=good->c= [good]
 few:c.length<=1001
structure Back (ps:HK) (good goal:Str) (es:List (Str×Option Str)) (rc:HN) (o:Option Str):Prop where
 nd:rc.Nodup
 pair:∀(i:Nat) (a b:Str),rc[i]?=some a->rc[i+1]?=some b->(b,a)∈ps
 first:rc.head?=some goal∨(rc= []/\o=some goal)
 nxt:∀y,o=some y->∃(i:Nat) (oy:Option Str),es[i]?=some (y,oy)/\(∀x∈rc,∃(j:Nat) (ox:Option Str),i<j/\es[j]?=some (x,ox))/\(∀a,rc.getLast?=some a->(y,a)∈ps)/\rc.length+i<es.length
 fin:o=none->rc.getLast?=some good
 alone:goal=good->rc= []∨(rc= [good]/\o=none)
 few:rc.length<=es.length
theorem iK {es:List (Str×Option Str)} {i:Nat} {y:Str} {o:Option Str} (h:es[i]?=some (y,o)):(aS es)[i]?=some y:=by
 unfold aS;rw[EA,h]
 rfl
theorem By {xs:HN} (nd:xs.Nodup) {i j:Nat} {y:Str} (h1:xs[i]?=some y) (h2:xs[j]?=some y):i=j:=by
 obtain ⟨l1,e1⟩:=E2.mp h1;obtain ⟨l2,e2⟩:=E2.mp h2;exact (List.getElem_inj nd).mp (e1.trans e2.symm)
theorem dE.at {ps:HK} {good:Str} {es:List (Str×Option Str)} (h:dE ps good es) {i j:Nat} {y:Str} {o o':Option Str} (h1:es[i]?=some (y,o)) (h2:es[j]?=some (y,o')):i=j:=
 By h.nd (iK h1) (iK h2)
theorem Back.start {ps:HK} {good goal:Str} {es:List (Str×Option Str)} (hg:goal∈aS es):Back ps good goal es [] (some goal) where
 nd:=FO
 pair:=fun i a b h=>by simp at h
 first:= .inr ⟨rfl,rfl⟩
 nxt:=fun y e=>by
  cases e;obtain ⟨p,hp,rfl⟩:=EF.mp hg;obtain ⟨i,hi⟩:=EH.mp hp;refine ⟨i,p.2,hi,by simp,by simp,?_⟩
  have:=(E2.mp hi).1
  simpa using this
 fin:=fun e=>nomatch e
 alone:=fun _=> .inl rfl
 few:=by simp
theorem Back.step {ps:HK} {good goal:Str} {es:List (Str×Option Str)} (ab:dE ps good es) {rc:HN} {y:Str} {oy:Option Str} {i:Nat} (h:Back ps good goal es rc (some y)) (hi:es[i]?=some (y,oy)):Back ps good goal es (rc++ [y]) oy:=by
 obtain ⟨i',oy',h1,h2,h3,h4⟩:=h.nxt y rfl;obtain rfl:=ab.at hi h1;have par:=ab.par i y oy hi;have ny:y∉rc:=fun m=>by
  obtain ⟨j,ox,lt,e⟩:=h2 y m;have:=ab.at hi e
  lia
 refine ⟨?_,?_,?_,?_,?_,?_,?_⟩
 ·rw[F2];refine ⟨h.nd,by simp,?_⟩
  intro u hu v hv;simp at hv;subst hv;exact fun z=>ny (z▸hu)
 ·intro k a b ha hb
  by_cases c:k+1<rc.length
  ·rw[E5 (by lia)] at ha
   rw[E5 c] at hb;exact h.pair k a b ha hb
  ·have kl:k+1<(rc++ [y]).length:=(E2.mp hb).1;simp at kl;have ke:k+1=rc.length:=by lia
   rw[E7 (by lia),ke] at hb
   simp at hb;subst hb;rw[E5 (by lia)] at ha
   refine h3 a ?_;rw[List.getLast?_eq_getElem?,<-ha]
   congr 1
   lia
 ·rcases h.first with k|⟨rfl,k⟩
  ·left;cases rc with
   |nil=>simp at k
   |cons z zs=>simpa using k
  ·cases k;left
   rfl
 ·intro p e;obtain ⟨hp,j,o',jl,ej⟩:=par.2 p e;refine ⟨j,o',ej,?_,?_,?_⟩
  ·intro x hx;rcases EK.mp hx with k|k
   ·obtain ⟨j2,ox,lt,e2⟩:=h2 x k;exact ⟨j2,ox,by lia,e2⟩
   ·simp at k;subst k;exact ⟨i,oy,jl,hi⟩
  ·intro a ha;simp at ha;subst ha;exact hp
  ·simp
   lia
 ·intro e;have i0:=par.1 e;subst i0;rw[ab.first] at hi;cases hi;simp
 ·intro e;subst e;rcases h.alone rfl with rfl|⟨_,k⟩
  ·rcases h.first with k|⟨_,k⟩
   ·simp at k
   ·cases k;right;have:=ab.at hi ab.first;subst this;rw[ab.first] at hi;cases hi;exact ⟨rfl,rfl⟩
  ·cases k
 ·simp
  lia
theorem Back.way {ps:HK} {good goal:Str} {es:List (Str×Option Str)} (ab:dE ps good es) {rc:HN} (h:Back ps good goal es rc none):Way ps good goal rc.reverse where
 first:=by
  have:=h.fin rfl;rw[<-List.head?_eq_getElem?,List.head?_reverse];exact this
 last:=by
  rw[List.getLast?_reverse];rcases h.first with k|⟨_,k⟩
  ·exact k
  ·cases k
 nd:=by
  unfold List.Nodup;rw[List.pairwise_reverse];exact h.nd.imp fun n=>Ne.symm n
 pair:=fun i a b ha hb=>by
  have l:i+1<rc.reverse.length:=(E2.mp hb).1;rw[Eo] at l;rw[List.getElem?_reverse (by lia)] at ha hb
  refine h.pair (rc.length-1-(i+1)) b a hb ?_;rw[<-ha]
  congr 1
  lia
 alone:=fun e=>by
  rcases h.alone e with k|⟨k,_⟩
  ·subst k;have:=h.fin rfl;simp at this
  ·rw[k]
   rfl
 few:=by
  rw[Eo];have:=h.few;have r:=ab.room;have l:(aS es).length=es.length:=by simp[aS]
  lia
def oP (es:List (Str×Option Str)):Option (Option V)->Nat
 |some (some (.str y))=>(aS es).idxOf y+1
 |_=>0
theorem oQ {ps:HK} {good:Str} {es:List (Str×Option Str)} (ab:dE ps good es) {i:Nat} {y:Str} {o:Option Str} (h:es[i]?=some (y,o)):oP es (some (some (.str y)))=i+1:=by
 show (aS es).idxOf y+1=i+1;have hk:=iK h;obtain ⟨l,e⟩:=E2.mp hk;rw[<-e,ab.nd.idxOf_getElem]
theorem vA {ps:HK} {good:Str} {es:List (Str×Option Str)} (ab:dE ps good es) {i:Nat} {y:Str} {o:Option Str} (h:es[i]?=some (y,o)):oP es (some (some (qB o)))<oP es (some (some (.str y))):=by
 rw[oQ ab h];cases o with
 |none=>exact Nat.succ_pos _
 |some p=>
  obtain ⟨_,j,o',jl,ej⟩:=(ab.par i y _ h).2 p rfl;show oP es (some (some (.str p)))<_;rw[oQ ab ej]
  lia
end Sw
namespace L2
open PySem PySem.Spec PyProof.Rows XH
section
variable {X:Cx} {scope:Scope} {cl:List (Str×Addr)} {own:Str} {ys:HN} {js:List Nat} {elt iter cond:Expr} {px pos:Pos} {wi:TI} {te:TE} {tc:TT}
theorem lY {i:Nat} {y:Str} {py spos:Pos} (hN:X.N.Nodup) (hi':X.N[i]?=some y) (hy:X.env.scope.names.lookup y=some .local) (hc:X.calm=true) (ok:gQ X scope cl own ys js) (hi:PI X (.Name own px) iter wi)
  (hq:∀(C:Addr) (fp:HP) (s:Shared) (H:Hp),PT (X.block scope cl C (own::ys) own fp s H) cond tc)
  (he:∀(C:Addr) (fp:HP) (s:Shared) (H:Hp),PE (X.block scope cl C (own::ys) own fp s H) elt te)
  (hsw:swapsWith (.ListComp elt [⟨.Name own px,iter,[cond],0⟩] scope pos) (some (.Name y py)) spos.line X.env=pure true:=by rfl) (hs:∀x,foldedSetIterable iter X.env x=pure x:=by intro _;rfl):
  PS X (.Assign [.Name y py] (.ListComp elt [⟨.Name own px,iter,[cond],0⟩] scope pos) spos) (ut (rO wi js tc te) (aM i)):=by
 intro pins s σ H D I h;have ncell:∀y∈scope.names,y.2≠ .cell:=fun y hy z=>by
  have q:=Er.mp ok.nocell y hy;rw[z] at q;simp at q
 have nloc:∀y∈scope.names,y.2= .local->scope.names.lookup y.1=some .local:=fun y hy z=>by
  have q:=Er.mp ok.loc y hy;rw[z] at q
  simpa using q
 show wpAny _ _ (exec _ X.env) _ _ _;rw[exec_Assign_Name_used _ _ _ _ hsw];refine wpAny_bind (wpAny_standAt (wpAny_bind ?_));show wpAny _ X.A (do let _<-comprehension (.ListComp elt [⟨.Name own px,iter,[cond],0⟩] scope pos) scope X.env _ (newList []) false (eval iter X.env) (some (assign (.Name y py) X.env))) _ _ s
 refine wpAny_bind (wpAny_mono (wpAny_comprehension_free (use:=some (assign (.Name y py) X.env)) (Q:=fun _ s'=>SP X pins D .next s') rfl hs ok.clos ok.kind nloc (bu (hi pins s σ H _ I h) fun v s1 h1=>bu h1 fun itv s2 h2=>?_)) (fun _ s' hq=>wpAny_pure (wpAny_pure hq)) fun _ _ e=>e)
 obtain ⟨it,fp,tn,J,H2,rfl,I2,T,st2,f2,q2⟩:=h2;obtain ⟨W,⟨m0,w0⟩,turn⟩:=q2 s2.heap.objs.size (I2.hok.fresh (E4 _));refine wpAny_newObj_type (wpAny_newFunctionEnv ncell (by intro y hy;simp at hy) (fun h1 hns hsb=>?_) ok.kind)
 have I3:=I2.laid (a:=s2.heap.objs.size) (o:= .lst []) (h':=s2.heap.push {cls:= .type "list",dict:=none,data:= .seq ([]:HQ).toArray}) (t':=s2.toks) (fun b u q=>Heap.get?_push_of_some _ q) (E4 _)
  ⟨EO _,[],0,.nil,Heap.get?_push_size _ rfl⟩
 have fpo:∀b∈fp,b<s2.heap.objs.size:=fun b hb=>by
  obtain ⟨o,e,_⟩:=T.obj 0 _ st2 b hb;exact Heap.lt_size e
 have f3:∀b∈fp,dR X pins (ay H2 s2.heap.objs.size (.lst [])) b:=fun b hb=>⟨by rw[ag (EE (fpo b hb))];exact (f2 b hb).1,(f2 b hb).2⟩
 generalize hs3:({s2 with heap:=s2.heap.push {cls:= .type "list",dict:=none,data:= .seq ([]:HQ).toArray},toks:=s2.toks}:Shared)=s3 at I3
 have e3:s3.heap=s2.heap.push {cls:= .type "list",dict:=none,data:= .seq ([]:HQ).toArray}:=by rw[<-hs3]
 have lt3:∀b∈fp,b<s3.heap.objs.size:=fun b hb=>by rw[e3,Heap.size_push];exact F3 (fpo b hb)
 dsimp only at hns hsb⊢;rw[<-e3] at hns hsb;have hk:∀b o,s3.heap.get? b=some o->h1.get? b=some o:=fun b o e=>hsb.extBut b o (EE (Heap.lt_size e)) (Heap.get?_push_of_some _ e)
 have J0:=dC (h1:=h1) ok I3 f3 lt3 hns hk (s2.toks+0);have t0:tn 0 h1:=T.keep 0 _ _ st2 fun b hb o e=>hk b o (by rw[e3];exact Heap.get?_push_of_some _ e)
 have fpB:∀{H':Hp},(∀b∈fp,H' b=none)->∀b∈fp,dR (X.block scope cl s3.heap.objs.size (own::ys) own fp s3 (ay H2 s2.heap.objs.size (.lst []))) [] H' b:=fun {H'} hn b hb=>
  ⟨hn b hb,EE (lt3 b hb),fun z=>(EC.mp (I3.stkSub b z)).elim (f3 b hb).2.1 (f3 b hb).2.2.1,.inl hb,fun x c e=>(f3 b hb).2.2.2.2.1 x c (ok.sub (x,c) (Ej e)),fun p hp=>absurd (show p∈([]:HL) from hp) (by simp)⟩
 have loop:codeAny (model X.prog X.w) X.A (.compLoop (.ListComp elt [⟨.Name own px,iter,[cond],0⟩] scope pos) 0 (.ref it) (.ref s2.heap.objs.size) (compEnvC scope cl s3.heap.objs.size X.env))
   (compPost (model X.prog X.w) X.A X.xe (some (assign (.Name y py) X.env)) (fun _ s'=>SP X pins D .next s') (.ref s2.heap.objs.size) s3.heap.objs.size) {s3 with heap:=h1,toks:=s2.toks+0}:=by
  refine jq (fun n s'=>∃i zs o0 H',aE (X.block scope cl s3.heap.objs.size (own::ys) own fp s3 (ay H2 s2.heap.objs.size (.lst []))) [] (o0::bh js σ) H' s'/\tn i s'.heap/\(∀b∈fp,H' b=none)/\W i n zs H') ?_ m0
   ⟨0,[],none,_,J0,t0,fun b hb=>(f3 b hb).1,w0⟩
  rintro n s5 ⟨i,zs,o0,H5,I5,t5,n5,w5⟩;obtain ⟨hD,hw⟩:=turn i n zs H5 w5;rcases hw with ⟨stop,qn⟩|⟨go,hz,step⟩
  ·refine bu (T.done (X.block scope cl s3.heap.objs.size (own::ys) own fp s3 (ay H2 s2.heap.objs.size (.lst []))) rfl rfl rfl hc i [] s5 _ H5 (fun _ _=>False) I5 (fpB n5) t5 stop) fun r s6 ⟨hr,I6⟩=>?_
   subst hr;obtain ⟨m,hn,_⟩:=id I6.loc;have J:aE X pins σ H5 s6:=eW (h':=s6.heap) I3 f3 I6 (Heap.SameBut.refl _ _);have fC:=I3.fpOk (E4 _) (show H5 s3.heap.objs.size=none from I6.free)
   obtain ⟨k0,k1,k2,k3,k4,k5⟩:=fC;show wpAny _ X.A (assign (.Name y py) X.env (.ref s2.heap.objs.size)) _ _ _;refine wpAny_assign_Name (gp (v:= .ref s2.heap.objs.size) J hN hi' (.inl hy) rfl (fun s7 I7 hsb=>?_) (.inr hy))
   obtain ⟨a',sb,ha⟩:=hsb;have ne:s3.heap.objs.size≠a':=by
    rcases ha with z|z
    ·rw[z];exact k1
    ·exact fun w=>k4 _ _ z w.symm
   exact ⟨m,hn.sameBut sb ne,fun h' hs'=>⟨_,H5,I7.turned (t':=s7.toks) (fun b o hb e=>(hs'.2 b hb).trans e) k0 k1 k3 k4 k5,qn⟩⟩
  ·refine bu (T.item (X.block scope cl s3.heap.objs.size (own::ys) own fp s3 (ay H2 s2.heap.objs.size (.lst []))) rfl rfl rfl hc i [] s5 _ H5 (fun _ _=>False) I5 (fpB n5) t5 go) fun r s6 ⟨u,hr,h6⟩=>?_
   subst hr;refine bu h6 fun _ s7 ⟨x,H7,I7,r7,y7,t7,n7⟩=>?_
   have I7':=I7.pinned (fpB n7) (T.obj _ _ t7);have hst:=step x H7 y7;have own':(relabel scope X.env).names.lookup own=some .local:=lookup_relabel_local ok.ownL;refine bu (gq (X:=X.block scope cl s3.heap.objs.size (own::ys) own fp s3 (ay H2 s2.heap.objs.size (.lst []))) (i:=0) (x:=own) (pos:=px) ok.nd rfl (.inl own') (.inr own') _ s7 _ H7 x u (fun σ' H'=>σ'=some x::bh js σ/\H'=H7) I7' r7 ⟨rfl,rfl⟩) fun _ s8 ⟨σ8,H8,I8,e8,eH8⟩=>?_
   subst e8 eH8;refine bu (hq _ _ _ _ _ s8 _ H8 _ I8 hst) fun ok s9 ⟨H9,I9,h9⟩=>?_
   have frame:∀{s':Shared} {H':Hp},aE (X.block scope cl s3.heap.objs.size (own::ys) own fp s3 (ay H2 s2.heap.objs.size (.lst []))) ([]++iX fp s7.heap) (some x::bh js σ) H' s'->tn (i+1) s'.heap/\∀b∈fp,H' b=none:=fun {s' H'} I'=>
    ⟨T.keep _ _ _ t7 fun b hb o e=>(I'.pin (b,o) (ED _ (ED _ (bU hb e)))).1,fun b hb=>by
     obtain ⟨o,e,d⟩:=T.obj _ _ t7 b hb;exact (I'.pin (b,o) (ED _ (ED _ (bU hb e)))).2.1⟩
   cases ok with
   |true=>
    refine bu (he _ _ _ _ _ s9 _ H9 _ I9 h9) fun yv s10 ⟨y,H10,I10,r10,hD10,m',hm,w10⟩=>?_
    refine bu (bC _ s10 _ H10 (.ref s2.heap.objs.size) [y] (.ref s2.heap.objs.size) [yv] (fun _ H'=>H'=ay H10 s2.heap.objs.size (.lst (zs++ [y]))) I10 rfl (.cons r10 .nil) ⟨_,zs,y,rfl,rfl,hD10,hz,rfl⟩) fun _ s11 ⟨_,H11,I11,_,e11⟩=>?_
    subst e11;exact ⟨m',hm,i+1,zs++ [y],some x,_,I11.unpinned,(frame I11).1,(frame I11).2,w10⟩
   |false=>
    obtain ⟨m',hm,w10⟩:=h9;exact ⟨m',hm,i+1,zs,some x,_,I9.unpinned,(frame I9).1,(frame I9).2,w10⟩
 subst hs3;exact codeAny_compStart_list loop (T.self _ 0 _ _ _ t0 loop)
end
theorem zO {X:Cx} {K:D9} (h:X.K=K):fU X (compareOp .In) (Da K false):=by
 subst h;exact sN
theorem vB {X:Cx} (hu:X.A.units<cLine):fU X (compareOp .Eq) (fun x y H Q=>∃a b zs,x= .ref a/\y= .ref b/\aQ X.K H a zs/\aQ X.K H b []/\Q (.bl zs.isEmpty) H):=by
 intro pins s σ H x y v u Q I rx ry h;obtain ⟨a,b,zs,rfl,rfl,h1,h2,hq⟩:=h;cases rx;cases ry;obtain ⟨i1,r1,p1,_⟩:=I.list h1;obtain ⟨i2,r2,p2,_⟩:=I.list h2;cases r2;cases zs with
 |nil=>
  cases r1;refine SeqAt.eq_listAt (e:=fun _=>true) p1.isList p2.isList rfl hu (fun j g1 g2=>absurd g1 (by simp)) ?_
  exact ⟨.bl true,H,I,by show Value.bool _=Value.bool _;simp,hq⟩
 |cons z zs=>
  cases r1 with
  |cons r rr=>
   refine SeqAt.eq_list_lengthsAt p1.isList p2.isList (by simp) hu ?_
   exact ⟨.bl false,H,I,rfl,hq⟩
theorem ju {a:Addr} {o:Obj} {kvs:List (Key×V)} {js:List Nat} {tc:TT} {σ:L2.St} {H1:Hp} {Q:VK} (pr:Key->Bool) (hf:H1 a=some (.frz o (.dK kvs))) (hz:kvs.length<=sizeLine)
  (step:∀(i:Nat) (k:Key) (x:V),kvs[i]?=some (k,x)->∀H3,ax H1 H3->∀R:Bool->Hp->Prop,R (pr k) H3->tc (some (kV k)::bh js σ) H3 R)
  (fin:∀p H',ax H1 H'->H' p=some (.lst ((kvs.filter fun e=>pr e.1).map fun e=>kV e.1))->Q (.ref p) H'):m9 js tc (wx 0) σ Q (zL a o kvs) H1:=by
 intro p hp;refine ⟨fun i m ys H2=>i<=kvs.length/\m=kvs.length-i/\ys=((kvs.take i).filter fun e=>pr e.1).map (fun e=>kV e.1)/\ax H1 H2/\H2 p=some (.lst ys),⟨kvs.length,EO _,rfl,rfl,Sw.aj hp _,ac⟩,?_⟩
 rintro i m ys H2 ⟨hi,rfl,rfl,g,e⟩;refine ⟨e,?_⟩;have f2:=g _ _ hf
 by_cases hin:i<kvs.length
 ·refine .inr ⟨⟨f2,hin⟩,?_,fun x H3 hy=>?_⟩
  ·have:=FT (fun e:Key×V=>pr e.1) (kvs.take i)
   rw[E3];rw[EN] at this
   lia
  obtain ⟨rfl,k,v,hk,rfl⟩:=hy;have tk:((kvs.take (i+1)).filter fun e=>pr e.1)=((kvs.take i).filter fun e=>pr e.1)++(if pr k=true then [(k,v)] else []):=by
   rw[List.take_succ,hk,List.filter_append]
   congr 1
   simp[FI]
  refine step i k v hk H3 g _ ?_;cases hpr:pr k with
  |true=>
   rw[hpr,if_pos rfl] at tk;rw[if_pos rfl];exact ⟨_,rfl,e,kvs.length-(i+1),by lia,hin,rfl,by rw[tk,Ed];rfl,Sw.dM g hp _,ac⟩
  |false=>
   rw[hpr,if_neg (by decide),Fj] at tk
   rw[if_neg (by decide)]
   exact ⟨kvs.length-(i+1),by lia,hin,rfl,by rw[tk],g,e⟩
 ·have e2:i=kvs.length:=by lia
  subst e2;refine .inl ⟨⟨f2,rfl⟩,fin p H2 g ?_⟩;rw[e,Ey (E4 _)]
theorem oR {K:D9} {a:Addr} {xs:List V} {js:List Nat} {tc:TT} {σ:L2.St} {H1:Hp} {Q:VK} (pr:V->Bool) (hS:aQ K H1 a xs) (hz:xs.length<=sizeLine)
  (step:∀x∈xs,∀H3,ax H1 H3->∀R:Bool->Hp->Prop,R (pr x) H3->tc (some x::bh js σ) H3 R)
  (fin:∀p H',ax H1 H'->H' p=some (.lst (xs.filter pr))->Q (.ref p) H'):m9 js tc (wx 0) σ Q (yt K a) H1:=by
 intro p hp;refine ⟨fun i m ys H2=>i<=xs.length/\m=xs.length-i/\ys=(xs.take i).filter pr/\ax H1 H2/\H2 p=some (.lst ys),⟨xs.length,EO _,rfl,rfl,Sw.aj hp _,ac⟩,?_⟩
 rintro i m ys H2 ⟨hi,rfl,rfl,g,e⟩;refine ⟨e,?_⟩;have S2:=g.seq hS
 by_cases hin:i<xs.length
 ·refine .inr ⟨⟨xs,xs[i],S2,E1 hin⟩,?_,fun x H3 hy=>?_⟩
  ·have:=FT pr (xs.take i);rw[EN] at this
   lia
  obtain ⟨rfl,hx⟩:=hy;have ex:=hx xs S2;have tk:(xs.take (i+1)).filter pr=(xs.take i).filter pr++(if pr x=true then [x] else []):=by
   rw[List.take_succ,ex,List.filter_append]
   congr 1
   simp[FI]
  refine step x (E6 ex) H3 g _ ?_;cases hpr:pr x with
  |true=>
   rw[hpr,if_pos rfl] at tk;rw[if_pos rfl];exact ⟨_,rfl,e,xs.length-(i+1),by lia,hin,rfl,by rw[tk],Sw.dM g hp _,ac⟩
  |false=>
   rw[hpr,if_neg (by decide),Fj] at tk
   rw[if_neg (by decide)]
   exact ⟨xs.length-(i+1),by lia,hin,rfl,by rw[tk],g,e⟩
 ·have e2:i=xs.length:=by lia
  subst e2;refine .inl ⟨⟨xs,S2,E4 _⟩,fin p H2 g ?_⟩;rw[e,Ey (E4 _)]
end L2
namespace Sw
open PySem L2 PyProof.Rows
theorem jc {α β:Type} {F:α->β->Prop}:∀{l:List α} {m:List β},Paired F l m->∀{i:Nat} {b:β},m[i]?=some b->∃a,l[i]?=some a/\F a b
 |_,_,.nil,i,b,h=>by simp at h
 |_,_,.cons r t,0,b,h=>by simp at h;subst h;exact ⟨_,rfl,r⟩
 |_,_,.cons r t,i+1,b,h=>by
  obtain ⟨a,h1,h2⟩:=jc t (i:=i) (by simpa using h)
  exact ⟨a,by simpa using h1,h2⟩
def xA (gs:HN):Key->Bool
 | .inr y=>decide (y∈gs)
 |_=>false
theorem oS (gs:HN):∀es:List (Str×Option Str),(((bc es).filter fun e=>xA gs e.1).map fun e=>kV e.1)=((aS es).filter fun y=>decide (y∈gs)).map V.str
 | []=>rfl
 |(c,o)::es=>by
  have ih:=oS gs es;show ((((.inr c,qB o)::bc es).filter fun e=>xA gs e.1).map fun e=>kV e.1)=(((c::aS es).filter fun y=>decide (y∈gs)).map V.str)
  by_cases h:c∈gs
  ·rw[List.filter_cons_of_pos (by show decide (c∈gs)=true;exact decide_eq_true h),List.filter_cons_of_pos (by exact decide_eq_true h),Ek,Ek,ih]
   rfl
  ·rw[List.filter_cons_of_neg (by show ¬decide (c∈gs)=true;simp[h]),List.filter_cons_of_neg (by simp[h]),ih]
theorem rR (x:Str) (gs:HN):y9 (.str x) (gs.map V.str)=decide (x∈gs):=by
 unfold y9;rw[FR];simp[wJ]
theorem tM (gs:HN):(gs.map V.str).all ix=true:=by
 rw[Er];intro x hx;obtain ⟨y,_,rfl⟩:=EF.mp hx
 rfl
end Sw
namespace L2
open PySem PySem.Spec PyProof.Rows XH Sw So
theorem rS:∀{acc:HQ} {ks:HN},acc.length=ks.length->(∀(j:Nat) (v:Value),acc[j]?=some v->∃y t,ks[j]?=some y/\v= .str y t)->StrsAre acc ks
 | [],[],_,_=> .nil
 |v::acc,k::ks,hl,h=>by
  obtain ⟨y,t,e,rfl⟩:=h 0 v rfl;simp at e;subst e;exact .cons _ _ (rS (by simpa using hl) fun j u hu=>h (j+1) u (by simpa using hu))
 | [],_::_,hl,_=>by simp at hl
 |_::_,[],hl,_=>by simp at hl
theorem iL:∀{us:HQ} {ks:HN},StrsAre us ks->aT (ks.map V.str) us
 |_,_,.nil=> .nil
 |_,_,.cons y t h=> .cons ⟨t,rfl⟩ (iL h)
theorem oU {prog:Program} {w:World} {A:Around} {E:HF} {s:Shared} {T:String} {r d:Addr} {n:Nat} {P:Nat->Value->Prop} {OK:Heap->Prop} {R:HQ->Shared->Prop} (K:PySem.W.KdlSrc prog w T r d n P OK) (hh:A.handled=none) (hok:OK s.heap) (hn:n<=sizeLine)
  (h:∀(h':Heap) (tk:Nat) (acc:Array Value),s.heap.objs.size<h'.objs.size->(∀b o,s.heap.get? b=some o->h'.get? b=some o)->PySem.ItemsOf P acc n->R acc.toList {s with heap:=h',toks:=tk}):
  wpAny (model prog w) A (collect (.ref r)) R E s:=by
 have hlt:=K.there _ hok;unfold collect;refine wpAny_bind (wpAny_runValue (codeAny_builtin entry_proto_collect' ?_));rw[Around.under_plainId PySem.F.plain_proto_collect _];show wpAny _ A.in1 (newList []>>=fun l=>again (.builtin "list.__iadd__" ⟨[l,.ref r],[]⟩)) _ _ s
 refine wpAny_bind (wpAny_newObj_type (wpAny_pure ⟨plainId_quiet PySem.F.plain_list_iadd _,codeAny_builtin entry_list_iadd' ?_⟩));rw[Around.under_plainId PySem.F.plain_list_iadd _];have fresh:(s.heap.push {cls:= .type "list",data:= .seq ([]:HQ).toArray}).get? s.heap.objs.size=some {cls:= .type "list",data:= .seq #[]}:=Heap.get?_push_size _ rfl;show wpAny _ A.in1 (Builtin.List.listExtendWith (.ref s.heap.objs.size) (.ref r) (.ref s.heap.objs.size)) _ _ _;have key:=PySem.W.kdl_extend (A:=A) (s:={s with heap:=s.heap.push {cls:= .type "list",data:= .seq ([]:HQ).toArray}})
  (R:=fun (q:Result) (s':Shared)=>∃(h':Heap) (tk:Nat) (acc:Array Value) (c:Nat),q= .ok (.ret (.ref s.heap.objs.size))/\s'={s with heap:=h',toks:=tk}/\(∀b o,s.heap.get? b=some o->h'.get? b=some o)/\h'.get? s.heap.objs.size=some {cls:= .type "list",dict:=none,data:= .seq acc c,slots:= #[]}/\PySem.ItemsOf P acc n)
  K hh (K.keep _ _ hok fun b _ o e=>Heap.get?_push_of_some _ e) s.heap.objs.size (Nat.ne_of_gt hlt.1) (Nat.ne_of_gt hlt.2) (.ref s.heap.objs.size) 0 fresh
  (fun h' tk acc c hk hS ha=>⟨h',tk,acc,c,rfl,rfl,fun b o e=>hk b o (EE (Heap.lt_size e)) (Heap.get?_push_of_some _ e),hS,ha⟩) hn
 have fin:∀{h':Heap} {tk c:Nat} {acc:Array Value},(∀b o,s.heap.get? b=some o->h'.get? b=some o)->h'.get? s.heap.objs.size=some {cls:= .type "list",dict:=none,data:= .seq acc c,slots:= #[]}->PySem.ItemsOf P acc n->R acc.toList {s with heap:=h',toks:=tk}:=
  fun {h' tk c acc} hk hS ha=>h h' tk acc (Heap.lt_size hS) hk ha
 refine wpAny_mono key (fun f s' x=>?_) fun e s' x=>?_
 ·cases f with
  |done f=>
   obtain ⟨h',tk,acc,c,e,rfl,hk,hS,ha⟩:=x;cases e;show wpAny _ A (load s.heap.objs.size>>=_) _ _ _;exact wpAny_bind (wpAny_load hS (wpAny_pure (fin hk hS ha)))
  |again c₁=>
   refine ⟨x.1,codeAny_mono x.2 fun q s₂ y=>?_⟩
   obtain ⟨h',tk,acc,c,rfl,rfl,hk,hS,ha⟩:=y;show wpAny _ A (load s.heap.objs.size>>=_) _ _ _;exact wpAny_bind (wpAny_load hS (wpAny_pure (fin hk hS ha)))
 ·obtain ⟨_,_,_,_,e',_⟩:=x;cases e'
end L2
namespace So
open PySem PySem.Spec PyProof.Rows
def tN (x y:Str):Prop:=¬(y.cps.toList<x.cps.toList)
theorem tO {x y z:Str} (h1:tN x y) (h2:tN y z):tN x z:=fun h=>by
 unfold tN at h1 h2;exact h1 (List.lt_of_le_of_lt (List.not_lt.mp h2) h)
theorem kg {x y:Str} (h1:tN x y) (h2:tN y x):x=y:=by
 have e:=List.le_antisymm (List.not_lt.mp h1) (List.not_lt.mp h2);cases x;cases y
 congr 1
 exact Array.toList_inj.mp e
theorem lZ:∀(r:HN) (x:Str),risingS x r=true->(x::r).Pairwise tN
 | [],x,_=>by simp
 |y::r,x,h=>by
  unfold risingS at h;have h':ltCps y.cps.toList x.cps.toList=false/\risingS y r=true:=by
   simpa [Bool.and_eq_true] using h
  have ih:=lZ r y h'.2;have xy:tN x y:=by
   have:=h'.1;rw[ltCps_eq] at this;exact of_decide_eq_false this
  refine List.pairwise_cons.mpr ⟨fun z hz=>?_,ih⟩
  rcases EC.mp hz with e|e
  ·rw[e];exact xy
  ·exact tO xy ((List.pairwise_cons.mp ih).1 z e)
theorem jd {l:HN} (h:sortedS l=true):l.Pairwise tN:=by
 cases l with
 |nil=>simp
 |cons x r=>exact lZ r x h
theorem oV {l m:HN} (h1:sortedS l=true) (h2:sortedS m=true) (p:l.Perm m):l=m:=
 List.Perm.eq_of_pairwise (fun a b _ _ ha hb=>kg ha hb) (jd h1) (jd h2) p
end So
namespace Sw
open PySem L2 PyProof.Rows So
theorem bL.free {H:Hp} {p:Addr} (hn:H p=none):∀{rows:HJ} {rs:HP},bL H rows rs->p∉rs
 | [],[],_=>by simp
 |_::_,r::_,h=>fun m=>by
  rcases EC.mp m with e|e
  ·have:=h.1;rw[<-e,hn] at this;cases this
  ·exact bL.free hn h.2 e
 | [],_::_,h=>h.elim
 |_::_,[],h=>h.elim
theorem DD.put_none {H:Hp} {d pn:Addr} {rows:HJ} {rs:HP} {x y:Str} (hn:H pn=none) (dr:bL H rows rs) (e:H d=some (.dK (dH rows rs))) (nd:rs.Nodup) (dn:d∉rs) (hw:aP (dH rows rs) (.inr x)=none):
  DD (ay (ay (ay H pn (.dK [])) d (.dK (putK (dH rows rs) (.inr x) (.ref pn)))) pn (.dK (putK [] (.inr y) (.bl true)))) d (aZ rows x y):=by
 have g3:=aj hn (.dK []);obtain ⟨h1,h2,_⟩:=(dr.same g3).at_none (y:=y) (p:=pn) hw;have pd:pn≠d:=fun z=>by rw[z,e] at hn;cases hn
 have pr:pn∉rs:=bL.free hn dr;refine ⟨rs++ [pn],?_,?_,?_,?_⟩
 ·rw[h1];have eN:(ay (ay (ay H pn (.dK [])) d (.dK (putK (dH rows rs) (.inr x) (.ref pn)))) pn (.dK (putK [] (.inr y) (.bl true)))) pn=some (.dK (aY [y] (.bl true))):=ac;refine bL.snoc eN ?_;exact (((dr.same g3).other dn).other pr)
 ·rw[h1,h2,ag (Ne.symm pd),ac,fW _ hw]
 ·rw[F2];refine ⟨nd,by simp,?_⟩
  intro u hu v hv;simp at hv;subst hv;exact fun z=>pr (z▸hu)
 ·simp;exact ⟨dn,Ne.symm pd⟩
open XH
def KF (F:HP) (H H':Hp):Prop:=∀a o,a∉F->H a=some o->H' a=some o
theorem KF.refl {F:HP} {H:Hp}:KF F H H:=fun _ _ _ e=>e
theorem KF.trans {F:HP} {H H' H'':Hp} (h:KF F H H') (k:KF F H' H''):KF F H H'':=fun a o n e=>k a o n (h a o n e)
theorem KF.of {F:HP} {H H':Hp} (h:ax H H'):KF F H H':=fun a o _ e=>h a o e
theorem KF.put {F:HP} {H:Hp} {a:Addr} (o:HO) (h:a∈F):KF F H (ay H a o):=fun b ob n e=>by
 have q:b≠a:=fun z=>n (by rw[z];exact h)
 rw[ag q];exact e
def FG (F F':HP) (H:Hp):Prop:=∀a∈F',a∈F∨H a=none
theorem FG.refl {F:HP} {H:Hp}:FG F F H:=fun _ h=> .inl h
structure LA (C:Addr) (F:HP) (H:Hp) (x:Addr) (rows:HJ) (ns:HN):Prop where
 ex:∃(dx p n:Addr) (fs:List (Str×V)) (rs:HP),H x=some (.ins C dx fs)/\fs.lookup ("parts" :Str)=some (.ref p)/\fs.lookup ("names" :Str)=some (.ref n)/\bL H rows rs/\H p=some (.dK (dH rows rs))/\H n=some (.dK (aY ns (.bl true)))/\
  F=p::n::rs/\F.Nodup/\∀m:Str,m∈ [("part" :Str),"learn","known","held"]->fs.lookup m=none
theorem LA.same {C:Addr} {F:HP} {H H':Hp} {x:Addr} {rows:HJ} {ns:HN} (h:LA C F H x rows ns) (g:ax H H'):LA C F H' x rows ns:=by
 obtain ⟨dx,p,n,fs,rs,a,b,c,d,e,f,i,j,k⟩:=h.ex;exact ⟨dx,p,n,fs,rs,g _ _ a,b,c,d.same g,g _ _ e,g _ _ f,i,j,k⟩
theorem bL.dict {H:Hp} {a:Addr}:∀{rows:HJ} {rs:HP},bL H rows rs->a∈rs->∃kv,H a=some (.dK kv)
 | [],[],_,h=>by simp at h
 |_::_,r::_,h,m=>by
  rcases EC.mp m with e|e
  ·subst e;exact ⟨_,h.1⟩
  ·exact bL.dict h.2 e
 | [],_::_,h,_=>h.elim
 |_::_,[],h,_=>h.elim
theorem LA.dict {C:Addr} {F:HP} {H:Hp} {x:Addr} {rows:HJ} {ns:HN} (h:LA C F H x rows ns) {a:Addr} (m:a∈F):∃kv,H a=some (.dK kv):=by
 obtain ⟨dx,p,n,fs,rs,_,_,_,d,e,f,i,_,_⟩:=h.ex;subst i;rcases EC.mp m with e'|m
 ·subst e';exact ⟨_,e⟩
 rcases EC.mp m with e'|m
 ·subst e';exact ⟨_,f⟩
 exact d.dict m
theorem LA.not {C:Addr} {F:HP} {H:Hp} {x:Addr} {rows:HJ} {ns:HN} (h:LA C F H x rows ns) {a:Addr} {o:HO} (e:H a=some o) (k:∀kv,o≠ .dK kv):a∉F:=fun m=>by
 obtain ⟨kv,e'⟩:=h.dict m;rw[e] at e';exact k kv (ET e')
theorem LA.free {C:Addr} {F:HP} {H:Hp} {x:Addr} {rows:HJ} {ns:HN} (h:LA C F H x rows ns) {a:Addr} (e:H a=none):a∉F:=fun m=>by
 obtain ⟨kv,e'⟩:=h.dict m;rw[e] at e';cases e'
theorem LA.dd {C:Addr} {F:HP} {H:Hp} {x:Addr} {rows:HJ} {ns:HN} (h:LA C F H x rows ns):∃(dx p n:Addr) (fs:List (Str×V)),H x=some (.ins C dx fs)/\fs.lookup ("parts" :Str)=some (.ref p)/\fs.lookup ("names" :Str)=some (.ref n)/\DD H p rows/\H n=some (.dK (aY ns (.bl true)))/\p∈F/\n∈F/\∀m:Str,m∈ [("part" :Str),"learn","known","held"]->fs.lookup m=none:=by
 obtain ⟨dx,p,n,fs,rs,a,b,c,d,e,f,i,j,k⟩:=h.ex;subst i;have j1:=EW.mp j;have j2:=EW.mp j1.2;exact ⟨dx,p,n,fs,a,b,c,⟨rs,d,e,j2.2,fun z=>j1.1 (Ea _ z)⟩,f,by simp,by simp,k⟩
theorem LA.learn {C:Addr} {F:HP} {H:Hp} {x n dx:Addr} {fs:List (Str×V)} {rows:HJ} {ns ms:HN} (h:LA C F H x rows ns) (ex:H x=some (.ins C dx fs)) (en:fs.lookup ("names" :Str)=some (.ref n)):LA C F (ay H n (.dK (aY ms (.bl true)))) x rows ms/\KF F H (ay H n (.dK (aY ms (.bl true))))/\n∈F:=by
 obtain ⟨dx',p,n',fs',rs,a,b,c,d,e,f,i,j,k⟩:=h.ex;rw[a] at ex;cases ex;rw[c] at en;cases en;subst i;have j1:=EW.mp j;have j2:=EW.mp j1.2;have pn:p≠n:=fun z=>j1.1 (by simp[z])
 have xn:x≠n:=fun z=>by rw[z,f] at a;cases a
 exact ⟨⟨dx,p,n,fs,rs,by rw[ag xn];exact a,b,c,d.other j2.1,by rw[ag pn];exact e,ac,rfl,j,k⟩,KF.put _ (by simp),by simp⟩
theorem LA.put_some {C:Addr} {F:HP} {H:Hp} {x p dx:Addr} {fs:List (Str×V)} {rows:HJ} {ns:HN} {g y:Str} {kvs:List (Key×V)} (h:LA C F H x rows ns) (ex:H x=some (.ins C dx fs)) (ep:fs.lookup ("parts" :Str)=some (.ref p)) (e1:H p=some (.dK kvs)) {w:V} (hw:aP kvs (.inr g)=some w):
  ∃r ys,w= .ref r/\(g,ys)∈rows/\H r=some (.dK (aY ys (.bl true)))/\LA C F (ay H r (.dK (aY (cu ys y) (.bl true)))) x (aZ rows g y) ns/\KF F H (ay H r (.dK (aY (cu ys y) (.bl true)))):=by
 obtain ⟨dx',p',n,fs',rs,a,b,c,d,e,f,i,j,k⟩:=h.ex;rw[a] at ex;cases ex;rw[b] at ep;cases ep;rw[e] at e1;cases e1;subst i;have j1:=EW.mp j;have j2:=EW.mp j1.2;obtain ⟨r,ys,rfl,hr,hm,hH,hD,hT⟩:=d.at_some (y:=y) j2.2 hw;have pr:p≠r:=fun z=>j1.1 (by rw[z];exact Ea _ hr)
 have nr:n≠r:=fun z=>j2.1 (by rw[z];exact hr)
 have xr:x≠r:=fun z=>by rw[z,hH] at a;cases a
 exact ⟨r,ys,rfl,hm,hH,⟨dx,p,n,fs,rs,by rw[ag xr];exact a,b,c,hD,by rw[ag pr,hT];exact e,by rw[ag nr];exact f,rfl,j,k⟩,KF.put _ (by simp[hr])⟩
theorem LA.put_none {C:Addr} {F:HP} {H:Hp} {x p dx pn:Addr} {fs:List (Str×V)} {rows:HJ} {ns:HN} {g y:Str} {kvs:List (Key×V)} (h:LA C F H x rows ns) (ex:H x=some (.ins C dx fs)) (ep:fs.lookup ("parts" :Str)=some (.ref p)) (e1:H p=some (.dK kvs)) (hn:H pn=none) (hw:aP kvs (.inr g)=none):
  LA C (F++ [pn]) (ay (ay (ay H pn (.dK [])) p (.dK (putK kvs (.inr g) (.ref pn)))) pn (.dK (putK [] (.inr y) (.bl true)))) x (aZ rows g y) ns/\KF F H (ay (ay (ay H pn (.dK [])) p (.dK (putK kvs (.inr g) (.ref pn)))) pn (.dK (putK [] (.inr y) (.bl true)))):=by
 have hf:=h.free hn;obtain ⟨dx',p',n,fs',rs,a,b,c,d,e,f,i,j,k⟩:=h.ex;rw[a] at ex;cases ex;rw[b] at ep;cases ep;rw[e] at e1;cases e1;subst i;have j1:=EW.mp j;have j2:=EW.mp j1.2;have pr:p∉rs:=fun z=>j1.1 (Ea _ z)
 obtain ⟨rs',hD,hP,hN,hd⟩:=(DD.put_none (y:=y) hn d e j2.2 pr hw).ex;have g3:=aj hn (.dK []);obtain ⟨h1,h2,_⟩:=(d.same g3).at_none (y:=y) (p:=pn) hw;have pp:pn≠p:=fun z=>hf (by simp[z])
 have np:pn≠n:=fun z=>hf (by simp[z])
 have xp:pn≠x:=fun z=>by rw[z,a] at hn;cases hn
 have nr:pn∉rs:=fun z=>hf (by simp[z])
 have nn:n≠p:=fun z=>j1.1 (by simp[z])
 have xx:x≠p:=fun z=>by rw[z,e] at a;cases a
 refine ⟨⟨dx,p,n,fs,rs++ [pn],?_,b,c,?_,?_,?_,rfl,?_,k⟩,?_⟩
 ·rw[ag (Ne.symm xp),ag xx,ag (Ne.symm xp)];exact a
 ·rw[h1];exact bL.snoc (ys:= [y]) ac (((d.same g3).other pr).other nr)
 ·rw[h1,h2,ag (Ne.symm pp),ac,fW _ hw]
 ·rw[ag (Ne.symm np),ag nn,ag (Ne.symm np)];exact f
 ·show (_::_::_++ [pn]).Nodup;rw[F2];refine ⟨j,by simp,?_⟩
  intro u hu v hv;simp only[E9] at hv;subst hv;exact fun z=>hf (z▸hu)
 ·exact fun q ob nq eq=>by
   have q1:q≠pn:=fun z=>by rw[z,hn] at eq;cases eq
   rw[ag q1,ag (fun z=>nq (by simp[z])),ag q1];exact eq
def iM (p st b n:V):List (Str×V):=aJ "names" n (aJ "bars" b (aJ "stands" st (aJ "parts" p [])))
theorem nh {p st b n:V}:(iM p st b n).lookup ("parts" :Str)=some p/\(iM p st b n).lookup ("names" :Str)=some n/\∀m:Str,m∈ [("part" :Str),"learn","known","held"]->(iM p st b n).lookup m=none:=by
 refine ⟨?_,?_,fun m hm=>?_⟩
 ·unfold iM;rw[aH,if_neg (by decide),aH,if_neg (by decide),aH,if_neg (by decide),aH,if_pos rfl]
 ·unfold iM;rw[aH,if_pos rfl]
 ·simp only[EC,Eg,or_false] at hm;unfold iM;rcases hm with rfl|rfl|rfl|rfl<;>(rw[aH,if_neg (by decide),aH,if_neg (by decide),aH,if_neg (by decide),aH,if_neg (by decide)];rfl)
def je (x:Addr) (H H':Hp):Prop:=∀a o,a≠x->H a=some o->H' a=some o
theorem je.trans {x:Addr} {H H' H'':Hp} (h:je x H H') (k:je x H' H''):je x H H'':=fun a o n e=>k a o n (h a o n e)
theorem je.step {x d:Addr} {H:Hp} {o:HO} (o0:HO) (nd:H d=none):je x H (ay (ay H d o0) x o):=fun a ob n e=>by
 rw[ag n,ag (fun z=>by rw[z,nd] at e;cases e)]
 exact e
def jH (C:Addr):Sp:=fun vs H Q _=>∃(x l:Addr) (F:HP) (rows:HJ) (ns xs:HN),vs= [.ref x,.ref l]/\LA C F H x rows ns/\H l=some (.lst (xs.map V.str))/\ns.length+xs.length<=80/\ns.Nodup/\
 ∀(H':Hp) (ms:HN),KF F H H'->LA C F H' x rows ms->ms.Nodup->(∀y,y∈ms↔y∈ns∨y∈xs)->Q .non H'
def rT (K:D9) (C cN cI:Addr):Sp:=fun vs H Q E=>∃(x:Addr) (g o:V) (F:HP) (rows:HJ) (ns:HN) (ps:HK),vs= [.ref x,g,o]/\LA C F H x rows ns/\cC rows ps/\ps.length<=900/\ns.Nodup/\ns.length<=78/\(j6 g∨eY K H g)/\(j6 o∨eY K H o)/\
 (¬(j6 g/\j6 o)->∀H',ax H H'->E (.ref cN) none H')/\
 ∀zg zo,g= .str zg->o= .str zo->Nm zg->Nm zo->
  (Led ps zo zg->∀d l H' c,ax H H'->H' l=some (.lst ((zg::List.dropLast c).map V.str))->H' d=some (.xd [("ring",.ref l)])->Way ps zo zg c->E (.ref cI) (some d) H')/\
  (¬Led ps zo zg->∀F' H' ms,KF F H H'->FG F F' H->LA C F' H' x (aZ rows zg zo) ms->ms.Nodup->(∀y,y∈ms↔y∈ns∨y=zg∨y=zo)->Q .non H')
def gb (ns xs:HN):HN:=xs.foldl cu ns
theorem l7 {z:Str}:∀{xs ns:HN},z∈gb ns xs↔z∈ns∨z∈xs
 | [],_=>by simp[gb]
 |x::xs,ns=>by
  show z∈gb (cu ns x) xs↔_;rw[l7,cL,EC];exact or_assoc
theorem jv:∀{xs ns:HN},ns.Nodup->(gb ns xs).Nodup
 | [],_,h=>h
 |_::xs,_,h=>jv (xs:=xs) (dS h)
theorem qF (ns xs:HN) (y:Str):gb ns (xs++ [y])=cu (gb ns xs) y:=by
 unfold gb;rw[List.foldl_append]
 rfl
theorem l8:∀(xs ns:HN),(gb ns xs).length<=ns.length+xs.length
 | [],_=>E4 _
 |x::xs,ns=>by
  have h:=l8 xs (cu ns x);have:=(dD ns x).2.2;show (gb (cu ns x) xs).length<=_;simp only[Ep]
  lia
end Sw
namespace L2
open PySem PySem.Spec PyProof.Rows
end L2
namespace Sw
open PySem L2 XH
theorem vC {p q n:Int} (f:Fr p q n 1):p=n/\q=1:=by
 have h2:=f.bb;have h3:=f.pos;have h4:=f.same;simp only[Int.natAbs_one] at h2;have e:q=1:=by lia
 subst e;rw[Int.mul_one,Int.mul_one] at h4;exact ⟨h4,rfl⟩
theorem xB {p q c d:Int} (h:p*d=c*q) (d0:0<d) (q0:0<q) (z:0<c):0<p:=by
 have k:=F6 z q0;rw[<-h] at k;exact Int.pos_of_mul_pos_left k d0
end Sw
namespace L2
open PySem PySem.Spec PyProof.Rows
end L2
namespace Sw
open PySem L2 XH
end Sw
namespace So
open PySem PyProof.Rows
section
variable {prog:Program} {w:World} {A:Around} {E:HF} {s:Shared} {κ:KeyKind} {kd:SortKind}
theorem tP (hO:AL prog w A E s κ kd) {a0:List Keyed} {st:SortSt} {Q:Unit->SortSt->Prop} (hk:kindOf st=kd) (hf:failedOf st=none) (hp:pendingOf st= #[]) (ha:(arrOf st).toList=a0) (k0:∀x∈a0,Kd κ x) (h64:a0.length<64)
  (h:∀st',(arrOf st').toList.Perm a0->failedOf st'=none->(arrOf st').toList.Pairwise (Lq κ)->Q () st'):wpS (model prog w) A E s sortRuns' Q st:=by
 have sz:(arrOf st).size=a0.length:=by rw[<-ha];simp
 have mr:minRun' a0.length a0.length 0=a0.length:=by
  cases n:a0.length with
  |zero=>rfl
  |succ m=>
   rw[n] at h64;rw[minRun'_succ,if_pos h64,Nat.add_zero]
 unfold sortRuns';refine j7 ?_;refine wpS_bind (wpS_get ?_);dsimp only;rw[sz];change wpS _ _ _ _ (_>>=_) _ _;have mr':(sortPriv% PySem.Builtin.minRun) a0.length a0.length 0=a0.length:=mr;rw[mr'];refine wpS_bind (wpS_mono (wpS_forRange (I:=fun x c st'=>(x=0/\c=(none,0)/\st'=st)∨(c=(none,a0.length)/\(arrOf st').toList.Perm a0/\failedOf st'=none/\(arrOf st').toList.Pairwise (Lq κ)/\(pendingOf st').size<=1))
  (Q:=fun c st'=>∃lo,c=(none,lo)/\(arrOf st').toList.Perm a0/\failedOf st'=none/\(arrOf st').toList.Pairwise (Lq κ)/\(pendingOf st').size<=1) ?s1 ?e1 (.inl ⟨rfl,rfl,rfl⟩)) ?p1)
 case e1=>
  rintro c st' (⟨h0,rfl,rfl⟩|⟨rfl,z⟩)
  ·have z0:a0= []:=F9 (by lia)
   refine ⟨_,rfl,by rw[ha],hf,by rw[ha,z0];exact List.Pairwise.nil,by rw[hp];decide⟩
  ·exact ⟨_,rfl,z⟩
 case p1=>
  rintro c st' ⟨lo,rfl,p1,p2,p3,p4⟩;try dsimp only
  refine wpS_bind (wpS_mono (wpS_forRange (I:=fun x c st''=>c=(none,())/\st''=st') (Q:=fun c st''=>c=(none,())/\st''=st') ?s4 (fun _ _ z=>z) ⟨rfl,rfl⟩) ?p4)
  case s4=>
   rintro x c st'' _ hx ⟨rfl,rfl⟩;refine wpS_bind (wpS_get ?_);rw[if_pos p4];exact wpS_pure ⟨rfl,rfl⟩
  case p4=>
   rintro c st'' ⟨rfl,rfl⟩;exact wpS_pure (h _ p1 p2 p3)
 case s1=>
  rintro x c st1 _ hx (⟨h0,rfl,rfl⟩|⟨rfl,z⟩)
  ·try dsimp only
   rw[if_neg (by lia)]
   have e0:(arrOf st1).toList= []++a0:=by simpa using ha
   refine wpS_bind (oK hO (P:= []) (R:=a0) hk k0 e0 (by lia) fun st3 X3 S3 kp3 e3 s3 p3 l3=>?_)
   try dsimp only
   have n3:X3.length+S3.length=a0.length:=by rw[<-E8];exact p3.length_eq
   have pe3:pendingOf st3= #[]:=kp3.pend.trans hp
   by_cases cm:X3.length<a0.length
   ·rw[if_pos cm];refine wpS_bind (oJ (wpS_bind (tI hO (P:= []) (D:=X3++S3) (S:= []) (by rw[E8,n3];lia) (kp3.kind.trans hk) (fun x hx=>k0 x (p3.mem_iff.mp hx)) (by rw[Fj];exact e3) l3 (by rw[E8];lia) (by rw[List.take_left];exact s3) fun st4 X4 kp4 e4 s4 p4=>?_)))
    simp only[Bool.not_true,Bool.false_eq_true,if_false];refine wpS_bind (wpS_get ?_);have pe4:pendingOf st4= #[]:=kp4.pend.trans pe3;have e4':(arrOf st4).toList=X4:=by simpa using e4
    split
    ·rename_i q;have q':(pendingOf st4).back?=some _:=q;rw[pe4] at q';cases q'
    ·refine wpS_bind (wpS_modify (wpS_pure (.inr ⟨?_,?_,?_,?_,?_⟩)))
     ·rw[Nat.zero_add,Nat.sub_zero,Nat.min_self]
     ·show (arrOf st4).toList.Perm a0;rw[e4'];exact p4.trans p3
     ·exact kp4.failed.trans (kp3.failed.trans hf)
     ·show (arrOf st4).toList.Pairwise (Lq κ);rw[e4'];exact s4
     ·show ((pendingOf st4).push _).size<=1;rw[pe4];exact E4 1
   ·rw[if_neg cm];refine wpS_bind (wpS_get ?_);have S0:S3= []:=F9 (by lia)
    subst S0;have e3':(arrOf st3).toList=X3:=by simpa using e3
    split
    ·rename_i q;have q':(pendingOf st3).back?=some _:=q;rw[pe3] at q';cases q'
    ·refine wpS_bind (wpS_modify (wpS_pure (.inr ⟨?_,?_,?_,?_,?_⟩)))
     ·have:X3.length=a0.length:=by simpa using n3
      rw[Nat.zero_add,this]
     ·show (arrOf st3).toList.Perm a0;rw[e3']
      simpa using p3
     ·exact kp3.failed.trans hf
     ·show (arrOf st3).toList.Pairwise (Lq κ);rw[e3'];exact s3
     ·show ((pendingOf st3).push _).size<=1;rw[pe3];exact E4 1
  ·try dsimp only
   rw[if_pos (E4 _)];exact wpS_pure ⟨_,rfl,z⟩
end
end So
namespace L2
open PySem PySem.Spec PyProof.Rows XH Sw So
def cB (nm:Addr->Option Str):PyProof.Rows.KeyKind:={PyProof.Rows.strKind with keyOf:=fun v=>match v with| .ref a=>(nm a).map fun y=>y.cps.toList|_=>none}
theorem rV {nm:Addr->Option Str} {v:Value} {k:List Nat} (h:(cB nm).keyOf v=some k):∃a y,v= .ref a/\nm a=some y/\k=y.cps.toList:=by
 cases v with
 |ref a=>
  cases e:nm a with
  |none=>
   have h':((nm a).map fun y=>y.cps.toList)=some k:=h
   rw[e] at h';cases h'
  |some y=>
   have h':((nm a).map fun y=>y.cps.toList)=some k:=h
   rw[e] at h';cases h';exact ⟨a,y,rfl,e,rfl⟩
 |_=>cases h
section
variable {prog:Program} {w:World} {A:Around} {E:HF} {s:Shared}
theorem tQ (M:Model) (h:Heap) (y:Str) (t:Tok):PySem.W.Looks M h (typeOf (.str y t)) (.type "str"):=PySem.W.Looks.of_pure rfl
end
theorem me:∀(as:HP),aT (as.map V.ref) (as.map Value.ref)
 | []=> .nil
 |_::as=> .cons rfl (me as)
theorem tR {α β:Type} {g:α->β} {k:β->α} (hk:∀a,k (g a)=a) {l:List β} {as:List α} (h:l.Perm (as.map g)):∃bs:List α,bs.Perm as/\l=bs.map g:=by
 refine ⟨l.map k,?_,?_⟩
 ·have:=h.map k;rw[Eh] at this;have e:as.map (k ∘ g)=as:=by
   conv=>rhs;rw[<-List.map_id as]
   exact List.map_congr_left fun a _=>hk a
  rw[e] at this;exact this
 ·rw[Eh]
  conv=>lhs;rw[<-List.map_id l]
  refine List.map_congr_left fun x hx=>?_
  obtain ⟨a,_,rfl⟩:=EF.mp (h.mem_iff.mp hx);show g a=g (k (g a));rw[hk]
theorem oW {α β:Type} (g:α->β):∀as:List α,(as.map g).zip (as.map g)=as.map fun a=>(g a,g a)
 | []=>rfl
 |a::as=>by
  have:=oW g as;simp[this]
end L2
namespace Sw
open PySem L2 XH PyProof.Rows
end Sw
namespace L2
open PySem PySem.Spec PyProof.Rows XH Sw
end L2
namespace Sw
open PySem L2 XH PyProof.Rows
end Sw
namespace L2
open PySem PySem.Spec PyProof.Rows XH Sw
theorem qG {cs:HP} {its:HQ} (h:aT (cs.map V.ref) its):its=cs.map Value.ref:=by
 induction cs generalizing its with
 |nil=>cases h;rfl
 |cons c cs ih=>
  cases h with
  |cons r rr=>cases r;rw[ih rr];rfl
theorem kh {X:Cx} {K:D9} (hK:X.K=K):cE X (.builtin "isinstance") (fun xs H Q=>∃(a C:Addr) (dx:HR) (t:Addr) (cs:HP) (b:Bool),xs= [.ref a,.ref t]/\(∃n,H a=some (df n a (.ref C) dx))/\uV H dx/\XI K C/\H t=some (.tup (cs.map V.ref))/\PySem.W.kitAny K (.ref C) (cs.map Value.ref)=some b/\Q (.bl b) H):=by
 subst hK;intro pins s σ H xs us Q I r h;obtain ⟨a,C,dx,t,cs,b,rfl,⟨n,e⟩,d,xi,et,ka,q⟩:=h;obtain ⟨u,w',rfl,e1,e2⟩:=vals2 r;cases e1;cases e2;obtain ⟨_,its,hv,ht⟩:=(show a7 X.prog X.w H s.heap t (.tup (cs.map V.ref)) from I.hok t _ et)
 rw[qG hv] at ht;obtain ⟨⟨oc,od,odt,osl⟩,hg,h1,m,h2⟩:=ht;cases h1;cases h2;exact PySem.W.kia_tup (jY xi) I.kIn (mY I e d) hg ka (fun z=>nomatch z) fun tk=>⟨.bl b,H,I.tok tk,rfl,q⟩
theorem nj {X:Cx} {e:Expr} {ta:TE} {f:Str} {pos:Pos} {K:D9} (hK:X.K=K) (he:PE X e ta) (hb:attributeBase e f X.env (eval e X.env)=eval e X.env):PE X (.Attribute e f pos) (A3 K ta f):=by
 subst hK;exact cp he hb
open So
end L2
namespace Sw
open PySem L2 XH PyProof.Rows
def Lt (z:Str):Prop:=∀c∈sL z,97<=c/\c<=122
theorem Lt.app {x y:Str} (h:Lt x) (k:Lt y):Lt (x++y):=fun c hc=>by
 rw[zF] at hc;rcases EK.mp hc with q|q
 ·exact h c q
 ·exact k c q
theorem Lt.cut {x:Str} (h:Lt x) (lo hi:Option Int):Lt (dN x lo hi):=fun c hc=>by
 have hc':c∈((sL x).drop (HT.dY x.length 0 lo)).take (HT.dY x.length x.length hi-HT.dY x.length 0 lo):=by simpa [sL,dN] using hc
 exact h c (List.mem_of_mem_drop (List.mem_of_mem_take hc'))
theorem Lt.nil:Lt "" :=fun c hc=>by
 have:c∈([]:List Nat):=hc;simp at this
theorem vD {i:Int} (h0:0<=i) (h:i<26):∃c,fw dU.cps.toList i=some c/\97<=c/\c<=122:=by
 obtain ⟨c,hc⟩:=rP h0 h;refine ⟨c,hc,?_⟩;have hm:c∈dU.cps.toList:=by
  unfold fw at hc;obtain ⟨j,_,hj⟩:=FC.mp hc;exact E6 hj
 have e:dU.cps.toList=(List.range 26).map (97+ ·):=by decide
 rw[e] at hm;obtain ⟨k,hk,rfl⟩:=EF.mp hm;have:=List.mem_range.mp hk
 lia
theorem Lt.one {c:Nat} (h:97<=c/\c<=122):Lt ⟨#[c]⟩:=fun d hd=>by
 have:d∈ [c]:=hd;rw[E9.mp this];exact h
theorem iN {x:Str} {i:Int} (h:0<=i):(dN x none (some i)).length=min i.toNat x.length:=by
 have e1:HT.dY x.length 0 none=0:=rfl;have e2:HT.dY x.length x.length (some i)=min i.toNat x.length:=by
  unfold HT.dY;simp;omega
 show ((x.cps.toList.drop _).take _).toArray.size=_;rw[e1,e2,EM,EN,List.length_drop];have:x.cps.toList.length=x.length:=by simp[Str.length]
 lia
theorem xC {x:Str} {i:Int} (h:0<=i):(dN x (some i) none).length=x.length-i.toNat:=by
 have e1:HT.dY x.length 0 (some i)=min i.toNat x.length:=by
  unfold HT.dY;simp;omega
 have e2:HT.dY x.length x.length none=x.length:=rfl;show ((x.cps.toList.drop _).take _).toArray.size=_;rw[e1,e2,EM,EN,List.length_drop];have:x.cps.toList.length=x.length:=by simp[Str.length]
 lia
theorem Lt.nm {z:Str} (h:Lt z) (h1:1<=z.length) (h2:z.length<=12):Nm z:=⟨by rw[m7];exact h1,by rw[m7];exact h2,h⟩
theorem iO:∀{rows:HJ} {x y:Str},(rows.map (·.1)).Nodup->j9 rows x y->aZ rows x y=rows
 | [],x,y,_,⟨_,h,_⟩=>by simp at h
 |(c,ys)::r,x,y,nd,h=>by
  have nd':=EW.mp (show (c::r.map (·.1)).Nodup from nd)
  unfold aZ
  by_cases z:c=x
  ·rw[if_pos z];rcases cM.mp h with ⟨_,q⟩|⟨zs,q,_⟩
   ·have:cu ys y=ys:=by unfold cu;rw[if_pos q]
    rw[this]
   ·exact absurd (EF.mpr ⟨_,q,z.symm⟩) nd'.1
  ·rw[if_neg z];rcases cM.mp h with ⟨e,_⟩|q
   ·exact absurd e z
   ·rw[iO nd'.2 q]
end Sw
namespace Hm
open PySem PySem.SeqAt PySem.MeetsSeq
open PySem.MeetsSeq3
def oX:HN->HN->Bool
 |_,[]=>false
 | [],_::_=>true
 |x::xs,y::ys=>if x=y then oX xs ys else decide (x.cps.toList<y.cps.toList)
end Hm
namespace Wo
open PySem Hm So
def wq (x y:Str):Prop:=x.cps.toList<y.cps.toList
instance (x y:Str):Decidable (wq x y):=inferInstanceAs (Decidable (x.cps.toList<y.cps.toList))
theorem rW {x:Str}:¬wq x x:=List.lt_irrefl _
theorem tS {x y z:Str} (h1:wq x y) (h2:wq y z):wq x z:=List.lt_trans h1 h2
theorem Bz {x y:Str} (h:tN x y) (n:x≠y):wq x y:=by
 refine Classical.byContradiction fun c=>n (kg h ?_)
 exact c
theorem dW (x y:Str) (xs ys:HN):oX (x::xs) (y::ys)=if x=y then oX xs ys else decide (wq x y):=rfl
theorem rX:∀(c:HN),oX c c=false
 | []=>rfl
 |x::c=>by rw[dW,if_pos rfl];exact rX c
theorem mf:∀{a b c:HN},oX a b=true->oX b c=true->oX a c=true
 | [],[],c,h,_=>by cases h
 | [],_::_,[],_,h=>by cases h
 | [],_::_,_::_,_,_=>rfl
 |_::_,[],_,h,_=>by cases h
 |_::_,_::_,[],_,h=>by cases h
 |x::a,y::b,z::c,h1,h2=>by
  rw[dW] at h1 h2⊢
  by_cases e1:x=y
  ·subst e1;rw[if_pos rfl] at h1
   by_cases e2:x=z
   ·subst e2;rw[if_pos rfl] at h2⊢;exact mf h1 h2
   ·rw[if_neg e2] at h2⊢;exact h2
  ·rw[if_neg e1] at h1;have h1:=of_decide_eq_true h1
   by_cases e2:y=z
   ·subst e2;rw[if_neg e1];exact decide_eq_true h1
   ·rw[if_neg e2] at h2;have h2:=of_decide_eq_true h2;have h3:=tS h1 h2;rw[if_neg (fun e=>by subst e;exact rW h3)]
    exact decide_eq_true h3
theorem rY:∀{a b:HN},a.length=b.length->oX a b=true->∀x y,oX (a++ [x]) (b++ [y])=true
 | [],[],_,h,_,_=>by cases h
 | [],_::_,e,_,_,_=>by simp at e
 |_::_,[],e,_,_,_=>by simp at e
 |u::a,v::b,e,h,x,y=>by
  rw[List.cons_append,List.cons_append,dW];rw[dW] at h
  by_cases c:u=v
  ·rw[if_pos c] at h⊢;exact rY (by simpa using e) h x y
  ·rw[if_neg c] at h⊢;exact h
theorem oY:∀(c:HN) {x y:Str},wq x y->oX (c++ [x]) (c++ [y])=true
 | [],x,y,h=>by
  rw[List.nil_append,List.nil_append,dW,if_neg (fun e=>by subst e;exact rW h)]
  exact decide_eq_true h
 |u::c,x,y,h=>by
  rw[List.cons_append,List.cons_append,dW,if_pos rfl];exact oY c h
def nu (c d:HN):Bool:=if c.length≠d.length then decide (c.length<d.length) else oX c d
def cq (c d:HN):Prop:=nu c d=true
theorem dy {c d:HN} (h:c.length<d.length):cq c d:=by
 unfold cq nu;rw[if_pos (by lia)]
 exact decide_eq_true h
theorem dX {c d:HN} (e:c.length=d.length) (h:oX c d=true):cq c d:=by
 unfold cq nu;rw[if_neg (by lia)]
 exact h
theorem gh {c d:HN} (h:cq c d):c.length<d.length∨c.length=d.length/\oX c d=true:=by
 unfold cq nu at h
 by_cases e:c.length=d.length
 ·rw[if_neg (by lia)] at h
  exact .inr ⟨e,h⟩
 ·rw[if_pos e] at h;exact .inl (of_decide_eq_true h)
theorem cq.le {c d:HN} (h:cq c d):c.length<=d.length:=by rcases gh h with z|z<;>lia
theorem cq.trans {a b c:HN} (h1:cq a b) (h2:cq b c):cq a c:=by
 rcases gh h1 with z|⟨e,z⟩
 ·exact dy (by have:=h2.le;lia)
 ·rcases gh h2 with y|⟨f,y⟩
  ·exact dy (by lia)
  ·exact dX (by lia) (mf z y)
theorem cq.irr {a:HN} (h:cq a a):False:=by
 rcases gh h with z|⟨e,z⟩
 ·lia
 ·rw[rX] at z;cases z
theorem cq.app {c d:HN} (h:cq c d) (x y:Str):cq (c++ [x]) (d++ [y]):=by
 rcases gh h with z|⟨e,z⟩
 ·exact dy (by rw[E8,E8];simp;exact z)
 ·exact dX (by rw[E8,E8,e];rfl) (rY e z x y)
theorem qH (c:HN) {x y:Str} (h:wq x y):cq (c++ [x]) (c++ [y]):=dX (by rw[E8,E8];rfl) (oY c h)
def aI (c:HN):Str:=c.getLastD ""
theorem bP (c:HN) (x:Str):aI (c++ [x])=x:=by unfold aI;rw[List.getLastD_concat]
structure fO (R:Str->Str->Prop) (good:Str) (cs:List HN) (i:Nat) (S:Str->Prop):Prop where
 first:cs[0]?=some [good]
 from_:∀(k:Nat) (d:HN),0<k->cs[k]?=some d->∃(j:Nat) (c:HN) (x:Str),j<k/\j<=i/\cs[j]?=some c/\d=c++ [x]/\R (aI c) x/\(j=i->S x)
 nd:(cs.map aI).Nodup
 rise:∀(k:Nat) (c d:HN),cs[k]?=some c->cs[k+1]?=some d->cq c d
 shut:∀(j:Nat) (c:HN) (x:Str),j<i->cs[j]?=some c->R (aI c) x->∃(k:Nat) (d:HN),cs[k]?=some d/\aI d=x/\¬cq (c++ [x]) d
 now:∀(c:HN) (x:Str),cs[i]?=some c->S x->∃(k:Nat) (d:HN),cs[k]?=some d/\aI d=x/\¬cq (c++ [x]) d
theorem fO.pair {R:Str->Str->Prop} {good:Str} {cs:List HN} {i:Nat} {S:Str->Prop} (h:fO R good cs i S):∀(n k:Nat) (c d:HN),cs[k]?=some c->cs[k+1+n]?=some d->cq c d
 |0,k,c,d,h1,h2=>h.rise k c d h1 h2
 |n+1,k,c,d,h1,h2=>by
  have l:=(E2.mp h2).1;have e:=E1 (show k+1+n<cs.length by lia)
  exact (h.pair n k c _ h1 e).trans (h.rise _ _ d e h2)
theorem fO.lt {R:Str->Str->Prop} {good:Str} {cs:List HN} {i:Nat} {S:Str->Prop} (h:fO R good cs i S) {j k:Nat} {c d:HN} (hj:cs[j]?=some c) (hk:cs[k]?=some d) (l:j<k):cq c d:=by
 obtain ⟨n,rfl⟩:∃n,k=j+1+n:=⟨k-j-1,by lia⟩
 exact h.pair n j c d hj hk
theorem fO.ne {R:Str->Str->Prop} {good:Str} {cs:List HN} {i:Nat} {S:Str->Prop} (h:fO R good cs i S) {k:Nat} {d:HN} (hk:cs[k]?=some d):d≠ []:=by
 rcases FQ k with e|e
 ·subst e;rw[h.first] at hk;cases hk;exact nofun
 ·obtain ⟨j,c,x,_,_,_,rfl,_⟩:=h.from_ k d e hk;simp
theorem fO.long {R:Str->Str->Prop} {good:Str} {cs:List HN} {i:Nat} {S:Str->Prop} (h:fO R good cs i S):∀(k:Nat) (d:HN),cs[k]?=some d->d.length<=k+1:=by
 intro k
 induction k using Nat.strongRecOn with
 |ind k ih=>
  intro d hk;rcases FQ k with e|e
  ·subst e;rw[h.first] at hk;cases hk;exact E4 _
  ·obtain ⟨j,c,x,l,_,hj,rfl,_⟩:=h.from_ k d e hk;have:=ih j l c hj;rw[E8,EJ]
   lia
theorem fO.start {R:Str->Str->Prop} {good:Str}:fO R good [[good]] 0 (fun _=>False) where
 first:=rfl
 from_:=fun k d k0 hk=>by
  rw[Ew (by simp;lia)] at hk
  cases hk
 nd:=by simp
 rise:=fun k c d _ h=>by
  rw[Ew (by simp)] at h
  cases h
 shut:=fun j c x hj=>absurd hj (FD _)
 now:=fun c x _ h=>h.elim
theorem fO.seen {R:Str->Str->Prop} {good:Str} {cs:List HN} {i:Nat} {S:Str->Prop} (h:fO R good cs i S) {x:Str} {c:HN} (hi:cs[i]?=some c) (hx:x∈cs.map aI):fO R good cs i (fun y=>S y∨y=x) where
 first:=h.first
 from_:=fun k d k0 hk=>by
  obtain ⟨j,c,y,a1,a2,a3,a4,a5,a6⟩:=h.from_ k d k0 hk;exact ⟨j,c,y,a1,a2,a3,a4,a5,fun e=> .inl (a6 e)⟩
 nd:=h.nd
 rise:=h.rise
 shut:=h.shut
 now:=fun c' y hc hy=>by
  rcases hy with hy|rfl
  ·exact h.now c' y hc hy
  ·rw[hi] at hc;cases hc;obtain ⟨d,hd,e⟩:=EF.mp hx;obtain ⟨k,hk⟩:=EH.mp hd;refine ⟨k,d,hk,e,fun a=>?_⟩
   have c1:=FN.mpr (h.ne hi);rcases FQ k with z|z
   ·subst z;rw[h.first] at hk;cases hk;have:=a.le;rw[E8,EJ,EJ] at this
    lia
   ·obtain ⟨j,b,u,_,ji,hj,rfl,_⟩:=h.from_ k d z hk;rw[bP] at e;subst e;rcases Nat.lt_or_eq_of_le ji with l|rfl
    ·exact (a.trans ((h.lt hj hi l).app u u)).irr
    ·rw[hi] at hj;cases hj;exact a.irr
theorem fO.more {R:Str->Str->Prop} {good:Str} {cs:List HN} {i:Nat} {S:Str->Prop} (h:fO R good cs i S) {x:Str} {c:HN} (hi:cs[i]?=some c) (hx:x∉cs.map aI) (r:R (aI c) x) (hS:∀y,S y->y≠x->wq y x):fO R good (cs++ [c++ [x]]) i (fun y=>S y∨y=x):=by
 have il:=(E2.mp hi).1;have at_:∀{k:Nat} {d:HN},cs[k]?=some d->(cs++ [c++ [x]])[k]?=some d:=fun {k d} e=>by
  rw[E5 (E2.mp e).1];exact e
 have or_:∀{k:Nat} {d:HN},(cs++ [c++ [x]])[k]?=some d->cs[k]?=some d∨(k=cs.length/\d=c++ [x]):=fun {k d} e=>by
  rcases Nat.lt_or_ge k cs.length with l|l
  ·rw[E5 l] at e;exact .inl e
  ·have kl:=(E2.mp e).1;rw[E8,EJ] at kl;have:k=cs.length:=by lia
   subst this;rw[E7 (E4 _),FE] at e;cases e;exact .inr ⟨rfl,rfl⟩
 have c1:=FN.mpr (h.ne hi);refine ⟨at_ h.first,fun k d k0 hk=>?_,?_,fun k b d h1 h2=>?_,fun j b y hj hb hr=>?_,fun b y hb hy=>?_⟩
 ·rcases or_ hk with hk|⟨rfl,rfl⟩
  ·obtain ⟨j,b,y,a1,a2,a3,a4,a5,a6⟩:=h.from_ k d k0 hk;exact ⟨j,b,y,a1,a2,at_ a3,a4,a5,fun e=> .inl (a6 e)⟩
  ·exact ⟨i,c,x,il,E4 _,at_ hi,rfl,r,fun _=> .inr rfl⟩
 ·rw[Ed,List.map_singleton,bP,F2];refine ⟨h.nd,by simp,fun a ha b hb=>?_⟩
  rw[E9.mp hb];intro z;subst z;exact hx ha
 ·rcases or_ h2 with h2'|⟨e,rfl⟩
  ·have kl:=(E2.mp h2').1;rw[E5 (by lia)] at h1
   exact h.rise k b d h1 h2'
  ·rw[E5 (by lia)] at h1
   rcases FQ k with z|z
   ·subst z;rw[h.first] at h1;cases h1;refine dy ?_;rw[E8,EJ,EJ]
    lia
   ·obtain ⟨j,b',u,_,ji,hj,rfl,_,hu⟩:=h.from_ k b z h1;rcases Nat.lt_or_eq_of_le ji with l|rfl
    ·exact (h.lt hj hi l).app u x
    ·rw[hi] at hj;cases hj;refine qH c (hS u (hu rfl) fun z=>hx ?_)
     subst z;exact EF.mpr ⟨_,E6 h1,bP _ _⟩
 ·have bl:j<cs.length:=by lia
  rw[E5 bl] at hb;obtain ⟨k,d,a1,a2⟩:=h.shut j b y hj hb hr;exact ⟨k,d,at_ a1,a2⟩
 ·rw[E5 il,hi] at hb;cases hb;rcases hy with hy|rfl
  ·obtain ⟨k,d,a1,a2⟩:=h.now c y hi hy;exact ⟨k,d,at_ a1,a2⟩
  ·refine ⟨cs.length,c++ [y],?_,bP _ _,fun a=>a.irr⟩
   rw[E7 (E4 _),FE]
   rfl
theorem fO.next {R:Str->Str->Prop} {good:Str} {cs:List HN} {i:Nat} {S:Str->Prop} (h:fO R good cs i S) {c:HN} (hi:cs[i]?=some c) (all:∀y,R (aI c) y->S y):fO R good cs (i+1) (fun _=>False) where
 first:=h.first
 from_:=fun k d k0 hk=>by
  obtain ⟨j,b,y,a1,a2,a3,a4,a5,_⟩:=h.from_ k d k0 hk;exact ⟨j,b,y,a1,by lia,a3,a4,a5,fun e=>absurd e (by lia)⟩
 nd:=h.nd
 rise:=h.rise
 shut:=fun j b x hj hb hr=>by
  rcases ER.mp hj with l|rfl
  ·exact h.shut j b x l hb hr
  ·rw[hi] at hb;cases hb;exact h.now _ x hi (all x hr)
 now:=fun _ _ _ z=>z.elim
theorem e9:∀{l m:HN},l.Nodup->(∀x∈l,x∈m)->l.length<=m.length
 | [],m,_,_=>EO _
 |x::l,m,nd,sub=>by
  have hx:=sub x F7;have nd':=EW.mp nd;have:=e9 (m:=m.erase x) nd'.2 fun y hy=>(List.mem_erase_of_ne (a:=y) (b:=x) (fun e=>nd'.1 (by rw[<-e];exact hy))).mpr (sub y (Ea _ hy))
  rw[List.length_erase_of_mem hx] at this;have p:=List.length_pos_of_mem hx;rw[Ep]
  lia
theorem fO.few {R:Str->Str->Prop} {good:Str} {cs:List HN} {i:Nat} {S:Str->Prop} (h:fO R good cs i S) {U:HN} (hU:∀x y,R x y->y∈U):cs.length<=U.length+1:=by
 have:=e9 (m:=good::U) h.nd fun x hx=>by
  obtain ⟨d,hd,e⟩:=EF.mp hx;obtain ⟨k,hk⟩:=EH.mp hd;rcases FQ k with z|z
  ·subst z;rw[h.first] at hk;cases hk;rw[<-e];exact F7
  ·obtain ⟨j,c,y,_,_,_,rfl,r,_⟩:=h.from_ k d z hk;rw[bP] at e;subst e;exact Ea _ (hU _ _ r)
 rw[E3] at this;exact this
end Wo
namespace L2
open PySem PySem.Spec PyProof.Rows XH
section
variable {prog:Program} {w:World} {A:Around} {E:HF} {s:Shared}
def xD (h:Heap) (d:Addr) (es:Array DictEntry) (ep:Nat):Prop:=∃o,h.get? d=some o/\o.ExactDict/\o.data= .dict es ep
theorem vE {d:Addr} {es:Array DictEntry} {ep:Nat} {Q:HF} (hd:(d==sysModules)=false) (hm:xD s.heap d es ep)
  (hQ:Q (.ref s.heap.objs.size) {s with heap:=s.heap.push {cls:= .type "dict_keyiterator",data:= .fields #[.ref d,.int 0 0,.int es.size 0,.int ep 0]}}):
  wpAny (model prog w) A (pyIter (.ref d)) Q E s:=by
 obtain ⟨o,ho,hc,hdat⟩:=hm;have hT:s.TypeIs (.ref d) "dict" :=⟨o,ho,hc.1⟩;refine wpAny_pyIter_slot hT F.slot_dict_iter (wpAny_call_entry F.slot_dict_iter hT F.entry_dict_iter (wpAny_bind (wpAny_bind (wpAny_notOrdered_dict hT (wpAny_pure ?_)))) (F.args_dict_iter_1 _));refine (show wpAny _ _ (Builtin.Dict.showsAll d>>=_) _ _ s from ?_)
 have sh:Builtin.Dict.showsAll d=pure ():=by unfold Builtin.Dict.showsAll;rw[hd];rfl
 rw[sh];refine wpAny_bind (wpAny_pure (wpAny_bind (wpAny_dictEntries ho hdat (wpAny_bind (wpAny_dictEpoch ho hdat (wpAny_bind (wpAny_newObj_type (wpAny_pure ⟨_,rfl,"dict_keyiterator",_,⟨_,Heap.get?_push_size _ rfl,rfl⟩,F.slot_dict_keyiterator_next.lookup,?_⟩))))))))
 simpa [rawInt] using hQ
theorem vF {it d:Addr} {i ep:Nat} {es:Array DictEntry} {Q:HS->Shared->Prop} (hi:i<es.size) (hit:s.heap.IsKeyIter it d i es.size ep) (hm:xD s.heap d es ep)
  (hQ:∀h',h'.IsKeyIter it d (i+1) es.size ep->Heap.SameBut it s.heap h'->Q (some es[i].key) {s with heap:=h'}):wpAny (model prog w) A (pyNext (.ref it)) Q E s:=by
 obtain ⟨o,ho,hc,hd⟩:=id hit;obtain ⟨od,hod,hcd,hdd⟩:=hm;have ty:=hit.typeIs;unfold pyNext;refine wpAny_bind (wpAny_attempt (wpAny_callSpecial?_slot (name:=Str.ofString "__next__") ty F.slot_dict_keyiterator_next (wpAny_call_entry F.slot_dict_keyiterator_next ty F.entry_dict_keyiterator_next ?_ (F.args_dict_keyiterator_next_1 _))));refine wpAny_bind (wpAny_pure (wpAny_bind (wpAny_bind ?_)));refine wpAny_bind (wpAny_typeNameOfWhole_keyiter ty (wpAny_pure (wpAny_bind (wpAny_fieldsOf ho hd ?_))));have own:Builtin.Dict_items.ownsTuple "dict_keyiterator" =false:=by decide
 rw[own];refine (show wpAny _ _ (if (Value.ref d==Value.none)=true then _ else _) _ _ s from ?_)
 rw[if_neg (EL:¬((Value.ref d==Value.none)=true))];refine wpAny_bind (wpAny_pure (wpAny_bind (wpAny_dictEntries hod hdd ?_)));rw[if_neg (by simp)]
 refine wpAny_bind (wpAny_pure (wpAny_bind (wpAny_dictEpoch hod hdd ?_)));rw[if_neg (by simp)]
 refine wpAny_pure ?_;have n0:¬((i:Int)<0):=by lia
 simp only[n0,if_false,Int.toNat_natCast,Fd hi];refine wpAny_bind (wpAny_bind (wpAny_typeNameOfWhole_keyiter ty (wpAny_pure (wpAny_bind (wpAny_isOneOf_keyiter ty ?_)))));refine (show wpAny _ _ (setField (.ref it) 1 (rawInt ((i:Int)+1))>>=_) _ _ s from wpAny_bind (wpAny_setField ho hd (by simp) ?_))
 have hit':(s.heap.update it (Obj.mapFields (·.setIfInBounds 1 (rawInt ((i:Int)+1))))).IsKeyIter it d (i+1) es.size ep:=⟨_,Heap.get?_update_self _ ho (Obj.isFreed_of_fields (Obj.data_mapFields hd _)),(Obj.cls_mapFields ..).trans hc,by rw[Obj.data_mapFields hd];simp[rawInt]⟩
 refine wpAny_bind (wpAny_holding (wpAny_bind (wpAny_isOneOf_keyiter (s:={s with heap:=s.heap.update it _}) hit'.typeIs ?_)))
 exact (show wpAny _ _ (pure es[i].key) _ _ _ from wpAny_pure (wpAny_pure ⟨_,rfl,wpAny_pure (hQ _ hit' (Heap.SameBut.update ..))⟩))
theorem xE {it d:Addr} {ep:Nat} {es:Array DictEntry} {Q:HS->Shared->Prop} (hh:A.handled=none) (hit:s.heap.IsKeyIter it d es.size es.size ep) (hm:xD s.heap d es ep)
  (hQ:∀h',Heap.ExtBut it s.heap h'->Q none {s with heap:=h'}):wpAny (model prog w) A (pyNext (.ref it)) Q E s:=by
 obtain ⟨o,ho,hc,hd⟩:=id hit;obtain ⟨od,hod,hcd,hdd⟩:=hm;have ty:=hit.typeIs;unfold pyNext;refine wpAny_bind (wpAny_attempt (wpAny_callSpecial?_slot (name:=Str.ofString "__next__") ty F.slot_dict_keyiterator_next (wpAny_call_entry F.slot_dict_keyiterator_next ty F.entry_dict_keyiterator_next ?_ (F.args_dict_keyiterator_next_1 _))));refine wpAny_bind (wpAny_pure (wpAny_bind (wpAny_bind ?_)));refine wpAny_bind (wpAny_typeNameOfWhole_keyiter ty (wpAny_pure (wpAny_bind (wpAny_fieldsOf ho hd ?_))));have own:Builtin.Dict_items.ownsTuple "dict_keyiterator" =false:=by decide
 rw[own];refine (show wpAny _ _ (if (Value.ref d==Value.none)=true then _ else _) _ _ s from ?_)
 rw[if_neg (EL:¬((Value.ref d==Value.none)=true))];refine wpAny_bind (wpAny_pure (wpAny_bind (wpAny_dictEntries hod hdd ?_)));rw[if_neg (by simp)]
 refine wpAny_bind (wpAny_pure (wpAny_bind (wpAny_dictEpoch hod hdd ?_)));rw[if_neg (by simp)]
 refine wpAny_pure ?_;have n0:¬((es.size:Int)<0):=by lia
 simp only[n0,if_false,Int.toNat_natCast,Array.getElem?_eq_none (E4 _)];refine wpAny_bind (wpAny_bind (wpAny_typeNameOfWhole_keyiter ty (wpAny_pure ?_)));refine (show wpAny _ _ (setField (.ref it) 0 .none>>=_) _ _ s from wpAny_bind (wpAny_setField ho hd (by simp) ?_))
 refine (show wpAny _ _ (newExc (.type "StopIteration") []>>=_) _ _ _ from wpAny_bind ?_)
 simp only[newExc,newTuple];refine wpAny_bind (wpAny_newObj_type ?_ (by size_fits))
 refine wpAny_bind (m:=firstArgMember _ _) (wpAny_of_eq (a:=Value.none) (by first|rfl|(simp only[firstArgMember];rfl)) ?_)
 refine wpAny_newObj_type ?_ (by size_fits)
 simp only[raiseNew];refine wpAny_bind (wpAny_handled ?_);have hn:A.in1.handled=none:=hh;rw[hn];refine wpAny_bind (wpAny_pure (wpAny_throw ?_));refine wpAny_bind (wpAny_isInstance (T:= "StopIteration") (b:=true) ⟨_,Heap.get?_push_size _ rfl,rfl⟩ isSubtype_stop ?_);exact wpAny_pure (hQ _ (((Heap.SameBut.update ..).extBut.push _).push _))
end
def vG (a:Addr) (o:Obj) (kvs:List (List Key×V)):It:=
 ⟨fun i H=>H a=some (.frz o (.dT kvs))/\i<kvs.length,fun i H v H'=>H'=H/\∃k x b,kvs[i]?=some (k,x)/\v= .ref b/\H b=some (.tup (k.map kV)),fun i H=>H a=some (.frz o (.dT kvs))/\i=kvs.length⟩
theorem ki {α β:Type} {R:α->β->Prop}:∀{xs:List α} {ys:List β},Paired R xs ys->∀(i:Nat) {x:α},xs[i]?=some x->∃y,ys[i]?=some y/\R x y
 |_,_,.nil,i,x,h=>nomatch h
 |_,_,.cons r t,0,x,h=>by cases h;exact ⟨_,rfl,r⟩
 |_,_,.cons r t,i+1,x,h=>ki t i (by simpa using h)
theorem mh {X:Cx} {pins:HL} {σ:St} {H:Hp} {s:Shared} {a:Addr} {o:Obj} {kvs:List (List Key×V)} {es:Array DictEntry} {ep:Nat} (I:aE X pins σ H s) (h:H a=some (.frz o (.dT kvs))) (hd:o.data= .dict es ep):
  xD s.heap a es ep/\es.size=kvs.length/\∀(i:Nat) (k:List Key) (x:V),kvs[i]?=some (k,x)->∃(b:Addr) (e:DictEntry),es[i]?=some e/\e.key=Value.ref b/\H b=some (.tup (k.map kV)):=by
 obtain ⟨ho,z,y,xs,rel,ob,es',ep',e,c,d,l,_⟩:=(show a7 X.prog X.w H s.heap a (.frz o (.dT kvs)) from I.hok a _ h)
 rw[ho] at e;cases e;rw[hd] at d;cases d;refine ⟨⟨o,ho,c,hd⟩,?_,fun i k x hk=>?_⟩
 ·rw[<-Ez,l,E3,rel.length]
 ·obtain ⟨q,hq,q1,q2,_⟩:=ki rel i hk;refine ⟨q.2.1,entryOfKey (tupleKind (bg X.prog X.w)) q,?_,rfl,q2⟩;rw[<-Em,l,EA,hq]
  rfl
theorem qI {P:Program} {w:World} {K:D9} {tg:Expr} (it a:Addr) (o:Obj) (kvs:List (List Key×V)) {es0:Array DictEntry} {ep:Nat} (hd:o.data= .dict es0 ep):Turn P w K tg (vG a o kvs) [it] it (fun i h=>h.IsKeyIter it a i kvs.length ep) where
 mem:=by simp
 obj:=fun i h st b hb=>by
  have e:b=it:=by simpa using hb
  subst e;obtain ⟨o,e,c,d⟩:=st;exact ⟨o,e,fun v z=>by rw[d] at z;cases z⟩
 keep:=fun i h h' st k=>by
  obtain ⟨o,e,c,d⟩:=st;exact ⟨o,k it (by simp) o e,c,d⟩
 item:=by
  intro X hP hw hK hc i pins s σ H E I hf st hg;subst hP hw hK;obtain ⟨f0,f1,f2,f3,f4,f5⟩:=hf it (by simp)
  obtain ⟨hz,hlt⟩:=hg;obtain ⟨D,sz,at_⟩:=mh I hz hd;obtain ⟨⟨k,x⟩,hx⟩:∃p,kvs[i]?=some p:=⟨kvs[i],E1 hlt⟩;obtain ⟨b,e,he,ek,hb⟩:=at_ i k x hx;rw[<-sz] at st;have il:i<es0.size:=by lia
  refine vF il st D fun h' hit' hs'=>?_
  rw[sz] at hit';have I1:aE X pins σ H {s with heap:=h',toks:=s.toks}:=I.turned (fun b ob hb e=>hs'.extBut b ob hb e) f0 f1 f3 f4 f5
  obtain ⟨oi,ei,ci,di⟩:=id hit';have ee:es0[i].key= .ref b:=by
   rw[Fd il] at he;cases he;exact ek
  rw[ee];exact ⟨_,rfl,lq (s:={s with heap:=h'}) (n:= "dict_keyiterator") ei ci di (by decide) ⟨.ref b,H,I1,rfl,⟨rfl,k,x,b,hx,rfl,hb⟩,hit',fun b hb=>(hf b hb).1⟩⟩
 done:=by
  intro X hP hw hK hc i pins s σ H E I hf st hg;subst hP hw hK;obtain ⟨f0,f1,f2,f3,f4,f5⟩:=hf it (by simp)
  obtain ⟨hz,rfl⟩:=hg;obtain ⟨D,sz,_⟩:=mh I hz hd;rw[<-sz] at st;refine xE (I.ok.hd hc) st D fun h' he'=>⟨rfl,I.turned (t':=s.toks) (fun b ob hb e=>he' b ob hb e) f0 f1 f3 f4 f5⟩
 self:=fun _ _ _ _ _ st h=>wpAny_pyIter_keyiter st h
theorem aE.nfT {X:Cx} {pins:HL} {σ:St} {H:Hp} {s:Shared} {a:Addr} {kvs:List (List Key×V)} (I:aE X pins σ H s) (h:H a=some (.dT kvs)):NF X a:=fun o u e=>by
 have:=I.base.frzs a o u e;rw[h] at this;cases this
theorem aE.freezeT {X:Cx} {pins:HL} {σ:St} {H:Hp} {s:Shared} {a:Addr} {kvs:List (List Key×V)} {o:Obj} (I:aE X pins σ H s) (h:H a=some (.dT kvs)) (ho:s.heap.get? a=some o):aE X pins σ (ay H a (.frz o (.dT kvs))) s:=by
 have ne:∀{b:Addr} {u:HO},H b=some u->(∀v,u≠ .dT v)->b≠a:=fun {b u} q n z=>by subst z;rw[h] at q;cases q;exact n _ rfl
 have nn:∀{b:Addr},H b=none->b≠a:=fun {b} q z=>by subst z;rw[h] at q;cases q
 refine I.un (H':=ay H a (.frz o (.dT kvs))) (h':=s.heap) (t':=s.toks) ⟨fun b ob q n _ _=>q,fun b ob q n _ _=>⟨ob.slots,q⟩,fun b ob q n _=>?_,fun b ob q _=>⟨ob,q⟩,fun b xs q=>?_,fun b ob u q=>?_,fun b ps q=>⟨#[],?_⟩⟩ ?_
 ·rw[ag (nn n)];exact n
 ·rw[ag (ne q fun _ z=>nomatch z)];exact q
 ·rw[ag (ne q fun _ z=>nomatch z)];exact q
 ·rw[ag (ne q fun _ z=>nomatch z),q];simp
 ·intro b u q
  by_cases hb:b=a
  ·subst hb;rw[ac] at q;cases q;exact ⟨ho,(I.hok b _ h).stay (fun _ _ _ q=>q) (fun c q=>by rw[ag (ne q fun _ z=>nomatch z)];exact q) fun c xs q=>by rw[ag (ne q fun _ z=>nomatch z)];exact q⟩
  ·rw[ag hb] at q;exact (I.hok b _ q).stay (fun _ _ _ q=>q) (fun c q=>by rw[ag (ne q fun _ z=>nomatch z)];exact q) fun c xs q=>by rw[ag (ne q fun _ z=>nomatch z)];exact q
theorem aE.thawT {X:Cx} {pins:HL} {σ:St} {H:Hp} {s:Shared} {a:Addr} {kvs:List (List Key×V)} {o:Obj} (I:aE X pins σ H s) (h:H a=some (.frz o (.dT kvs))) (nf:NF X a):aE X pins σ (ay H a (.dT kvs)) s:=by
 have hn:∀{b:Addr} {u:HO},H b=some u->(∀o' v,u≠ .frz o' v)->ay H a (.dT kvs) b=some u:=fun {b u} q n=>by
  rw[ag (fun z=>by subst z;rw[h] at q;cases q;exact n _ _ rfl)];exact q
 have hf:∀{b:Addr},H b=none->ay H a (.dT kvs) b=none:=fun {b} n=>by
  rw[ag (fun z=>by subst z;rw[h] at n;cases n)];exact n
 refine ⟨I.ok,I.os,I.bare,⟨I.base.keep,I.base.slot,fun b ob q n hx=>hf (I.base.free b ob q n hx),I.base.there,fun b xs q=>hn (I.base.tups b xs q) (fun _ _ z=>nomatch z),fun b ob u q=>?_,fun b ps q=>?_⟩,I.loc,I.cell,hf I.free,fun y c e=>hf (I.freeC y c e),fun p hp=>?_,?_,I.len⟩
 ·have q':=I.base.frzs b ob u q;rw[ag (fun z=>by subst z;exact nf _ _ q)]
  exact q'
 ·obtain ⟨more,q'⟩:=I.base.tbls b ps q;exact ⟨more,hn q' (fun _ _ z=>nomatch z)⟩
 ·obtain ⟨p1,p2,p3⟩:=I.pin p hp;exact ⟨p1,hf p2,p3⟩
 ·intro b u q
  by_cases hb:b=a
  ·subst hb;rw[ac] at q;cases q;obtain ⟨_,q2⟩:=(show a7 X.prog X.w H s.heap b (.frz o (.dT kvs)) from I.hok b _ h)
   exact a7.stay (o:= .dT kvs) q2 (fun _ _ _ q=>q) (fun c q=>hn q (fun _ _ z=>nomatch z)) fun c xs q=>hn q (fun _ _ z=>nomatch z)
  ·rw[ag hb] at q;exact (I.hok b _ q).stay (fun _ _ _ q=>q) (fun c q=>hn q (fun _ _ z=>nomatch z)) fun c xs q=>hn q (fun _ _ z=>nomatch z)
def zP (X:Cx) (tl:TE):TI:=fun σ H R=>tl σ H fun x H1=>∃a kvs,x= .ref a/\H1 a=some (.dT kvs)/\∀o,NF X a->R (vG a o kvs) (ay H1 a (.frz o (.dT kvs)))
variable {X:Cx} {tg:Expr}
theorem vH {l:Expr} {tl:TE} (hl:PE X l tl):PI X tg l (zP X tl):=by
 intro pins s σ H R I h;refine bu (hl pins s σ H _ I h) fun v s1 ⟨x,H1,I1,r1,q1⟩=>?_
 obtain ⟨a,kvs,rfl,hk,q⟩:=q1;cases r1;obtain ⟨z,y,xs,rel,ob,es,ep,e,c,d,l,_⟩:=(show a7 X.prog X.w H1 s1.heap a (.dT kvs) from I1.hok a _ hk)
 have I2:=I1.freezeT hk e;have sz:es.size=kvs.length:=by rw[<-Ez,l,E3,rel.length]
 refine vE y ⟨ob,e,c,d⟩ ?_;refine ⟨s1.heap.objs.size,[s1.heap.objs.size],_,_,_,rfl,I2.kept (t':=s1.toks) fun b o e=>Heap.get?_push_of_some _ e,qI _ a ob kvs d,⟨_,Heap.get?_push_size _ rfl,rfl,by rw[sz];rfl⟩,fun b hb=>?_,q ob (I1.nfT hk)⟩
 have e:b=s1.heap.objs.size:=by simpa using hb
 subst e;exact I2.fpOk (E4 _) (I2.hok.fresh (E4 _))
def xF (X:Cx) (P:Hp->Prop) (H:Hp):Prop:=∃a o kvs,H a=some (.frz o (.dT kvs))/\NF X a/\P (ay H a (.dT kvs))
def BA (X:Cx) (D:Ends):Ends:={nx:=fun σ=>xF X (D.nx σ),bk:=fun σ=>xF X (D.bk σ),ct:=fun σ=>xF X (D.ct σ),rt:=fun v=>xF X (D.rt v)}
theorem xG {X:Cx} {st:Stmt} {t:TS} (h:PS X st t):PS X st (fun D σ H=>t (BA X D) σ H):=by
 intro pins s σ H D I q;refine bu (h pins s σ H _ I q) fun f s1 q1=>?_
 cases f with
 |next=>
  obtain ⟨σ',H',I',a,o,kvs,e,nf,p⟩:=q1;exact ⟨σ',_,I'.thawT e nf,p⟩
 |brk=>
  obtain ⟨σ',H',I',a,o,kvs,e,nf,p⟩:=q1;exact ⟨σ',_,I'.thawT e nf,p⟩
 |cont=>
  obtain ⟨σ',H',I',a,o,kvs,e,nf,p⟩:=q1;exact ⟨σ',_,I'.thawT e nf,p⟩
 |ret u=>
  obtain ⟨v,σ',H',I',r,a,o,kvs,e,nf,p⟩:=q1;exact ⟨v,σ',_,I'.thawT e nf,r,p⟩
theorem tT {a:Addr} {o:Obj} {kvs:List (List Key×V)} {g:TG} {tb:TS} {D:Ends} {σ:St} {H:Hp} (Pv:Nat->St->Hp->Prop) (h0:Pv 0 σ H) (hz:∀i σ H,i<=kvs.length->Pv i σ H->H a=some (.frz o (.dT kvs)))
  (hs:∀i k x b σ H,kvs[i]?=some (k,x)->H b=some (.tup (k.map kV))->Pv i σ H->g (.ref b) σ H fun σ2 H2=>tb {D with nx:=Pv (i+1),ct:=Pv (i+1),bk:=D.nx} σ2 H2) (hd:∀σ H,Pv kvs.length σ H->D.nx σ H):
  ∃W:Nat->Nat->St->Hp->Prop,(∃m,W 0 m σ H)/\∀i m σ H,W i m σ H->
   ((vG a o kvs).stop i H/\D.nx σ H)∨((vG a o kvs).go i H/\∃N:St->Hp->Prop,(∀σ' H',N σ' H'->∃m',m'<m/\W (i+1) m' σ' H')/\∀x H',(vG a o kvs).yld i H x H'->g x σ H' fun σ2 H2=>tb {D with nx:=N,ct:=N,bk:=D.nx} σ2 H2):=by
 refine ⟨fun i m σ H=>m=kvs.length-i/\i<=kvs.length/\Pv i σ H,⟨kvs.length,by simp,EO _,h0⟩,?_⟩
 rintro i m σ H ⟨rfl,hi,p⟩
 by_cases hlt:i<kvs.length
 ·refine .inr ⟨⟨hz i σ H hi p,hlt⟩,Pv (i+1),fun σ' H' p'=>⟨kvs.length-(i+1),by lia,rfl,hlt,p'⟩,fun x H' y=>?_⟩
  obtain ⟨e,k,v,b,hk,rfl,hb⟩:=y;subst e;exact hs i k v b σ _ hk hb p
 ·have e:i=kvs.length:=by lia
  subst e;exact .inl ⟨⟨hz _ σ H hi p,rfl⟩,hd σ H p⟩
open Hm
theorem vI {H H':Hp} {l:Addr} {u v:HO} (h:H l=some u) (g:ax (ay H l v) H'):ax H (ay H' l u):=fun b o q=>by
 by_cases e:b=l
 ·subst e;rw[h] at q;cases q;exact ac
 ·rw[ag e];exact g b o (by rw[ag e];exact q)
end L2
namespace Sw
open PySem L2 XH Hm Wo So PyProof.Rows
def cV (row:List (Str×Addr)):List (Key×V):=row.map fun p=>((.inr p.1:Key),V.ref p.2)
theorem mi (row:List (Str×Addr)):(cV row).map (·.1)=(row.map (·.1)).map fun y=>(.inr y:Key):=by
 unfold cV;rw[Eh,Eh]
 rfl
theorem gi:∀{row:List (Str×Addr)},(row.map (·.1)).Nodup->∀{y:Str} {t:Addr},(y,t)∈row->aP (cV row) (.inr y)=some (.ref t)
 | [],_,_,_,h=>nomatch h
 |p::row,nd,y,t,h=>by
  rw[Ek,EW] at nd;show aP (((.inr p.1:Key),V.ref p.2)::cV row) _=_;rcases EC.mp h with e|e
  ·subst e;exact bJ rfl
  ·rw[bK (by
    show ¬(Sum.inr p.1:Key)=Sum.inr y;intro z;injection z with z
    exact nd.1 (z▸EF.mpr ⟨_,e,rfl⟩))]
   exact gi nd.2 e
structure vJ (K:D9) (b:Nat) (vw:HE) (H:Hp) (d:Addr) (g:HD):Prop where
 ex:∃kvs:List (Key×V),H d=some (.dK kvs)/\∀x:Str,(aP kvs (.inr x)=none/\∀y,g x y=none)∨
  ∃(a:Addr) (row:List (Str×Addr)),aP kvs (.inr x)=some (.ref a)/\H a=some (.dK (cV row))/\(row.map (·.1)).Nodup/\row.length<=200/\∀y t,g x y=some t↔(y,t)∈row
 fr:∀x y t,g x y=some t->gF K b H t (vw x y).1 (vw x y).2
theorem vJ.same {K:D9} {b:Nat} {vw:HE} {H H':Hp} {d:Addr} {g:HD} (h:vJ K b vw H d g) (e:ax H H'):vJ K b vw H' d g:=by
 obtain ⟨⟨kvs,h1,h2⟩,h3⟩:=h;refine ⟨⟨kvs,e _ _ h1,fun x=>?_⟩,fun x y t z=>?_⟩
 ·rcases h2 x with z|⟨a,row,q1,q2,q3⟩
  ·exact .inl z
  ·exact .inr ⟨a,row,q1,e _ _ q2,q3⟩
 ·exact (h3 x y t z).same e
structure D5 (K:D9) (b:Nat) (Rt:HN->Int->Int->Prop) (F:Addr->Prop) (H:Hp) (l:Addr) (cs:List HN):Prop where
 ex:∃ts:HP,H l=some (.lst (ts.map V.ref))/\ts.length=cs.length/\∀(i:Nat) (t:Addr) (c:HN),ts[i]?=some t->cs[i]?=some c->
  ∃(cl rl:Addr) (p q:Int),H t=some (.tup [.ref cl,.ref rl])/\H cl=some (.lst (c.map V.str))/\gF K (b*c.length) H rl p q/\Rt c p q/\F cl/\H rl=some (.tup [.int p,.int q])
def c8 (l r:Addr) (H H':Hp):Prop:=∀b o,b≠l->b≠r->H b=some o->H' b=some o
theorem c8.refl (l r:Addr) (H:Hp):c8 l r H H:=fun _ _ _ _ h=>h
theorem c8.thenS {l r:Addr} {H H1 H2:Hp} (a:c8 l r H H1) (b:ax H1 H2):c8 l r H H2:=fun c o h1 h2 h=>b c o (a c o h1 h2 h)
theorem c8.putL {l r:Addr} {H H1:Hp} (a:c8 l r H H1) (u:HO):c8 l r H (ay H1 l u):=fun c o h1 h2 h=>by rw[ag h1];exact a c o h1 h2 h
theorem c8.putR {l r:Addr} {H H1:Hp} (a:c8 l r H H1) (u:HO):c8 l r H (ay H1 r u):=fun c o h1 h2 h=>by rw[ag h2];exact a c o h1 h2 h
theorem c8.sqT {K:D9} {l r:Addr} {H H':Hp} {ls:List V} {rs:List (Key×V)} (g:c8 l r H H') (el:H l=some (.lst ls)) (er:H r=some (.dK rs)) {t:Addr} {xs:List V} (h:bS K H t xs):bS K H' t xs:=by
 rcases h with (w|⟨o,w⟩)|w
 ·exact .inl (.inl (g _ _ (cJ w el (fun z=>nomatch z)) (cJ w er (fun z=>nomatch z)) w))
 ·exact .inl (.inr ⟨o,g _ _ (cJ w el (fun z=>nomatch z)) (cJ w er (fun z=>nomatch z)) w⟩)
 ·exact .inr w
theorem c8.fr {K:D9} {n:Nat} {l r:Addr} {H H':Hp} {ls:List V} {rs:List (Key×V)} (g:c8 l r H H') (el:H l=some (.lst ls)) (er:H r=some (.dK rs)) {t:Addr} {p q:Int} (h:gF K n H t p q):gF K n H' t p q:=⟨g.sqT el er h.at_,h.pos,h.bp,h.bq⟩
theorem mj {ts:HP} {c:HN} (n:c≠ []):(c.map V.str)≠ts.map V.ref:=by
 cases c with
 |nil=>exact absurd rfl n
 |cons x c=>
  cases ts with
  |nil=>exact nofun
  |cons t ts=>intro z;injection z with z;cases z
def pR (K:D9) (b:Nat) (Rt:HN->Int->Int->Prop) (F:Addr->Prop) (H:Hp) (ts:HP) (cs:List HN):Prop:=ts.length=cs.length/\∀(i:Nat) (t:Addr) (c:HN),ts[i]?=some t->cs[i]?=some c->
  ∃(cl rl:Addr) (p q:Int),H t=some (.tup [.ref cl,.ref rl])/\H cl=some (.lst (c.map V.str))/\gF K (b*c.length) H rl p q/\Rt c p q/\F cl/\H rl=some (.tup [.int p,.int q])
theorem pR.same {K:D9} {b:Nat} {Rt:HN->Int->Int->Prop} {F:Addr->Prop} {H H':Hp} {ts:HP} {cs:List HN} (h:pR K b Rt F H ts cs) (g:ax H H'):pR K b Rt F H' ts cs:=⟨h.1,fun i t c h1 h2=>by
 obtain ⟨cl,rl,p,q,a1,a2,a3,a4,a5,a6⟩:=h.2 i t c h1 h2;exact ⟨cl,rl,p,q,g _ _ a1,g _ _ a2,a3.same g,a4,a5,g _ _ a6⟩⟩
theorem pR.keep {K:D9} {b:Nat} {Rt:HN->Int->Int->Prop} {F:Addr->Prop} {l r:Addr} {H H':Hp} {ts ts0:HP} {cs:List HN} {rs:List (Key×V)} (h:pR K b Rt F H ts cs) (nz:∀c∈cs,c≠ []) (g:c8 l r H H') (el:H l=some (.lst (ts0.map V.ref))) (er:H r=some (.dK rs)):pR K b Rt F H' ts cs:=⟨h.1,fun i t c h1 h2=>by
 obtain ⟨cl,rl,p,q,a1,a2,a3,a4,a5,a6⟩:=h.2 i t c h1 h2;have cn:=nz c (E6 h2);exact ⟨cl,rl,p,q,g _ _ (cJ a1 el (fun z=>nomatch z)) (cJ a1 er (fun z=>nomatch z)) a1,g _ _ (cJ a2 el (fun z=>by injection z with z;exact mj cn z)) (cJ a2 er (fun z=>nomatch z)) a2,g.fr el er a3,a4,a5,g _ _ (cJ a6 el (fun z=>nomatch z)) (cJ a6 er (fun z=>nomatch z)) a6⟩⟩
theorem pR.snoc {K:D9} {b:Nat} {Rt:HN->Int->Int->Prop} {F:Addr->Prop} {H:Hp} {ts:HP} {cs:List HN} {t cl rl:Addr} {c:HN} {p q:Int} (h:pR K b Rt F H ts cs) (a1:H t=some (.tup [.ref cl,.ref rl])) (a2:H cl=some (.lst (c.map V.str))) (a3:gF K (b*c.length) H rl p q) (a4:Rt c p q) (a5:F cl) (a6:H rl=some (.tup [.int p,.int q])):pR K b Rt F H (ts++ [t]) (cs++ [c]):=by
 refine ⟨by rw[E8,E8,h.1];rfl,fun i t' c' h1 h2=>?_⟩
 rcases Nat.lt_or_ge i ts.length with l|l
 ·rw[E5 l] at h1;rw[E5 (by rw[<-h.1];exact l)] at h2
  exact h.2 i t' c' h1 h2
 ·have il:=(E2.mp h1).1;rw[E8,EJ] at il;have e:i=ts.length:=by lia
  subst e;rw[E7 (E4 _),FE] at h1;rw[h.1,E7 (E4 _),FE] at h2;cases h1;cases h2;exact ⟨cl,rl,p,q,a1,a2,a3,a4,a5,a6⟩
theorem xH {row:List (Str×Addr)} {ks:HN} (h:ks≠ []):cV row≠aY ks (.bl true):=by
 cases ks with
 |nil=>exact absurd rfl h
 |cons k ks=>
  cases row with
  |nil=>exact nofun
  |cons p row=>intro z;injection z with z;injection z with _ z;cases z
theorem fc {c:HN} (n:c≠ []):fw (c.map V.str) (-1)=some (.str (aI c)):=by
 obtain ⟨a,x,rfl⟩:∃a x,c=a++ [x]:=⟨c.dropLast,c.getLast n,(List.dropLast_concat_getLast n).symm⟩;rw[Ed,bP];exact uC _ _
theorem zQ {p q:Int} (f:Fr p q 1 1):p=1/\q=1:=by
 have h1:=f.pos;have h2:=f.same;have h3:=f.bb
 lia
def rZ (g:HD) (x y:Str):Prop:=∃t,g x y=some t
theorem gu {κ:Type} [DecidableEq κ]:∀{kvs:List (κ×V)} {k:κ} {v:V},aP kvs k=some v->(k,v)∈kvs
 | [],_,_,h=>by cases h
 |p::r,k,v,h=>by
  by_cases e:p.1=k
  ·rw[bJ e] at h;cases h;subst e;exact F7
  ·rw[bK e] at h;exact Ea _ (gu h)
theorem nA {κ:Type} [DecidableEq κ]:∀{kvs:List (κ×V)} {k:κ} {v:V},(k,v)∈kvs->∃w,aP kvs k=some w
 |p::r,k,v,h=>by
  by_cases e:p.1=k
  ·exact ⟨_,bJ e⟩
  ·rw[bK e];rcases EC.mp h with z|z
   ·subst z;exact absurd rfl e
   ·exact nA z
def fJ (row:List (Str×Addr)) (y:Str) (t:Addr):List (Str×Addr):=if (row.any fun p=>decide (p.1=y))=true then row.map (fun p=>if p.1=y then (p.1,t) else p) else row++ [(y,t)]
theorem oZ (row:List (Str×Addr)) (y:Str) (t:Addr):putK (cV row) (.inr y) (.ref t)=cV (fJ row y t):=by
 have e:((cV row).any fun kv=>decide (kv.1=(.inr y:Key)))=row.any fun p=>decide (p.1=y):=by
  unfold cV;rw[List.any_map]
  congr 1
  funext p
  simp
 unfold putK fJ;rw[e]
 split
 ·unfold cV;rw[Eh,Eh]
  congr 1
  funext p
  show (if (Sum.inr p.1:Key)=Sum.inr y then ((Sum.inr p.1:Key),V.ref t) else (Sum.inr p.1,V.ref p.2))=((Sum.inr (if p.1=y then (p.1,t) else p).1:Key),V.ref (if p.1=y then (p.1,t) else p).2)
  by_cases c:p.1=y
  ·rw[if_pos c,if_pos (by rw[c])]
  ·rw[if_neg c,if_neg (fun z=>c (by injection z))]
 ·unfold cV;rw[Ed]
  rfl
theorem fK (row:List (Str×Addr)) (y:Str) (t:Addr) (nd:(row.map (·.1)).Nodup):((fJ row y t).map (·.1)).Nodup/\(fJ row y t).length<=row.length+1/\∀z s,(z,s)∈fJ row y t↔if z=y then s=t else (z,s)∈row:=by
 unfold fJ
 by_cases c:(row.any fun p=>decide (p.1=y))=true
 ·rw[if_pos c];obtain ⟨p,hp,hy⟩:=List.any_eq_true.mp c;have hy:=of_decide_eq_true hy;have e:(row.map fun p=>if p.1=y then (p.1,t) else p).map (·.1)=row.map (·.1):=by
   rw[Eh]
   congr 1
   funext p
   show (if p.1=y then (p.1,t) else p).1=p.1
   split<;>rfl
  refine ⟨by rw[e];exact nd,by rw[E3];lia,fun z s=>⟨fun h=>?_,fun h=>?_⟩⟩
  ·obtain ⟨q,hq,e⟩:=EF.mp h
   by_cases d:q.1=y
   ·rw[if_pos d] at e;cases e;rw[if_pos d]
   ·rw[if_neg d] at e;subst e;rw[if_neg d];exact hq
  ·by_cases d:z=y
   ·rw[if_pos d] at h;subst h d;exact EF.mpr ⟨p,hp,by rw[if_pos hy,hy]⟩
   ·rw[if_neg d] at h;exact EF.mpr ⟨_,h,by rw[if_neg d]⟩
 ·rw[if_neg c];have no:∀q∈row,q.1≠y:=fun q hq e=>c (List.any_eq_true.mpr ⟨q,hq,decide_eq_true e⟩)
  refine ⟨?_,by rw[E8];exact E4 _,fun z s=>⟨fun h=>?_,fun h=>?_⟩⟩
  ·rw[Ed,F2];refine ⟨nd,by simp,fun a ha b hb=>?_⟩
   obtain ⟨q,hq,rfl⟩:=EF.mp ha;cases E9.mp hb;exact no q hq
  ·rcases EK.mp h with h|h
   ·rw[if_neg (no _ h)];exact h
   ·cases E9.mp h;rw[if_pos rfl]
  ·by_cases d:z=y
   ·rw[if_pos d] at h;subst h d;exact ED _ (E9.mpr rfl)
   ·rw[if_neg d] at h;exact Ex _ h
structure BD (H H':Hp) (d:Addr) (n:Nat) (dk:List (Key×V)) (g:HD):Prop where
 at_:H' d=some (.dK dk)
 few:dk.length<=n
 inj:∀x x' a,aP dk (.inr x)=some (.ref a)->aP dk (.inr x')=some (.ref a)->x=x'
 ex:∀x:Str,(aP dk (.inr x)=none/\∀y,g x y=none)∨
  ∃(a:Addr) (row:List (Str×Addr)),aP dk (.inr x)=some (.ref a)/\H' a=some (.dK (cV row))/\H a=none/\a≠d/\(row.map (·.1)).Nodup/\row.length<=n/\∀y t,g x y=some t↔(y,t)∈row
theorem BD.same {H H1 H2:Hp} {d:Addr} {n:Nat} {dk:List (Key×V)} {g:HD} (h:BD H H1 d n dk g) (e:ax H1 H2):BD H H2 d n dk g:=by
 refine ⟨e _ _ h.at_,h.few,h.inj,fun x=>?_⟩
 rcases h.ex x with z|⟨a,row,q1,q2,q3⟩
 ·exact .inl z
 ·exact .inr ⟨a,row,q1,e _ _ q2,q3⟩
theorem BD.open {H H1:Hp} {d pn:Addr} {n:Nat} {dk:List (Key×V)} {g:HD} {x0:Str} (h:BD H H1 d n dk g) (hv:aP dk (.inr x0)=none) (hp:H1 pn=some (.dK (cV []))) (hn:H pn=none) (nd:pn≠d) (new:∀x,aP dk (.inr x)≠some (.ref pn)):BD H (ay H1 d (.dK (putK dk (.inr x0) (.ref pn)))) d (n+1) (putK dk (.inr x0) (.ref pn)) g:=by
 refine ⟨ac,EX (dA _ _ _) (by have:=h.few;lia),fun x x' a e1 e2=>?_,fun x=>?_⟩
 ·rw[iB] at e1 e2
  split at e1
  ·rename_i c1;injection c1 with c1
   cases e1
   split at e2
   ·rename_i c2;injection c2 with c2
    rw[c1,c2]
   ·exact absurd e2 (new _)
  ·split at e2
   ·cases e2;exact absurd e1 (new _)
   ·exact h.inj x x' a e1 e2
 ·rw[iB]
  by_cases c:x=x0
  ·subst c;rw[if_pos rfl];rcases h.ex x with ⟨z1,z2⟩|⟨a,row,q1,_⟩
   ·refine .inr ⟨pn,[],rfl,by rw[ag nd];exact hp,hn,nd,by simp,EO _,fun y t=>?_⟩
    rw[z2];simp
   ·rw[hv] at q1;cases q1
  ·rw[if_neg (fun z=>c (by injection z))]
   rcases h.ex x with z|⟨a,row,q1,q2,q3,q4,q5,q6,q7⟩
   ·exact .inl z
   ·exact .inr ⟨a,row,q1,by rw[ag q4];exact q2,q3,q4,q5,by lia,q7⟩
theorem BD.put {H H1:Hp} {d a:Addr} {n:Nat} {dk:List (Key×V)} {g g':HD} {x0 y0:Str} {t0:Addr} {row:List (Str×Addr)} (h:BD H H1 d n dk g) (hv:aP dk (.inr x0)=some (.ref a)) (hr:H1 a=some (.dK (cV row)))
  (hg:∀x y,g' x y=if x=x0/\y=y0 then some t0 else g x y):BD H (ay H1 a (.dK (putK (cV row) (.inr y0) (.ref t0)))) d (n+1) dk g':=by
 obtain ⟨na,hx⟩:a≠d/\H a=none/\(row.map (·.1)).Nodup/\row.length<=n/\∀y t,g x0 y=some t↔(y,t)∈row:=by
  rcases h.ex x0 with ⟨z,_⟩|⟨a',row',q1,q2,q3,q4,q5,q6,q7⟩
  ·rw[hv] at z;cases z
  ·rw[hv] at q1;cases q1;rw[hr] at q2;have e:cV row=cV row':=by injection q2 with q2;injection q2
   have e':row=row':=by
    unfold cV at e;refine (List.map_inj_right ?_).mp e;rintro ⟨u1,u2⟩ ⟨w1,w2⟩ z;injection z with z1 z2
    injection z1 with z1
    injection z2 with z2
    exact Prod.ext z1 z2
   subst e';exact ⟨q4,q3,q5,q6,q7⟩
 obtain ⟨hn,nd,ln,mem⟩:=hx;obtain ⟨p1,p2,p3⟩:=fK row y0 t0 nd;refine ⟨by rw[ag (Ne.symm na)];exact h.at_,by have:=h.few;lia,h.inj,fun x=>?_⟩
 by_cases c:x=x0
 ·subst c;refine .inr ⟨a,fJ row y0 t0,hv,by rw[ac,oZ],hn,na,p1,by lia,fun y t=>?_⟩
  rw[hg,p3]
  by_cases e:y=y0
  ·rw[if_pos ⟨rfl,e⟩,if_pos e];exact ⟨fun z=>by injection z with z;exact z.symm,fun z=>by rw[z]⟩
  ·rw[if_neg (fun z=>e z.2),if_neg e]
   exact mem y t
 ·rcases h.ex x with ⟨z1,z2⟩|⟨b,row',q1,q2,q3,q4,q5,q6,q7⟩
  ·refine .inl ⟨z1,fun y=>?_⟩
   rw[hg,if_neg (fun z=>c z.1)]
   exact z2 y
  ·have ba:b≠a:=fun e=>c (h.inj x x0 a (e▸q1) hv)
   refine .inr ⟨b,row',q1,by rw[ag ba];exact q2,q3,q4,q5,by lia,fun y t=>?_⟩
   rw[hg,if_neg (fun z=>c z.1)]
   exact q7 y t
theorem BD.done {K:D9} {b:Nat} {vw:HE} {H H':Hp} {d:Addr} {n:Nat} {dk:List (Key×V)} {g:HD} (h:BD H H' d n dk g) (h2:n<=200) (f:∀x y t,g x y=some t->gF K b H' t (vw x y).1 (vw x y).2):vJ K b vw H' d g:=by
 refine ⟨⟨dk,h.at_,fun x=>?_⟩,f⟩
 rcases h.ex x with z|⟨a,row,q1,q2,q3,q4,q5,q6,q7⟩
 ·exact .inl z
 ·exact .inr ⟨a,row,q1,q2,q5,by lia,q7⟩
end Sw
namespace L2
open PySem PySem.Spec PyProof.Rows
variable {X:Cx} {pins:HL} {σ:St} {H:Hp} {s:Shared} {h':Heap}
theorem aE.turnedNew {ch:HP} {T:Addr} {o:HO} {t':Nat} (I:aE X pins σ H s) (hf:∀b∈ch,dR X pins H b) (k:∀b u,b∉ch->s.heap.get? b=some u->h'.get? b=some u) (hp:s.heap.objs.size<=T) (new:a7 X.prog X.w (ay H T o) h' T o):
  aE X pins σ (ay H T o) {s with heap:=h',toks:=t'}:=by
 have nT:H T=none:=I.hok.fresh hp;have ne:∀b u,H b=some u->b≠T:=fun b u e z=>by rw[z,nT] at e;cases e
 have nch:∀b u,H b=some u->b∉ch:=fun b u e z=>by rw[(hf b z).1] at e;cases e
 have up:∀b u,H b=some u->ay H T o b=some u:=fun b u e=>by rw[ag (ne b u e)];exact e
 refine I.step (g':=s.gens) (d':=s.drawn) (ch:=ch) (fun b hb=>?_) (fun b u _ _ hc e _=>k b u hc e) (fun b u _ _ hc e _=>⟨u.slots,k b u hc e⟩) (fun b u _ e n=>?_)
  (fun b u hc e=>⟨u,k b u hc e⟩) (fun b xs e=>up b _ e) (fun b u v e=>up b _ e) (fun b ps e=>⟨#[],by rw[up b _ e];simp⟩) (fun m hm=>?_) (fun b u e=>?_) I.bare
 ·obtain ⟨f0,f1,f2,f3,f4,f5⟩:=hf b hb;exact ⟨f3,f1,f4,f5⟩
 ·have:b≠T:=EE (EQ (Heap.lt_size e) hp);rw[ag this];exact n
 ·obtain ⟨u,es,ep,ho,r⟩:=hm;exact ⟨u,es,ep,k _ u (fun z=>(hf _ z).2.1 rfl) ho,r⟩
 ·by_cases c:b=T
  ·subst c;rw[ac] at e;cases e;exact new
  ·rw[ag c] at e;refine (I.hok b u e).stay (fun c' v hc q=>k c' v ?_ q) (fun _ q=>up _ _ q) fun _ _ q=>up _ _ q
   rcases hc with z|z
   ·rw[z];exact nch b u e
   ·exact nch c' _ z
theorem aE.turnedAll {ch:HP} {t':Nat} (I:aE X pins σ H s) (hf:∀b∈ch,dR X pins H b) (k:∀b u,b∉ch->s.heap.get? b=some u->h'.get? b=some u):aE X pins σ H {s with heap:=h',toks:=t'}:=by
 have nch:∀b u,H b=some u->b∉ch:=fun b u e z=>by rw[(hf b z).1] at e;cases e
 refine I.step (g':=s.gens) (d':=s.drawn) (ch:=ch) (fun b hb=>?_) (fun b u _ _ hc e _=>k b u hc e) (fun b u _ _ hc e _=>⟨u.slots,k b u hc e⟩) (fun b u _ e n=>n)
  (fun b u hc e=>⟨u,k b u hc e⟩) (fun b xs e=>e) (fun b u v e=>e) (fun b ps e=>⟨#[],by rw[e];simp⟩) (fun m hm=>?_) (fun b u e=>?_) I.bare
 ·obtain ⟨f0,f1,f2,f3,f4,f5⟩:=hf b hb;exact ⟨f3,f1,f4,f5⟩
 ·obtain ⟨u,es,ep,ho,r⟩:=hm;exact ⟨u,es,ep,k _ u (fun z=>(hf _ z).2.1 rfl) ho,r⟩
 ·refine (I.hok b u e).stay (fun c' v hc q=>k c' v ?_ q) (fun _ q=>q) fun _ _ q=>q
  rcases hc with z|z
  ·rw[z];exact nch b u e
  ·exact nch c' _ z
def BB (K:D9) (l1 l2:Addr):It:=
  ⟨fun i H=>∃xs ys x y,aQ K H l1 xs/\aQ K H l2 ys/\xs[i]?=some x/\ys[i]?=some y,
   fun i H v H'=>∃(T:Addr) (x y:V),v= .ref T/\H T=none/\(∀xs,aQ K H l1 xs->xs[i]?=some x)/\(∀ys,aQ K H l2 ys->ys[i]?=some y)/\H'=ay H T (.tup [x,y]),
   fun i H=>∃xs ys,aQ K H l1 xs/\aQ K H l2 ys/\(xs.length<=i∨ys.length<=i)⟩
structure vK (h:Heap) (z TI TO i1 i2 l1 l2:Addr) (i:Nat):Prop where
 zip:IsZip h z TI TO .none
 ti:IsPair h TI (.ref i1) (.ref i2)
 to:∃a b,IsPair h TO a b
 it1:h.IsListIter i1 l1 i
 it2:h.IsListIter i2 l2 i
theorem iP {h:Heap} {l b:Addr} {its:Array Value} {o:Obj} {n:String} (hl:h.IsList l its) (e:h.get? b=some o) (c:o.cls= .type n) (ne:n≠ "list"):l≠b:=fun z=>by
 obtain ⟨o',e',c',_⟩:=hl;rw[z,e] at e';cases e';rw[c] at c';injection c' with c'
 exact ne c'
theorem vK.apart {h:Heap} {z TI TO i1 i2 l1 l2:Addr} {i:Nat} {xs ys:Array Value} (st:vK h z TI TO i1 i2 l1 l2 i) (d: [z,TI,TO,i1,i2].Nodup) (h1:h.IsList l1 xs) (h2:h.IsList l2 ys):ZipApart z TI TO i1 i2 l1 l2:=by
 obtain ⟨a,b,eto⟩:=st.to;obtain ⟨o1,e1,c1,_⟩:=st.it1;obtain ⟨o2,e2,c2,_⟩:=st.it2;simp only[EW,EC,Eg,or_false,not_or,FO,and_true] at d;obtain ⟨⟨d1,d2,d3,d4⟩,⟨d5,d6,d7⟩,⟨d8,d9⟩,d10,_⟩:=d;have lz:∀{l:Addr} {its:Array Value},h.IsList l its->l≠z/\l≠TI/\l≠TO/\l≠i1/\l≠i2:=fun hl=>⟨iP hl st.zip rfl (by decide),iP hl st.ti rfl (by decide),iP hl eto rfl (by decide),iP hl e1 c1 (by decide),iP hl e2 c2 (by decide)⟩
 obtain ⟨p1,p2,p3,p4,p5⟩:=lz h1;obtain ⟨q1,q2,q3,q4,q5⟩:=lz h2;constructor<;>first|assumption|exact Ne.symm (by assumption)
theorem vL {P:Program} {w:World} {K:D9} {elts:List Expr} {k:Nat} {pos:Pos} (l1 l2 z TI TO i1 i2:Addr) (d: [z,TI,TO,i1,i2].Nodup):Turn P w K (.Tuple elts k pos) (BB K l1 l2) [z,TI,TO,i1,i2] z (fun i h=>vK h z TI TO i1 i2 l1 l2 i) where
 mem:=by simp
 obj:=fun i h st b hb=>by
  obtain ⟨a,b',eto⟩:=st.to;obtain ⟨o1,e1,c1,d1⟩:=st.it1;obtain ⟨o2,e2,c2,d2⟩:=st.it2;simp only[EC,Eg,or_false] at hb;rcases hb with q|q|q|q|q<;>subst q
  ·exact ⟨_,st.zip,fun v z=>by cases z⟩
  ·exact ⟨_,st.ti,fun v z=>by cases z⟩
  ·exact ⟨_,eto,fun v z=>by cases z⟩
  ·exact ⟨o1,e1,fun v z=>by rw[d1] at z;cases z⟩
  ·exact ⟨o2,e2,fun v z=>by rw[d2] at z;cases z⟩
 keep:=fun i h h' st k=>⟨k _ (by simp) _ st.zip,k _ (by simp) _ st.ti,let ⟨a,b,e⟩:=st.to;⟨a,b,k _ (by simp) _ e⟩,st.it1.at fun o q=>k _ (by simp) o q,st.it2.at fun o q=>k _ (by simp) o q⟩
 item:=by
  intro X hP hw hK hc i pins s σ H E I hf st hg;subst hP hw hK;obtain ⟨xs,ys,x,y,hq1,hq2,hx,hy⟩:=hg;obtain ⟨is1,rv1,p1,hz1⟩:=I.list hq1;obtain ⟨is2,rv2,p2,hz2⟩:=I.list hq2;obtain ⟨u,hu,ru⟩:=rv1.get hx;obtain ⟨v,hv,rv⟩:=rv2.get hy;have ap:=st.apart d p1.isList p2.isList;obtain ⟨a,b,eto⟩:=st.to;refine wpAny_pyNext_zip_item ap st.zip st.ti eto st.it1 st.it2 p1.isList p2.isList (x:=u) (y:=v) (by simpa using hu) (by simpa using hv) fun h1 ho hto hi1 hi2 hT hsz hk=>?_
  refine ⟨_,rfl,wpAny_letOwnedTupleGo_zip (s:={s with heap:=h1}) ho fun h2 hz2' hs2=>?_⟩
  have nT:H s.heap.objs.size=none:=I.hok.fresh (E4 _);have lt:∀b∈ [z,TI,TO,i1,i2],b<s.heap.objs.size:=fun b hb=>by
   obtain ⟨o1,e1,_⟩:=st.it1;obtain ⟨o2,e2,_⟩:=st.it2;simp only[EC,Eg,or_false] at hb;rcases hb with q|q|q|q|q<;>subst q
   ·exact Heap.lt_size st.zip
   ·exact Heap.lt_size st.ti
   ·exact Heap.lt_size eto
   ·exact Heap.lt_size e1
   ·exact Heap.lt_size e2
  have zl:=lt z (by simp)
  have hT2:IsPair h2 s.heap.objs.size u v:=(hs2.2 _ (Nat.ne_of_gt zl)).trans hT;have kp:∀b o,b∉ [z,TI,TO,i1,i2]->s.heap.get? b=some o->h2.get? b=some o:=fun b o hb q=>by
   simp only[EC,Eg,or_false,not_or] at hb;exact (hs2.2 b hb.1).trans (hk b o hb.1 hb.2.2.1 hb.2.2.2.1 hb.2.2.2.2 q)
  have eti:h1.get? TI=some {cls:= .type "tuple",data:= .seq #[.ref i1,.ref i2]}:=hk TI _ ap.TIz ap.TITO ap.TIi1 ap.TIi2 st.ti;refine ⟨.ref s.heap.objs.size,ay H s.heap.objs.size (.tup [x,y]),I.turnedNew (t':=s.toks) (ch:= [z,TI,TO,i1,i2]) hf kp (E4 _) ⟨by show 2<=sizeLine;decide,[u,v],.cons ru (.cons rv .nil),⟨_,hT2,rfl,0,rfl⟩⟩,rfl,
   ⟨_,x,y,rfl,nT,fun ys hy'=>by rw[I.list_inj hy' hq1];exact hx,fun ys hy'=>by rw[I.list_inj hy' hq2];exact hy,rfl⟩,⟨hz2',(hs2.2 _ ap.TIz).trans eti,⟨u,v,(hs2.2 _ ap.TOz).trans hto⟩,hi1.at fun o q=>(hs2.2 _ ap.i1z).trans q,hi2.at fun o q=>(hs2.2 _ ap.i2z).trans q⟩,fun b hb=>?_⟩
  rw[ag (EE (lt b hb))];exact (hf b hb).1
 done:=by
  intro X hP hw hK hc i pins s σ H E I hf st hg;subst hP hw hK;obtain ⟨xs,ys,hq1,hq2,hx⟩:=hg;obtain ⟨is1,rv1,p1,hz1⟩:=I.list hq1;obtain ⟨is2,rv2,p2,hz2⟩:=I.list hq2;have ap:=st.apart d p1.isList p2.isList;obtain ⟨a,b,eto⟩:=st.to;have e1:=rv1.length;have e2:=rv2.length;refine wpAny_pyNext_zip_end (I.ok.hd hc) ap st.zip st.ti eto st.it1 st.it2 p1.isList p2.isList (by rcases hx with q|q;exact .inl (by simp;lia);exact .inr (by simp;lia)) fun h' hk=>⟨rfl,I.turnedAll (t':=s.toks) (ch:= [z,TI,TO,i1,i2]) hf fun b o hb q=>?_⟩
  simp only[EC,Eg,or_false,not_or] at hb;exact hk b o hb.1 hb.2.2.1 hb.2.2.2.1 hb.2.2.2.2 q
 self:=fun _ _ _ _ _ st h=>wpAny_pyIter_zip st.zip h
theorem zR (n:Nat): [n+4,n+2,n+3,n,n+1].Nodup:=by
 simp
def Dq (K:D9) (ta:TA):TI:=fun σ H R=>ta σ H fun vs H1=>∃l1 l2:Addr,vs= [.ref l1,.ref l2]/\(∃xs,aQ K H1 l1 xs)/\(∃ys,aQ K H1 l2 ys)/\R (BB K l1 l2) H1
theorem boot_zip:bootBuiltins "zip" =some (.type "zip"):=by kernel_rfl
theorem zS {X:Cx} {a b:Expr} {ta:TA} {elts:List Expr} {k:Nat} {tp p pos:Pos} (hg:Gl X "zip") (hm:X.mg "zip" =none) (ha:PA X [a,b] ta) (hs:starEach [a,b] X.env= [(false,eval a X.env),(false,eval b X.env)]:=by rfl) (hs2:starEach [b] X.env= [(false,eval b X.env)]:=by rfl):
  PI X (.Tuple elts k tp) (.Call (.Name "zip" p) [a,b] [] pos) (Dq X.K ta):=by
 intro pins s σ H R I h;refine Call_ (fS I hg hm boot_zip (F5 (bu (ha pos pins s σ H _ I h) fun us s1 ⟨vs,H1,I1,r1,q1⟩=>?_) (by rw[hs,hs2]) (by rw[hs2];rfl)))
 obtain ⟨l1,l2,e,⟨xs,hq1⟩,⟨ys,hq2⟩,q⟩:=q1;subst e;cases r1 with
 |cons r rr=>
  cases rr with
  |cons r' rr=>
   cases rr;cases r;cases r';obtain ⟨is1,rv1,p1,hz1⟩:=I1.list hq1;obtain ⟨is2,rv2,p2,hz2⟩:=I1.list hq2;refine call_zip_2 p1.isList p2.isList fun h' hz hti hto hi1 hi2 hsz hk=>?_
   refine wpAny_pyIter_zip (s:={s1 with heap:=h'}) hz ?_
   have I2:aE X pins σ H1 {s1 with heap:=h'}:=I1.kept (t':=s1.toks) hk
   refine ⟨s1.heap.objs.size+4,[s1.heap.objs.size+4,s1.heap.objs.size+2,s1.heap.objs.size+3,s1.heap.objs.size,s1.heap.objs.size+1],_,_,H1,rfl,I2,vL l1 l2 _ _ _ _ _ (zR _),⟨hz,hti,⟨_,_,hto⟩,hi1,hi2⟩,fun b hb=>?_,q⟩
   have bl:s1.heap.objs.size<=b:=by
    simp only[EC,Eg,or_false] at hb;rcases hb with q|q|q|q|q<;>rw[q]<;>first|exact E4 _|exact Nat.le_add_right _ _
   exact I1.fpOk bl (I1.hok.fresh bl)
theorem xI {K:D9} {l1 l2:Addr} {xs ys:List V} {g:TG} {tb:TS} {D:Ends} {σ:St} {H:Hp} (Pv:Nat->St->Hp->Prop) (h0:Pv 0 σ H) (hl:∀i σ H,i<=min xs.length ys.length->Pv i σ H->aQ K H l1 xs/\aQ K H l2 ys)
  (hs:∀i x y σ H (T:Addr),xs[i]?=some x->ys[i]?=some y->Pv i σ H->H T=none->g (.ref T) σ (ay H T (.tup [x,y])) fun σ2 H2=>tb {D with nx:=Pv (i+1),ct:=Pv (i+1),bk:=D.nx} σ2 H2) (hd:∀σ H,Pv (min xs.length ys.length) σ H->D.nx σ H):
  ∃W:Nat->Nat->St->Hp->Prop,(∃m,W 0 m σ H)/\∀i m σ H,W i m σ H->
   ((BB K l1 l2).stop i H/\D.nx σ H)∨((BB K l1 l2).go i H/\∃N:St->Hp->Prop,(∀σ' H',N σ' H'->∃m',m'<m/\W (i+1) m' σ' H')/\∀x H',(BB K l1 l2).yld i H x H'->g x σ H' fun σ2 H2=>tb {D with nx:=N,ct:=N,bk:=D.nx} σ2 H2):=by
 refine ⟨fun i m σ H=>m=min xs.length ys.length-i/\i<=min xs.length ys.length/\Pv i σ H,⟨min xs.length ys.length,by simp,EO _,h0⟩,?_⟩
 rintro i m σ H ⟨rfl,hi,p⟩;obtain ⟨q1,q2⟩:=hl i σ H hi p
 by_cases hlt:i<min xs.length ys.length
 ·refine .inr ⟨⟨xs,ys,xs[i]'(by lia),ys[i]'(by lia),q1,q2,E1 _,E1 _⟩,Pv (i+1),fun σ' H' p'=>⟨min xs.length ys.length-(i+1),by lia,rfl,by lia,p'⟩,fun x H' y=>?_⟩
  obtain ⟨T,a,b,rfl,nT,ha,hb,rfl⟩:=y;exact hs i a b σ H T (ha xs q1) (hb ys q2) p nT
 ·have e:i=min xs.length ys.length:=by lia
  subst e;exact .inl ⟨⟨xs,ys,q1,q2,by lia⟩,hd σ H p⟩
open XH
def zT:V->List V->Hp->VK->Prop:=fun x vs H Q=>∃(d:Addr) (kvs:List (Key×V)),x= .ref d/\vs= []/\H d=some (.dK kvs)/\∀v,H v=none->Q (.ref v) (ay H v (.ext fun h=>h.IsItemsView v d))
theorem vM {X:Cx}:Dd X "dict.items" zT:=by
 intro pins s σ H x vs v us Q I rx rv h;obtain ⟨d,kvs,rfl,rfl,hd,q⟩:=h;cases rx;have hus:=rv.zero;subst hus;obtain ⟨z,y,ws,rel,D⟩:=iC I.hok hd;refine call_meetsIn PySem.F.slot_dict_items D.typeIs PySem.F.entry_dict_items (PySem.F.args_dict_items_1 _) (meets_dict_items (bg X.prog X.w) d y) ⟨⟨ws,D⟩,?_⟩;refine ⟨.ref s.heap.objs.size,_,I.laid (o:= .ext fun h=>h.IsItemsView s.heap.objs.size d) (t':=s.toks) (fun b o e=>Heap.get?_push_of_some _ e) (E4 _) ⟨⟨_,Heap.get?_push_size _ rfl,rfl,rfl⟩,⟨_,Heap.get?_push_size _ rfl⟩,fun h1 h2 ⟨o,e,c,f⟩ k=>⟨o,k o e,c,f⟩⟩,rfl,q _ I.fresh⟩
open Sw So Hm
section
variable {scope:Scope} {cl:List (Str×Addr)} {own:Str} {ys:HN} {js:List Nat} {elt iter:Expr} {px pos:Pos} {wi:TI} {te:TE}
theorem vN {i:Nat} {y:Str} {py spos:Pos} (hN:X.N.Nodup) (hi':X.N[i]?=some y) (hy:X.env.scope.names.lookup y=some .local) (hc:X.calm=true) (ok:gQ X scope cl own ys js) (hi:PI X (.Name own px) iter wi)
  (he:∀(C:Addr) (fp:HP) (s:Shared) (H:Hp),PE (X.block scope cl C (own::ys) own fp s H) elt te)
  (hsw:swapsWith (.ListComp elt [⟨.Name own px,iter,[],0⟩] scope pos) (some (.Name y py)) spos.line X.env=pure true:=by rfl) (hs:∀x,foldedSetIterable iter X.env x=pure x:=by intro _;rfl):
  PS X (.Assign [.Name y py] (.ListComp elt [⟨.Name own px,iter,[],0⟩] scope pos) spos) (ut (uW wi js te) (aM i)):=by
 intro pins s σ H D I h;have ncell:∀y∈scope.names,y.2≠ .cell:=fun y hy z=>by
  have q:=Er.mp ok.nocell y hy;rw[z] at q;simp at q
 have nloc:∀y∈scope.names,y.2= .local->scope.names.lookup y.1=some .local:=fun y hy z=>by
  have q:=Er.mp ok.loc y hy;rw[z] at q
  simpa using q
 show wpAny _ _ (exec _ X.env) _ _ _;rw[exec_Assign_Name_used _ _ _ _ hsw];refine wpAny_bind (wpAny_standAt (wpAny_bind ?_));show wpAny _ X.A (do let _<-comprehension (.ListComp elt [⟨.Name own px,iter,[],0⟩] scope pos) scope X.env _ (newList []) false (eval iter X.env) (some (assign (.Name y py) X.env))) _ _ s
 refine wpAny_bind (wpAny_mono (wpAny_comprehension_free (use:=some (assign (.Name y py) X.env)) (Q:=fun _ s'=>SP X pins D .next s') rfl hs ok.clos ok.kind nloc (bu (hi pins s σ H _ I h) fun v s1 h1=>bu h1 fun itv s2 h2=>?_)) (fun _ s' hq=>wpAny_pure (wpAny_pure hq)) fun _ _ e=>e)
 obtain ⟨it,fp,tn,J,H2,rfl,I2,T,st2,f2,q2⟩:=h2;obtain ⟨W,⟨m0,w0⟩,turn⟩:=q2 s2.heap.objs.size (I2.hok.fresh (E4 _));refine wpAny_newObj_type (wpAny_newFunctionEnv ncell (by intro y hy;simp at hy) (fun h1 hns hsb=>?_) ok.kind)
 have I3:=I2.laid (a:=s2.heap.objs.size) (o:= .lst []) (h':=s2.heap.push {cls:= .type "list",dict:=none,data:= .seq ([]:HQ).toArray}) (t':=s2.toks) (fun b u q=>Heap.get?_push_of_some _ q) (E4 _)
  ⟨EO _,[],0,.nil,Heap.get?_push_size _ rfl⟩
 have fpo:∀b∈fp,b<s2.heap.objs.size:=fun b hb=>by
  obtain ⟨o,e,_⟩:=T.obj 0 _ st2 b hb;exact Heap.lt_size e
 have f3:∀b∈fp,dR X pins (ay H2 s2.heap.objs.size (.lst [])) b:=fun b hb=>⟨by rw[ag (EE (fpo b hb))];exact (f2 b hb).1,(f2 b hb).2⟩
 generalize hs3:({s2 with heap:=s2.heap.push {cls:= .type "list",dict:=none,data:= .seq ([]:HQ).toArray},toks:=s2.toks}:Shared)=s3 at I3
 have e3:s3.heap=s2.heap.push {cls:= .type "list",dict:=none,data:= .seq ([]:HQ).toArray}:=by rw[<-hs3]
 have lt3:∀b∈fp,b<s3.heap.objs.size:=fun b hb=>by rw[e3,Heap.size_push];exact F3 (fpo b hb)
 dsimp only at hns hsb⊢;rw[<-e3] at hns hsb;have hk:∀b o,s3.heap.get? b=some o->h1.get? b=some o:=fun b o e=>hsb.extBut b o (EE (Heap.lt_size e)) (Heap.get?_push_of_some _ e)
 have J0:=dC (h1:=h1) ok I3 f3 lt3 hns hk (s2.toks+0);have t0:tn 0 h1:=T.keep 0 _ _ st2 fun b hb o e=>hk b o (by rw[e3];exact Heap.get?_push_of_some _ e)
 have fpB:∀{H':Hp},(∀b∈fp,H' b=none)->∀b∈fp,dR (X.block scope cl s3.heap.objs.size (own::ys) own fp s3 (ay H2 s2.heap.objs.size (.lst []))) [] H' b:=fun {H'} hn b hb=>
  ⟨hn b hb,EE (lt3 b hb),fun z=>(EC.mp (I3.stkSub b z)).elim (f3 b hb).2.1 (f3 b hb).2.2.1,.inl hb,fun x c e=>(f3 b hb).2.2.2.2.1 x c (ok.sub (x,c) (Ej e)),fun p hp=>absurd (show p∈([]:HL) from hp) (by simp)⟩
 have loop:codeAny (model X.prog X.w) X.A (.compLoop (.ListComp elt [⟨.Name own px,iter,[],0⟩] scope pos) 0 (.ref it) (.ref s2.heap.objs.size) (compEnvC scope cl s3.heap.objs.size X.env))
   (compPost (model X.prog X.w) X.A X.xe (some (assign (.Name y py) X.env)) (fun _ s'=>SP X pins D .next s') (.ref s2.heap.objs.size) s3.heap.objs.size) {s3 with heap:=h1,toks:=s2.toks+0}:=by
  refine fB (fun n s'=>∃i zs o0 H',aE (X.block scope cl s3.heap.objs.size (own::ys) own fp s3 (ay H2 s2.heap.objs.size (.lst []))) [] (o0::bh js σ) H' s'/\tn i s'.heap/\(∀b∈fp,H' b=none)/\W i n zs H') ?_ m0
   ⟨0,[],none,_,J0,t0,fun b hb=>(f3 b hb).1,w0⟩
  rintro n s5 ⟨i,zs,o0,H5,I5,t5,n5,w5⟩;obtain ⟨hD,hw⟩:=turn i n zs H5 w5;rcases hw with ⟨stop,qn⟩|⟨go,hz,step⟩
  ·refine bu (T.done (X.block scope cl s3.heap.objs.size (own::ys) own fp s3 (ay H2 s2.heap.objs.size (.lst []))) rfl rfl rfl hc i [] s5 _ H5 (fun _ _=>False) I5 (fpB n5) t5 stop) fun r s6 ⟨hr,I6⟩=>?_
   subst hr;obtain ⟨m,hn,_⟩:=id I6.loc;have J:aE X pins σ H5 s6:=eW (h':=s6.heap) I3 f3 I6 (Heap.SameBut.refl _ _);have fC:=I3.fpOk (E4 _) (show H5 s3.heap.objs.size=none from I6.free)
   obtain ⟨k0,k1,k2,k3,k4,k5⟩:=fC;show wpAny _ X.A (assign (.Name y py) X.env (.ref s2.heap.objs.size)) _ _ _;refine wpAny_assign_Name (gp (v:= .ref s2.heap.objs.size) J hN hi' (.inl hy) rfl (fun s7 I7 hsb=>?_) (.inr hy))
   obtain ⟨a',sb,ha⟩:=hsb;have ne:s3.heap.objs.size≠a':=by
    rcases ha with z|z
    ·rw[z];exact k1
    ·exact fun w=>k4 _ _ z w.symm
   exact ⟨m,hn.sameBut sb ne,fun h' hs'=>⟨_,H5,I7.turned (t':=s7.toks) (fun b o hb e=>(hs'.2 b hb).trans e) k0 k1 k3 k4 k5,qn⟩⟩
  ·refine bu (T.item (X.block scope cl s3.heap.objs.size (own::ys) own fp s3 (ay H2 s2.heap.objs.size (.lst []))) rfl rfl rfl hc i [] s5 _ H5 (fun _ _=>False) I5 (fpB n5) t5 go) fun r s6 ⟨u,hr,h6⟩=>?_
   subst hr;refine bu h6 fun _ s7 ⟨x,H7,I7,r7,y7,t7,n7⟩=>?_
   have I7':=I7.pinned (fpB n7) (T.obj _ _ t7);have hst:=step x H7 y7;have own':(relabel scope X.env).names.lookup own=some .local:=lookup_relabel_local ok.ownL;refine bu (gq (X:=X.block scope cl s3.heap.objs.size (own::ys) own fp s3 (ay H2 s2.heap.objs.size (.lst []))) (i:=0) (x:=own) (pos:=px) ok.nd rfl (.inl own') (.inr own') _ s7 _ H7 x u (fun σ' H'=>σ'=some x::bh js σ/\H'=H7) I7' r7 ⟨rfl,rfl⟩) fun _ s8 ⟨σ8,H8,I8,e8,eH8⟩=>?_
   subst e8 eH8;refine bu (he _ _ _ _ _ s8 _ H8 _ I8 hst) fun yv s9 ⟨y,H9,I9,r9,hD9,m',hm,w9⟩=>?_
   refine bu (bC _ s9 _ H9 (.ref s2.heap.objs.size) [y] (.ref s2.heap.objs.size) [yv] (fun _ H'=>H'=ay H9 s2.heap.objs.size (.lst (zs++ [y]))) I9 rfl (.cons r9 .nil) ⟨_,zs,y,rfl,rfl,hD9,hz,rfl⟩) fun _ s10 ⟨_,H10,I10,_,e10⟩=>?_
   subst e10;refine ⟨m',hm,i+1,zs++ [y],some x,_,I10.unpinned,T.keep _ _ _ t7 fun b hb o e=>(I10.pin (b,o) (ED _ (ED _ (bU hb e)))).1,fun b hb=>?_,w9⟩
   obtain ⟨o,e,d⟩:=T.obj _ _ t7 b hb;exact (I10.pin (b,o) (ED _ (ED _ (bU hb e)))).2.1
 subst hs3;exact codeAny_compStart_list loop (T.self _ 0 _ _ _ t0 loop)
end
theorem vO {X:Cx} (hu:X.A.units<cLine):fU X (compareOp .NotEq) (fun x y H Q=>∃a b zs,x= .ref a/\y= .ref b/\aQ X.K H a zs/\aQ X.K H b []/\Q (.bl (!zs.isEmpty)) H):=by
 intro pins s σ H x y v u Q I rx ry h;obtain ⟨a,b,zs,rfl,rfl,h1,h2,hq⟩:=h;cases rx;cases ry;obtain ⟨i1,r1,p1,_⟩:=I.list h1;obtain ⟨i2,r2,p2,_⟩:=I.list h2;cases r2;cases zs with
 |nil=>
  cases r1;refine SeqAt.RcNeAt.lists (e:=fun _=>true) p1.isList p2.isList rfl hu (fun j g1 g2=>absurd g1 (by simp)) _ _ _ _ ?_
  exact ⟨.bl false,H,I,by show Value.bool _=Value.bool _;simp,hq⟩
 |cons z zs=>
  cases r1 with
  |cons r rr=>
   refine SeqAt.RcNeAt.lists_lengths p1.isList p2.isList (by simp) hu _ _ _ _ ?_
   exact ⟨.bl true,H,I,rfl,hq⟩
end L2
namespace Sw
open PySem L2 XH Hm
end Sw
namespace L2
open PySem PySem.Spec PyProof.Rows XH Sw Hm
theorem kj {K:D9} {a:Addr} {xs:List V} {js:List Nat} {te:TE} {σ:L2.St} {H1:Hp} {Q:VK} (P:Hp->V->V->Hp->Prop) (hS:aQ K H1 a xs) (hz:xs.length<=sizeLine)
  (step:∀x∈xs,∀H3,ax H1 H3->∀Q':VK,(∀y H4,P H3 x y H4->ax H3 H4->Q' y H4)->te (some x::bh js σ) H3 Q')
  (fin:∀(p:Addr) (ys:List V) (H':Hp),H1 p=none->ys.length=xs.length->(∀(i:Nat) (x y:V),xs[i]?=some x->ys[i]?=some y->∃H3 H4,ax H1 H3/\H3 p≠none/\P H3 x y H4/\∀b o,b≠p->H4 b=some o->H' b=some o)->ax H1 H'->H' p=some (.lst ys)->Q (.ref p) H'):rD js te σ Q (yt K a) H1:=by
 intro p hp;refine ⟨fun i m ys H2=>i<=xs.length/\m=xs.length-i/\ys.length=i/\(∀(i:Nat) (x y:V),xs[i]?=some x->ys[i]?=some y->∃H3 H4,ax H1 H3/\H3 p≠none/\P H3 x y H4/\∀b o,b≠p->H4 b=some o->H2 b=some o)/\ax H1 H2/\H2 p=some (.lst ys),⟨xs.length,EO _,rfl,rfl,fun i x y _ e=>by simp at e,Sw.aj hp _,ac⟩,?_⟩
 rintro i m ys H2 ⟨hi,rfl,hl,hP,g,e⟩;refine ⟨e,?_⟩;have S2:=g.seq hS
 by_cases hin:i<xs.length
 ·refine .inr ⟨⟨xs,xs[i],S2,E1 hin⟩,by lia,fun x H3 hy=>?_⟩
  obtain ⟨rfl,hx⟩:=hy;have ex:=hx xs S2;refine step x (E6 ex) H3 g _ fun y H4 py g4=>⟨g4 _ _ e,xs.length-(i+1),by lia,hin,rfl,by simp[hl],fun j x' y' e1 e2=>?_,Sw.dM (g.trans g4) hp _,ac⟩
  by_cases hj:j<ys.length
  ·rw[E5 hj] at e2;obtain ⟨A,B,q1,q2,q3,q4⟩:=hP j x' y' e1 e2;exact ⟨A,B,q1,q2,q3,fun b o n q=>by rw[ag n];exact g4 _ _ (q4 b o n q)⟩
  ·have ej:j=i:=by
    have:=(E2.mp e2).1;simp at this
    lia
   subst ej;rw[E7 (by lia),hl] at e2
   simp at e2;subst e2;rw[ex] at e1;cases e1;exact ⟨H3,H4,g,by rw[e];exact nofun,py,fun b o n q=>by rw[ag n];exact q⟩
 ·have e2:i=xs.length:=by lia
  subst e2;exact .inl ⟨⟨xs,S2,E4 _⟩,fin p ys H2 hp hl hP g e⟩
end L2
namespace Sw
open PySem L2 XH Hm
end Sw
namespace L2
open PySem PySem.Spec PyProof.Rows XH
theorem xJ {X:Cx} {K:D9} (h:X.K=K):yz X (A7 K):=by
 subst h;exact aL
theorem qJ {X:Cx} {K:D9} (h:X.K=K):cE X (.type "list") (fun xs H Q=>∃p ys,xs= [.ref p]/\(aQ K H p ys∨bS K H p ys)/\∀l,H l=none->Q (.ref l) (ay H l (.lst ys))):=by
 subst h;exact dL
end L2
namespace Sw
open PySem L2 XH Hm
end Sw
namespace L2
open PySem PySem.Spec PyProof.Rows XH
end L2
namespace Sw
open PySem L2 XH
end Sw
namespace L2
open PySem PySem.Spec PyProof.Rows XH
def kX (R:V->V->Prop):List V->List V->Prop
 | [],[]=>True
 |x::xs,y::ys=>R x y/\kX R xs ys
 |_,_=>False
theorem kX.len {R:V->V->Prop}:∀{xs ys:List V},kX R xs ys->xs.length=ys.length
 | [],[],_=>rfl
 |_::_,_::_,h=>by simp[kX.len h.2]
 | [],_::_,h=>h.elim
 |_::_,[],h=>h.elim
def zU (K:D9) (H:Hp):Nat->V->V->Prop
 |0,x,y=>x=y/\DO x
 |n+1,x,y=>zU K H n x y∨∃a b xs ys,x= .ref a/\y= .ref b/\((bS K H a xs/\bS K H b ys)∨(aQ K H a xs/\aQ K H b ys))/\kX (zU K H n) xs ys
theorem iQ {A:Around} {s:Shared} {R:V->V->Prop} (hR:∀x y u w,R x y->RelV x u->RelV y w->SeqAt.EqAt A s u w true):∀{xs ys:List V} {us ws:HQ},kX R xs ys->aT xs us->aT ys ws->∀j (h1:j<us.length) (h2:j<ws.length),SeqAt.EqAt A s us[j] ws[j] true
 | [],[],_,_,_,.nil,.nil,j,h1,_=>absurd h1 (by simp)
 |_::_,_::_,_,_,h,.cons r1 _,.cons r2 _,0,_,_=>hR _ _ _ _ h.1 r1 r2
 |_::_,_::_,_,_,h,.cons _ t1,.cons _ t2,j+1,h1,h2=>iQ hR h.2 t1 t2 j (by simpa using h1) (by simpa using h2)
theorem nB {X:Cx} {pins:HL} {σ:St} {H:Hp} {s:Shared} (I:aE X pins σ H s):∀(n:Nat) (A:Around) (x y:V) (u w:Value),A.units+n<cLine->zU X.K H n x y->RelV x u->RelV y w->SeqAt.EqAt A s u w true
 |0,A,x,y,u,w,_,h,r1,r2=>by
  obtain ⟨rfl,hs⟩:=h;exact u7 hs r1 r2
 |n+1,A,x,y,u,w,hu,h,r1,r2=>by
  rcases h with h|⟨a,b,xs,ys,rfl,rfl,hq,hA⟩
  ·exact nB I n A x y u w (by lia) h r1 r2
  cases r1;cases r2
  by_cases e:a=b
  ·subst e;exact SeqAt.EqAt.same _
  refine SeqAt.EqAt.of_refs e ?_;have ih:=fun x y u w=>nB I n A.in1 x y u w (by show A.units+1+n<_;lia)
  rcases hq with ⟨h1,h2⟩|⟨h1,h2⟩
  ·obtain ⟨i1,v1,p1,_⟩:=I.tuple h1;obtain ⟨i2,v2,p2,_⟩:=I.tuple h2;have k:=SeqAt.RcAt.tuples (A:=A) (e:=fun _=>true) p1 p2 (by lia) fun j g1 g2=>iQ (A:=A.in1) (s:=s) ih hA v1 v2 j (by simpa using g1) (by simpa using g2)
   have e1:∀m,((List.range m).all fun _=>true)=true:=fun m=>by simp
   rw[e1] at k
   simpa [<-v1.length,<-v2.length,hA.len] using k
  ·obtain ⟨i1,v1,p1,_⟩:=I.list h1;obtain ⟨i2,v2,p2,_⟩:=I.list h2;have k:=SeqAt.RcAt.lists (A:=A) (e:=fun _=>true) p1.isList p2.isList (by simp[<-v1.length,<-v2.length,hA.len]) (by lia) fun j g1 g2=>iQ (A:=A.in1) (s:=s) ih hA v1 v2 j (by simpa using g1) (by simpa using g2)
   have e1:∀m,((List.range m).all fun _=>true)=true:=fun m=>by simp
   rw[e1] at k;exact k
theorem zV {X:Cx} (n:Nat) (hu:X.A.units+(n+1)<cLine):fU X (compareOp .Eq) (fun x y H Q=>∃a b xs ys,x= .ref a/\y= .ref b/\aQ X.K H a xs/\aQ X.K H b ys/\kX (zU X.K H n) xs ys/\Q (.bl true) H):=by
 intro pins s σ H x y v u Q I rx ry h;obtain ⟨a,b,xs,ys,rfl,rfl,h1,h2,hA,hq⟩:=h;cases rx;cases ry;obtain ⟨i1,v1,p1,_⟩:=I.list h1;obtain ⟨i2,v2,p2,_⟩:=I.list h2;refine SeqAt.eq_listAt (e:=fun _=>true) p1.isList p2.isList (by simp[<-v1.length,<-v2.length,hA.len]) (by lia) (fun j g1 g2=>?_) ?_
 ·exact iQ (A:=X.A.in1) (s:=s) (fun x y u w=>nB I n X.A.in1 x y u w (by show X.A.units+1+n<_;lia)) hA v1 v2 j (by simpa using g1) (by simpa using g2)
 ·exact ⟨.bl true,H,I,by show Value.bool _=Value.bool _;simp,hq⟩
end L2
namespace Sw
open PySem L2 XH
def r6:Sp:=fun _ _ _ _=>False
end Sw
namespace L2
open PySem PySem.Spec PyProof.Rows XH Sw So
theorem r8 {X:Cx} (n:Nat) (hu:X.A.units+(n+1)<cLine):fU X (compareOp .Eq) (fun x y H Q=>∃a b xs ys,x= .ref a/\y= .ref b/\bS X.K H a xs/\bS X.K H b ys/\kX (zU X.K H n) xs ys/\Q (.bl true) H):=by
 intro pins s σ H x y v u Q I rx ry h;obtain ⟨a,b,xs,ys,rfl,rfl,h1,h2,hA,hq⟩:=h;cases rx;cases ry;obtain ⟨i1,v1,p1,_⟩:=I.tuple h1;obtain ⟨i2,v2,p2,_⟩:=I.tuple h2;refine SeqAt.eq_tupleAt (e:=fun _=>true) p1 p2 (by lia) (fun j g1 g2=>?_) ?_
 ·exact iQ (A:=X.A.in1) (s:=s) (fun x y u w=>nB I n X.A.in1 x y u w (by show X.A.units+1+n<_;lia)) hA v1 v2 j (by simpa using g1) (by simpa using g2)
 ·exact ⟨.bl true,H,I,by show Value.bool _=Value.bool _;simp[<-v1.length,<-v2.length,hA.len],hq⟩
end L2
namespace Sw
open PySem L2 XH Hm
end Sw
namespace L2
open PySem PySem.Spec PyProof.Rows XH Sw Hm
end L2
namespace Sw
open PySem L2 XH Hm
theorem gw {as:HP} {i:Nat} {y:V} (h:(as.map V.ref)[i]?=some y):∃a,as[i]?=some a/\y= .ref a:=by
 rw[EA] at h;obtain ⟨a,e,rfl⟩:=Et.mp h;exact ⟨a,e,rfl⟩
theorem cD {α:Type} {f:α->V} {xs:List α} {i:Nat} {x:α} (h:xs[i]?=some x):(xs.map f)[i]?=some (f x):=by rw[EA,h];rfl
end Sw
namespace L2
open PySem PySem.Spec PyProof.Rows XH Sw Hm
end L2
namespace Sw
open PySem L2 XH Hm
end Sw
namespace L2
open PySem PySem.Spec PyProof.Rows XH Sw Hm
end L2
namespace Sw
open PySem L2 XH Hm
end Sw
namespace L2
open PySem PySem.Spec PyProof.Rows XH Sw Hm
end L2
namespace Sw
open PySem L2 XH Hm
theorem gX {α:Type} {P:List α->Prop} (h:∀a,P [a]):∀us:List α,us.length=1->P us
 | [a],_=>h a
theorem bQ {α:Type} {P:List α->Prop} (h:∀a b,P [a,b]):∀us:List α,us.length=2->P us
 | [a,b],_=>h a b
theorem jf {α:Type} {P:List α->Prop} (h:∀a b c,P [a,b,c]):∀us:List α,us.length=3->P us
 | [a,b,c],_=>h a b c
theorem zW {α:Type} {P:List α->Prop} (h:∀a b c d,P [a,b,c,d]):∀us:List α,us.length=4->P us
 | [a,b,c,d],_=>h a b c d
theorem qK {α:Type} {P:List α->Prop} (h:∀a b c d e,P [a,b,c,d,e]):∀us:List α,us.length=5->P us
 | [a,b,c,d,e],_=>h a b c d e
end Sw
namespace Wo
open PySem Hm So
end Wo
namespace L2
open PySem PySem.Spec PyProof.Rows XH Hm Wo
end L2
namespace Sw
open PySem L2 XH Hm Wo So PyProof.Rows
def eh (vw:HE) (c:HN):Nat->Int×Int
 |0=>(1,1)
 |n+1=>((eh vw c n).1*(vw (c.getD n "") (c.getD (n+1) "")).1,(eh vw c n).2*(vw (c.getD n "") (c.getD (n+1) "")).2)
theorem sd (vw:HE) (c:HN) (x:Str):∀n,n<c.length->eh vw (c++ [x]) n=eh vw c n
 |0,_=>rfl
 |n+1,h=>by
  have ih:=sd vw c x n (by lia)
  have e1:(c++ [x]).getD n "" =c.getD n "" :=by rw[Ee,Ee,E5 (by lia)]
  have e2:(c++ [x]).getD (n+1) "" =c.getD (n+1) "" :=by rw[Ee,Ee,E5 h]
  unfold eh;rw[ih,e1,e2]
theorem vP (vw:HE) (c:HN) (x:Str) (n:c≠ []):eh vw (c++ [x]) c.length=((eh vw c (c.length-1)).1*(vw (aI c) x).1,(eh vw c (c.length-1)).2*(vw (aI c) x).2):=by
 obtain ⟨a,y,rfl⟩:∃a y,c=a++ [y]:=⟨c.dropLast,c.getLast n,(List.dropLast_concat_getLast n).symm⟩;have l:(a++ [y]).length=a.length+1:=by rw[E8];rfl
 rw[bP,l,Nat.add_sub_cancel];show ((eh vw (a++ [y]++ [x]) a.length).1*_,(eh vw (a++ [y]++ [x]) a.length).2*_)=_;rw[sd vw (a++ [y]) x a.length (by lia)]
 have e1:(a++ [y]++ [x]).getD a.length "" =y:=by rw[Ee,List.append_assoc,E7 (E4 _),FE];rfl
 have e2:(a++ [y]++ [x]).getD (a.length+1) "" =x:=by rw[Ee,E7 (by lia),l,FE];rfl
 rw[e1,e2]
def kY (vw:HE) (c:HN) (p q:Int):Prop:=c≠ []/\p*(eh vw c (c.length-1)).2=(eh vw c (c.length-1)).1*q/\bW p q=1/\0<q
theorem vQ (vw:HE) (x:Str):kY vw [x] 1 1:=⟨nofun,rfl,by decide,by decide⟩
theorem sg {vw:HE} {c:HN} {p q r s:Int} {x:Str} (h:kY vw c p q) (f:Fr r s (p*(vw (aI c) x).1) (q*(vw (aI c) x).2)):kY vw (c++ [x]) r s:=by
 obtain ⟨n,e,_,q0⟩:=h;refine ⟨by simp,?_,f.low,f.pos⟩
 rw[E8,EJ,Nat.add_sub_cancel,vP vw c x n];have e2:=f.same;generalize (eh vw c (c.length-1)).1=T at*;generalize (eh vw c (c.length-1)).2=B at*;generalize (vw (aI c) x).1=u at*;generalize (vw (aI c) x).2=v at*;show r*(B*v)=(T*u)*s;refine gP (k:=q) ?_ (by lia)
 grind
theorem xK {vw:HE} {c:HN} {p q p' q':Int} (h:kY vw c p q) (f:Fr p' q' (eh vw c (c.length-1)).1 (eh vw c (c.length-1)).2) (B0:0<(eh vw c (c.length-1)).2):p=p'/\q=q':=by
 obtain ⟨_,e,g,q0⟩:=h;refine fz ⟨q0,g⟩ ⟨f.pos,f.low⟩ (gP (k:=(eh vw c (c.length-1)).2) ?_ (by lia))
 have e2:=f.same;generalize (eh vw c (c.length-1)).1=T at*;generalize (eh vw c (c.length-1)).2=B at*
 grind
theorem BD.mono {H H1:Hp} {d:Addr} {n m:Nat} {dk:List (Key×V)} {g:HD} (h:BD H H1 d n dk g) (l:n<=m):BD H H1 d m dk g:=⟨h.at_,EX h.few l,h.inj,fun x=>by
 rcases h.ex x with z|⟨a,row,q1,q2,q3,q4,q5,q6,q7⟩
 ·exact .inl z
 ·exact .inr ⟨a,row,q1,q2,q3,q4,q5,EX q6 l,q7⟩⟩
theorem BD.new {H H1:Hp} {d pn:Addr} {n:Nat} {dk:List (Key×V)} {g:HD} (h:BD H H1 d n dk g) (hn:H1 pn=none) (x:Str):aP dk (.inr x)≠some (.ref pn):=fun z=>by
 rcases h.ex x with ⟨w,_⟩|⟨a,row,q1,q2,_⟩
 ·rw[w] at z;cases z
 ·rw[z] at q1;cases q1;rw[hn] at q2;cases q2
def hF (F:HP):Hp:=fun a=>if a∈F then none else some (.lst [])
theorem fL {F:HP} {a:Addr}:hF F a=none↔a∈F:=by
 unfold hF
 by_cases h:a∈F
 ·simp[h]
 ·simp[h]
theorem xL {F F':HP} {H1:Hp} {d:Addr} {n:Nat} {dk:List (Key×V)} {g:HD} (h:BD (hF F) H1 d n dk g) (s:∀a∈F,a∈F'):BD (hF F') H1 d n dk g:=
 ⟨h.at_,h.few,h.inj,fun x=>by
  rcases h.ex x with z|⟨a,row,q1,q2,q3,q4⟩
  ·exact .inl z
  ·exact .inr ⟨a,row,q1,q2,fL.mpr (s a (fL.mp q3)),q4⟩⟩
theorem nC {H0 H1:Hp} {d l:Addr} {n:Nat} {dk:List (Key×V)} {g:HD} (h:BD H0 H1 d n dk g) (ld:l≠d) (li:∀y,aP dk (.inr y)≠some (.ref l)) (u:HO):BD H0 (ay H1 l u) d n dk g:=
 ⟨by rw[ag (fun z=>ld z.symm)];exact h.at_,h.few,h.inj,fun x=>by
  rcases h.ex x with z|⟨a,row,q1,q2,q3⟩
  ·exact .inl z
  ·exact .inr ⟨a,row,q1,by rw[ag (fun z=>li x (by rw[<-z];exact q1))];exact q2,q3⟩⟩
theorem xM {H0 H1 H2:Hp} {d:Addr} {n:Nat} {dk:List (Key×V)} {g:HD} {F0:HP} (h:BD H0 H1 d n dk g) (k:KF F0 H1 H2) (hd:d∉F0) (hi:∀y a,aP dk (.inr y)=some (.ref a)->a∉F0):BD H0 H2 d n dk g:=
 ⟨k _ _ hd h.at_,h.few,h.inj,fun x=>by
  rcases h.ex x with z|⟨a,row,q1,q2,q3⟩
  ·exact .inl z
  ·exact .inr ⟨a,row,q1,k _ _ (hi x a q1) q2,q3⟩⟩
def CI:HN:= ["part","stand","bar","allow","known","held","barred","stand_in","learn"]
structure LB (C:Addr) (F:HP) (H:Hp) (x:Addr) (rows:HJ) (m:Nat) (g:HD) (bs ns:HN):Prop where
 ex:∃(F0:HP) (dx s b:Addr) (fs:List (Str×V)) (dk:List (Key×V)),LA C F0 H x rows ns/\H x=some (.ins C dx fs)/\fs.lookup ("stands" :Str)=some (.ref s)/\fs.lookup ("bars" :Str)=some (.ref b)/\BD (hF F) H s m dk g/\H b=some (.dK (aY bs (.bl true)))/\
  s≠b/\s∉F0/\b∉F0/\(∀y a,aP dk (.inr y)=some (.ref a)->a∉F0/\a≠b)/\(∀a∈F0,a∈F)/\s∈F/\b∈F/\(∀a∈F,∃kv,H a=some (.dK kv))/\∀m∈CI,fs.lookup m=none
section
variable {C:Addr} {F:HP} {H H':Hp} {x:Addr} {rows:HJ} {m:Nat} {g:HD} {bs ns:HN}
theorem LB.same (h:LB C F H x rows m g bs ns) (e:ax H H'):LB C F H' x rows m g bs ns:=by
 obtain ⟨F0,dx,s,b,fs,dk,la,ex,es,eb,bd,hb,q1,q2,q3,q4,q5,q6,q7,q8,q9⟩:=h.ex;exact ⟨F0,dx,s,b,fs,dk,la.same e,e _ _ ex,es,eb,bd.same e,e _ _ hb,q1,q2,q3,q4,q5,q6,q7,fun a ha=>by obtain ⟨kv,z⟩:=q8 a ha;exact ⟨kv,e _ _ z⟩,q9⟩
theorem LB.not (h:LB C F H x rows m g bs ns) {a:Addr} {o:HO} (e:H a=some o) (k:∀kv,o≠ .dK kv):a∉F:=fun z=>by
 obtain ⟨F0,dx,s,b,fs,dk,la,ex,es,eb,bd,hb,q1,q2,q3,q4,q5,q6,q7,q8,q9⟩:=h.ex;obtain ⟨kv,e'⟩:=q8 a z;rw[e] at e';exact k kv (ET e')
theorem LB.free (h:LB C F H x rows m g bs ns) {a:Addr} (e:H a=none):a∉F:=fun z=>by
 obtain ⟨F0,dx,s,b,fs,dk,la,ex,es,eb,bd,hb,q1,q2,q3,q4,q5,q6,q7,q8,q9⟩:=h.ex;obtain ⟨kv,e'⟩:=q8 a z;rw[e] at e';cases e'
theorem LB.la (h:LB C F H x rows m g bs ns):∃F0,LA C F0 H x rows ns/\(∀a∈F0,a∈F)/\∀H' rows' ms,LA C F0 H' x rows' ms->KF F0 H H'->LB C F H' x rows' m g bs ms:=by
 obtain ⟨F0,dx,s,b,fs,dk,la,ex,es,eb,bd,hb,q1,q2,q3,q4,q5,q6,q7,q8,q9⟩:=h.ex;refine ⟨F0,la,q5,fun H' rows' ms la' k=>?_⟩
 have xn:x∉F0:=la.not ex (fun _ z=>nomatch z)
 refine ⟨F0,dx,s,b,fs,dk,la',k _ _ xn ex,es,eb,xM bd k q2 fun y a e=>(q4 y a e).1,k _ _ q3 hb,q1,q2,q3,q4,q5,q6,q7,fun a ha=>?_,q9⟩
 by_cases c:a∈F0
 ·exact la'.dict c
 ·obtain ⟨kv,e⟩:=q8 a ha;exact ⟨kv,k _ _ c e⟩
theorem LB.at_ (h:LB C F H x rows m g bs ns):∃(dx s b:Addr) (fs:List (Str×V)) (dk:List (Key×V)),H x=some (.ins C dx fs)/\fs.lookup ("stands" :Str)=some (.ref s)/\fs.lookup ("bars" :Str)=some (.ref b)/\BD (hF F) H s m dk g/\H b=some (.dK (aY bs (.bl true)))/\(∀m∈CI,fs.lookup m=none)/\s∈F/\b∈F/\
  (∀ms,LB C F (ay H b (.dK (aY ms (.bl true)))) x rows m g ms ns/\KF F H (ay H b (.dK (aY ms (.bl true))))):=by
 obtain ⟨F0,dx,s,b,fs,dk,la,ex,es,eb,bd,hb,q1,q2,q3,q4,q5,q6,q7,q8,q9⟩:=h.ex;refine ⟨dx,s,b,fs,dk,ex,es,eb,bd,hb,q9,q6,q7,fun ms=>⟨⟨F0,dx,s,b,fs,dk,?_,?_,es,eb,nC bd (fun z=>q1 z.symm) (fun y e=>(q4 y b e).2 rfl) _,ac,q1,q2,q3,q4,q5,q6,q7,fun a ha=>?_,q9⟩,KF.put _ q7⟩⟩
 ·obtain ⟨dx',p,n,fs',rs,a,b',c,d,e,f,i,j,k⟩:=la.ex;subst i;have bp:p≠b:=fun z=>q3 (by simp[z])
  have bn:n≠b:=fun z=>q3 (by simp[z])
  have br:b∉rs:=fun z=>q3 (by simp[z])
  have xb:x≠b:=fun z=>by rw[z,hb] at a;cases a
  exact ⟨dx',p,n,fs',rs,by rw[ag xb];exact a,b',c,d.other br,by rw[ag bp];exact e,by rw[ag bn];exact f,rfl,j,k⟩
 ·rw[ag (fun z=>by rw[z,hb] at ex;cases ex)]
  exact ex
 ·by_cases c:a=b
  ·exact ⟨_,by rw[c];exact ac⟩
  ·obtain ⟨kv,e⟩:=q8 a ha;exact ⟨kv,by rw[ag c];exact e⟩
theorem LB.stands (h:LB C F H x rows m g bs ns) {s r:Addr} {dx:Addr} {fs:List (Str×V)} {u:HO} {m':Nat} {dk':List (Key×V)} {g':HD} {F':HP} (ex:H x=some (.ins C dx fs)) (es:fs.lookup ("stands" :Str)=some (.ref s)) (kF:∀a∈F,a∈F') (K2:∀a o,a∉F'->H a=some o->H' a=some o)
  (keep:∀a o,H a=some o->a≠s->(∀dk,H s=some (.dK dk)->∀y,aP dk (.inr y)≠some (.ref a))->H' a=some o) (bd:BD (hF F') H' s m' dk' g') (inn:∀dk,H s=some (.dK dk)->∀y a,aP dk' (.inr y)=some (.ref a)->aP dk (.inr y)=some (.ref a)∨H a=none) (dd:∀a∈F',∃kv,H' a=some (.dK kv)):LB C F' H' x rows m' g' bs ns:=by
 obtain ⟨F0,dx',s',b,fs',dk,la,ex',es',eb,bd0,hb,q1,q2,q3,q4,q5,q6,q7,q8,q9⟩:=h.ex;rw[ex'] at ex;cases ex;rw[es'] at es;cases es;have out:∀a,a∈F0->a≠s/\(∀dk,H s=some (.dK dk)->∀y,aP dk (.inr y)≠some (.ref a)):=fun a ha=>⟨fun z=>q2 (by rw[<-z];exact ha),fun dk2 e y z=>by
  rw[bd0.at_] at e;cases e;exact (q4 y a z).1 ha⟩
 have bo:b≠s/\(∀dk,H s=some (.dK dk)->∀y,aP dk (.inr y)≠some (.ref b)):=⟨fun z=>q1 z.symm,fun dk2 e y z=>by
  rw[bd0.at_] at e;cases e;exact (q4 y b z).2 rfl⟩
 have kp:∀a∈F0,∀o,H a=some o->H' a=some o:=fun a ha o e=>keep a o e (out a ha).1 (out a ha).2
 have xk:H' x=some (.ins C dx fs):=keep x _ ex' (fun z=>by rw[z,bd0.at_] at ex';cases ex') fun dk2 e y z=>by
  rw[bd0.at_] at e;cases e;rcases bd0.ex y with ⟨z1,_⟩|⟨a,row,z1,z2,_⟩
  ·rw[z] at z1;cases z1
  ·rw[z] at z1;cases z1;rw[ex'] at z2;cases z2
 refine ⟨F0,dx,s,b,fs,dk',?_,xk,es',eb,bd,keep b _ hb bo.1 bo.2,q1,q2,q3,fun y a e=>?_,fun a ha=>kF a (q5 a ha),kF s q6,kF b q7,dd,q9⟩
 ·obtain ⟨dx',p,n,fs',rs,a,b',c,d,e,f,i,j,k⟩:=la.ex;subst i;rw[ex'] at a;cases a;refine ⟨dx,p,n,fs,rs,xk,b',c,?_,kp p (by simp) _ e,kp n (by simp) _ f,rfl,j,k⟩
  clear f e c b' k;have:∀{rows:HJ} {rs:HP},bL H rows rs->(∀a∈rs,∀o,H a=some o->H' a=some o)->bL H' rows rs:=fun {rows}=>by
   induction rows with
   |nil=>intro rs d _;cases rs with|nil=>exact d|cons _ _=>exact d.elim
   |cons r1 rows ih=>
    intro rs d kk;cases rs with
    |nil=>exact d.elim
    |cons a rs=>exact ⟨kk a (by simp) _ d.1,ih d.2 fun b hb=>kk b (by simp[hb])⟩
  exact this d fun a ha=>kp a (by simp[ha])
 ·rcases inn dk bd0.at_ y a e with z|z
  ·exact q4 y a z
  ·refine ⟨fun w=>?_,fun w=>?_⟩
   ·obtain ⟨kv,e'⟩:=la.dict w;rw[z] at e';cases e'
   ·rw[w,hb] at z;cases z
end
end Sw
namespace L2
open PySem PySem.Spec PyProof.Rows XH
open Sw So
theorem gj {X:Cx} (hc:X.calm=true):cE X (.builtin "sorted") (fun xs H Q=>∃d ks kvs,xs= [.ref d]/\H d=some (.dK kvs)/\kvs.map (·.1)=ks.map (fun y=>(.inr y:Key))/\ks.Nodup/\ks.length<64/\
  ∀p ys,H p=none->ys.Perm ks->sortedS ys=true->Q (.ref p) (ay H p (.lst (ys.map V.str)))):=by
 intro pins s σ H xs us Q I r h;obtain ⟨d,ks,kvs,rfl,hk,ek,nd,l64,q⟩:=h;obtain ⟨u,rfl,ru⟩:=vals1 r;cases ru;obtain ⟨z,hS,ws,rel,D⟩:=iC I.hok hk;obtain ⟨ep,hat⟩:=D.dictAt;have lw:ws.length=ks.length:=by
  rw[<-rel.length];have:=congrArg List.length ek
  simpa using this
 refine Calls.call_function_entry kind_sorted plain_sorted entry_sorted (args_sorted1 _) ?_;unfold Builtin.«sorted»;refine wpAny_bind (m:=checkCount "sorted" 1 1 _) (wpAny_pure ?_);refine wpAny_bind (oU (A:=X.A.in1) (PySem.W.kdl_dict (knd:=bg X.prog X.w) (kvs:=ws) (ep:=ep) hS) (I.ok.hd hc) hat (by rw[<-rel.length];exact z) fun h' tk acc hlt hkp hacc=>?_)
 have la:acc.toList.length=ks.length:=by rw[Ez,hacc.1,lw]
 have SA:StrsAre acc.toList ks:=rS la fun j v hv=>by
  obtain ⟨k,x,e1,e2⟩:=hacc.2 j v (by rw[<-Em];exact hv)
  obtain ⟨⟨k',v'⟩,e3,rfl,_⟩:=jc rel e1;have e4:(kvs.map (·.1))[j]?=some k':=by rw[EA,e3];rfl
  rw[ek,EA] at e4;cases e5:ks[j]? with
  |none=>rw[e5] at e4;cases e4
  |some y=>
   rw[e5] at e4;cases e4;obtain ⟨t,ht⟩:=rN e2;exact ⟨y,t,rfl,ht⟩
 refine wpAny_bind (wpAny_newList ?_ (by rw[la,<-lw,<-rel.length];exact z))
 have hoL:(h'.push (seqObj "list" acc.toList.toArray 0)).get? h'.objs.size=some (seqObj "list" acc.toList.toArray 0):=Heap.get?_push_size _ rfl;refine wpAny_bind (wpAny_holding (wpAny_call_entry slot_list_sort ⟨_,hoL,rfl⟩ entry_list_sort (list_sort_treeK strKind_oneLt hoL SA.keysOf (fun v₁ v₂ rest e=>keyKind_strs (by rw[<-e];exact SA)) (by rw[la];exact l64) fun st' hp hs=>⟨_,rfl,?_⟩) (args_list_sort _)))
 obtain ⟨ys,h1,h2,h3⟩:=sorted_out_str SA hp hs;have sl:s.heap.objs.size<=h'.objs.size:=Nat.le_of_lt hlt;refine wpAny_pure ⟨_,rfl,.ref h'.objs.size,_,I.laid (a:=h'.objs.size) (o:= .lst (ys.map V.str)) (h':=sortedHeap (h'.push (seqObj "list" acc.toList.toArray 0)) h'.objs.size acc.toList ((arrOf st').map (·.2))) (t':=tk) (fun b o eo=>?_) sl ?_,rfl,q _ ys (I.hok.fresh sl) h2 h3⟩
 ·have eo':=hkp b o eo;have bl:=Heap.lt_size eo';rw[sortedHeap_old (EE bl) (by rw[size_push'];exact F3 bl)]
  exact Heap.get?_push_of_some _ eo'
 ·obtain ⟨e,he⟩:=sortedHeap_at (out:=(arrOf st').map (·.2)) hoL;refine ⟨by rw[E3,h2.length_eq,<-lw,<-rel.length];exact z,((arrOf st').map (·.2)).toList,e,iL h1,?_⟩
  rw[Array.toArray_toList];exact he
end L2
namespace Sw
open PySem L2 XH Hm
end Sw
namespace L2
open PySem PySem.Spec PyProof.Rows XH Sw Hm
end L2
namespace Sw
open PySem L2 XH Hm
end Sw
namespace L2
open PySem PySem.Spec PyProof.Rows XH Sw
end L2
namespace Sw
open PySem L2 XH Hm
end Sw
namespace L2
open PySem PySem.Spec PyProof.Rows XH Sw
end L2
namespace Sw
open PySem L2 XH Hm PySem.NumText
end Sw
namespace L2
open PySem PySem.Spec PyProof.Rows XH Sw
theorem si:∀{xs:List V} {us:HQ},xs.length=us.length->(∀(j:Nat) (x:V) (u:Value),xs[j]?=some x->us[j]?=some u->RelV x u)->aT xs us
 | [],[],_,_=> .nil
 |x::xs,u::us,h,f=> .cons (f 0 x u rfl rfl) (si (by simpa using h) fun j y w e1 e2=>f (j+1) y w (by simpa using e1) (by simpa using e2))
 | [],_::_,h,_=>by simp at h
 |_::_,[],h,_=>by simp at h
theorem qL {X:Cx} (hc:X.calm=true):cE X (.type "list") (fun xs H Q=>∃(d:Addr) (kvs:List (Key×V)),xs= [.ref d]/\H d=some (.dK kvs)/\∀l,H l=none->Q (.ref l) (ay H l (.lst (kvs.map fun p=>kV p.1)))):=by
 intro pins s σ H xs us Q I r h;obtain ⟨d,kvs,rfl,hk,q⟩:=h;obtain ⟨u,rfl,ru⟩:=vals1 r;cases ru;obtain ⟨z,hS,ws,rel,D⟩:=iC I.hok hk;obtain ⟨ep,hat⟩:=D.dictAt;refine PySem.W.kdl_call (PySem.W.kdl_dict (knd:=bg X.prog X.w) (kvs:=ws) (ep:=ep) hS) (I.ok.hd hc) hat (by rw[<-rel.length];exact z) fun h' tk acc' c' kp hS' hacc=>?_
 have hv:aT (kvs.map fun p=>kV p.1) acc'.toList:=si (by
   have el:acc'.toList.length=acc'.size:=by simp
   rw[E3,el,hacc.1,rel.length]) fun j x u e1 e2=>by
  rw[EA] at e1;obtain ⟨⟨k,v⟩,e3,rfl⟩:=Et.mp e1;obtain ⟨k',x',e4,e5⟩:=hacc.2 j u (by rw[<-Em];exact e2)
  obtain ⟨u',e6,_⟩:=vk rel j e3;rw[e6] at e4;cases e4;exact rN e5
 exact ⟨.ref s.heap.objs.size,_,I.laid (t':=tk) kp (E4 _) (show a7 X.prog X.w _ h' _ (.lst _) from ⟨by rw[E3];exact z,acc'.toList,c',hv,by simpa using hS'⟩),rfl,q _ (I.hok.fresh (E4 _))⟩
end L2
namespace Sw
open PySem L2 XH PyProof.Rows Wo Hm
def yJ (K:D9):Sp:=fun vs H Q _=>∃(d:Addr) (good:Str) (b m:Nat) (vw:HE) (g:HD) (U:HN) (Rt:HN->Int->Int->Prop),vs= [.ref d,.str good]/\vJ K b vw H d g/\
 (∀x y,rZ g x y->y∈U)/\U.length<=m/\m<=60/\1<=b/\b*(m+2)<=4000/\Rt [good] 1 1/\(∀c p q x t r s,Rt c p q->g (aI c) x=some t->Fr r s (p*(vw (aI c) x).1) (q*(vw (aI c) x).2)->Rt (c++ [x]) r s)/\
 ∀(l:Addr) (cs:List HN) (H':Hp),ax H H'->H l=none->D5 K b Rt (fun c=>H c=none) H' l cs->fO (rZ g) good cs cs.length (fun _=>False)->Q (.ref l) H'
theorem km {p st b n:V}:(iM p st b n).lookup ("stands" :Str)=some st/\(iM p st b n).lookup ("bars" :Str)=some b/\∀m∈CI,(iM p st b n).lookup m=none:=by
 refine ⟨?_,?_,fun m hm=>?_⟩
 ·unfold iM;rw[aH,if_neg (by decide),aH,if_neg (by decide),aH,if_pos rfl]
 ·unfold iM;rw[aH,if_neg (by decide),aH,if_pos rfl]
 ·unfold CI at hm;simp only[EC,Eg,or_false] at hm;unfold iM;rcases hm with rfl|rfl|rfl|rfl|rfl|rfl|rfl|rfl|rfl<;>(rw[aH,if_neg (by decide),aH,if_neg (by decide),aH,if_neg (by decide),aH,if_neg (by decide)];rfl)
theorem zX {H0 H1:Hp} {d:Addr} (e:H1 d=some (.dK [])):BD H0 H1 d 0 [] (fun _ _=>none):=⟨e,E4 _,fun x x' a h=>(by cases h),fun x=> .inl ⟨rfl,fun _=>rfl⟩⟩
def kZ (bs:HN) (z:Str):HN:=bs.filter fun y=>decide (y≠z)
theorem tU (bs:HN) (v:V) (z:Str):jQ (aY bs v) (.inr z)=aY (kZ bs z) v:=by
 unfold jQ aY kZ;rw[List.filter_map]
 congr 1
 apply List.filter_congr;intro y _
 by_cases c:y=z
 ·simp[c]
 ·have:¬((.inr y:Key)= .inr z):=fun e=>c (by injection e)
  simp[c]
theorem tV {bs:HN} {z:Str} (h:z∉bs):kZ bs z=bs:=by
 unfold kZ;rw[List.filter_eq_self];intro y hy;exact decide_eq_true fun e=>h (by rw[<-e];exact hy)
def qM (H:Hp) (r:V) (p q:Int):Prop:=(r= .non/\p=1/\q=1)∨∃t,r= .ref t/\H t=some (.tup [.int p,.int q])/\0<p/\nS p q/\Bd 200 p/\Bd 200 q
def jw (K:D9) (H:Hp) (r:V):Prop:=r≠ .non/\(tD K H r false∨∃(t:Addr) (p q:Int),r= .ref t/\H t=some (.tup [.int p,.int q])/\tD K H r true/\p<=0)
theorem jw.same {K:D9} {H H':Hp} {r:V} (h:jw K H r) (g:ax H H'):jw K H' r:=by
 obtain ⟨n,h|⟨t,p,q,e,et,f,z⟩⟩:=h
 ·exact ⟨n,.inl (h.same g)⟩
 ·exact ⟨n,.inr ⟨t,p,q,e,g _ _ et,f.same g,z⟩⟩
def nD (g:HD) (zg zo:Str) (t:Addr):Str->Str->HR:=fun a b=>if a=zg/\b=zo then some t else g a b
section
variable (K:D9) (C cN cS cI:Addr)
def mn:Sp:=fun vs H Q _=>∃(x dx:Addr),vs= [.ref x]/\H x=some (.ins C dx [])/\∀H' F,(∀a o,a≠x->H a=some o->H' a=some o)->(∀a∈F,H a=none)->LB C F H' x [] 0 (fun _ _=>none) [] []->Q .non H'
def vR:Sp:=fun vs H Q E=>∃(x:Addr) (v:V) (F:HP) (rows:HJ) (m:Nat) (g:HD) (bs ns:HN),vs= [.ref x,v]/\LB C F H x rows m g bs ns/\bs.length<=200/\ns.Nodup/\ns.length<=79/\(j6 v∨eY K H v)/\
 (¬j6 v->∀H',ax H H'->E (.ref cN) none H')/\
 ∀z,v= .str z->Nm z->∀H' ms,KF F H H'->LB C F H' x rows m g (cu bs z) ms->ms.Nodup->(∀y,y∈ms↔y∈ns∨y=z)->Q .non H'
def pf:Sp:=fun vs H Q E=>∃(x:Addr) (v:V) (F:HP) (rows:HJ) (m:Nat) (g:HD) (bs ns:HN),vs= [.ref x,v]/\LB C F H x rows m g bs ns/\(j6 v∨eY K H v)/\
 (¬j6 v->∀H',ax H H'->E (.ref cN) none H')/\
 ∀z,v= .str z->Nm z->∀H',KF F H H'->LB C F H' x rows m g (kZ bs z) ns->Q .non H'
def ko:Sp:=fun vs H Q E=>∃(x:Addr) (v w r:V) (F:HP) (rows:HJ) (m:Nat) (g:HD) (bs ns:HN),vs= [.ref x,v,w,r]/\LB C F H x rows m g bs ns/\m<=1000/\ns.Nodup/\ns.length<=78/\(j6 v∨eY K H v)/\(j6 w∨eY K H w)/\((∃p q,qM H r p q)∨jw K H r)/\
 (¬(j6 v/\j6 w)->∀H',ax H H'->E (.ref cN) none H')/\
 ∀zg zo,v= .str zg->w= .str zo->Nm zg->Nm zo->
  ((zg=zo∨rZ g zg zo∨jw K H r)->∀H',ax H H'->E (.ref cS) none H')/\
  (zg≠zo->¬rZ g zg zo->∀p q,qM H r p q->∀(F':HP) (H':Hp) (ms:HN) (t:Addr),KF F H H'->FG F F' H->LB C F' H' x rows (m+2) (nD g zg zo t) bs ms->H' t=some (.tup [.int p,.int q])->(∀r',r= .ref r'->t=r')->ms.Nodup->(∀y,y∈ms↔y∈ns∨y=zg∨y=zo)->Q .non H')
def Blk (ps:HK) (bs:HN) (y:Str):Prop:=∃b∈bs,Led ps y b
structure ph (K:D9) (H:Hp) (g:HD) (vw:HE):Prop where
 fr:∀x y t,g x y=some t->H t=some (.tup [.int (vw x y).1,.int (vw x y).2])/\0<(vw x y).1/\nS (vw x y).1 (vw x y).2/\Bd 200 (vw x y).1/\Bd 200 (vw x y).2
 nm:∀x y t,g x y=some t->Nm x/\Nm y
end
end Sw
namespace L2
open PySem PySem.Spec PyProof.Rows XH Sw So
structure T2 (h:Heap) (a:Addr) (y:Str) (m:Addr):Prop where
 ex:∃(o:Obj) (n:Nat) (t:Tok),h.get? a=some o/\o.cls= .type "tuple" /\o.data= .seq #[.str y t,.ref m] n
section
variable {prog:Program} {w:World} {A:Around} {E:HF} {s:Shared}
theorem xN {nm:Addr->Option Str} (inj:∀a b y,nm a=some y->nm b=some y->a=b) (tup:∀a y,nm a=some y->∃m,T2 s.heap a y m):AL prog w A E s (cB nm) (tuples' true):=by
 intro st x y Q hk hx hy h;obtain ⟨ka,ha⟩:=hx;obtain ⟨kb,hb⟩:=hy;have e1:kk (cB nm) x=ka:=by unfold kk;rw[ha];rfl
 have e2:kk (cB nm) y=kb:=by unfold kk;rw[hb];rfl
 rw[e1,e2] at h;obtain ⟨a,na,xa,ea,rfl⟩:=rV ha;obtain ⟨b,nb,xb,eb,rfl⟩:=rV hb;obtain ⟨m1,o1,n1,t1,g1,c1,d1⟩:=tup a na ea;obtain ⟨m2,o2,n2,u1,g2,c2,d2⟩:=tup b nb eb;rw[lt'_eq];refine wpS_bind (wpS_get ?_);rw[hk,xa,xb];refine wpS_bind (wpS_lift (wpAny_attempt (PySem.W.kat_lt (b:=true) g1 d1 g2 d2 ?_)))
 by_cases hab:a=b
 ·subst hab;rw[g1] at g2;cases g2;rw[d1] at d2;cases d2;refine PySem.W.kat_cons (SeqAt.EqAt.same _ _ _ _ _ (PySem.W.kat_yes ?_));refine PySem.W.kat_cons (SeqAt.EqAt.same _ _ _ _ _ (PySem.W.kat_yes ?_));refine PySem.W.kat_nil ⟨rfl,?_⟩;rw[ea] at eb;cases eb;have z:(cB nm).blt na.cps.toList na.cps.toList=false:=(cB nm).irrefl _;rw[z] at h;exact wpS_pure h
 ·have ne:na≠nb:=fun z=>hab (inj a b na ea (z▸eb))
  refine PySem.W.kat_cons ?_;have q:=SeqAt.EqAt.str_str (A:=A) (s:=s) na t1 nb u1;rw[show (na==nb)=false from beq_eq_false_iff_ne.mpr ne] at q
  refine q _ _ _ _ (PySem.W.kat_no ?_);refine strKind_oneLt prog w A _ s (.str na t1) (.str nb u1) na.cps.toList nb.cps.toList rfl rfl ⟨rfl,?_⟩;exact wpS_pure h
theorem pk {h:Heap}:∀{vs:HQ},(∀v∈vs,∃x y m,v= .ref x/\T2 h x y m)->∃fs:HQ,PySem.W.KatTups h vs fs/\fs.length=vs.length/\∀f∈fs,∃y t,f= .str y t
 | [],_=>⟨[],trivial,rfl,by simp⟩
 |v::vs,hv=>by
  obtain ⟨fs,k1,k2,k3⟩:=pk (vs:=vs) fun u hu=>hv u (Ea _ hu)
  obtain ⟨x,y,m,rfl,o,n,t,g,c,d⟩:=hv v (by simp)
  refine ⟨.str y t::fs,⟨⟨x,o,_,n,rfl,g,c,d,rfl⟩,k1⟩,by simp[k2],fun f hf=>?_⟩
  rcases EC.mp hf with e|e
  ·exact ⟨y,t,e⟩
  ·exact k3 f e
theorem vS {a:Addr} {vs:HQ} {n:Nat} {P:Fin->Shared->Prop} {nm:Addr->Option Str} (ho:s.heap.get? a=some (seqObj "list" vs.toArray n)) (inj:∀a b y,nm a=some y->nm b=some y->a=b)
  (keys:∀v∈vs,∃x y,v= .ref x/\nm x=some y) (tup:∀x y,nm x=some y->∃m,T2 s.heap x y m) (nd:vs.Nodup) (hz:vs.length<=sizeLine) (h64:vs.length<64)
  (h:∀st':SortSt,(arrOf st').toList.Perm (pairsOf vs).toList->(arrOf st').toList.Pairwise (Lq (cB nm))->P (.done (.ret .none)) {s with heap:=sortedHeap s.heap a vs ((arrOf st').map (·.2))}):
  wpAny (model prog w) A (Builtin.«list.sort» ⟨[.ref a],[]⟩) P E s:=by
 rw[list_sort_plain];have ha:a<s.heap.objs.size:=Heap.lt_size ho;refine wpAny_bind (listItems_at ho rfl ?_);refine wpAny_bind (listUpdate_at ho rfl ?_);obtain ⟨e1,ho1⟩:∃e1,(s.heap.update a (Obj.mapSeq fun _=> #[])).get? a=some (seqObj "list" #[] e1):=⟨_,get?_update_seq ho (fun _=> #[])⟩
 refine wpAny_bind (seqEpoch_at ho1 rfl (wpAny_bind (wpAny_newTuple (wpAny_bind (wpAny_newList (wpAny_holding ?_))))));have ho6:(((s.heap.update a (Obj.mapSeq fun _=> #[])).push (seqObj "tuple" vs.toArray 0)).push (seqObj "list" #[] 0)).get? a=some (seqObj "list" #[] e1):=by
  rw[Heap.get?_push_ne _ _ _ (by rw[size_push',Heap.size_update];exact EE (F3 ha)),Heap.get?_push_ne _ _ _ (by rw[Heap.size_update];exact EE ha)]
  exact ho1
 have old:∀{b:Addr} {o:Obj},b≠a->s.heap.get? b=some o->(((s.heap.update a (Obj.mapSeq fun _=> #[])).push (seqObj "tuple" vs.toArray 0)).push (seqObj "list" #[] 0)).get? b=some o:=fun {b o} hb e=>by
  have bl:=Heap.lt_size e;rw[Heap.get?_push_ne _ _ _ (by rw[size_push',Heap.size_update];exact EE (F3 bl)),Heap.get?_push_ne _ _ _ (by rw[Heap.size_update];exact EE bl),Heap.get?_update_other _ _ (Ne.symm hb)]
  exact e
 show wpAny (model prog w) A _ P E {s with heap:=((s.heap.update a (Obj.mapSeq fun _=> #[])).push (seqObj "tuple" vs.toArray 0)).push (seqObj "list" #[] 0)}
 dsimp only;have tna:∀{x:Addr} {y:Str} {m:Addr},T2 s.heap x y m->x≠a:=fun {x y m} t z=>by
  obtain ⟨o,n',t1,g,c,d⟩:=t.ex;rw[z,ho] at g;cases g;have c':("list" :String)= "tuple" :=by injection c
  exact absurd c' (by decide)
 have fin:∀st':SortSt,(arrOf st').toList.Perm (pairsOf vs).toList->failedOf st'=none->(arrOf st').toList.Pairwise (Lq (cB nm))->P (.done (.ret .none)) {s with heap:=sortedHeap s.heap a vs ((arrOf st').map (·.2))}/\((arrOf st').map (·.2)).size<=sizeLine+1:=fun st' hp hf hs=>by
  refine ⟨h st' hp hs,?_⟩;have:=hp.length_eq;rw[Array.size_map];have e:(pairsOf vs).toList.length=vs.length:=by rw[pairsOf_toList];simp
  rw[e,Ez] at this
  lia
 by_cases h2:vs.toArray.size<2
 ·rw[if_pos h2,if_pos h2];refine wpAny_bind (wpAny_pure ?_);have st0:=fin (SortSt.mk' general' (vs.toArray.zip vs.toArray) #[] 7 none) (List.Perm.refl _) rfl (by
   have:(pairsOf vs).toList.length<2:=by rw[pairsOf_toList];simp at h2⊢;exact h2
   match e:(pairsOf vs).toList,this with
   | [],_=>exact List.Pairwise.nil
   | [x],_=>exact List.pairwise_singleton _ _
   |_::_::_,l=>simp at l;lia)
  refine wpAny_bind (wpAny_pure ?_);dsimp only;refine wpAny_bind (seqEpoch_at ho6 rfl ?_);refine wpAny_bind (listUpdate_at ho6 rfl ?_ (hsz2:=st0.2));simp only[bne_self_eq_false,Bool.false_eq_true,if_false];exact wpAny_pure st0.1
 ·rw[if_neg h2,if_neg h2];have tup6:∀x y,nm x=some y->∃m,T2 (((s.heap.update a (Obj.mapSeq fun _=> #[])).push (seqObj "tuple" vs.toArray 0)).push (seqObj "list" #[] 0)) x y m:=fun x y hx=>by
   obtain ⟨m,t⟩:=tup x y hx;have na:=tna t;obtain ⟨o,n',t1,g,c,d⟩:=t.ex;exact ⟨m,o,n',t1,old na g,c,d⟩
  obtain ⟨fs,kt,kl,kf⟩:=pk (h:=((s.heap.update a (Obj.mapSeq fun _=> #[])).push (seqObj "tuple" vs.toArray 0)).push (seqObj "list" #[] 0)) (vs:=vs) fun v hv=>by
   obtain ⟨x,y,rfl,hx⟩:=keys v hv;obtain ⟨m,t⟩:=tup6 x y hx;exact ⟨x,y,m,rfl,t⟩
  have l2:2<=vs.length:=by simpa using h2
  refine wpAny_bind (PySem.W.kat_kind (T:= .type "str") kt (by lia) (fun v hv=>by obtain ⟨y,t,rfl⟩:=kf v hv;exact tQ _ _ _ _) rfl ?_)
  refine wpAny_bind (wpAny_mono (tP (κ:=cB nm) (kd:=tuples' true) (xN inj tup6) (a0:=(pairsOf vs).toList) (st:=SortSt.mk' (tuples' true) (vs.toArray.zip vs.toArray) #[] 7 none)
   (Q:=fun _ st'=>(arrOf st').toList.Perm (pairsOf vs).toList/\failedOf st'=none/\(arrOf st').toList.Pairwise (Lq (cB nm)))
   rfl rfl rfl rfl (fun x hx=>?_) (by rw[pairsOf_toList];simpa using h64) fun st' pr fl sr=>⟨pr,fl,sr⟩) ?_ fun _ _ e=>e)
  ·rw[pairsOf_toList] at hx;have hm:x.1∈vs:=(List.of_mem_zip hx).1;obtain ⟨z,y,e,hy⟩:=keys _ hm;refine ⟨y.cps.toList,?_⟩;rw[e];show ((nm z).map fun y=>y.cps.toList)=_
   rw[hy]
   rfl
  rintro ⟨⟨⟩,st'⟩ s' ⟨rfl,hp,hf,hs⟩;have f:=fin st' hp hf hs;dsimp only;refine wpAny_bind (seqEpoch_at ho6 rfl ?_);refine wpAny_bind (listUpdate_at ho6 rfl ?_ (hsz2:=f.2));rw[hf];simp only[bne_self_eq_false,Bool.false_eq_true,if_false];exact wpAny_pure f.1
end
end L2
namespace Sw
open PySem L2 XH PyProof.Rows
theorem xO {i:Int} (h0:0<=i) (h:i<26):fw dU.cps.toList i=some (97+i.toNat):=by
 have key:∀n:Nat,n<26->dU.cps.toList[n]?=some (97+n):=by decide
 have:=key i.toNat (by lia)
 have e:=bI this
 rwa [Int.toNat_of_nonneg h0] at e
def sgn (c st:Int) (k:Nat):Nat:=97+((c+(0+(k:Int))*st).fmod 26).toNat
def nE (st:Int):Prop:=st=1∨st=3∨st=5∨st=7∨st=9∨st=11∨st=15∨st=17
theorem xP {c st:Int} (hs:nE st) {k k':Nat} (h:k<14) (h':k'<14) (e:sgn c st k=sgn c st k'):k=k':=by
 unfold sgn at e;rw[Int.fmod_eq_emod_of_nonneg _ (by decide),Int.fmod_eq_emod_of_nonneg _ (by decide)] at e
 rcases hs with rfl|rfl|rfl|rfl|rfl|rfl|rfl|rfl<;>omega
theorem nG (x y:Str):(x++y).cps.toList=x.cps.toList++y.cps.toList:=by
 show (x.cps++y.cps).toList=_;simp
def vT:Sp:=fun vs H Q _=>∃a b:Int,vs= [.int a,.int b]/\0<b/\Q (.int (bW a b)) H
open Wo Hm
def xQ (md:Int) (pre suf:List Nat) (k:Nat) (s:Nat) (z:Str):Prop:=if md=1 then z.length=k+1 else if md=2 then ∃x,z.cps.toList=x++ [s] else z.cps.toList=pre++s::suf
theorem tW {zs:HN} {md c st:Int} (hs:nE st) {pre suf:List Nat} (l:zs.length<=12) (h:∀(k:Nat) (z:Str),zs[k]?=some z->Nm z/\xQ md pre suf k (sgn c st k) z):zs.Nodup:=by
 unfold List.Nodup;rw[List.pairwise_iff_getElem];intro i j hi hj ij e;have h1:=(h i _ (E1 hi)).2;have h2:=(h j _ (E1 hj)).2;rw[e] at h1;unfold xQ at h1 h2
 by_cases c1:md=1
 ·rw[if_pos c1] at h1 h2
  lia
 rw[if_neg c1] at h1 h2;have:sgn c st i=sgn c st j:=by
  by_cases c2:md=2
  ·rw[if_pos c2] at h1 h2;obtain ⟨x,h1⟩:=h1;obtain ⟨y,h2⟩:=h2;rw[h1] at h2;have:=(List.append_inj' h2 rfl).2;injection this
  ·rw[if_neg c2] at h1 h2;rw[h1] at h2;have:=List.append_cancel_left h2;injection this
 have:=xP hs (by lia) (by lia) this
 lia
def pA:Sp:=fun vs H Q _=>∃n m:Int,vs= [.int n,.int m]/\0<=m/\m<=12/\∀(l:Addr) (H':Hp) (zs:HN),ax H H'->H' l=some (.lst (zs.map V.str))->(zs.length:Int)=m->(∀z∈zs,Nm z)->zs.Nodup->Q (.ref l) H'
end Sw
namespace L2
open PySem PySem.Spec PyProof.Rows XH Sw
end L2
namespace Sw
open PySem L2 XH PyProof.Rows Wo Hm
theorem LB.far {C:Addr} {F:HP} {H:Hp} {x l:Addr} {rows:HJ} {m:Nat} {g:HD} {bs ns:HN} {o:HO} (h:LB C F H x rows m g bs ns) (e:H l=some o) (k1:∀kv,o≠ .dK kv) (k2:∀C dx fs,o≠ .ins C dx fs) (u:HO):LB C F (ay H l u) x rows m g bs ns:=by
 have lF:=h.not e k1;obtain ⟨F0,dx,s,b,fs,dk,la,ex,es,eb,bd,hb,q1,q2,q3,q4,q5,q6,q7,q8,q9⟩:=h.ex;have xl:x≠l:=fun z=>by
  rw[z,e] at ex;exact k2 _ _ _ (ET ex)
 have sl:s≠l:=fun z=>lF (by rw[<-z];exact q6)
 have bl:b≠l:=fun z=>lF (by rw[<-z];exact q7)
 refine ⟨F0,dx,s,b,fs,dk,?_,by rw[ag xl];exact ex,es,eb,nC bd (fun z=>sl z.symm) (fun y z=>?_) _,by rw[ag bl];exact hb,q1,q2,q3,q4,q5,q6,q7,fun a ha=>?_,q9⟩
 ·obtain ⟨dx',p,n,fs',rs,a,b',c,d,e',f,i,j,k⟩:=la.ex;subst i;have pl:p≠l:=fun z=>lF (q5 _ (by simp[z]))
  have nl:n≠l:=fun z=>lF (q5 _ (by simp[z]))
  have rl:l∉rs:=fun z=>lF (q5 _ (by simp[z]))
  exact ⟨dx',p,n,fs',rs,by rw[ag xl];exact a,b',c,d.other rl,by rw[ag pl];exact e',by rw[ag nl];exact f,rfl,j,k⟩
 ·rcases bd.ex y with ⟨z1,_⟩|⟨a,row,z1,z2,_⟩
  ·rw[z] at z1;cases z1
  ·rw[z] at z1;cases z1;rw[e] at z2;exact k1 _ (ET z2)
 ·obtain ⟨kv,w⟩:=q8 a ha;exact ⟨kv,by rw[ag (fun z=>lF (by rw[<-z];exact ha))];exact w⟩
theorem ph.keep {K:D9} {H H':Hp} {g:HD} {vw:HE} (h:ph K H g vw) (k:∀a xs,H a=some (.tup xs)->H' a=some (.tup xs)):ph K H' g vw:=⟨fun x y t e=>⟨k _ _ (h.fr x y t e).1,(h.fr x y t e).2⟩,h.nm⟩
def k8 (es:HH):List (List Key×V):=es.map fun e=>([.inr e.1,.inr e.2.1],.ref e.2.2)
theorem xR (es:HH):(k8 es).length=es.length:=E3 _
theorem sj {es:HH} {a b:Str} {v:V} (h:aP (k8 es) [.inr a,.inr b]=some v):∃t,v= .ref t/\(a,b,t)∈es:=by
 obtain ⟨e,he,z⟩:=EF.mp (gu h);cases z;exact ⟨_,rfl,he⟩
theorem vU {es:HH} {a b:Str} (h:∀t,(a,b,t)∉es):aP (k8 es) [.inr a,.inr b]=none:=by
 cases e:aP (k8 es) [.inr a,.inr b] with
 |none=>rfl
 |some v=>
  obtain ⟨t,rfl,z⟩:=sj e;exact absurd z (h t)
theorem pB {es:HH} {a b:Str} {t:Addr} (h:(a,b,t)∈es):∃t',aP (k8 es) [.inr a,.inr b]=some (.ref t')/\(a,b,t')∈es:=by
 obtain ⟨w,hw⟩:=nA (kvs:=k8 es) (k:= [.inr a,.inr b]) (v:= .ref t) (EF.mpr ⟨_,h,rfl⟩);obtain ⟨t',rfl,z⟩:=sj hw;exact ⟨t',hw,z⟩
theorem xS {es:HH} {a b:Str} (h:∀t,(a,b,t)∉es) (t:Addr):putK (k8 es) [.inr a,.inr b] (.ref t)=k8 (es++ [(a,b,t)]):=by
 rw[L2.fW _ (vU h)];unfold k8;rw[Ed]
 rfl
theorem BC {K:D9} {H:Hp} {x:V} {b:Bool} {i:Int} (h:Wh K H x b) (e:x= .int i):b=true:=by
 cases h with
 |mk ty h1 h2=>
  subst e;cases ty;have k1:El K (.type "int") (.type "int")=some true:=by kernel_rfl
  have k2:El K (.type "int") (.type "bool")=some false:=by kernel_rfl
  rw[k1] at h1;rw[k2] at h2;cases h1;cases h2
  rfl
theorem BE {K:D9} {H:Hp} {t:Addr} {v:V} {b:Bool} {p q:Int} (h:tD K H v b) (ev:v= .ref t) (e:H t=some (.tup [.int p,.int q])) (lo:nS p q):b=true:=by
 cases h with
 |no ty h=>
  subst ev;cases ty with
  |tup e'=>
   have k1:El K (.type "tuple") (.type "tuple")=some true:=by kernel_rfl
   rw[k1] at h;cases h
  |lst e'=>rw[e] at e';cases e'
  |frz e'=>rw[e] at e';cases e'
  |dK e'=>rw[e] at e';cases e'
  |dT e'=>rw[e] at e';cases e'
  |ins e'=>rw[e] at e';cases e'
 |len e' h=>
  cases ev;rw[e] at e';cases e';exact absurd rfl h
 |top e' h=>
  cases ev;rw[e] at e';cases e';have:=BC h rfl;cases this
 |bot e' h h'=>
  cases ev;rw[e] at e';cases e';have:=BC h' rfl;cases this
 |two e'=>
  cases ev;rw[e] at e';cases e';rw[decide_eq_true (show 1<=q from lo.pos),decide_eq_true lo.low]
  rfl
theorem zY {K:D9} {H:Hp} {v:V} {p q:Int} (ok:qM H v p q) (bad:jw K H v):False:=by
 rcases ok with ⟨e,_⟩|⟨t,rfl,et,p0,lo,_⟩
 ·exact bad.1 e
 ·rcases bad.2 with h|⟨t',p',q',e',et',_,z⟩
  ·have:=BE h rfl et lo;cases this
  ·cases e';rw[et] at et';cases et'
   lia
theorem tX {H:Hp} {v:V} {p q p' q':Int} (h:qM H v p q) (k:qM H v p' q'):p=p'/\q=q':=by
 rcases h with ⟨e,rfl,rfl⟩|⟨t,e,et,_⟩
 ·rcases k with ⟨_,rfl,rfl⟩|⟨t',e',_⟩
  ·exact ⟨rfl,rfl⟩
  ·rw[e] at e';cases e'
 ·rcases k with ⟨e',_⟩|⟨t',e',et',_⟩
  ·rw[e] at e';cases e'
  ·rw[e] at e';cases e';rw[et] at et';cases et';exact ⟨rfl,rfl⟩
end Sw
namespace L2
open PySem PySem.Spec PyProof.Rows XH Sw
open So
end L2
namespace Sw
open PySem L2 XH PyProof.Rows Wo Hm
section
variable (K:D9) (C:Addr)
def qO:Sp:=fun vs H Q _=>∃(x:Addr) (z:Str) (F:HP) (rows:HJ) (m:Nat) (g:HD) (bs ns:HN),vs= [.ref x,.str z]/\LB C F H x rows m g bs ns/\bs.length<=200/\ns.Nodup/\ns.length<=79/\Nm z/\
 ∀H' ms,KF F H H'->LB C F H' x rows m g (cu bs z) ms->ms.Nodup->(∀y,y∈ms↔y∈ns∨y=z)->Q .non H'
def kr:Sp:=fun vs H Q _=>∃(x:Addr) (z:Str) (F:HP) (rows:HJ) (m:Nat) (g:HD) (bs ns:HN),vs= [.ref x,.str z]/\LB C F H x rows m g bs ns/\Nm z/\∀H',KF F H H'->LB C F H' x rows m g (kZ bs z) ns->Q .non H'
variable {K C} {cN cI:Addr}
theorem xT (vs:List V) (H:Hp) (Q:VK) (E:XK) (h:qO C vs H Q E):vR K C cN vs H Q E0:=by
 obtain ⟨x,z,F,rows,m,g,bs,ns,rfl,lb,a1,a2,a3,nz,q⟩:=h;refine ⟨x,.str z,F,rows,m,g,bs,ns,rfl,lb,a1,a2,a3,.inl ⟨z,rfl,nz⟩,fun n=>absurd ⟨z,rfl,nz⟩ n,fun y e _=>?_⟩
 cases e;exact q
theorem tY (vs:List V) (H:Hp) (Q:VK) (E:XK) (h:kr C vs H Q E):pf K C cN vs H Q E0:=by
 obtain ⟨x,z,F,rows,m,g,bs,ns,rfl,lb,nz,q⟩:=h;refine ⟨x,.str z,F,rows,m,g,bs,ns,rfl,lb,.inl ⟨z,rfl,nz⟩,fun n=>absurd ⟨z,rfl,nz⟩ n,fun y e _=>?_⟩
 cases e;exact q
end
end Sw
namespace L2
open PySem PySem.Spec PyProof.Rows XH Sw Hm
end L2
namespace Sw
open PySem L2 XH PyProof.Rows Wo Hm
end Sw
namespace Mn
open PySem
end Mn
namespace Rm
open PySem PySem.SeqAt PySem.MeetsSeq
end Rm
namespace L2
open PySem PySem.Spec PyProof.Rows XH Sw So Hm
end L2
namespace Hm
open PySem PySem.SeqAt PySem.MeetsSeq
end Hm
namespace L2
open PySem PySem.Spec PyProof.Rows XH Sw So Hm Wo
end L2
namespace Sw
open PySem L2 XH PyProof.Rows Wo Hm
theorem LB.part {C:Addr} {F:HP} {H:Hp} {x:Addr} {rows:HJ} {m:Nat} {g:HD} {bs ns:HN} (h:LB C F H x rows m g bs ns):∃F0,LA C F0 H x rows ns/\∀H' F0' rows' ms,KF F0 H H'->FG F0 F0' H->LA C F0' H' x rows' ms->∃F',LB C F' H' x rows' m g bs ms/\KF F H H'/\FG F F' H:=by
 obtain ⟨F0,dx,s,b,fs,dk,la,ex,es,eb,bd,hb,q1,q2,q3,q4,q5,q6,q7,q8,q9⟩:=h.ex;have inn:∀F0' (a:Addr),a∈F->a∉F0->a∈F.filter (fun a=>decide (a∉F0))++F0':=fun F0' a h1 h2=>Ex _ (FL.mpr ⟨h1,decide_eq_true h2⟩)
 refine ⟨F0,la,fun H' F0' rows' ms k fg la'=>⟨F.filter (fun a=>decide (a∉F0))++F0',?_,fun a o n e=>k a o (fun z=>n (q5 a z)) e,fun a ha=>?_⟩⟩
 ·have xn:x∉F0:=la.not ex (fun _ z=>nomatch z)
  have out:∀a o,H a=some o->a∉F0->a∉F0':=fun a o e n z=>by
   rcases fg a z with w|w
   ·exact n w
   ·rw[e] at w;cases w
  refine ⟨F0',dx,s,b,fs,dk,la',k _ _ xn ex,es,eb,⟨k _ _ q2 bd.at_,bd.few,bd.inj,fun y=>?_⟩,k _ _ q3 hb,q1,out _ _ bd.at_ q2,out _ _ hb q3,fun y a e=>⟨?_,(q4 y a e).2⟩,fun a ha=>ED _ ha,inn _ _ q6 q2,inn _ _ q7 q3,fun a ha=>?_,q9⟩
  ·rcases bd.ex y with z|⟨a,row,z1,z2,z3,z4⟩
   ·exact .inl z
   ·have na:=(q4 y a z1).1;exact .inr ⟨a,row,z1,k _ _ na z2,fL.mpr (inn _ _ (fL.mp z3) na),z4⟩
  ·rcases bd.ex y with ⟨z1,_⟩|⟨a',row,z1,z2,_⟩
   ·rw[e] at z1;cases z1
   ·rw[e] at z1;cases z1;exact out _ _ z2 (q4 y a e).1
  ·rcases EK.mp ha with w|w
   ·obtain ⟨w1,w2⟩:=FL.mp w;obtain ⟨kv,e⟩:=q8 a w1;exact ⟨kv,k _ _ (of_decide_eq_true w2) e⟩
   ·exact la'.dict w
 ·rcases EK.mp ha with w|w
  ·exact .inl (FL.mp w).1
  ·rcases fg a w with z|z
   ·exact .inl (q5 a z)
   ·exact .inr z
def nU (ps:HK):List (List Key×V):=ps.map fun p=>([.inr p.1,.inr p.2],.bl true)
def lh (ps:HK) (a b:Str):HK:=if (a,b)∈ps then ps else ps++ [(a,b)]
theorem xU (ps:HK):(nU ps).length=ps.length:=E3 _
theorem vV {ps:HK} {a b:Str} {p:Str×Str}:p∈lh ps a b↔p∈ps∨p=(a,b):=by
 unfold lh
 split
 ·rename_i h;constructor
  ·exact .inl
  ·rintro (z|rfl)
   ·exact z
   ·exact h
 ·rw[EK,E9]
theorem vW (ps:HK) (a b:Str):(lh ps a b).length<=ps.length+1:=by
 unfold lh
 split
 ·lia
 ·rw[E8,EJ]
  lia
theorem nH {ps:HK} {a b:Str} {k:List Key} {v:V} (h:(k,v)∈nU ps) (e:k= [.inr a,.inr b]):v= .bl true/\(a,b)∈ps:=by
 obtain ⟨p,hp,z⟩:=EF.mp h;cases z;injection e with e1 e2
 injection e1 with e1
 injection e2 with e2 _
 injection e2 with e2
 exact ⟨rfl,by rw[<-e1,<-e2];exact hp⟩
theorem xV {ps:HK} {a b:Str}:(aP (nU ps) [.inr a,.inr b]).isSome=decide ((a,b)∈ps):=by
 by_cases c:(a,b)∈ps
 ·rw[decide_eq_true c];obtain ⟨w,hw⟩:=nA (kvs:=nU ps) (k:= [.inr a,.inr b]) (v:= .bl true) (EF.mpr ⟨_,c,rfl⟩);rw[hw]
  rfl
 ·rw[decide_eq_false c];cases e:aP (nU ps) [.inr a,.inr b] with
  |none=>rfl
  |some v=>exact absurd (nH (gu e) rfl).2 c
theorem xW (ps:HK) (a b:Str):putK (nU ps) [.inr a,.inr b] (.bl true)=nU (lh ps a b):=by
 unfold lh
 by_cases c:(a,b)∈ps
 ·rw[if_pos c];have h:(nU ps).any (fun kv=>decide (kv.1= [.inr a,.inr b]))=true:=by
   rw[eQ,xV,decide_eq_true c]
  unfold putK;rw[if_pos h];refine (List.map_congr_left fun p hp=>?_).trans (List.map_id _)
  by_cases e:p.1= [.inr a,.inr b]
  ·rw[if_pos e];obtain ⟨v,_⟩:=nH (k:=p.1) (v:=p.2) hp e;show (p.1,V.bl true)=p;rw[<-v]
  ·rw[if_neg e]
   rfl
 ·rw[if_neg c,L2.fW _ (by
   cases e:aP (nU ps) [.inr a,.inr b] with
   |none=>rfl
   |some v=>exact absurd (nH (gu e) rfl).2 c)]
  unfold nU;rw[Ed]
  rfl
theorem cC.addP {rows:HJ} {ps:HK} (h:cC rows ps) (a b:Str):cC (aZ rows a b) (Sw.lh ps a b):=by
 unfold Sw.lh
 split
 ·rename_i c;rw[iO h.keys ((h.mem a b).mpr c)];exact h
 ·exact h.add (a,b)
theorem ku (ks:HN):∀bs:HN,(((aY bs (.bl true)).filter fun e=>xA ks e.1).map fun e=>kV e.1)=(bs.filter fun y=>decide (y∈ks)).map V.str
 | []=>rfl
 |b::bs=>by
  have ih:=ku ks bs;unfold aY at ih⊢;rw[Ek,FI,FI]
  by_cases c:b∈ks
  ·rw[if_pos (show xA ks (.inr b)=true from decide_eq_true c),if_pos (decide_eq_true c),Ek,Ek,ih]
   rfl
  ·rw[if_neg (by rw[show xA ks (.inr b)=false from decide_eq_false c];decide),if_neg (by rw[decide_eq_false c];decide),ih]
theorem vX {bs:HN} {i:Nat} {k:Key} {x:V} (h:(aY bs (.bl true))[i]?=some (k,x)):∃y:Str,k= .inr y:=by
 unfold aY at h;rw[EA] at h;cases e:bs[i]? with
 |none=>rw[e] at h;cases h
 |some p=>
  rw[e] at h;cases h;exact ⟨p,rfl⟩
def qP:Sp:=fun vs H Q _=>∃(dp db:Addr) (good:Str) (ps:HK) (bs:HN),vs= [.ref dp,.ref db,.str good]/\H dp=some (.dT (nU ps))/\ps.length<=900/\H db=some (.dK (aY bs (.bl true)))/\bs.length<=900/\
 ∀(H':Hp) (b:Bool),ax H H'->(b=true↔¬Blk ps bs good)->Q (.bl b) H'
inductive kQ (R:Str->Str->Prop) (good:Str):HN->Prop where
 |one:kQ R good [good]
 |snoc {c:HN} {y:Str}:kQ R good c->R (aI c) y->kQ R good (c++ [y])
theorem mq:∀{a b:HN},a.length=b.length->oX a b=false->oX b a=false->a=b
 | [],[],_,_,_=>rfl
 | [],_::_,e,_,_=>by simp at e
 |_::_,[],e,_,_=>by simp at e
 |x::a,y::b,e,h1,h2=>by
  rw[dW] at h1 h2
  by_cases c:x=y
  ·subst c;rw[if_pos rfl] at h1 h2;rw[mq (by simpa using e) h1 h2]
  ·rw[if_neg c] at h1;rw[if_neg (fun z=>c z.symm)] at h2
   exfalso;have n1:=of_decide_eq_false h1;have n2:=of_decide_eq_false h2;exact c (So.kg (show So.tN x y from n2) (show So.tN y x from n1))
theorem jx {a b:HN} (h1:¬cq a b) (h2:¬cq b a):a=b:=by
 have e:a.length=b.length:=by
  rcases FW a.length b.length with z|z|z
  ·exact absurd (dy z) h1
  ·exact z
  ·exact absurd (dy z) h2
 refine mq e ?_ ?_
 ·cases c:oX a b with
  |false=>rfl
  |true=>exact absurd (dX e c) h1
 ·cases c:oX b a with
  |false=>rfl
  |true=>exact absurd (dX e.symm c) h2
section
variable {R:Str->Str->Prop} {good:Str} {cs:List HN}
theorem fO.least (h:fO R good cs cs.length (fun _=>False)) {p:HN} (hp:kQ R good p):∃(k:Nat) (d:HN),cs[k]?=some d/\aI d=aI p/\¬cq p d:=by
 induction hp with
 |one=>exact ⟨0,[good],h.first,rfl,fun z=>z.irr⟩
 | @snoc c y hc r ih=>
  obtain ⟨k,d,hd,e,na⟩:=ih;have kl:=(E2.mp hd).1;obtain ⟨k2,d2,hd2,e2,na2⟩:=h.shut k d y kl hd (by rw[e];exact r)
  refine ⟨k2,d2,hd2,by rw[e2,bP],fun z=>na2 ?_⟩
  by_cases eq:c=d
  ·rw[<-eq];exact z
  ·have dc:cq d c:=Classical.byContradiction fun w=>eq (jx na w)
   exact (dc.app y y).trans z
theorem fO.path (h:fO R good cs cs.length (fun _=>False)):∀(k:Nat) (d:HN),cs[k]?=some d->kQ R good d:=by
 intro k
 induction k using Nat.strongRecOn with
 |_ k ih=>
  intro d hd
  by_cases c:k=0
  ·subst c;rw[h.first] at hd;cases hd;exact .one
  ·obtain ⟨j,c',x,jk,_,hj,rfl,r,_⟩:=h.from_ k d (by lia) hd
   exact .snoc (ih j jk c' hj) r
end
end Sw
namespace L2
open PySem PySem.Spec PyProof.Rows XH
theorem tZ {a:Addr} {o:Obj} {kvs:List (Key×V)} {js:List Nat} {tc:TT} {te:TE} {σ:L2.St} {H1:Hp} {Q:VK} (pr:Nat->Bool) (P:Hp->Nat->V->Prop) (mono:∀H H' i v,ax H H'->P H i v->P H' i v) (keep:∀H p xs ys i v,H1 p=none->H p=some (.lst xs)->P H i v->P (ay H p (.lst ys)) i v) (hf:H1 a=some (.frz o (.dK kvs))) (hz:kvs.length<=sizeLine)
  (step:∀(i:Nat) (k:Key) (x:V),kvs[i]?=some (k,x)->∀H3,ax H1 H3->(∀R:Bool->Hp->Prop,(∀H4,ax H3 H4->R (pr i) H4)->tc (some (kV k)::bh js σ) H3 R)/\∀H4,ax H3 H4->∀R:VK,(∀v H5,ax H4 H5->P H5 i v->R v H5)->te (some (kV k)::bh js σ) H4 R)
  (fin:∀p H' vs,H1 p=none->ax H1 H'->H' p=some (.lst vs)->vs.length<=kvs.length->(∀v∈vs,∃i,i<kvs.length/\pr i=true/\P H' i v)->(∀i,i<kvs.length->pr i=true->∃v∈vs,P H' i v)->Q (.ref p) H'):m9 js tc te σ Q (zL a o kvs) H1:=by
 intro p hp;refine ⟨fun i m ys H2=>i<=kvs.length/\m=kvs.length-i/\ys.length<=i/\ax H1 H2/\H2 p=some (.lst ys)/\(∀v∈ys,∃j,j<i/\pr j=true/\P H2 j v)/\(∀j,j<i->pr j=true->∃v∈ys,P H2 j v),⟨kvs.length,EO _,rfl,E4 _,Sw.aj hp _,ac,fun v hv=>(by cases hv),fun j hj=>absurd hj (FD _)⟩,?_⟩
 rintro i m ys H2 ⟨hi,rfl,yl,g,e,h1,h2⟩;refine ⟨e,?_⟩;have f2:=g _ _ hf
 by_cases hin:i<kvs.length
 ·refine .inr ⟨⟨f2,hin⟩,by lia,fun x H3 hy=>?_⟩
  obtain ⟨rfl,k,v,hk,rfl⟩:=hy;obtain ⟨st,se⟩:=step i k v hk H3 g;refine st _ fun H4 g4=>?_
  cases hpr:pr i with
  |true=>
   rw[if_pos rfl];refine se H4 g4 _ fun y H5 g5 py=>?_
   have e5:=g5 _ _ (g4 _ _ e);have old:∀j w,P H3 j w->P (ay H5 p (.lst (ys++ [y]))) j w:=fun j w z=>keep _ _ _ _ _ _ hp e5 (mono _ _ _ _ (g4.trans g5) z)
   refine ⟨e5,kvs.length-(i+1),by lia,hin,rfl,by rw[E8,EJ];lia,Sw.dM ((g.trans g4).trans g5) hp _,ac,fun w hw=>?_,fun j hj pj=>?_⟩
   ·rcases EK.mp hw with z|z
    ·obtain ⟨j,jl,pj,q⟩:=h1 w z;exact ⟨j,by lia,pj,old j w q⟩
    ·rw[E9.mp z];exact ⟨i,by lia,hpr,keep _ _ _ _ _ _ hp e5 py⟩
   ·rcases ER.mp hj with z|rfl
    ·obtain ⟨w,hw,q⟩:=h2 j z pj;exact ⟨w,Ex _ hw,old j w q⟩
    ·exact ⟨y,by simp,keep _ _ _ _ _ _ hp e5 py⟩
  |false=>
   rw[if_neg (by decide)]
   refine ⟨kvs.length-(i+1),by lia,hin,rfl,by lia,g.trans g4,g4 _ _ e,fun w hw=>?_,fun j hj pj=>?_⟩
   ·obtain ⟨j,jl,pj,q⟩:=h1 w hw;exact ⟨j,by lia,pj,mono _ _ _ _ g4 q⟩
   ·rcases ER.mp hj with z|rfl
    ·obtain ⟨w,hw,q⟩:=h2 j z pj;exact ⟨w,hw,mono _ _ _ _ g4 q⟩
    ·rw[hpr] at pj;cases pj
 ·have e2:i=kvs.length:=by lia
  subst e2;exact .inl ⟨⟨f2,rfl⟩,fin p H2 ys hp g e yl h1 h2⟩
end L2
namespace Sw
open PySem L2 XH PyProof.Rows Wo Hm
def pS (es:HH) (a b:Str):Prop:=∃t,(a,b,t)∈es
theorem vY {H:Hp} {row:List (Str×Addr)} {y:Str} {v:V} (h:aP (cV row) (.inr y)=some v):∃a,v= .ref a/\(y,a)∈row:=by
 obtain ⟨p,hp,e⟩:=EF.mp (gu h);injection e with e1 e2
 injection e1 with e1
 exact ⟨p.2,e2.symm,by rw[<-e1];exact hp⟩
section
variable {R:Str->Str->Prop} {good:Str} {H H':Hp} {row row':List (Str×Addr)} {n B:Nat} {T T':Str->Str->Prop}
theorem kQ.ne {c:HN} (h:kQ R good c):c≠ []:=by cases h<;>simp
theorem kQ.pre {c:HN} (h:kQ R good c):∀{y:Str},y∈c->∃q,kQ R good q/\aI q=y/\q.length<=c.length/\(c.Nodup->q.Nodup):=by
 induction h with
 |one=>exact fun {y} hy=>⟨[good],.one,by rw[E9.mp hy];rfl,E4 _,id⟩
 | @snoc c z hc r ih=>
  intro y hy;rcases EK.mp hy with w|w
  ·obtain ⟨q,q1,q2,q3,q4⟩:=ih w;exact ⟨q,q1,q2,by rw[E8];lia,fun n=>q4 (F2.mp n).1⟩
  ·rw[E9] at w;subst w;exact ⟨_,.snoc hc r,bP _ _,E4 _,id⟩
theorem kQ.short {p:HN} (h:kQ R good p):∃q,kQ R good q/\aI q=aI p/\q.Nodup/\(q=p∨q.length<p.length):=by
 induction h with
 |one=>exact ⟨[good],.one,rfl,by simp,.inl rfl⟩
 | @snoc c z hc r ih=>
  obtain ⟨q,q1,q2,q3,q4⟩:=ih
  by_cases w:z∈q
  ·obtain ⟨q',a1,a2,a3,a4⟩:=q1.pre w;refine ⟨q',a1,by rw[a2,bP],a4 q3,.inr ?_⟩
   rw[E8,EJ];rcases q4 with rfl|q4<;>lia
  ·refine ⟨q++ [z],.snoc q1 (by rw[q2];exact r),by rw[bP,bP],?_,?_⟩
   ·rw[F2];refine ⟨q3,by simp,fun a ha b hb e=>w ?_⟩
    rw[<-E9.mp hb,<-e];exact ha
   ·rcases q4 with rfl|q4
    ·exact .inl rfl
    ·refine .inr ?_;rw[E8,E8];simp;exact q4
theorem kQ.in {p:HN} (h:kQ R good p) {U:HN} (hU:∀a b,R a b->b∈U):∀y∈p,y∈good::U:=by
 induction h with
 |one=>intro y hy;rw[E9.mp hy];simp
 |snoc hc r ih=>
  intro y hy;rcases EK.mp hy with w|w
  ·exact ih y w
  ·rw[E9.mp w];exact Ea _ (hU _ _ r)
end
theorem pC (row:List (Str×Addr)):(cV row).length=row.length:=E3 _
def BF (H:Hp) (es:HH) (vw:HE):Prop:=∀a b t,(a,b,t)∈es->H t=some (.tup [.int (vw a b).1,.int (vw a b).2])/\0<(vw a b).1/\nS (vw a b).1 (vw a b).2/\Bd 200 (vw a b).1/\Bd 200 (vw a b).2
def fM (es:HH) (ps:HK) (bs:HN) (good:Str) (c:HN):Prop:=kQ (pS es) good c/\¬Blk ps bs (aI c)/\∀p,kQ (pS es) good p->¬Blk ps bs (aI p)->¬cq p c
theorem fM.len {es:HH} {ps:HK} {bs:HN} {good:Str} {c:HN} (h:fM es ps bs good c) {U:HN} (hU:∀a b,pS es a b->b∈U):c.length<=U.length+1:=by
 obtain ⟨q,q1,q2,q3,q4⟩:=h.1.short;rcases q4 with rfl|q4
 ·simpa using Wo.e9 q3 (q1.in hU)
 ·exact absurd (dy q4) (h.2.2 q q1 (by rw[q2];exact h.2.1))
theorem kQ.link {R:Str->Str->Prop} {good:Str} {c:HN} (h:kQ R good c):c[0]?=some good/\∀(j:Nat) (x y:Str),c[j]?=some x->c[j+1]?=some y->R x y:=by
 induction h with
 |one=>exact ⟨rfl,fun j x y _ h=>by simp at h⟩
 | @snoc c z hc r ih=>
  obtain ⟨h0,hl⟩:=ih;have c1:=FN.mpr hc.ne;refine ⟨by rw[E5 c1];exact h0,fun j x y hx hy=>?_⟩
  have jl:=(E2.mp hy).1;rw[E8,EJ] at jl;rw[E5 (by lia)] at hx
  by_cases k:j+1<c.length
  ·rw[E5 k] at hy;exact hl j x y hx hy
  ·have e:j+1=c.length:=by lia
   rw[E7 (by lia),e,FE] at hy
   cases hy;have:aI c=x:=by
    unfold aI;rw[List.getLastD_eq_getLast?,List.getLast?_eq_getElem?,show c.length-1=j by lia,hx]
    rfl
   rw[<-this];exact r
theorem vZ {R:Str->Str->Prop} {es:HH} {ps:HK} {bs:HN} {good:Str} {cs:List HN} (hR:∀a b,R a b↔pS es a b) (h:fO R good cs cs.length (fun _=>False)) (all:∀(j:Nat) (d:HN),cs[j]?=some d->Blk ps bs (aI d)) (p:HN) (hp:kQ (pS es) good p):Blk ps bs (aI p):=by
 have eR:R=pS es:=by funext a b;exact propext (hR a b)
 subst eR;obtain ⟨j,d',hd,el,na⟩:=fO.least h hp;rw[<-el];exact all j d' hd
noncomputable def CJ (ps:HK) (bs:HN) (y:Str):Bool:= @decide (¬Blk ps bs y) (Classical.propDecidable _)
theorem kx {ps:HK} {bs:HN} {y:Str}:CJ ps bs y=true↔¬Blk ps bs y:= @decide_eq_true_iff _ (Classical.propDecidable _)
theorem zZ {ps:HK} {bs:HN} {y:Str} {b:Bool} (h:b=true↔¬Blk ps bs y):b=CJ ps bs y:=FR.mpr (h.trans kx.symm)
theorem LB.farN {C:Addr} {F:HP} {H:Hp} {x l:Addr} {rows:HJ} {m:Nat} {g:HD} {bs ns:HN} {o:HO} (h:LB C F H x rows m g bs ns) (e:H l=some o) (lF:l∉F) (k2:∀C dx fs,o≠ .ins C dx fs) (u:HO):LB C F (ay H l u) x rows m g bs ns:=by
 obtain ⟨F0,dx,s,b,fs,dk,la,ex,es,eb,bd,hb,q1,q2,q3,q4,q5,q6,q7,q8,q9⟩:=h.ex;have xl:x≠l:=fun z=>by
  rw[z,e] at ex;exact k2 _ _ _ (ET ex)
 have sl:s≠l:=fun z=>lF (by rw[<-z];exact q6)
 have bl:b≠l:=fun z=>lF (by rw[<-z];exact q7)
 refine ⟨F0,dx,s,b,fs,dk,?_,by rw[ag xl];exact ex,es,eb,nC bd (fun z=>sl z.symm) (fun y z=>?_) _,by rw[ag bl];exact hb,q1,q2,q3,q4,q5,q6,q7,fun a ha=>?_,q9⟩
 ·obtain ⟨dx',p,n,fs',rs,a,b',c,d,e',f,i,j,k⟩:=la.ex;subst i;have pl:p≠l:=fun z=>lF (q5 _ (by simp[z]))
  have nl:n≠l:=fun z=>lF (q5 _ (by simp[z]))
  have rl:l∉rs:=fun z=>lF (q5 _ (by simp[z]))
  exact ⟨dx',p,n,fs',rs,by rw[ag xl];exact a,b',c,d.other rl,by rw[ag pl];exact e',by rw[ag nl];exact f,rfl,j,k⟩
 ·rcases bd.ex y with ⟨z1,_⟩|⟨a,row,z1,z2,z3,_⟩
  ·rw[z] at z1;cases z1
  ·rw[z] at z1;cases z1;exact lF (fL.mp z3)
 ·obtain ⟨kv,w⟩:=q8 a ha;exact ⟨kv,by rw[ag (fun z=>lF (by rw[<-z];exact ha))];exact w⟩
section
variable (K:D9) (C:Addr)
def nI:Sp:=fun vs H Q _=>∃(x:Addr) (zg zo:Str) (F:HP) (rows:HJ) (m:Nat) (g:HD) (bs ns:HN) (ps:HK),vs= [.ref x,.str zg,.str zo]/\LB C F H x rows m g bs ns/\cC rows ps/\ps.length<=900/\ns.Nodup/\ns.length<=78/\Nm zg/\Nm zo/\¬Led ps zo zg/\
 ∀F' H' ms,KF F H H'->FG F F' H->LB C F' H' x (aZ rows zg zo) m g bs ms->ms.Nodup->(∀y,y∈ms↔y∈ns∨y=zg∨y=zo)->Q .non H'
def kA:Sp:=fun vs H Q _=>∃(x r:Addr) (zg zo:Str) (p q:Int) (F:HP) (rows:HJ) (m:Nat) (g:HD) (bs ns:HN),vs= [.ref x,.str zg,.str zo,.ref r]/\LB C F H x rows m g bs ns/\m<=1000/\ns.Nodup/\ns.length<=78/\Nm zg/\Nm zo/\H r=some (.tup [.int p,.int q])/\0<p/\nS p q/\Bd 200 p/\Bd 200 q/\zg≠zo/\¬rZ g zg zo/\
 ∀(F':HP) (H':Hp) (ms:HN),KF F H H'->FG F F' H->LB C F' H' x rows (m+2) (nD g zg zo r) bs ms->H' r=some (.tup [.int p,.int q])->ms.Nodup->(∀y,y∈ms↔y∈ns∨y=zg∨y=zo)->Q .non H'
variable {K C} {cN cI cS:Addr}
theorem v3 (vs:List V) (H:Hp) (Q:VK) (E:XK) (h:nI C vs H Q E):rT K C cN cI vs H Q E0:=by
 obtain ⟨x,zg,zo,F,rows,m,g,bs,ns,ps,rfl,lb,ok,few,nd,n78,ng,no,nl,q⟩:=h;obtain ⟨F0,la,back⟩:=lb.part;refine ⟨x,.str zg,.str zo,F0,rows,ns,ps,rfl,la,ok,few,nd,n78,.inl ⟨zg,rfl,ng⟩,.inl ⟨zo,rfl,no⟩,fun n=>absurd ⟨⟨zg,rfl,ng⟩,⟨zo,rfl,no⟩⟩ n,fun a b e1 e2 _ _=>?_⟩
 cases e1;cases e2;refine ⟨fun z=>absurd z nl,fun _ F0' H' ms k fg la' nd' hs=>?_⟩
 obtain ⟨F',lb',k',fg'⟩:=back H' F0' _ ms k fg la';exact q F' H' ms k' fg' lb' nd' hs
theorem t8 (vs:List V) (H:Hp) (Q:VK) (E:XK) (h:kA C vs H Q E):ko K C cN cS vs H Q E0:=by
 obtain ⟨x,r,zg,zo,p,q',F,rows,m,g,bs,ns,rfl,lb,m1,nd,n78,ng,no,er,p0,lo,b1,b2,ne,ns',q⟩:=h;have ok:qM H (.ref r) p q':= .inr ⟨r,rfl,er,p0,lo,b1,b2⟩;refine ⟨x,.str zg,.str zo,.ref r,F,rows,m,g,bs,ns,rfl,lb,m1,nd,n78,.inl ⟨zg,rfl,ng⟩,.inl ⟨zo,rfl,no⟩,.inl ⟨p,q',ok⟩,fun n=>absurd ⟨⟨zg,rfl,ng⟩,⟨zo,rfl,no⟩⟩ n,fun a b e1 e2 _ _=>?_⟩
 cases e1;cases e2;refine ⟨fun z=>?_,fun _ _ p2 q2 ok2 F' H' ms t k fg lb' et hr nd' hs=>?_⟩
 ·rcases z with z|z|z
  ·exact absurd z ne
  ·exact absurd z ns'
  ·exact (zY ok z).elim
 ·obtain ⟨rfl,rfl⟩:=tX ok ok2;have:=hr r rfl;subst this;exact q F' H' ms k fg lb' et nd' hs
end
def KD (H H':Hp):Prop:=∀a o,(∀kv,o≠ .dK kv)->(∀kv,o≠ .dT kv)->H a=some o->H' a=some o
theorem KD.trans {H H' H'':Hp} (h:KD H H') (k:KD H' H''):KD H H'':=fun a o n z e=>k a o n z (h a o n z e)
theorem KD.of {H H':Hp} (h:ax H H'):KD H H':=fun a o _ _ e=>h a o e
theorem KD.putK {H:Hp} {d:Addr} {kv:List (Key×V)} (e:H d=some (.dK kv)) (u:HO):KD H (ay H d u):=fun a o n _ h=>by
 rw[ag (fun z=>by rw[z,e] at h;exact n kv (ET h).symm)]
 exact h
theorem KD.putT {H:Hp} {d:Addr} {kv:List (List Key×V)} (e:H d=some (.dT kv)) (u:HO):KD H (ay H d u):=fun a o _ n h=>by
 rw[ag (fun z=>by rw[z,e] at h;exact n kv (ET h).symm)]
 exact h
theorem KD.kf {C:Addr} {F:HP} {H H':Hp} {x:Addr} {rows:HJ} {m:Nat} {g:HD} {bs ns:HN} (lb:LB C F H x rows m g bs ns) (k:KF F H H'):KD H H':=fun a o z _ e=>k a o (lb.not e z) e
section
variable {K:D9} {C:Addr} {H H1 H2:Hp} {x dp ds db:Addr} {nm:HN} {n:Nat} {F F':HP} {rows:HJ} {m:Nat} {g:HD} {bs ns ms:HN} {ps:HK} {es:HH} {vw:HE}
theorem FG.out {a:Addr} {o:HO} (fg:FG F F' H) (e:H a=some o) (n:a∉F):a∉F':=fun z=>by
 rcases fg a z with w|w
 ·exact n w
 ·rw[e] at w;cases w
theorem jI {d:Addr} {o:HO} (e:H d=some o) (n:∀xs,o≠ .tup xs) (u:HO) (a:Addr) (xs:List V) (h:H a=some (.tup xs)):ay H d u a=some (.tup xs):=by
 rw[ag (fun z=>by rw[z,e] at h;exact n xs (ET h))]
 exact h
theorem iR {d a:Addr} {o o' u:HO} (e:H d=some o) (h:H a=some o') (n:o≠o'):ay H d u a=some o':=by
 rw[ag (fun z=>by rw[z,e] at h;exact n (ET h))]
 exact h
theorem v4 {bs:HN} {z y:Str}:y∈kZ bs z↔y∈bs/\y≠z:=by
 unfold kZ;rw[FL];exact ⟨fun h=>⟨h.1,of_decide_eq_true h.2⟩,fun h=>⟨h.1,decide_eq_true h.2⟩⟩
theorem KD.seq {H':Hp} {a:Addr} {xs:List V} (e:KD H H') (h:aQ K H a xs):aQ K H' a xs:=by
 rcases h with (h|⟨o,h⟩)|h
 ·exact .inl (.inl (e _ _ (fun _ z=>nomatch z) (fun _ z=>nomatch z) h))
 ·exact .inl (.inr ⟨o,e _ _ (fun _ z=>nomatch z) (fun _ z=>nomatch z) h⟩)
 ·exact .inr h
theorem xX (ks:HN) (v:V):(aY ks v).map (·.1)=ks.map fun y=>(.inr y:Key):=by
 unfold aY;rw[Eh]
 rfl
end
def yK:Sp:=fun vs H Q _=>∃(ah:Addr) (goal good:Str) (ps:HK) (es:List (Str×Option Str)),vs= [.ref ah,.str goal]/\H ah=some (.dK (bc es))/\dE ps good es/\goal∈aS es/\
 ∀(l:Addr) (H':Hp) (c:HN),ax H H'->H l=none->H' l=some (.lst (c.map V.str))->Way ps good goal c->Q (.ref l) H'
def gY:Sp:=fun vs H Q _=>∃(d lg:Addr) (good:Str) (rows:HJ) (ps:HK) (gs:HN),vs= [.ref d,.str good,.ref lg]/\DD H d rows/\cC rows ps/\ps.length<=1000/\H lg=some (.lst (gs.map V.str))/\
 (∀(H':Hp),ax H H'->(∀b∈gs,¬Led ps good b)->Q .non H')/\∀(l:Addr) (H':Hp) (c:HN) (goal:Str),ax H H'->H l=none->H' l=some (.lst (c.map V.str))->Way ps good goal c->goal∈gs->Led ps good goal->(good∈gs->goal=good)->Q (.ref l) H'
section
variable (K:D9) (C cN cI:Addr)
def jg:Sp:=fun vs H Q E=>∃(x:Addr) (v:V) (F:HP) (rows:HJ) (m:Nat) (g:HD) (bs ns:HN) (ps:HK),vs= [.ref x,v]/\LB C F H x rows m g bs ns/\cC rows ps/\ps.length<=1000/\(j6 v∨eY K H v)/\
 (¬j6 v->∀H',ax H H'->E (.ref cN) none H')/\
 ∀z,v= .str z->Nm z->(∀(H':Hp),ax H H'->(∀b∈bs,¬Led ps z b)->Q .non H')/\
  ∀(l:Addr) (H':Hp) (c:HN) (goal:Str),ax H H'->H l=none->H' l=some (.lst (c.map V.str))->Way ps z goal c->goal∈bs->Led ps z goal->(z∈bs->goal=z)->Q (.ref l) H'
def kB:Sp:=fun vs H Q _=>∃(x:Addr) (z:Str) (F:HP) (rows:HJ) (m:Nat) (g:HD) (bs ns:HN) (ps:HK),vs= [.ref x,.str z]/\LB C F H x rows m g bs ns/\cC rows ps/\ps.length<=1000/\Nm z/\
 (∀(H':Hp),ax H H'->(∀b∈bs,¬Led ps z b)->Q .non H')/\
  ∀(l:Addr) (H':Hp) (c:HN) (goal:Str),ax H H'->H l=none->H' l=some (.lst (c.map V.str))->Way ps z goal c->goal∈bs->Led ps z goal->Q (.ref l) H'
def v5:Sp:=fun vs H Q E=>∃(x:Addr) (v:V) (F:HP) (rows:HJ) (m:Nat) (g:HD) (bs ns:HN) (ps:HK) (vw:HE) (U:HN) (Rt:HN->Int->Int->Prop),vs= [.ref x,v]/\LB C F H x rows m g bs ns/\m<=200/\cC rows ps/\ps.length<=1000/\(j6 v∨eY K H v)/\ph K H g vw/\(∀a b,rZ g a b->b∈U)/\U.length<=17/\
 (∀z,v= .str z->Rt [z] 1 1)/\(∀c p q y t r s,Rt c p q->g (aI c) y=some t->Fr r s (p*(vw (aI c) y).1) (q*(vw (aI c) y).2)->Rt (c++ [y]) r s)/\
 (¬j6 v->∀H',ax H H'->E (.ref cN) none H')/\
 ∀z,v= .str z->Nm z->∀cs,fO (rZ g) z cs cs.length (fun _=>False)->
  (∀(k:Nat) (c:HN) (t cl rl:Addr) (p q:Int) (H':Hp),ax H H'->H cl=none->cs[k]?=some c->(∀(j:Nat) (d:HN),j<k->cs[j]?=some d->Blk ps bs (aI d))->¬Blk ps bs (aI c)->H' t=some (.tup [.ref cl,.ref rl])->H' cl=some (.lst (c.map V.str))->H' rl=some (.tup [.int p,.int q])->Rt c p q->Q (.ref t) H')/\
  ((∀(j:Nat) (d:HN),cs[j]?=some d->Blk ps bs (aI d))->∀(d:Addr) (H':Hp),ax H H'->H' d=some (.xd [("good",.str z)])->E (.ref cI) (some d) H')
variable {K C cN cI}
theorem qQ (vs:List V) (H:Hp) (Q:VK) (E:XK) (h:kB C vs H Q E):jg K C cN vs H Q E0:=by
 obtain ⟨x,z,F,rows,m,g,bs,ns,ps,rfl,lb,a1,a2,nz,q1,q2⟩:=h;refine ⟨x,.str z,F,rows,m,g,bs,ns,ps,rfl,lb,a1,a2,.inl ⟨z,rfl,nz⟩,fun n=>absurd ⟨z,rfl,nz⟩ n,fun y e _=>?_⟩
 cases e;exact ⟨q1,fun l H' c goal g n e w b d _=>q2 l H' c goal g n e w b d⟩
end
structure D7 (H:Hp) (dp ds db:Addr) (nm:HN) (ps:HK) (es:HH) (bs:HN) (vw:HE):Prop where
 ep:H dp=some (.dT (nU ps))
 ee:H ds=some (.dT (k8 es))
 eb:H db=some (.dK (aY bs (.bl true)))
 val:BF H es vw
 inn:∀a b t,(a,b,t)∈es->a∈nm/\b∈nm/\a≠b
 bnd:bs.Nodup
 binn:∀b∈bs,b∈nm
 few:ps.length<=60/\es.length<=60/\nm.length<=12
 ne:dp≠ds
theorem D7.same {H H':Hp} {dp ds db:Addr} {nm:HN} {ps:HK} {es:HH} {bs:HN} {vw:HE} (h:D7 H dp ds db nm ps es bs vw) (g:ax H H'):D7 H' dp ds db nm ps es bs vw:=
 ⟨g _ _ h.ep,g _ _ h.ee,g _ _ h.eb,fun a b t m=>⟨g _ _ (h.val a b t m).1,(h.val a b t m).2⟩,h.inn,h.bnd,h.binn,h.few,h.ne⟩
theorem D7.bars {H:Hp} {dp ds db:Addr} {nm:HN} {ps:HK} {es:HH} {bs:HN} {vw:HE} (h:D7 H dp ds db nm ps es bs vw):bs.length<=12:=EX (Wo.e9 h.bnd h.binn) h.few.2.2
structure S7 (K:D9) (C:Addr) (H:Hp) (x dp ds db:Addr) (nm:HN) (n:Nat) (F:HP) (rows:HJ) (m:Nat) (g:HD) (bs ns:HN) (ps:HK) (es:HH) (vw:HE):Prop where
 d7:D7 H dp ds db nm ps es bs vw
 lb:LB C F H x rows m g bs ns
 ok:cC rows ps
 st:∀a b,rZ g a b↔pS es a b
 ra:ph K H g vw
 nn:ns.Nodup
 nsm:∀y∈ns,y∈nm
 dbF:db∉F
 cnt:m<=2*n/\ps.length<=n/\es.length<=n
section
variable {K:D9} {C:Addr} {H H':Hp} {x dp ds db:Addr} {nm:HN} {n:Nat} {F:HP} {rows:HJ} {m:Nat} {g:HD} {bs ns:HN} {ps:HK} {es:HH} {vw:HE}
theorem S7.same (h:S7 K C H x dp ds db nm n F rows m g bs ns ps es vw) (e:ax H H'):S7 K C H' x dp ds db nm n F rows m g bs ns ps es vw:=
 ⟨h.d7.same e,h.lb.same e,h.ok,h.st,h.ra.keep fun a xs z=>e _ _ z,h.nn,h.nsm,h.dbF,h.cnt⟩
theorem S7.more (h:S7 K C H x dp ds db nm n F rows m g bs ns ps es vw):S7 K C H x dp ds db nm (n+1) F rows m g bs ns ps es vw:=⟨h.d7,h.lb,h.ok,h.st,h.ra,h.nn,h.nsm,h.dbF,by have:=h.cnt;lia⟩
theorem S7.len (h:S7 K C H x dp ds db nm n F rows m g bs ns ps es vw):ns.length<=12:=EX (Wo.e9 h.nn h.nsm) h.d7.few.2.2
theorem S7.hU (h:S7 K C H x dp ds db nm n F rows m g bs ns ps es vw) (a b:Str) (z:rZ g a b):b∈nm:=by
 obtain ⟨t,z⟩:=(h.st a b).mp z;exact (h.d7.inn a b t z).2.1
theorem S7.d7k (h:S7 K C H x dp ds db nm n F rows m g bs ns ps es vw) (k:KF F H H'):D7 H' dp ds db nm ps es bs vw:=
 ⟨k _ _ (h.lb.not h.d7.ep (fun _ z=>nomatch z)) h.d7.ep,k _ _ (h.lb.not h.d7.ee (fun _ z=>nomatch z)) h.d7.ee,k _ _ h.dbF h.d7.eb,fun a b t z=>⟨k _ _ (h.lb.not (h.d7.val a b t z).1 (fun _ z=>nomatch z)) (h.d7.val a b t z).1,(h.d7.val a b t z).2⟩,h.d7.inn,h.d7.bnd,h.d7.binn,h.d7.few,h.d7.ne⟩
theorem S7.rak (h:S7 K C H x dp ds db nm n F rows m g bs ns ps es vw) (k:KF F H H'):ph K H' g vw:=h.ra.keep fun a xs z=>k _ _ (h.lb.not z (fun _ z=>nomatch z)) z
end
section
variable {K:D9} {C:Addr} {H H1 H2:Hp} {x dp ds db:Addr} {nm:HN} {n:Nat} {F F':HP} {rows:HJ} {m:Nat} {g:HD} {bs ns ms:HN} {ps:HK} {es:HH} {vw:HE}
theorem S7.part (s:S7 K C H x dp ds db nm n F rows m g bs ns ps es vw) {a b:Str} (k:KF F H H1) (fg:FG F F' H) (lb:LB C F' H1 x (aZ rows a b) m g bs ms) (nd:ms.Nodup) (hs:∀y,y∈ms↔y∈ns∨y=a∨y=b) (g2:ax H1 H2) (ai:a∈nm) (bi:b∈nm) (n60:n<60):
  S7 K C (ay H2 dp (.dT (putK (nU ps) [.inr a,.inr b] (.bl true)))) x dp ds db nm (n+1) F' (aZ rows a b) m g bs ms (lh ps a b) es vw:=by
 have d1:=(s.d7k k).same g2;have lb2:=lb.same g2;have ra2:=(s.rak k).keep fun a xs z=>g2 _ _ z
 have cnt:=s.cnt;have al:=vW ps a b;have few:=s.d7.few;refine ⟨⟨by rw[ac,xW],by rw[ag (Ne.symm d1.ne)];exact d1.ee,iR d1.ep d1.eb (fun z=>nomatch z),fun u v t z=>⟨jI d1.ep (fun _ z=>nomatch z) _ _ _ (d1.val u v t z).1,(d1.val u v t z).2⟩,d1.inn,d1.bnd,d1.binn,by lia,d1.ne⟩,lb2.far d1.ep (fun _ z=>nomatch z) (fun _ _ _ z=>nomatch z) _,s.ok.addP a b,s.st,ra2.keep (jI d1.ep (fun _ z=>nomatch z) _),nd,fun y hy=>?_,fg.out s.d7.eb s.dbF,by lia⟩
 ·rcases (hs y).mp hy with z|rfl|rfl
  ·exact s.nsm y z
  ·exact ai
  ·exact bi
theorem S7.barred (s:S7 K C H x dp ds db nm n F rows m g bs ns ps es vw) {bs':HN} (k:KF F H H1) (lb:LB C F H1 x rows m g bs' ms) (nd:ms.Nodup) (hs:∀y∈ms,y∈nm) (bn:bs'.Nodup) (bi:∀y∈bs',y∈nm):
  S7 K C (ay H1 db (.dK (aY bs' (.bl true)))) x dp ds db nm n F rows m g bs' ms ps es vw:=by
 have d1:=s.d7k k;have ra2:=s.rak k;have tp:=jI d1.eb (fun _ z=>nomatch z) (.dK (aY bs' (.bl true)))
 exact ⟨⟨iR d1.eb d1.ep (fun z=>nomatch z),iR d1.eb d1.ee (fun z=>nomatch z),ac,fun u v t z=>⟨tp _ _ (d1.val u v t z).1,(d1.val u v t z).2⟩,d1.inn,bn,bi,d1.few,d1.ne⟩,lb.farN d1.eb s.dbF (fun _ _ _ z=>nomatch z) _,s.ok,s.st,ra2.keep tp,nd,hs,s.dbF,s.cnt⟩
theorem S7.start (lb:LB C F H x [] 0 (fun _ _=>none) [] []) (ep:H dp=some (.dT [])) (ee:H ds=some (.dT [])) (eb:H db=some (.dK [])) (dF:db∉F) (ne:dp≠ds) (n6:nm.length<=12):S7 K C H x dp ds db nm 0 F [] 0 (fun _ _=>none) [] [] [] [] (fun _ _=>(1,1)):=
 ⟨⟨ep,ee,eb,fun a b t h=>(by cases h),fun a b t h=>(by cases h),FO,fun b h=>(by cases h),⟨by simp,by simp,n6⟩,ne⟩,lb,cC.nil,fun a b=>⟨fun ⟨t,h⟩=>(by cases h),fun ⟨t,h⟩=>(by cases h)⟩,⟨fun a b t h=>(by cases h),fun a b t h=>(by cases h)⟩,FO,fun y h=>(by cases h),dF,by simp⟩
end
def xY (kvs:List (List Key×V)) (ps:HK):Prop:=kvs.map (·.1)=ps.map fun p=> [(.inr p.1:Key),.inr p.2]
theorem xY.len {kvs:List (List Key×V)} {ps:HK} (h:xY kvs ps):kvs.length=ps.length:=by
 have:=congrArg List.length h
 rwa [E3,E3] at this
theorem xY.at_ {kvs:List (List Key×V)} {ps:HK} (h:xY kvs ps) {i:Nat} {k:List Key} {x:V} (hk:kvs[i]?=some (k,x)):∃a b:Str,k= [.inr a,.inr b]/\ps[i]?=some (a,b):=by
 have e:(kvs.map (·.1))[i]?=some k:=by rw[EA,hk];rfl
 rw[h,EA] at e;cases z:ps[i]? with
 |none=>rw[z] at e;cases e
 |some p=>
  rw[z] at e;cases e;exact ⟨p.1,p.2,rfl,rfl⟩
theorem D6 (ps:HK):xY (nU ps) ps:=by
 unfold xY nU;rw[Eh]
 rfl
def xZ (es:HH):HK:=es.map fun e=>(e.1,e.2.1)
theorem D8 (es:HH):xY (k8 es) (xZ es):=by
 unfold xY k8 xZ;rw[Eh,Eh]
 rfl
theorem sk {es:HH} {a b:Str}:(a,b)∈xZ es↔pS es a b:=by
 unfold xZ pS;rw[EF];constructor
 ·rintro ⟨⟨u,v,t⟩,h,e⟩;cases e;exact ⟨t,h⟩
 ·rintro ⟨t,h⟩;exact ⟨_,h,rfl⟩
theorem x2 (es:HH):(xZ es).length=es.length:=E3 _
theorem x3 {es:HH} {z y:Str} (h:Led (xZ es) z y):∃p,kQ (pS es) z p/\aI p=y:=by
 induction h with
 |self=>exact ⟨[z],.one,rfl⟩
 |step _ m ih=>
  obtain ⟨p,hp,e⟩:=ih;exact ⟨_,.snoc hp (by rw[e];exact sk.mp m),bP _ _⟩
def nJ:Sp:=fun vs H Q _=>∃(d:Addr) (good:Str) (kvs:List (List Key×V)) (ps:HK),vs= [.ref d,.str good]/\H d=some (.dT kvs)/\xY kvs ps/\ps.length<=900/\
 ∀(dk:Addr) (H':Hp) (ks:HN),ax H H'->H dk=none->H' dk=some (.dK (aY ks (.bl true)))->ks.Nodup->ks.length<=1001->(∀y,y∈ks↔Led ps good y)->Q (.ref dk) H'
def BG (c:Int):Int:=1+(c.fmod 1000003*48271).fmod 999983
def yL (c:Int):Int:=1+((c.fmod 1000003*48271).fmod 999983*31).fmod 997
def jh:Sp:=fun vs H Q _=>∃c:Int,vs= [.int c]/\∀p q:Int,0<p->nS p q->Bd 200 p->Bd 200 q->Fr p q (BG c) (yL c)->Pair H Q p q
theorem x4 (c:Int):0<yL c:=by
 have:=EB ((c.fmod 1000003*48271).fmod 999983*31) (show (0:Int)<997 by decide)
 unfold yL
 lia
theorem x5 {c p q p' q':Int} (f:Fr p q (BG c) (yL c)) (f':Fr p' q' (BG c) (yL c)):p=p'/\q=q':=by
 have b0:=x4 c;refine fz ⟨f.pos,f.low⟩ ⟨f'.pos,f'.low⟩ (gP (k:=yL c) ?_ (by lia))
 have e:=f.same;have e':=f'.same
 grind
def AM (nm:HN) (ps:HK):Prop:=∀a b,(a,b)∈ps->∃i j:Nat,i<j/\nm[i]?=some a/\nm[j]?=some b
theorem AM.add {nm:HN} {ps:HK} (h:AM nm ps) {a b:Str} {i j:Nat} (ij:i<j) (ha:nm[i]?=some a) (hb:nm[j]?=some b):AM nm (lh ps a b):=fun u v z=>by
 rcases vV.mp z with z|z
 ·exact h u v z
 ·cases z;exact ⟨i,j,ij,ha,hb⟩
theorem AM.noring {nm:HN} {ps:HK} (h:AM nm ps) (hn:nm.Nodup) {a b:Str} {i j:Nat} (ij:i<j) (ha:nm[i]?=some a) (hb:nm[j]?=some b):¬Led ps b a:=fun l=>by
 have one:∀{u v:Nat} {y:Str},nm[u]?=some y->nm[v]?=some y->u=v:=fun {u v y} h1 h2=>(List.getElem?_inj (E2.mp h1).1 hn).mp (h1.trans h2.symm)
 have:∃k,j<=k/\nm[k]?=some a:=l.closed (S:=fun y=>∃k,j<=k/\nm[k]?=some y) ⟨j,E4 _,hb⟩ fun u v ⟨k,jk,hk⟩ z=>by
  obtain ⟨p,q,pq,hp,hq⟩:=h u v z;have:=one hp hk;exact ⟨q,by lia,hq⟩
 obtain ⟨k,jk,hk⟩:=this;have:=one ha hk
 lia
section
variable {K:D9} {C:Addr} {H H1 H2:Hp} {x dp ds db:Addr} {nm:HN} {n:Nat} {F F':HP} {rows:HJ} {m:Nat} {g:HD} {bs ns ms:HN} {ps:HK} {es:HH} {vw:HE}
theorem S7.standB (s:S7 K C H x dp ds db nm n F rows m g bs ns ps es vw) {a b:Str} {r r0:Addr} {p q:Int} (er0:H r0=some (.tup [.int p,.int q])) (g1:ax (ay H ds (.dT (putK (k8 es) [.inr a,.inr b] (.ref r0)))) H1) (k:KF F H1 H2) (fg:FG F F' H1) (lb:LB C F' H2 x rows (m+2) (nD g a b r) bs ms) (er:H2 r=some (.tup [.int p,.int q])) (p0:0<p) (lo:nS p q) (b1:Bd 200 p) (b2:Bd 200 q) (na:Nm a) (nb:Nm b) (nd:ms.Nodup) (hs:∀y,y∈ms↔y∈ns∨y=a∨y=b) (ai:a∈nm) (bi:b∈nm) (ab:a≠b) (new:∀t,(a,b,t)∉es) (n60:n<60):
  S7 K C H2 x dp ds db nm (n+1) F' rows (m+2) (nD g a b r) bs ms ps (es++ [(a,b,r0)]) (fun u v=>if u=a/\v=b then (p,q) else vw u v):=by
 have d0:=s.d7;have cnt:=s.cnt;have few:=s.d7.few;have lb0:=s.lb.far d0.ee (fun _ z=>nomatch z) (fun _ _ _ z=>nomatch z) (.dT (putK (k8 es) [.inr a,.inr b] (.ref r0)))
 have lb1:=lb0.same g1;have tp:∀c xs,H c=some (.tup xs)->H2 c=some (.tup xs):=fun c xs e=>by
  have e1:=g1 _ _ (jI d0.ee (fun _ z=>nomatch z) _ _ _ e)
  exact k _ _ (lb1.not e1 (fun _ z=>nomatch z)) e1
 have ep2:H2 dp=some (.dT (nU ps)):=by
  have e1:=g1 _ _ (show ay H ds _ dp=_ by rw[ag d0.ne];exact d0.ep)
  exact k _ _ (lb1.not e1 (fun _ z=>nomatch z)) e1
 have ee2:H2 ds=some (.dT (k8 (es++ [(a,b,r0)]))):=by
  have e1:=g1 ds _ ac;rw[xS new] at e1;exact k _ _ (lb1.not e1 (fun _ z=>nomatch z)) e1
 have eb1:=g1 _ _ (iR d0.ee d0.eb (fun z=>nomatch z))
 have eb2:=k _ _ s.dbF eb1;refine ⟨⟨ep2,ee2,eb2,fun u v t z=>?_,fun u v t z=>?_,d0.bnd,d0.binn,by rw[E8,EJ];lia,d0.ne⟩,lb,s.ok,fun u v=>?_,⟨fun u v t z=>?_,fun u v t z=>?_⟩,nd,fun y hy=>?_,fg.out eb1 s.dbF,by rw[E8,EJ];lia⟩
 ·rcases EK.mp z with z|z
  ·have c:¬(u=a/\v=b):=fun c=>new t (by rw[<-c.1,<-c.2];exact z)
   simp only[if_neg c];exact ⟨tp _ _ (d0.val u v t z).1,(d0.val u v t z).2⟩
  ·rw[E9] at z;cases z;simp only[and_self,if_true];exact ⟨tp _ _ er0,p0,lo,b1,b2⟩
 ·rcases EK.mp z with z|z
  ·exact d0.inn u v t z
  ·rw[E9] at z;cases z;exact ⟨ai,bi,ab⟩
 ·unfold rZ nD
  by_cases c:u=a/\v=b
  ·rw[c.1,c.2];exact ⟨fun _=>⟨r0,by simp⟩,fun _=>⟨r,by simp⟩⟩
  ·simp only[if_neg c];refine (s.st u v).trans ⟨fun ⟨w,z⟩=>⟨w,Ex _ z⟩,fun ⟨w,z⟩=>?_⟩
   rcases EK.mp z with z|z
   ·exact ⟨w,z⟩
   ·rw[E9] at z;cases z;exact absurd ⟨rfl,rfl⟩ c
 ·unfold nD at z
  by_cases c:u=a/\v=b
  ·rw[if_pos c] at z;cases z;simp only[if_pos c];exact ⟨er,p0,lo,b1,b2⟩
  ·rw[if_neg c] at z;simp only[if_neg c];obtain ⟨f1,f2⟩:=s.ra.fr u v t z;exact ⟨tp _ _ f1,f2⟩
 ·unfold nD at z
  by_cases c:u=a/\v=b
  ·rw[c.1,c.2];exact ⟨na,nb⟩
  ·rw[if_neg c] at z;exact s.ra.nm u v t z
 ·rcases (hs y).mp hy with z|rfl|rfl
  ·exact s.nsm y z
  ·exact ai
  ·exact bi
end
def Tw (es:HH) (vw:HE):Prop:=∀a b,pS es a b->0<(vw a b).1/\0<(vw a b).2/\Bd 20 (vw a b).1/\Bd 10 (vw a b).2
theorem Tw.add {es:HH} {vw:HE} (h:Tw es vw) {a b:Str} {r:Addr} {p q:Int} (p0:0<p) (q0:0<q) (b1:Bd 20 p) (b2:Bd 10 q):Tw (es++ [(a,b,r)]) (fun u v=>if u=a/\v=b then (p,q) else vw u v):=fun u v ⟨t,z⟩=>by
 by_cases c:u=a/\v=b
 ·simp only[if_pos c];exact ⟨p0,q0,b1,b2⟩
 ·simp only[if_neg c];rcases EK.mp z with z|z
  ·exact h u v ⟨t,z⟩
  ·rw[E9] at z;cases z;exact absurd ⟨rfl,rfl⟩ c
def t9 (K:D9) (C:Addr) (H:Hp) (x dp ds db:Addr) (nm:HN) (n:Nat):Prop:=∃F rows m g bs ns ps es vw,S7 K C H x dp ds db nm n F rows m g bs ns ps es vw/\AM nm ps/\Tw es vw
def kC (K:D9) (C:Addr):Sp:=fun vs H Q _=>∃(a l dp ds db:Addr) (ns0:List Int) (nm:HN),vs= [.ref a,.ref l,.ref dp,.ref ds,.ref db]/\aQ K H a (ns0.map V.int)/\ns0.length<=63/\H l=some (.lst (nm.map V.str))/\2<=nm.length/\nm.length<=12/\nm.Nodup/\(∀z∈nm,Nm z)/\H dp=some (.dT [])/\H ds=some (.dT [])/\H db=some (.dK [])/\dp≠ds/\
 ∀(x:Addr) (n:Nat) (H':Hp),KD H H'->n<=16->t9 K C H' x dp ds db nm n->Q (.ref x) H'
theorem BH (ns:List Int):(kS (ns.map V.int) (some 2) (some 18)).length<=16:=by
 unfold kS;rw[EN];have e1:HT.dY (ns.map V.int).length (ns.map V.int).length (some 18)=min 18 (ns.map V.int).length:=HT.rj _ _ 18;have e2:HT.dY (ns.map V.int).length 0 (some 2)=min 2 (ns.map V.int).length:=HT.rj _ _ 2;rw[e1,e2]
 lia
structure yM (H:Hp) (lt:Addr) (ks:HI):Prop where
 ex:∃ts:HP,H lt=some (.lst (ts.map V.ref))/\ts.length=ks.length/\∀(i:Nat) (t:Addr) (k:HU),ts[i]?=some t->ks[i]?=some k->∃am,H t=some (.tup [.str k.1,.ref am])/\H am=some (.tup [.int k.2.1,.int k.2.2])
theorem yM.kd {H H':Hp} {lt:Addr} {ks:HI} (h:yM H lt ks) (k:KD H H'):yM H' lt ks:=by
 obtain ⟨ts,e,l,each⟩:=h.ex;refine ⟨ts,k _ _ (fun _ z=>by cases z) (fun _ z=>by cases z) e,l,fun i t kk h1 h2=>?_⟩
 obtain ⟨am,e1,e2⟩:=each i t kk h1 h2;exact ⟨am,k _ _ (fun _ z=>by cases z) (fun _ z=>by cases z) e1,k _ _ (fun _ z=>by cases z) (fun _ z=>by cases z) e2⟩
structure pT (C:Addr) (H:Hp) (r:Addr) (pl:Int) (ks:HI):Prop where
 ex:∃(dr lt:Addr) (fs:List (Str×V)),H r=some (.ins C dr fs)/\fs.lookup ("takes" :Str)=some (.ref lt)/\fs.lookup ("plates" :Str)=some (.int pl)/\yM H lt ks
theorem pT.kd {C:Addr} {H H':Hp} {r:Addr} {pl:Int} {ks:HI} (h:pT C H r pl ks) (k:KD H H'):pT C H' r pl ks:=by
 obtain ⟨dr,lt,fs,e,f1,f2,tk⟩:=h.ex;exact ⟨dr,lt,fs,k _ _ (fun _ z=>by cases z) (fun _ z=>by cases z) e,f1,f2,tk.kd k⟩
structure x6 (C:Addr) (H0 H:Hp) (r:Addr) (pl:Int) (ks:HI):Prop where
 ex:∃(dr lt:Addr) (fs:List (Str×V)),H r=some (.ins C dr fs)/\fs.lookup ("takes" :Str)=some (.ref lt)/\fs.lookup ("plates" :Str)=some (.int pl)/\yM H lt ks/\H0 lt=none
theorem x6.keep {C:Addr} {H0 H H':Hp} {r:Addr} {pl:Int} {ks:HI} (h:x6 C H0 H r pl ks) (g:ax H0 H) {p:Addr} {zs:List V} (hp:H0 p=some (.lst zs)) (k:∀b o,b≠p->H b=some o->H' b=some o):pT C H' r pl ks:=by
 obtain ⟨dr,lt,fs,e,f1,f2,tk,nl⟩:=h.ex;obtain ⟨ts,e1,l1,each⟩:=tk.ex;have pe:=g _ _ hp;have nt:∀b xs,H b=some (.tup xs)->H' b=some (.tup xs):=fun b xs z=>k _ _ (fun w=>by rw[w,pe] at z;cases z) z
 refine ⟨dr,lt,fs,k _ _ (fun w=>by rw[w,pe] at e;cases e) e,f1,f2,⟨ts,k _ _ (fun w=>by rw[w,hp] at nl;cases nl) e1,l1,fun i t kk h1 h2=>?_⟩⟩
 obtain ⟨am,q1,q2⟩:=each i t kk h1 h2;exact ⟨am,nt _ _ q1,nt _ _ q2⟩
theorem x8 {es:HH} {z:Str} {p:HN} (h:kQ (pS es) z p):Led (xZ es) z (aI p):=by
 induction h with
 |one=>exact .self
 |snoc _ r ih=>rw[bP];exact .step ih (sk.mpr r)
def hJ (es:HH) (ps:HK) (bs:HN) (z:Str):Prop:=∃y,Led (xZ es) z y/\¬Blk ps bs y
def hV (C:Addr):Sp:=fun vs H Q _=>∃(r dp ds db:Addr) (pl:Int) (ks:HI) (nm:HN) (ps:HK) (es:HH) (bs:HN) (vw:HE),vs= [.ref r,.ref dp,.ref ds,.ref db]/\pT C H r pl ks/\ks.length<=100/\D7 H dp ds db nm ps es bs vw/\
 (∀H',ax H H'->(∀k∈ks,hJ es ps bs k.1)->Q .non H')/\(∀(i:Nat) (k:HU) (H':Hp),ax H H'->ks[i]?=some k->(∀(j:Nat) (k':HU),j<i->ks[j]?=some k'->hJ es ps bs k'.1)->¬hJ es ps bs k.1->Q (.str k.1) H')
theorem x9 {ks:HN} {i:Nat} {k:Key} {x:V} (h:(aY ks (.bl true))[i]?=some (k,x)):∃y,k= .inr y/\ks[i]?=some y:=by
 unfold aY at h;rw[EA] at h;cases e:ks[i]? with
 |none=>rw[e] at h;cases h
 |some p=>
  rw[e] at h;cases h;exact ⟨p,rfl,rfl⟩
noncomputable def BI (ps:HK) (bs:HN) (kn:HN) (i:Nat):Bool:=match kn[i]? with
 |some y=>CJ ps bs y
 |none=>false
theorem v6 {R:Str->Str->Prop} {es:HH} {ps:HK} {bs:HN} {good:Str} {cs:List HN} (hR:∀a b,R a b↔pS es a b) (h:fO R good cs cs.length (fun _=>False)) {k:Nat} {c:HN} (hk:cs[k]?=some c) (bl:∀(j:Nat) (d:HN),j<k->cs[j]?=some d->Blk ps bs (aI d)) (nb:¬Blk ps bs (aI c)):fM es ps bs good c:=by
 have eR:R=pS es:=by funext a b;exact propext (hR a b)
 subst eR;refine ⟨fO.path h k c hk,nb,fun p hp np z=>?_⟩
 obtain ⟨j,d',hd,el,na⟩:=fO.least h hp;refine na ?_;rcases FW j k with w|w|w
 ·exact absurd (bl j d' w hd) (by rw[el];exact np)
 ·subst w;rw[hk] at hd;cases hd;exact z
 ·exact z.trans (h.lt hk hd w)
theorem nK {es:HH} {ps:HK} {bs:HN} {good:Str} {c:HN} (h:fM es ps bs good c):hJ es ps bs good:=⟨aI c,x8 h.1,h.2.1⟩
theorem ss {R:Str->Str->Prop} {es:HH} {ps:HK} {bs:HN} {good:Str} {cs:List HN} (hR:∀a b,R a b↔pS es a b) (h:fO R good cs cs.length (fun _=>False)) (all:∀(j:Nat) (d:HN),cs[j]?=some d->Blk ps bs (aI d)):¬hJ es ps bs good:=fun ⟨y,hl,nb⟩=>by
 obtain ⟨p,hp,e⟩:=x3 hl;exact nb (by rw[<-e];exact vZ hR h all p hp)
abbrev fN:=List Str×Int×Int
structure uh (H0 H:Hp) (l:Addr) (ks:HI) (rs:List fN) (D:Str->HN->Int->Int->Prop):Prop where
 ex:∃ts:HP,H l=some (.lst (ts.map V.ref))/\ts.length=rs.length/\rs.length<=ks.length/\∀(i:Nat) (t:Addr) (k:HU) (r:fN),ts[i]?=some t->ks[i]?=some k->rs[i]?=some r->D k.1 r.1 r.2.1 r.2.2/\∃cl rl,H t=some (.tup [.str k.1,.ref cl,.ref rl])/\H cl=some (.lst (r.1.map V.str))/\H rl=some (.tup [.int r.2.1,.int r.2.2])/\H0 cl=none/\cl≠l
theorem uh.same {H0 H H':Hp} {l:Addr} {ks:HI} {rs:List fN} {D:Str->HN->Int->Int->Prop} (h:uh H0 H l ks rs D) (g:ax H H'):uh H0 H' l ks rs D:=by
 obtain ⟨ts,e,l1,l2,each⟩:=h.ex;refine ⟨ts,g _ _ e,l1,l2,fun i t k r h1 h2 h3=>?_⟩
 obtain ⟨d,cl,rl,e1,e2,e3,e4⟩:=each i t k r h1 h2 h3;exact ⟨d,cl,rl,g _ _ e1,g _ _ e2,g _ _ e3,e4⟩
theorem uh.snoc {H0 H:Hp} {l:Addr} {ks:HI} {rs:List fN} {D:Str->HN->Int->Int->Prop} (h:uh H0 H l ks rs D) {ts:HP} (hl:H l=some (.lst (ts.map V.ref))) {k:HU} (hk:ks[rs.length]?=some k) {t cl rl:Addr} {c:HN} {p q:Int} (d:D k.1 c p q) (e1:H t=some (.tup [.str k.1,.ref cl,.ref rl])) (e2:H cl=some (.lst (c.map V.str))) (e3:H rl=some (.tup [.int p,.int q])) (n:H0 cl=none) (ne:cl≠l):uh H0 (ay H l (.lst ((ts++ [t]).map V.ref))) l ks (rs++ [(c,p,q)]) D:=by
 obtain ⟨ts',e,l1,l2,each⟩:=h.ex;rw[hl] at e;injection e with e
 injection e with e
 have et:ts=ts':=by
  have:∀(a b:HP),a.map V.ref=b.map V.ref->a=b:=by
   intro a
   induction a with
   |nil=>intro b hb;cases b with|nil=>rfl|cons _ _=>cases hb
   |cons x a ih=>
    intro b hb;cases b with
    |nil=>cases hb
    |cons y b=>
     injection hb with h1 h2
     injection h1 with h1
     rw[h1,ih b h2]
  exact this _ _ e
 subst et;have tp:∀a xs,H a=some (.tup xs)->ay H l (.lst ((ts++ [t]).map V.ref)) a=some (.tup xs):=fun a xs z=>by rw[ag (fun w=>by rw[w,hl] at z;cases z)];exact z
 refine ⟨ts++ [t],ac,by rw[E8,E8,l1];rfl,by have:=(E2.mp hk).1;rw[E8,EJ];lia,fun i t' k' r h1 h2 h3=>?_⟩
 by_cases c':i<rs.length
 ·rw[E5 (by lia)] at h1
  rw[E5 c'] at h3;obtain ⟨d',cl',rl',f1,f2,f3,f4,f5⟩:=each i t' k' r h1 h2 h3;exact ⟨d',cl',rl',tp _ _ f1,by rw[ag f5];exact f2,tp _ _ f3,f4,f5⟩
 ·have il:=(E2.mp h3).1;rw[E8,EJ] at il;have:i=rs.length:=by lia
  subst this;rw[hk] at h2;cases h2;rw[E7 (E4 _),FE] at h3;cases h3;rw[E7 (by lia),l1,FE] at h1
  cases h1;exact ⟨d,cl,rl,tp _ _ e1,by rw[ag ne];exact e2,tp _ _ e3,n,ne⟩
def gz (K:D9) (CR C cI:Addr):Sp:=fun vs H Q E=>∃(r x dp ds db:Addr) (pl:Int) (ks:HI) (nm:HN) (n:Nat) (F:HP) (rows:HJ) (m:Nat) (g:HD) (bs ns:HN) (ps:HK) (es:HH) (vw:HE),vs= [.ref r,.ref x]/\pT CR H r pl ks/\ks.length<=100/\(∀k∈ks,Nm k.1)/\S7 K C H x dp ds db nm n F rows m g bs ns ps es vw/\n<=60/\
 (∀(l:Addr) (rs:List fN) (H':Hp),ax H H'->H l=none->rs.length=ks.length->uh H H' l ks rs (fun z c p q=>fM es ps bs z c/\kY vw c p q)->Q (.ref l) H')/\
 (∀(i:Nat) (k:HU) (d:Addr) (H':Hp),ax H H'->ks[i]?=some k->(∀(j:Nat) (k':HU),j<i->ks[j]?=some k'->hJ es ps bs k'.1)->¬hJ es ps bs k.1->H' d=some (.xd [("good",.str k.1)])->E (.ref cI) (some d) H')
def dG (c1:Addr):Sp:=fun vs H Q _=>∃(a d:Addr) (z:Str),vs= [.ref a,.str z]/\(∃n,H a=some (df n a (.ref c1) (some d)))/\H d=some (.xd [("good",.str z)])/\∀H',ax H H'->Q (.bl true) H'
def kD (K:D9) (CR C:Addr):Sp:=fun vs H Q _=>∃(r x dp ds db:Addr) (nv:V) (pl:Int) (ks:HI) (nm:HN) (n:Nat) (F:HP) (rows:HJ) (m:Nat) (g:HD) (bs ns:HN) (ps:HK) (es:HH) (vw:HE),vs= [.ref r,.ref x,nv]/\pT CR H r pl ks/\ks.length<=100/\(∀k∈ks,Nm k.1)/\S7 K C H x dp ds db nm n F rows m g bs ns ps es vw/\n<=60/\
 (∀(l:Addr) (rs:List fN) (H':Hp),ax H H'->H l=none->rs.length=ks.length->uh H H' l ks rs (fun z c p q=>fM es ps bs z c/\kY vw c p q)->Q (.ref l) H')/\
 (∀(i:Nat) (k:HU),ks[i]?=some k->(∀(j:Nat) (k':HU),j<i->ks[j]?=some k'->hJ es ps bs k'.1)->¬hJ es ps bs k.1->nv= .str k.1/\∀(t:Addr) (H':Hp),ax H H'->H' t=some (.tup [.str "refused",.bl true])->Q (.ref t) H')
def su (C:Addr):Sp:=fun vs H Q _=>∃(a dx lt ls lk:Addr) (nm:V) (pl:Int) (xt xs xk:List V),vs= [.ref a,nm,.int pl,.ref lt,.ref ls,.ref lk]/\H a=some (.ins C dx [])/\H lt=some (.lst xt)/\H ls=some (.lst xs)/\H lk=some (.lst xk)/\
 ∀(la:Addr) (fs:List (Str×V)) (H':Hp),je a H H'->H la=none->H' la=some (.lst xt)->H' a=some (.ins C dx fs)->fs.lookup ("takes" :Str)=some (.ref la)->fs.lookup ("plates" :Str)=some (.int pl)->Q .non H'
theorem sv {nm:V} {pl:Int} {la l2 l3:V}:(L2.aJ "links" l3 (L2.aJ "steps" l2 (L2.aJ "takes" la (L2.aJ "plates" (.int pl) (L2.aJ "name" nm []))))).lookup ("takes" :Str)=some la/\(L2.aJ "links" l3 (L2.aJ "steps" l2 (L2.aJ "takes" la (L2.aJ "plates" (.int pl) (L2.aJ "name" nm []))))).lookup ("plates" :Str)=some (.int pl):=by
 refine ⟨?_,?_⟩
 ·rw[aH,if_neg (by decide),aH,if_neg (by decide),aH,if_pos rfl]
 ·rw[aH,if_neg (by decide),aH,if_neg (by decide),aH,if_neg (by decide),aH,if_pos rfl]
theorem c5 {H:Hp} {a b C dx:Addr} {fs:List (Str×V)} {u:HO} {xs:List V} (e:H a=some (.ins C dx fs)) (h:H b=some (.lst xs)):ay H a u b=some (.lst xs):=by rw[ag (fun z=>by rw[z,e] at h;cases h)];exact h
theorem hZ {H0 H:Hp} {a:Addr} (k:je a H0 H) (u:HO):je a H0 (ay H a u):=fun b o n h=>by rw[ag n];exact k b o n h
theorem qT {H0 H:Hp} {a l:Addr} (k:je a H0 H) (n:H l=none) (u:HO):je a H0 (ay H l u):=fun b o m h=>aj n u _ _ (k b o m h)
theorem z5 {H:Hp} {a l C dx:Addr} {fs:List (Str×V)} (e:H a=some (.ins C dx fs)) (n:H l=none):a≠l:=fun z=>by rw[<-z,e] at n;cases n
theorem ya {H0 H:Hp} {a l C dx:Addr} {fs:List (Str×V)} (k:je a H0 H) (e:H a=some (.ins C dx fs)) (n:H l=none):H0 l=none:=by
 cases h:H0 l with
 |none=>rfl
 |some ob=>rw[k l ob (Ne.symm (z5 e n)) h] at n;cases n
theorem dO {H:Hp} {a l C dx:Addr} {fs:List (Str×V)} {u:HO} (e:H a=some (.ins C dx fs)) (n:H l=none):ay H l u a=some (.ins C dx fs):=aj n u _ _ e
theorem CK {s:Str} {v:V} {fs:List (Str×V)} {n:Nat} (h:fs.length<=n):(L2.aJ s v fs).length<=n+1:=by have:=cK s v fs;lia
structure jj (nm:HN) (ks:HI):Prop where
 inn:∀k∈ks,k.1∈nm
 nd:(ks.map (·.1)).Nodup
 am:∀k∈ks,0<k.2.1/\nS k.2.1 k.2.2/\Bd 50 k.2.1/\Bd 97 k.2.2
 few:ks.length<=5
def kE (K:D9) (C:Addr):Sp:=fun vs H Q _=>∃(a l:Addr) (st:Int) (ns0:List Int) (nm:HN),vs= [.ref a,.int st,.ref l]/\aQ K H a (ns0.map V.int)/\0<=st/\H l=some (.lst (nm.map V.str))/\2<=nm.length/\nm.length<=12/\
 ∀(r:Addr) (pl:Int) (ks:HI) (H':Hp),ax H H'->H r=none->1<=pl->pl<=1000->jj nm ks->x6 C H H' r pl ks->Q (.ref r) H'
structure wu (H:Hp) (ts:HP) (ks:HI):Prop where
 len:ts.length=ks.length
 each:∀(i:Nat) (t:Addr) (k:HU),ts[i]?=some t->ks[i]?=some k->∃am,H t=some (.tup [.str k.1,.ref am])/\H am=some (.tup [.int k.2.1,.int k.2.2])
theorem wu.mono {H H':Hp} {ts:HP} {ks:HI} (h:wu H ts ks) (k:∀a xs,H a=some (.tup xs)->H' a=some (.tup xs)):wu H' ts ks:=⟨h.len,fun i t z h1 h2=>by
 obtain ⟨am,e1,e2⟩:=h.each i t z h1 h2;exact ⟨am,k _ _ e1,k _ _ e2⟩⟩
theorem wu.snoc {H:Hp} {ts:HP} {ks:HI} (h:wu H ts ks) {t am:Addr} {z:Str} {p q:Int} (e1:H t=some (.tup [.str z,.ref am])) (e2:H am=some (.tup [.int p,.int q])):wu H (ts++ [t]) (ks++ [(z,p,q)]):=by
 have l:=h.len;refine ⟨by simp[l],fun i t' k' h1 h2=>?_⟩
 by_cases c:i<ts.length
 ·rw[E5 c] at h1;rw[E5 (by lia)] at h2
  exact h.each i t' k' h1 h2
 ·have il:=(E2.mp h1).1;rw[E8,EJ] at il;have:i=ts.length:=by lia
  subst this;rw[E7 (E4 _),FE] at h1;rw[l,E7 (E4 _),FE] at h2;cases h1;cases h2;exact ⟨am,e1,e2⟩
theorem jj.snoc {nm:HN} {ks:HI} (h:jj nm ks) {z:Str} {p q:Int} (hz:z∈nm) (nz:z∉ks.map (·.1)) (p0:0<p) (lo:nS p q) (b1:Bd 50 p) (b2:Bd 97 q) (l:ks.length<5):jj nm (ks++ [(z,p,q)]):=by
 refine ⟨fun k hk=>?_,?_,fun k hk=>?_,by simp;lia⟩
 ·rcases EK.mp hk with w|w
  ·exact h.inn k w
  ·rw[E9] at w;rw[w];exact hz
 ·rw[Ed,F2];exact ⟨h.nd,by simp,fun a ha b hb=>by
   simp at hb;rw[hb];intro e;exact nz (e▸ha)⟩
 ·rcases EK.mp hk with w|w
  ·exact h.am k w
  ·rw[E9] at w;rw[w];exact ⟨p0,lo,b1,b2⟩
theorem wu.col {H:Hp} {ts:HP} {ks:HI} (h:wu H ts ks) {ys:List V} (hl:ys.length=(ts.map V.ref).length)
  (ht:∀(i:Nat) (x y:V),(ts.map V.ref)[i]?=some x->ys[i]?=some y->∃(r am:Addr) (k:HU),x= .ref r/\H r=some (.tup [.str k.1,.ref am])/\y= .str k.1):ys=(ks.map (·.1)).map V.str:=by
 have l:=h.len;rw[E3] at hl;refine FU fun i=>?_
 by_cases c:i<ts.length
 ·have ci:i<ks.length:=by lia
  have cy:i<ys.length:=by lia
  obtain ⟨r,am,k,e1,e2,e3⟩:=ht i (.ref ts[i]) ys[i] (by rw[EA,E1 c];rfl) (E1 cy)
  cases e1;obtain ⟨am',f1,_⟩:=h.each i ts[i] ks[i] (E1 c) (E1 ci);rw[f1] at e2;injection e2 with e2
  injection e2 with e2
  injection e2 with e2 _
  rw[E1 cy,e3,EA,EA,E1 ci,<-e2]
  rfl
 ·rw[Ew (by lia),Ew (by simp;lia)]
theorem BJ {x:Str} {gs:HN} {A B:Prop} (h1:x∉gs->A) (h2:x∈gs->B):if (if true=true then !y9 (.str x) (gs.map V.str) else y9 (.str x) (gs.map V.str))=true then A else B:=by
 rw[if_pos rfl,rR]
 by_cases h:x∈gs
 ·rw[decide_eq_true h];exact h2 h
 ·rw[decide_eq_false h];exact h1 h
theorem sw {p q c:Int} (f:Fr p q (BG c) (yL c)):Bd 20 p/\Bd 10 q:=by
 have h0:=EB (c.fmod 1000003*48271) (show (0:Int)<999983 by decide)
 have h1:=EG (c.fmod 1000003*48271) (show (0:Int)<999983 by decide)
 have h2:=EB ((c.fmod 1000003*48271).fmod 999983*31) (show (0:Int)<997 by decide)
 have h3:=EG ((c.fmod 1000003*48271).fmod 999983*31) (show (0:Int)<997 by decide)
 have b1:=f.bt;have b2:=f.bb;unfold BG at b1;unfold yL at b2;unfold Bd;constructor
 ·show p.natAbs<1048576
  lia
 ·show q.natAbs<1024
  lia
end Sw
namespace L2
open PySem PySem.Spec PyProof.Rows XH Sw So
theorem z6 {P:Program} {w:World} {H:Hp} {h:Heap} {a:Addr} {o:HO} (x:a7 P w H h a o):∃ob,h.get? a=some ob:=by
 cases o with
 |lst xs=>obtain ⟨_,_,_,_,e⟩:=x;exact ⟨_,e⟩
 |tup xs=>obtain ⟨_,_,_,⟨o,e,_⟩⟩:=x;exact ⟨_,e⟩
 |dK kvs=>obtain ⟨_,_,_,_,o,_,_,e,_⟩:=x;exact ⟨_,e⟩
 |dT kvs=>obtain ⟨_,_,_,_,o,_,_,e,_⟩:=x;exact ⟨_,e⟩
 |set S n=>obtain ⟨o,_,_,_,e,_⟩:=x;exact ⟨_,e⟩
 |ins C dx fs=>obtain ⟨_,_,_,e,_⟩:=x;exact ⟨_,e⟩
 |own y=>exact x
 |xd fs=>obtain ⟨_,⟨_,_,_,e,_⟩,_⟩:=x;exact ⟨_,e⟩
 |rng lo hi=>obtain ⟨_,_,_,e⟩:=x;exact ⟨_,e⟩
 |frz ob u=>obtain ⟨e,_⟩:=x;exact ⟨_,e⟩
 |tbl ps=>exact ⟨_,x⟩
 |met f y=>exact ⟨_,x⟩
 |ext φ=>exact x.2.1
theorem aE.laidN {X:Cx} {pins:HL} {σ:List (Option V)} {H H':Hp} {s:Shared} {h':Heap} {t':Nat} (I:aE X pins σ H s) (k:∀b u,s.heap.get? b=some u->h'.get? b=some u) (g:∀b o,H b=some o->H' b=some o)
  (new:∀b o,H b=none->H' b=some o->s.heap.get? b=none/\a7 X.prog X.w H' h' b o):aE X pins σ H' {s with heap:=h',toks:=t'}:=by
 refine I.un ⟨fun b u q _ _ _=>k b u q,fun b u q _ _ _=>⟨u.slots,k b u q⟩,fun b u q n _=>?_,fun b u q _=>⟨u,k b u q⟩,fun b xs q=>g b _ q,fun b u xs q=>g b _ q,fun b ps q=>⟨#[],by rw[g b _ q];simp⟩⟩ fun b u e=>?_
 ·cases e:H' b with
  |none=>rfl
  |some o=>
   rw[(new b o n e).1] at q;cases q
 ·cases e2:H b with
  |none=>exact (new b u e2 e).2
  |some u'=>
   rw[g b u' e2] at e;cases e;exact (I.hok b _ e2).stay (fun c v _ q=>k c v q) (fun c q=>g c _ q) fun c xs q=>g c _ q
def itR (r:Str×Addr):Key×V:=(.inr r.1,.ref r.2)
theorem kG {X:Cx} (hc:X.calm=true):cE X (.builtin "sorted") (fun xs H Q=>∃(v d:Addr) (rows:List (Str×Addr)),xs= [.ref v]/\H v=some (.ext fun h=>h.IsItemsView v d)/\H d=some (.dK (rows.map itR))/\(rows.map (·.1)).Nodup/\rows.length<64/\
  ∀(p:Addr) (ys:List (Str×Addr)) (as:HP) (H':Hp),(∀b o,H b=some o->H' b=some o)->H p=none->H' p=some (.lst (as.map V.ref))->ys.Perm rows->sortedS (ys.map (·.1))=true->as.length=ys.length->
   (∀(i:Nat) (a:Addr) (y:Str×Addr),as[i]?=some a->ys[i]?=some y->H' a=some (.tup [.str y.1,.ref y.2]))->Q (.ref p) H'):=by
 intro pins s σ H xs us Q I r h;obtain ⟨v,d,rows,rfl,hv,hd,nd,h64,q⟩:=h;obtain ⟨u,rfl,ru⟩:=vals1 r;cases ru;obtain ⟨z,hS,ws,rel,D⟩:=iC I.hok hd;obtain ⟨ep,hat⟩:=D.dictAt;obtain ⟨view,_⟩:=(show a7 X.prog X.w H s.heap v (.ext fun h=>h.IsItemsView v d) from I.hok v _ hv)
 have lw:ws.length=rows.length:=by rw[<-rel.length,E3]
 have zs:(100:Nat)<=sizeLine:=by decide
 refine Calls.call_function_entry kind_sorted plain_sorted entry_sorted (args_sorted1 _) ?_;unfold Builtin.«sorted»;refine wpAny_bind (m:=checkCount "sorted" 1 1 _) (wpAny_pure ?_);refine wpAny_bind (PySem.W.kdx_collect (A:=X.A.in1) (I.ok.hd hc) view hat (by lia) fun h' tk as hkp al hG=>?_)
 have z':as.length<=sizeLine:=by lia
 have hgn:s.heap.get? h'.objs.size=none:=by
  cases e:s.heap.get? h'.objs.size with
  |none=>rfl
  |some o=>exact absurd (Heap.lt_size (hkp _ _ e)) (FS _)
 refine wpAny_bind (wpAny_newList ?_ (by simpa using z'))
 have hoL:(h'.push (seqObj "list" (as.map Value.ref).toArray 0)).get? h'.objs.size=some (seqObj "list" (as.map Value.ref).toArray 0):=Heap.get?_push_size _ rfl;have nda:as.Nodup:=hG.rise.imp fun h=>EE h
 have inx:∀{i j:Nat} {a:Addr},as[i]?=some a->as[j]?=some a->i=j:=fun {i j a} h1 h2=>(List.getElem?_inj (E2.mp h1).1 nda).mp (h1.trans h2.symm)
 let g:Addr->Str×Addr:=fun a=> @Classical.epsilon (Str×Addr) ⟨("",0)⟩ (fun y=>∃j:Nat,as[j]?=some a/\rows[j]?=some y)
 have gat:∀{j:Nat} {a:Addr} {y:Str×Addr},as[j]?=some a->rows[j]?=some y->g a=y:=fun {j a y} h1 h2=>by
  have hx:∃y:Str×Addr,∃j:Nat,as[j]?=some a/\rows[j]?=some y:=⟨y,j,h1,h2⟩;obtain ⟨j',e1,e2⟩:=Classical.epsilon_spec hx;have e2:rows[j']?=some (g a):=e2;have:=inx e1 h1;subst this;rw[h2] at e2;exact (ET e2).symm
 have em:as.map g=rows:=by
  refine FU fun i=>?_
  rw[EA]
  by_cases c:i<as.length
  ·have cr:i<rows.length:=by lia
   rw[E1 c,E1 cr];exact congrArg some (gat (E1 c) (E1 cr))
  ·rw[Ew (by lia),Ew (by lia)]
   rfl
 have emf:as.map (fun a=>(g a).1)=rows.map (·.1):=by rw[<-em,Eh];rfl
 have injf:∀a∈as,∀b∈as,(g a).1=(g b).1->a=b:=fun a ha b hb e=>by
  obtain ⟨i,hi⟩:=EH.mp ha;obtain ⟨j,hj⟩:=EH.mp hb;have il:=(E2.mp hi).1;have e1:(as.map fun a=>(g a).1)[i]?=some (g a).1:=by rw[EA,hi];rfl
  have e2:(as.map fun a=>(g a).1)[j]?=some (g a).1:=by rw[EA,hj,e];rfl
  rw[emf] at e1 e2;have ij:=(List.getElem?_inj (by rw[E3];lia) nd).mp (e1.trans e2.symm)
  rw[ij,hj] at hi;exact (ET hi).symm
 have ndv:(as.map Value.ref).Nodup:=List.pairwise_map.mpr (nda.imp fun h e=>h (by injection e))
 have tupH:∀a∈as,∃t,h'.get? a=some {cls:= .type "tuple",data:= .seq #[.str (g a).1 t,.ref (g a).2]}:=fun a ha=>by
  obtain ⟨j,hj⟩:=EH.mp ha;obtain ⟨key,k,x,e1,e2,e3⟩:=hG.pairs j a hj;obtain ⟨⟨k',v'⟩,e4,e5,e6⟩:=jc rel e1;rw[EA] at e4;cases hr:rows[j]? with
  |none=>rw[hr] at e4;cases e4
  |some y=>
   rw[hr] at e4;cases e4;rw[gat hj hr];cases e6;cases e5;obtain ⟨t,ht⟩:=rN e2;exact ⟨t,by rw[e3,ht]⟩
 let nm:Addr->Option Str:=fun a=>if a∈as then some (g a).1 else none
 have nm_of:∀{a:Addr} {y:Str},nm a=some y->a∈as/\(g a).1=y:=fun {a y} e=>by
  by_cases m:a∈as
  ·have e':(if a∈as then some (g a).1 else none)=some y:=e
   rw[if_pos m] at e';exact ⟨m,ET e'⟩
  ·have e':(if a∈as then some (g a).1 else none)=some y:=e
   rw[if_neg m] at e';cases e'
 have nm_in:∀{a:Addr},a∈as->nm a=some (g a).1:=fun {a} m=>by
  show (if a∈as then some (g a).1 else none)=_
  rw[if_pos m]
 have inj:∀a b y,nm a=some y->nm b=some y->a=b:=fun a b y h1 h2=>injf a (nm_of h1).1 b (nm_of h2).1 ((nm_of h1).2.trans (nm_of h2).2.symm)
 have tup:∀x y,nm x=some y->∃m,T2 (h'.push (seqObj "list" (as.map Value.ref).toArray 0)) x y m:=fun x y hx=>by
  obtain ⟨t,e⟩:=tupH x (nm_of hx).1;rw[(nm_of hx).2] at e;exact ⟨_,_,0,t,Heap.get?_push_of_some _ e,rfl,rfl⟩
 refine wpAny_bind (wpAny_holding (wpAny_call_entry slot_list_sort ⟨_,hoL,rfl⟩ entry_list_sort (vS (nm:=nm) hoL inj (fun v hv=>?_) tup ndv (by simpa using z') (by rw[E3];lia) fun st' hp hs=>⟨_,rfl,?_⟩) (args_list_sort _)))
 ·obtain ⟨a,ha,rfl⟩:=EF.mp hv;exact ⟨a,(g a).1,rfl,nm_in ha⟩
 have ez:(pairsOf (as.map Value.ref)).toList=as.map (fun a=>((.ref a:Value),(.ref a:Value))):=by
  rw[pairsOf_toList];exact oW Value.ref as
 rw[ez] at hp;obtain ⟨bs,hb,eb⟩:=tR (k:=fun p:Keyed=>match p.1 with| .ref a=>a|_=>0) (fun a=>rfl) hp
 have so:sortedS (bs.map fun a=>(g a).1)=true:=by
  refine sortedS_of_pairwise _ (List.pairwise_map.mpr ?_);rw[eb,List.pairwise_map] at hs;refine List.Pairwise.imp_of_mem (fun {a b} ha hb' hab=>?_) hs
  have ma:=hb.mem_iff.mp ha;have mb:=hb.mem_iff.mp hb';have k1:kk (cB nm) ((.ref a:Value),(.ref a:Value))=(g a).1.cps.toList:=by
   show (((nm a).map fun y=>y.cps.toList).getD _)=_
   rw[nm_in ma]
   rfl
  have k2:kk (cB nm) ((.ref b:Value),(.ref b:Value))=(g b).1.cps.toList:=by
   show (((nm b).map fun y=>y.cps.toList).getD _)=_
   rw[nm_in mb]
   rfl
  have hab':(cB nm).blt (kk (cB nm) ((.ref b:Value),(.ref b:Value))) (kk (cB nm) ((.ref a:Value),(.ref a:Value)))=false:=hab;rw[k1,k2] at hab';rw[ltCps_eq];exact hab'
 have eo:((arrOf st').map (·.2))=(bs.map Value.ref).toArray:=by
  apply Array.toList_inj.mp;rw[Array.toList_map,eb,Eh];simp
 have pas:h'.objs.size∉as:=fun w=>by
  obtain ⟨t,e⟩:=tupH _ w;exact absurd (Heap.lt_size e) (FS _)
 let H':Hp:=fun b=>if b=h'.objs.size then some (.lst (bs.map V.ref)) else if b∈as then some (.tup [.str (g b).1,.ref (g b).2]) else H b
 have hpl:H' h'.objs.size=some (.lst (bs.map V.ref)):=if_pos rfl;have hta:∀a∈as,H' a=some (.tup [.str (g a).1,.ref (g a).2]):=fun a ha=>by
  show (if a=h'.objs.size then _ else if a∈as then _ else _)=_
  rw[if_neg (fun w:a=h'.objs.size=>pas (w▸ha)),if_pos ha]
 have hold:∀b,b≠h'.objs.size->b∉as->H' b=H b:=fun b h1 h2=>by
  show (if b=h'.objs.size then _ else if b∈as then _ else _)=_
  rw[if_neg h1,if_neg h2]
 have fr:∀{b:Addr},s.heap.objs.size<=b->H b=none:=fun h=>I.hok.fresh h
 have frp:H h'.objs.size=none:=by
  cases e:H h'.objs.size with
  |none=>rfl
  |some o=>
   obtain ⟨x,hx⟩:=z6 (I.hok _ _ e);rw[hgn] at hx;cases hx
 have gS:∀b o,H b=some o->H' b=some o:=fun b o e=>by
  rw[hold b (fun w:b=h'.objs.size=>by rw[w,frp] at e;cases e) (fun w=>by rw[fr (Nat.le_of_lt (hG.above b w))] at e;cases e)]
  exact e
 refine wpAny_pure ⟨_,rfl,.ref h'.objs.size,H',I.laidN (h':=sortedHeap (h'.push (seqObj "list" (as.map Value.ref).toArray 0)) h'.objs.size (as.map Value.ref) ((arrOf st').map (·.2))) (t':=tk) (fun b o eo=>?_) gS (fun b o n e=>?_),rfl,q _ (bs.map g) bs H' gS (frp) hpl (em▸hb.map g) (by rw[Eh];exact so) (by rw[E3]) (fun i a y h1 h2=>?_)⟩
 ·have eo':=hkp b o eo;have bl:=Heap.lt_size eo';rw[sortedHeap_old (EE bl) (by rw[size_push'];exact F3 bl)]
  exact Heap.get?_push_of_some _ eo'
 ·by_cases c:b=h'.objs.size
  ·subst c;rw[hpl] at e;cases e;refine ⟨hgn,?_⟩;obtain ⟨e,he⟩:=sortedHeap_at (out:=(arrOf st').map (·.2)) hoL;refine ⟨by rw[E3,hb.length_eq];exact z',bs.map Value.ref,e,me bs,?_⟩
   rw[<-eo];exact he
  ·by_cases c2:b∈as
   ·rw[hta b c2] at e;cases e;refine ⟨Heap.get?_none_of_le (Nat.le_of_lt (hG.above b c2)),by show 2<=sizeLine;decide,?_⟩
    obtain ⟨t,et⟩:=tupH b c2;have bl:=Heap.lt_size et;refine ⟨[.str (g b).1 t,.ref (g b).2],.cons ⟨t,rfl⟩ (.cons rfl .nil),⟨{cls:= .type "tuple",data:= .seq #[.str (g b).1 t,.ref (g b).2]},?_,rfl,0,rfl⟩⟩;rw[sortedHeap_old (EE bl) (by rw[size_push'];exact F3 bl)]
    exact Heap.get?_push_of_some _ et
   ·rw[hold b c c2,n] at e;cases e
 ·rw[EA,h1] at h2;cases h2;exact hta a (hb.mem_iff.mp (E6 h1))
end L2
namespace Sw
open PySem L2 XH PyProof.Rows Wo Hm So
noncomputable def yb (a b:Int):Int×Int:= @Classical.epsilon (Int×Int) ⟨(0,1)⟩ (fun r=>Fr r.1 r.2 a b)
theorem yc {p q a b p' q' a' b':Int} (f:Fr p q a b) (f':Fr p' q' a' b') (b0:b≠0) (b0':b'≠0) (e:a*b'=a'*b):p=p'/\q=q':=by
 refine fz f.to f'.to (gP (k:=b*b') ?_ (Int.mul_ne_zero b0 b0'));have e1:=f.same;have e2:=f'.same;have h1:p*q'*(b*b')=(p*b)*(q'*b'):=by grind
 have h2:p'*q*(b*b')=(p'*b')*(q*b):=by grind
 rw[h1,h2,e1,e2];have h3:a*q*(q'*b')=(a*b')*(q*q'):=by grind
 have h4:a'*q'*(q*b)=(a'*b)*(q*q'):=by grind
 rw[h3,h4,e]
theorem z7 {p q a b:Int} (b0:b≠0) (f:Fr p q a b):yb a b=(p,q):=by
 have h:Fr (yb a b).1 (yb a b).2 a b:= @Classical.epsilon_spec (Int×Int) (fun r:Int×Int=>Fr r.1 r.2 a b) ⟨(p,q),f⟩
 obtain ⟨e1,e2⟩:=yc h f b0 b0 rfl;exact Prod.ext e1 e2
theorem pD {es:HH} {ps:HK} {bs:HN} {z:Str} {c c':HN} (h:fM es ps bs z c) (h':fM es ps bs z c'):c=c':=jx (h'.2.2 c h.1 h.2.1) (h.2.2 c' h'.1 h'.2.1)
theorem qU {es:HH} {vw:HE} (t:Tw es vw) {c:HN} (h:∀(j:Nat) (x y:Str),c[j]?=some x->c[j+1]?=some y->pS es x y):∀n,n<c.length->0<(eh vw c n).1/\0<(eh vw c n).2/\Bd (20*n+1) (eh vw c n).1/\Bd (10*n+1) (eh vw c n).2
 |0,_=>⟨(by decide:(0:Int)<1),(by decide:(0:Int)<1),Bd.one,Bd.one⟩
 |n+1,hn=>by
  obtain ⟨i1,i2,i3,i4⟩:=qU t h n (by lia)
  have e1:c[n]?=some (c.getD n ""):=by rw[Ee,E1 (by lia)];rfl
  have e2:c[n+1]?=some (c.getD (n+1) ""):=by rw[Ee,E1 hn];rfl
  obtain ⟨j1,j2,j3,j4⟩:=t _ _ (h n _ _ e1 e2);unfold eh;exact ⟨F6 i1 j1,F6 i2 j2,(i3.mul j3).mono (by lia),(i4.mul j4).mono (by lia)⟩
theorem yN {es:HH} {ps:HK} {bs nm:HN} {vw:HE} {z:Str} {c:HN} {p q:Int} (t:Tw es vw) (inn:∀a b t,(a,b,t)∈es->a∈nm/\b∈nm/\a≠b) (n12:nm.length<=12) (d:fM es ps bs z c) (r:kY vw c p q):0<p/\nS p q/\Bd 241 p/\Bd 121 q:=by
 have cl:=d.len (U:=nm) (fun a b ⟨t,h⟩=>(inn a b t h).2.1)
 obtain ⟨ne,e,g,q0⟩:=r;have c0:0<c.length:=FN.mpr ne;obtain ⟨t0,b0,bt,bb⟩:=qU t d.1.link.2 (c.length-1) (by lia)
 generalize (eh vw c (c.length-1)).1=T at*;generalize (eh vw c (c.length-1)).2=B at*;have pos:0<p:=by
  have:0<p*B:=by rw[e];exact F6 t0 q0
  exact Int.pos_of_mul_pos_left this b0
 have d1:q∣B:=dB g (by rw[e];exact Int.dvd_mul_left ..)
 have g':bW q p=1:=by unfold bW at g⊢;rw[Int.gcd_comm];exact g
 have d2:p∣T:=dB g' (by rw[Int.mul_comm q T,<-e];exact Int.dvd_mul_right ..)
 have l1:=Int.le_of_dvd b0 d1;have l2:=Int.le_of_dvd t0 d2;exact ⟨pos,⟨q0,g⟩,(bt.of_le (by lia)).mono (by lia),(bb.of_le (by lia)).mono (by lia)⟩
theorem pE {es:HH} {ps:HK} {bs:HN} {vw:HE} {z:Str} {c:HN} {p q p' q':Int} (t:Tw es vw) (d:fM es ps bs z c) (r:kY vw c p q) (r':kY vw c p' q'):p=p'/\q=q':=by
 obtain ⟨ne,e,g,q0⟩:=r;obtain ⟨_,e',g',q0'⟩:=r';have c0:0<c.length:=FN.mpr ne;obtain ⟨_,b0,_,_⟩:=qU t d.1.link.2 (c.length-1) (by lia)
 refine fz ⟨q0,g⟩ ⟨q0',g'⟩ (gP (k:=(eh vw c (c.length-1)).2) ?_ (by lia))
 have h1:p*q'*(eh vw c (c.length-1)).2=(p*(eh vw c (c.length-1)).2)*q':=by grind
 have h2:p'*q*(eh vw c (c.length-1)).2=(p'*(eh vw c (c.length-1)).2)*q:=by grind
 rw[h1,h2,e,e']
 grind
noncomputable def ie (es:HH) (ps:HK) (bs:HN) (vw:HE) (z:Str):fN:= @Classical.epsilon fN ⟨([],0,1)⟩ (fun r=>fM es ps bs z r.1/\kY vw r.1 r.2.1 r.2.2)
theorem v7 {es:HH} {ps:HK} {bs:HN} {vw:HE} {z:Str} {c:HN} {p q:Int} (t:Tw es vw) (d:fM es ps bs z c) (r:kY vw c p q):ie es ps bs vw z=(c,p,q):=by
 obtain ⟨d',r'⟩:= @Classical.epsilon_spec fN (fun r=>fM es ps bs z r.1/\kY vw r.1 r.2.1 r.2.2) ⟨(c,p,q),d,r⟩
 have e1:(ie es ps bs vw z).1=c:=pD d' d;have r2:kY vw (ie es ps bs vw z).1 (ie es ps bs vw z).2.1 (ie es ps bs vw z).2.2:=r';rw[e1] at r2;obtain ⟨e2,e3⟩:=pE t d r2 r;exact Prod.ext e1 (Prod.ext e2 e3)
abbrev ip:=Str->Option (Int×Int)
def gZ (g:ip) (y:Str):Int×Int:=(g y).getD (0,1)
noncomputable def yd (g:ip) (y:Str) (T B:Int):ip:=fun x=>if x=y then some (yb ((gZ g y).1*B+T*(gZ g y).2) ((gZ g y).2*B)) else g x
def kH (g:ip) (y:Str) (v:Int×Int):ip:=fun x=>if x=y then some v else g x
structure iq where
 t:Addr
 r:Addr
 pl:Int
 ks:HI
 n:Int
noncomputable def pG (W:Str->fN) (pl n:Int) (g:ip) (k:HU):ip:=yd g (aI (W k.1).1) (k.2.1*n*(W k.1).2.1) (k.2.2*pl*(W k.1).2.2)
noncomputable def sx (W:Str->fN) (g:ip) (d:iq):ip:=d.ks.foldl (pG W d.pl d.n) g
noncomputable def sumF (W:Str->fN) (ds:List iq):ip:=ds.foldl (sx W) (fun _=>none)
structure nL (m:Nat) (g:ip):Prop where
 at_:∀x p q,g x=some (p,q)->nS p q/\Bd (400*m+1) p/\Bd (228*m+1) q
theorem nL.nil:nL 0 (fun _=>none):=⟨fun _ _ _ h=>nomatch h⟩
theorem nL.mono {m n:Nat} {g:ip} (h:nL m g) (l:m<=n):nL n g:=⟨fun x p q e=>⟨(h.at_ x p q e).1,(h.at_ x p q e).2.1.mono (by lia),(h.at_ x p q e).2.2.mono (by lia)⟩⟩
theorem nL.z {m:Nat} {g:ip} (h:nL m g) (y:Str):0<(gZ g y).2/\Bd (400*m+1) (gZ g y).1/\Bd (228*m+1) (gZ g y).2:=by
 unfold gZ;cases e:g y with
 |none=>exact ⟨by decide,Bd.zero.mono (by lia),Bd.one.mono (by lia)⟩
 |some v=>
  obtain ⟨p,q⟩:=v;obtain ⟨l,b1,b2⟩:=h.at_ y p q e;exact ⟨l.pos,b1,b2⟩
theorem sA {m:Nat} {g:ip} (h:nL m g) {y:Str} {T B p q:Int} (B0:0<B) (f:Fr p q ((gZ g y).1*B+T*(gZ g y).2) ((gZ g y).2*B)):yd g y T B=kH g y (p,q):=by
 have b0:=(h.z y).1;unfold yd kH;rw[z7 (Int.ne_of_gt (F6 b0 B0)) f]
theorem nL.set {m:Nat} {g:ip} (h:nL m g) {y:Str} {T B p q:Int} (B0:0<B) (bt:Bd 301 T) (bb:Bd 228 B) (f:Fr p q ((gZ g y).1*B+T*(gZ g y).2) ((gZ g y).2*B)):nL (m+1) (kH g y (p,q)):=⟨fun x r s e=>by
 obtain ⟨b0,b1,b2⟩:=h.z y;unfold kH at e
 by_cases c:x=y
 ·rw[if_pos c] at e;cases e;refine ⟨f.to,?_,?_⟩
  ·have k1:=(b1.mul bb).mono (n:=400*m+399) (by lia)
   have k2:=(bt.mul b2).mono (n:=400*m+399) (by lia)
   exact ((k1.add k2).of_le f.bt).mono (by lia)
  ·exact ((b2.mul bb).of_le f.bb).mono (by lia)
 ·rw[if_neg c] at e;obtain ⟨l,b1,b2⟩:=h.at_ x r s e;exact ⟨l,b1.mono (by lia),b2.mono (by lia)⟩⟩
structure jJ (H:Hp) (d:Addr) (rows:List (Str×Addr)) (g:ip):Prop where
 at_:H d=some (.dK (cV rows))
 nd:(rows.map (·.1)).Nodup
 val:∀x t,(x,t)∈rows->∃p q,g x=some (p,q)/\H t=some (.tup [.int p,.int q])
 dom:∀x v,g x=some v->∃t,(x,t)∈rows
theorem jJ.same {H H':Hp} {d:Addr} {rows:List (Str×Addr)} {g:ip} (h:jJ H d rows g) (s:ax H H'):jJ H' d rows g:=⟨s _ _ h.at_,h.nd,fun x t m=>(let ⟨p,q,e1,e2⟩:=h.val x t m;⟨p,q,e1,s _ _ e2⟩),h.dom⟩
theorem jJ.nil {H:Hp} {d:Addr} (e:H d=some (.dK [])):jJ H d [] (fun _=>none):=⟨e,FO,fun _ _ m=>(nomatch m),fun _ _ e=>(nomatch e)⟩
theorem jJ.have {H:Hp} {d tz:Addr} {rows:List (Str×Addr)} {g:ip} (h:jJ H d rows g) (y:Str) (ez:H tz=some (.tup [.int 0,.int 1])):∃th,(aP (cV rows) (.inr y)).getD (.ref tz)= .ref th/\H th=some (.tup [.int (gZ g y).1,.int (gZ g y).2]):=by
 unfold gZ;cases e:g y with
 |none=>
  refine ⟨tz,?_,ez⟩;cases e2:aP (cV rows) (.inr y) with
  |none=>rfl
  |some v=>
   obtain ⟨a,_,m⟩:=vY (H:=H) e2;obtain ⟨p,q,e3,_⟩:=h.val y a m;rw[e] at e3;cases e3
 |some v=>
  obtain ⟨t,m⟩:=h.dom y v e;obtain ⟨p,q,e3,e4⟩:=h.val y t m;rw[e] at e3;cases e3;exact ⟨t,by rw[gi h.nd m];rfl,e4⟩
theorem jJ.put {H:Hp} {d t:Addr} {rows:List (Str×Addr)} {g:ip} (h:jJ H d rows g) {y:Str} {p q:Int} (et:H t=some (.tup [.int p,.int q])):jJ (ay H d (.dK (putK (cV rows) (.inr y) (.ref t)))) d (fJ rows y t) (kH g y (p,q)):=by
 obtain ⟨p1,p2,p3⟩:=fK rows y t h.nd;have tp:∀a xs,H a=some (.tup xs)->ay H d (.dK (putK (cV rows) (.inr y) (.ref t))) a=some (.tup xs):=fun a xs e=>by
  rw[ag (fun w=>by rw[w,h.at_] at e;cases e)]
  exact e
 refine ⟨by rw[ac,oZ],p1,fun x s m=>?_,fun x v e=>?_⟩
 ·have m':=(p3 x s).mp m;unfold kH
  by_cases c:x=y
  ·rw[if_pos c] at m'⊢;rw[m'];exact ⟨p,q,rfl,tp _ _ et⟩
  ·rw[if_neg c] at m'⊢;obtain ⟨p',q',e1,e2⟩:=h.val x s m';exact ⟨p',q',e1,tp _ _ e2⟩
 ·unfold kH at e
  by_cases c:x=y
  ·exact ⟨t,(p3 x t).mpr (by rw[if_pos c])⟩
  ·rw[if_neg c] at e;obtain ⟨s,m⟩:=h.dom x v e;exact ⟨s,(p3 x s).mpr (by rw[if_neg c];exact m)⟩
theorem kI (rows:List (Str×Addr)) (y:Str) (t:Addr) (nd:(rows.map (·.1)).Nodup):(fJ rows y t).length<=rows.length+1:=(fK rows y t nd).2.1
structure kJ (H:Hp) (l:Addr) (g:ip):Prop where
 ex:∃(as:HP) (ys:HI),H l=some (.lst (as.map V.ref))/\as.length=ys.length/\ys.length<=64/\sortedS (ys.map (·.1))=true/\(ys.map (·.1)).Nodup/\(∀x v,(x,v)∈ys↔g x=some v)/\
  ∀(i:Nat) (a:Addr) (y:HU),as[i]?=some a->ys[i]?=some y->∃t,H a=some (.tup [.str y.1,.ref t])/\H t=some (.tup [.int y.2.1,.int y.2.2])
theorem v8 {g:ip} {ys zs:HI} (s1:sortedS (ys.map (·.1))=true) (s2:sortedS (zs.map (·.1))=true) (n1:(ys.map (·.1)).Nodup) (n2:(zs.map (·.1)).Nodup) (h1:∀x v,(x,v)∈ys↔g x=some v) (h2:∀x v,(x,v)∈zs↔g x=some v):ys=zs:=by
 have key:∀{l:HI},(∀x v,(x,v)∈l↔g x=some v)->∀y,y∈l.map (·.1)↔∃v,g y=some v:=fun {l} h y=>by
  rw[EF];constructor
  ·rintro ⟨⟨x,v⟩,m,rfl⟩;exact ⟨v,(h x v).mp m⟩
  ·rintro ⟨v,e⟩;exact ⟨(y,v),(h y v).mpr e,rfl⟩
 have em:ys.map (·.1)=zs.map (·.1):=oV s1 s2 ((List.perm_ext_iff_of_nodup n1 n2).mpr fun y=>(key h1 y).trans (key h2 y).symm)
 refine FU fun i=>?_
 have ei:=congrArg (fun l:HN=>l[i]?) em
 simp only[EA] at ei;cases e1:ys[i]? with
 |none=>
  rw[e1] at ei;cases e2:zs[i]? with
  |none=>rfl
  |some z=>rw[e2] at ei;cases ei
 |some y=>
  rw[e1] at ei;cases e2:zs[i]? with
  |none=>rw[e2] at ei;cases ei
  |some z=>
   rw[e2] at ei;obtain ⟨y1,y2⟩:=y;obtain ⟨z1,z2⟩:=z;have ee:y1=z1:=ET ei;subst ee;have v1:=(h1 y1 y2).mp (E6 e1);have v2:=(h2 y1 z2).mp (E6 e2);rw[v1] at v2;rw[ET v2]
structure eB (C:Addr) (H:Hp) (ld:Addr) (nm:HN) (ds:List iq):Prop where
 at_:H ld=some (.lst (ds.map fun d=>V.ref d.t))
 each:∀d∈ds,H d.t=some (.tup [.ref d.r,.int d.n])/\pT C H d.r d.pl d.ks/\jj nm d.ks/\1<=d.pl/\d.pl<=1000/\1<=d.n/\d.n<=1000
 few:ds.length<=6
theorem eB.same {C:Addr} {H H':Hp} {ld:Addr} {nm:HN} {ds:List iq} (h:eB C H ld nm ds) (g:ax H H'):eB C H' ld nm ds:=⟨g _ _ h.at_,fun d hd=>by
 obtain ⟨e1,e2,e3⟩:=h.each d hd;exact ⟨g _ _ e1,e2.kd (KD.of g),e3⟩,h.few⟩
structure DR (K:D9) (m n:Nat) (H:Hp) (t:Addr) (p q:Int):Prop where
 at_:bS K H t [.int p,.int q]
 pos:0<q
 bp:Bd m p
 bq:Bd n q
def pH (K:D9):Sp:=fun vs H Q _=>∃(t t':Addr) (p q p' q':Int),vs= [.ref t,.ref t']/\DR K 13000 7000 H t p q/\DR K 400 400 H t' p' q'/\∀r s:Int,Fr r s (p*q'+p'*q) (q*q')->Pair H Q r s
def pI (CR:Addr):Sp:=fun vs H Q _=>∃(r:Addr) (n pl:Int) (ks:HI),vs= [.ref r,.int n]/\pT CR H r pl ks/\1<=pl/\pl<=1000/\∀p q:Int,Fr p q n pl->Pair H Q p q
section
variable (K:D9) (CR C cI:Addr)
def kK:Sp:=fun vs H Q E=>∃(ld x dp ds db:Addr) (nm:HN) (n:Nat) (F:HP) (rows:HJ) (m:Nat) (g:HD) (bs ns:HN) (ps:HK) (es:HH) (vw:HE) (dd:List iq),vs= [.ref ld,.ref x]/\eB CR H ld nm dd/\(∀z∈nm,Nm z)/\S7 K C H x dp ds db nm n F rows m g bs ns ps es vw/\n<=60/\Tw es vw/\
 (∀(l:Addr) (H':Hp),(∀d∈dd,∀k∈d.ks,hJ es ps bs k.1)->ax H H'->H l=none->kJ H' l (sumF (ie es ps bs vw) dd)->Q (.ref l) H')/\
 (∀(i j:Nat) (d:iq) (k:HU) (a:Addr) (H':Hp),dd[i]?=some d->d.ks[j]?=some k->(∀(i':Nat) (d':iq),i'<i->dd[i']?=some d'->∀k'∈d'.ks,hJ es ps bs k'.1)->(∀(j':Nat) (k':HU),j'<j->d.ks[j']?=some k'->hJ es ps bs k'.1)->¬hJ es ps bs k.1->ax H H'->H' a=some (.xd [("good",.str k.1)])->E (.ref cI) (some a) H')
end
theorem BK {p q:Int} (f:Fr p q 0 1):p=0/\q=1:=by
 have h1:=f.bt;have h2:=f.bb;have h3:=f.pos;simp at h1 h2
 lia
theorem wa {p q T B:Int} (lo:nS p q) (e:p*B=T*q) (B0:0<B):∃c:Int,0<c/\T=c*p/\B=c*q:=by
 obtain ⟨c,hc⟩:=dB (k:=B) lo.low (by rw[e];exact Int.dvd_mul_left ..)
 have q0:=lo.pos;have hB:B=c*q:=by rw[hc,Int.mul_comm]
 refine ⟨c,?_,?_,hB⟩
 ·have:0<c*q:=by rw[<-hB];exact B0
  exact Int.pos_of_mul_pos_left this q0
 ·refine gP (k:=q) ?_ (by lia)
  rw[<-e,hB]
  grind
theorem Fr.scale {r s a b c:Int} (f:Fr r s a b) (c0:0<c):Fr r s (c*a) (c*b):=by
 refine ⟨f.pos,f.low,?_,?_,?_⟩
 ·have:=f.same;have h1:r*(c*b)=c*(r*b):=by grind
  rw[h1,this]
  grind
 ·rw[Int.natAbs_mul];exact EX f.bt (Nat.le_mul_of_pos_left _ (by lia))
 ·rw[Int.natAbs_mul];exact EX f.bb (Nat.le_mul_of_pos_left _ (by lia))
theorem ye {k1 k2 n pl p q fp fq ap aq tp tq:Int} (f1:Fr fp fq n pl) (f2:Fr ap aq (k1*fp) (k2*fq)) (f3:Fr tp tq (ap*p) (aq*q)):tp*(k2*pl*q)=k1*n*p*tq:=by
 have e1:=f1.same;have e2:=f2.same;have e3:=f3.same;have q1:=f1.pos;have q2:=f2.pos;refine gP (k:=aq*fq) ?_ (by have:=F6 q2 q1;lia)
 have h1:tp*(k2*pl*q)*(aq*fq)=tp*(aq*q)*(k2*pl*fq):=by grind
 have h2:ap*p*tq*(k2*pl*fq)=ap*(k2*fq)*(p*tq*pl):=by grind
 have h3:k1*fp*aq*(p*tq*pl)=fp*pl*(k1*aq*p*tq):=by grind
 have h4:n*fq*(k1*aq*p*tq)=k1*n*p*tq*(aq*fq):=by grind
 rw[h1,e3,h2,e2,h3,e1,h4]
theorem wb {m:Nat} {g:ip} {y:Str} {k1 k2 n pl p q fp fq ap aq tp tq sp sq:Int} (gk:nL m g) (k20:0<k2) (pl0:0<pl) (q0:0<q) (f1:Fr fp fq n pl) (f2:Fr ap aq (k1*fp) (k2*fq)) (f3:Fr tp tq (ap*p) (aq*q)) (f4:Fr sp sq ((gZ g y).1*tq+tp*(gZ g y).2) ((gZ g y).2*tq))
  (bT:Bd 301 (k1*n*p)) (bB:Bd 228 (k2*pl*q)):yd g y (k1*n*p) (k2*pl*q)=kH g y (sp,sq)/\nL (m+1) (kH g y (sp,sq)):=by
 have B0:0<k2*pl*q:=F6 (F6 k20 pl0) q0;obtain ⟨c,c0,hT,hB⟩:=wa f3.to (ye f1 f2 f3) B0;have f5:=f4.scale c0;have e1:c*((gZ g y).1*tq+tp*(gZ g y).2)=(gZ g y).1*(k2*pl*q)+k1*n*p*(gZ g y).2:=by rw[hT,hB];grind
 have e2:c*((gZ g y).2*tq)=(gZ g y).2*(k2*pl*q):=by rw[hB];grind
 rw[e1,e2] at f5;exact ⟨sA gk B0 f5,gk.set B0 bT bB f5⟩
theorem mw {W:Str->fN} {dd:List iq} {i:Nat} {d:iq} (h:dd[i]?=some d):sumF W (dd.take (i+1))=sx W (sumF W (dd.take i)) d:=by
 unfold sumF;rw[List.take_add_one,h,Option.toList_some,List.foldl_append]
 rfl
noncomputable def ua (W:Str->fN) (d:iq) (g:ip) (j:Nat):ip:=(d.ks.take j).foldl (pG W d.pl d.n) g
theorem pJ {W:Str->fN} {d:iq} {g:ip} {j:Nat} {k:HU} (h:d.ks[j]?=some k):ua W d g (j+1)=pG W d.pl d.n (ua W d g j) k:=by
 unfold ua;rw[List.take_add_one,h,Option.toList_some,List.foldl_append]
 rfl
theorem sB {W:Str->fN} {d:iq} {g:ip} {j:Nat} (h:d.ks.length<=j):ua W d g j=sx W g d:=by
 unfold ua sx;rw[Ey h]
theorem yf {n:Int} (h1:1<=n) (h2:n<=1000):Bd 10 n:=by
 unfold Bd;show _<1024
 lia
theorem jJ.srt {H H':Hp} {d l:Addr} {rows:List (Str×Addr)} {g:ip} (h:jJ H d rows g) (s:ax H H') {ys:List (Str×Addr)} {as:HP} (el:H' l=some (.lst (as.map V.ref))) (py:ys.Perm rows) (sy:sortedS (ys.map (·.1))=true) (ly:as.length=ys.length)
  (each:∀(i:Nat) (a:Addr) (y:Str×Addr),as[i]?=some a->ys[i]?=some y->H' a=some (.tup [.str y.1,.ref y.2])) (few:rows.length<=64):kJ H' l g:=by
 let f:Str×Addr->HU:=fun y=>(y.1,(g y.1).getD (0,1))
 have ef:(ys.map f).map (·.1)=ys.map (·.1):=by rw[Eh];rfl
 refine ⟨as,ys.map f,el,by rw[E3,ly],by rw[E3,py.length_eq];exact few,by rw[ef];exact sy,by rw[ef];exact (py.map (·.1)).nodup_iff.mpr h.nd,fun x v=>⟨fun m=>?_,fun e=>?_⟩,fun i a y h1 h2=>?_⟩
 ·obtain ⟨y,hy,e⟩:=EF.mp m;cases e;obtain ⟨p,q,e1,_⟩:=h.val y.1 y.2 (py.mem_iff.mp hy);rw[e1]
  rfl
 ·obtain ⟨t,m⟩:=h.dom x v e;refine EF.mpr ⟨(x,t),py.mem_iff.mpr m,?_⟩;show (x,(g x).getD (0,1))=(x,v);rw[e]
  rfl
 ·rw[EA] at h2;cases hy:ys[i]? with
  |none=>rw[hy] at h2;cases h2
  |some y'=>
   rw[hy] at h2;cases h2;obtain ⟨p,q,e1,e2⟩:=h.val y'.1 y'.2 (py.mem_iff.mp (E6 hy));refine ⟨y'.2,each i a y' h1 hy,?_⟩;show H' y'.2=some (.tup [.int ((g y'.1).getD (0,1)).1,.int ((g y'.1).getD (0,1)).2]);rw[e1];exact s _ _ e2
structure Rc where
 r:Addr
 pl:Int
 ks:HI
structure ub (C:Addr) (H:Hp) (lr:Addr) (nm:HN) (rcs:List Rc):Prop where
 at_:H lr=some (.lst (rcs.map fun r=>V.ref r.r))
 each:∀r∈rcs,pT C H r.r r.pl r.ks/\jj nm r.ks/\1<=r.pl/\r.pl<=1000
 few:rcs.length<=4
theorem ub.kd {C:Addr} {H H':Hp} {lr:Addr} {nm:HN} {rcs:List Rc} (h:ub C H lr nm rcs) (k:KD H H'):ub C H' lr nm rcs:=⟨k _ _ (fun _ z=>by cases z) (fun _ z=>by cases z) h.at_,fun r hr=>⟨(h.each r hr).1.kd k,(h.each r hr).2⟩,h.few⟩
def pK (K:D9) (C:Addr):Sp:=fun vs H Q _=>∃(a lr:Addr) (ns0:List Int) (nm:HN) (rcs:List Rc),vs= [.ref a,.ref lr]/\aQ K H a (ns0.map V.int)/\ub C H lr nm rcs/\
 ∀(ld:Addr) (dd:List iq) (H':Hp),ax H H'->H ld=none->eB C H' ld nm dd->Q (.ref ld) H'
def pM (K:D9) (CR C:Addr):Sp:=fun vs H Q _=>∃(ld x dp ds db:Addr) (nv:V) (nm:HN) (n:Nat) (F:HP) (rows:HJ) (m:Nat) (g:HD) (bs ns:HN) (ps:HK) (es:HH) (vw:HE) (dd:List iq),vs= [.ref ld,.ref x,nv]/\eB CR H ld nm dd/\(∀z∈nm,Nm z)/\S7 K C H x dp ds db nm n F rows m g bs ns ps es vw/\n<=60/\Tw es vw/\
 (∀(l:Addr) (H':Hp),(∀d∈dd,∀k∈d.ks,hJ es ps bs k.1)->ax H H'->H l=none->kJ H' l (sumF (ie es ps bs vw) dd)->Q (.ref l) H')/\
 (∀(i j:Nat) (d:iq) (k:HU),dd[i]?=some d->d.ks[j]?=some k->(∀(i':Nat) (d':iq),i'<i->dd[i']?=some d'->∀k'∈d'.ks,hJ es ps bs k'.1)->(∀(j':Nat) (k':HU),j'<j->d.ks[j']?=some k'->hJ es ps bs k'.1)->¬hJ es ps bs k.1->nv= .str k.1/\∀(t:Addr) (H':Hp),ax H H'->H' t=some (.tup [.str "refused",.bl true])->Q (.ref t) H')
def DS (x y:V):Prop:=x=y/\((∃z:Str,x= .str z)∨∃i:Int,x= .int i)
def yg (H:Hp):Nat->V->V->Prop
 |0,x,y=>DS x y
 |n+1,x,y=>DS x y∨∃(a b:Addr) (xs ys:List V),x= .ref a/\y= .ref b/\((H a=some (.lst xs)/\H b=some (.lst ys))∨(H a=some (.tup xs)/\H b=some (.tup ys)))/\xs.length=ys.length/\xs.length<=1000/\∀(i:Nat) (u v:V),xs[i]?=some u->ys[i]?=some v->yg H n u v
def iS (n:Nat):Sp:=fun vs H Q _=>∃x y:V,vs= [x,y]/\yg H n x y/\Q (.bl true) H
theorem nM (H:Hp) (n:Nat) (z:Str):yg H n (.str z) (.str z):=by
 cases n with
 |zero=>exact ⟨rfl,.inl ⟨z,rfl⟩⟩
 |succ n=>exact .inl ⟨rfl,.inl ⟨z,rfl⟩⟩
theorem sC (H:Hp) (n:Nat) (z:Int):yg H n (.int z) (.int z):=by
 cases n with
 |zero=>exact ⟨rfl,.inr ⟨z,rfl⟩⟩
 |succ n=>exact .inl ⟨rfl,.inr ⟨z,rfl⟩⟩
theorem pN {H:Hp} {n:Nat} {a b:Addr} {p q:Int} (h1:H a=some (.tup [.int p,.int q])) (h2:H b=some (.tup [.int p,.int q])):yg H (n+1) (.ref a) (.ref b):= .inr ⟨a,b,_,_,rfl,rfl,.inr ⟨h1,h2⟩,rfl,(by show 2<=1000;decide),fun i u v e1 e2=>by
 rw[e1] at e2;cases e2
 match i,e1 with
 |0,e1=>cases e1;exact sC _ _ _
 |1,e1=>cases e1;exact sC _ _ _⟩
theorem wc {H:Hp} {n:Nat} {a b:Addr} {c:HN} (h1:H a=some (.lst (c.map V.str))) (h2:H b=some (.lst (c.map V.str))) (l:c.length<=1000):yg H (n+1) (.ref a) (.ref b):= .inr ⟨a,b,_,_,rfl,rfl,.inl ⟨h1,h2⟩,rfl,by rw[E3];exact l,fun i u v e1 e2=>by
 rw[e1] at e2;cases e2;rw[EA] at e1;cases e:c[i]? with
 |none=>rw[e] at e1;cases e1
 |some z=>
  rw[e] at e1;cases e1;exact nM _ _ _⟩
end Sw
namespace L2
open PySem
theorem sD {X:Cx} {r1 r2:R2} (h1:yz X r1) (h2:yz X r2):yz X (fun x y H Q=>r1 x y H Q∨r2 x y H Q):=by
 intro va sl pins s σ H x y v u Q I rx ry h;rcases h with h|h
 ·exact h1 va sl pins s σ H x y v u Q I rx ry h
 ·exact h2 va sl pins s σ H x y v u Q I rx ry h
end L2
namespace Sw
open PySem L2 XH PyProof.Rows Wo Hm So
section
variable (K:D9) (CR C:Addr)
def wd:Sp:=fun vs H Q _=>∃(x dp ds db:Addr) (z:Str) (nm:HN) (n:Nat) (F:HP) (rows:HJ) (m:Nat) (g:HD) (bs ns:HN) (ps:HK) (es:HH) (vw:HE),vs= [.ref x,.str z]/\Nm z/\S7 K C H x dp ds db nm n F rows m g bs ns ps es vw/\n<=60/\hJ es ps bs z/\
 ∀(t cl rl:Addr) (c:HN) (p q:Int) (H':Hp),ax H H'->H cl=none->fM es ps bs z c->kY vw c p q->H' t=some (.tup [.ref cl,.ref rl])->H' cl=some (.lst (c.map V.str))->H' rl=some (.tup [.int p,.int q])->Q (.ref t) H'
def jm:Sp:=fun vs H Q _=>∃(r x dp ds db:Addr) (pl:Int) (ks:HI) (nm:HN) (n:Nat) (F:HP) (rows:HJ) (m:Nat) (g:HD) (bs ns:HN) (ps:HK) (es:HH) (vw:HE),vs= [.ref r,.ref x]/\pT CR H r pl ks/\ks.length<=100/\(∀k∈ks,Nm k.1)/\S7 K C H x dp ds db nm n F rows m g bs ns ps es vw/\n<=60/\(∀k∈ks,hJ es ps bs k.1)/\
 (∀(l:Addr) (rs:List fN) (H':Hp),ax H H'->H l=none->rs.length=ks.length->uh H H' l ks rs (fun z c p q=>fM es ps bs z c/\kY vw c p q)->Q (.ref l) H')
def kN:Sp:=fun vs H Q _=>∃(ld x dp ds db:Addr) (nm:HN) (n:Nat) (F:HP) (rows:HJ) (m:Nat) (g:HD) (bs ns:HN) (ps:HK) (es:HH) (vw:HE) (dd:List iq),vs= [.ref ld,.ref x]/\eB CR H ld nm dd/\(∀z∈nm,Nm z)/\S7 K C H x dp ds db nm n F rows m g bs ns ps es vw/\n<=60/\Tw es vw/\(∀d∈dd,∀k∈d.ks,hJ es ps bs k.1)/\
 (∀(l:Addr) (H':Hp),ax H H'->H l=none->kJ H' l (sumF (ie es ps bs vw) dd)->Q (.ref l) H')
variable {K CR C} {cN cI:Addr}
theorem z8 (vs:List V) (H:Hp) (Q:VK) (E:XK) (h:wd K C vs H Q E):v5 K C cN cI vs H Q E0:=by
 obtain ⟨x,dp,ds,db,z,nm,n,F,rows,m,g,bs,ns,ps,es,vw,rfl,nz,s7,n60,fr,q⟩:=h;have cnt:=s7.cnt;have few:=s7.d7.few;refine ⟨x,.str z,F,rows,m,g,bs,ns,ps,vw,nm,kY vw,rfl,s7.lb,by lia,s7.ok,by lia,.inl ⟨z,rfl,nz⟩,s7.ra,s7.hU,by lia,fun y ey=>vQ _ _,fun c p q y t r s h1 h2 h3=>sg h1 h3,fun nn=>absurd ⟨z,rfl,nz⟩ nn,fun y ey _ cs hbf=>?_⟩
 cases ey;exact ⟨fun kk c pt cl rl p q' H2 g2 ncl hkk bl nb e1' e2' e3' hRt=>q pt cl rl c p q' H2 g2 ncl (v6 (fun a b=>s7.st a b) hbf hkk bl nb) hRt e1' e2' e3',fun all=>absurd fr (ss (fun a b=>s7.st a b) hbf all)⟩
theorem qV (vs:List V) (H:Hp) (Q:VK) (E:XK) (h:jm K CR C vs H Q E):gz K CR C cI vs H Q E0:=by
 obtain ⟨r,x,dp,ds,db,pl,ks,nm,n,F,rows,m,g,bs,ns,ps,es,vw,rfl,rc,k100,kn,s7,n60,fr,q⟩:=h;exact ⟨r,x,dp,ds,db,pl,ks,nm,n,F,rows,m,g,bs,ns,ps,es,vw,rfl,rc,k100,kn,s7,n60,q,fun i k d H' _ hk _ nf=>absurd (fr k (E6 hk)) nf⟩
theorem uc (vs:List V) (H:Hp) (Q:VK) (E:XK) (h:kN K CR C vs H Q E):kK K CR C cI vs H Q E0:=by
 obtain ⟨ld,x,dp,ds,db,nm,n,F,rows,m,g,bs,ns,ps,es,vw,dd,rfl,da,nz,s7,n60,tw,fr,q⟩:=h;exact ⟨ld,x,dp,ds,db,nm,n,F,rows,m,g,bs,ns,ps,es,vw,dd,rfl,da,nz,s7,n60,tw,fun l H' _=>q l H',fun i j d k a H' hd hk _ _ nf=>absurd (fr d (E6 hd) k (E6 hk)) nf⟩
end
theorem yh {H:Hp} {n:Nat} {t t' cl cl' rl rl':Addr} {z:Str} {c:HN} {p q:Int} (e:H t=some (.tup [.str z,.ref cl,.ref rl])) (e':H t'=some (.tup [.str z,.ref cl',.ref rl'])) (h1:H cl=some (.lst (c.map V.str))) (h1':H cl'=some (.lst (c.map V.str))) (h2:H rl=some (.tup [.int p,.int q])) (h2':H rl'=some (.tup [.int p,.int q])) (l:c.length<=1000):yg H (n+2) (.ref t) (.ref t'):=
 .inr ⟨t,t',_,_,rfl,rfl,.inr ⟨e,e'⟩,rfl,(by show 3<=1000;decide),fun i u v e1 e2=>by
  match i,e1,e2 with
  |0,e1,e2=>cases e1;cases e2;exact nM _ _ _
  |1,e1,e2=>cases e1;cases e2;exact wc h1 h1' l
  |2,e1,e2=>cases e1;cases e2;exact pN h2 h2'⟩
theorem we {H:Hp} {n:Nat} {t t' rl rl':Addr} {z:Str} {p q:Int} (e:H t=some (.tup [.str z,.ref rl])) (e':H t'=some (.tup [.str z,.ref rl'])) (h2:H rl=some (.tup [.int p,.int q])) (h2':H rl'=some (.tup [.int p,.int q])):yg H (n+2) (.ref t) (.ref t'):=
 .inr ⟨t,t',_,_,rfl,rfl,.inr ⟨e,e'⟩,rfl,(by show 2<=1000;decide),fun i u v e1 e2=>by
  match i,e1,e2 with
  |0,e1,e2=>cases e1;cases e2;exact nM _ _ _
  |1,e1,e2=>cases e1;cases e2;exact pN h2 h2'⟩
theorem yi {H:Hp} {n:Nat} {l l':Addr} {g:ip} (h:kJ H l g) (h':kJ H l' g):yg H (n+3) (.ref l) (.ref l'):=by
 obtain ⟨as,ys,e,la,l64,so,nd,mem,each⟩:=h.ex;obtain ⟨as',ys',e',la',l64',so',nd',mem',each'⟩:=h'.ex;have:=v8 so so' nd nd' mem mem';subst this;refine .inr ⟨l,l',_,_,rfl,rfl,.inl ⟨e,e'⟩,by rw[E3,E3,la,la'],by rw[E3];lia,fun i u v e1 e2=>?_⟩
 rw[EA] at e1 e2;cases h1:as[i]? with
 |none=>rw[h1] at e1;cases e1
 |some a=>
  cases h2:as'[i]? with
  |none=>rw[h2] at e2;cases e2
  |some a'=>
   rw[h1] at e1;rw[h2] at e2;cases e1;cases e2;have il:i<ys.length:=by rw[<-la];exact (E2.mp h1).1
   obtain ⟨t,f1,f2⟩:=each i a ys[i] h1 (E1 il);obtain ⟨t',f1',f2'⟩:=each' i a' ys[i] h2 (E1 il);exact we f1 f1' f2 f2'
theorem kJ.same {H H':Hp} {l:Addr} {g:ip} (h:kJ H l g) (s:ax H H'):kJ H' l g:=by
 obtain ⟨as,ys,e,la,l64,so,nd,mem,each⟩:=h.ex;exact ⟨as,ys,s _ _ e,la,l64,so,nd,mem,fun i a y h1 h2=>(let ⟨t,f1,f2⟩:=each i a y h1 h2;⟨t,s _ _ f1,s _ _ f2⟩)⟩
def wf (es:HH) (ps:HK) (bs:HN) (dd:List iq) (n:Nat) (v:V):Prop:=(v= .non/\∀(i:Nat) (d:iq),i<n->dd[i]?=some d->∀k∈d.ks,hJ es ps bs k.1)∨∃(i j:Nat) (d:iq) (k:HU),v= .str k.1/\i<n/\dd[i]?=some d/\d.ks[j]?=some k/\(∀(i':Nat) (d':iq),i'<i->dd[i']?=some d'->∀k'∈d'.ks,hJ es ps bs k'.1)/\(∀(j':Nat) (k':HU),j'<j->d.ks[j']?=some k'->hJ es ps bs k'.1)/\¬hJ es ps bs k.1
theorem nN:∀{vs:List V},(∀v∈vs,∃a,v= .ref a)->∃as:HP,vs=as.map V.ref
 | [],_=>⟨[],rfl⟩
 |v::vs,h=>by
  obtain ⟨a,rfl⟩:=h v (by simp)
  obtain ⟨as,rfl⟩:=nN (vs:=vs) fun w hw=>h w (by simp[hw])
  exact ⟨a::as,rfl⟩
theorem jJ.told {H H':Hp} {d l:Addr} {rows:List (Str×Addr)} {g:ip} (h:jJ H d rows g) (s:ax H H') {ys:HN} {vs:List V} (el:H' l=some (.lst vs)) (py:ys.Perm (rows.map (·.1))) (sy:sortedS ys=true) (lv:vs.length=ys.length)
  (each:∀(i:Nat) (z:Str) (v:V),ys[i]?=some z->vs[i]?=some v->∃a t,v= .ref a/\(z,t)∈rows/\H' a=some (.tup [.str z,.ref t])) (few:rows.length<=64):kJ H' l g:=by
 have nd:=py.nodup_iff.mpr h.nd;have yl:ys.length=rows.length:=by rw[py.length_eq,E3]
 obtain ⟨as,rfl⟩:=nN (vs:=vs) fun v hv=>by
  obtain ⟨i,hi⟩:=EH.mp hv;have il:=(E2.mp hi).1;obtain ⟨a,t,e,_⟩:=each i ys[i] v (E1 (by lia)) hi
  exact ⟨a,e⟩
 rw[E3] at lv
 let f:Str->HU:=fun z=>(z,(g z).getD (0,1))
 have ef:(ys.map f).map (·.1)=ys:=by
  rw[Eh];exact List.map_id' ys
 refine ⟨as,ys.map f,el,by rw[E3,lv],by rw[E3];lia,by rw[ef];exact sy,by rw[ef];exact nd,fun x v=>⟨fun m=>?_,fun e=>?_⟩,fun i a y h1 h2=>?_⟩
 ·obtain ⟨z,hz,e⟩:=EF.mp m;cases e;obtain ⟨⟨z',t⟩,hm,rfl⟩:=EF.mp (py.mem_iff.mp hz);obtain ⟨p,q,e1,_⟩:=h.val z' t hm;show g z'=some ((g z').getD (0,1));rw[e1]
  rfl
 ·obtain ⟨t,m⟩:=h.dom x v e;refine EF.mpr ⟨x,py.mem_iff.mpr (EF.mpr ⟨(x,t),m,rfl⟩),?_⟩;show (x,(g x).getD (0,1))=(x,v);rw[e]
  rfl
 ·rw[EA] at h2;cases hz:ys[i]? with
  |none=>rw[hz] at h2;cases h2
  |some z=>
   rw[hz] at h2;cases h2;obtain ⟨a',t,e1,hm,e2⟩:=each i z (.ref a) hz (by rw[EA,h1];rfl)
   cases e1;obtain ⟨p,q,e3,e4⟩:=h.val z t hm;refine ⟨t,e2,?_⟩;show H' t=some (.tup [.int ((g z).getD (0,1)).1,.int ((g z).getD (0,1)).2]);rw[e3];exact s _ _ e4
def pO (K:D9) (C:Addr):Sp:=fun vs H Q _=>∃(t x dp ds db cl rl:Addr) (z:Str) (c:HN) (p q:Int) (nm:HN) (n:Nat) (F:HP) (rows:HJ) (m:Nat) (g:HD) (bs ns:HN) (ps:HK) (es:HH) (vw:HE),vs= [.ref t,.str z,.ref x,.ref dp,.ref ds,.ref db]/\H t=some (.tup [.str z,.ref cl,.ref rl])/\H cl=some (.lst (c.map V.str))/\H rl=some (.tup [.int p,.int q])/\Nm z/\fM es ps bs z c/\kY vw c p q/\S7 K C H x dp ds db nm n F rows m g bs ns ps es vw/\n<=60/\Tw es vw/\
 ∀H',ax H H'->Q (.bl true) H'
def gL (K:D9) (CR C:Addr):Sp:=fun vs H Q _=>∃(r x dp ds db:Addr) (pl:Int) (ks:HI) (nm:HN) (n:Nat) (F:HP) (rows:HJ) (m:Nat) (g:HD) (bs ns:HN) (ps:HK) (es:HH) (vw:HE),vs= [.ref r,.ref x,.ref dp,.ref ds,.ref db]/\pT CR H r pl ks/\ks.length<=100/\(∀k∈ks,Nm k.1)/\S7 K C H x dp ds db nm n F rows m g bs ns ps es vw/\n<=60/\Tw es vw/\
 ∀H',ax H H'->Q (.bl true) H'
def wg (K:D9) (CR C:Addr):Sp:=fun vs H Q _=>∃(ld x dp ds db:Addr) (nm:HN) (n:Nat) (F:HP) (rows:HJ) (m:Nat) (g:HD) (bs ns:HN) (ps:HK) (es:HH) (vw:HE) (dd:List iq),vs= [.ref ld,.ref x]/\eB CR H ld nm dd/\(∀z∈nm,Nm z)/\S7 K C H x dp ds db nm n F rows m g bs ns ps es vw/\n<=60/\Tw es vw/\(∀d∈dd,∀k∈d.ks,hJ es ps bs k.1)/\
 (∀(l:Addr) (H':Hp),ax H H'->kJ H' l (sumF (ie es ps bs vw) dd)->Q (.ref l) H')
def iT (K:D9) (CR C:Addr):Sp:=fun vs H Q _=>∃(ld x dp ds db:Addr) (nm:HN) (n:Nat) (F:HP) (rows:HJ) (m:Nat) (g:HD) (bs ns:HN) (ps:HK) (es:HH) (vw:HE) (dd:List iq),vs= [.ref ld,.ref x,.ref dp,.ref ds,.ref db]/\eB CR H ld nm dd/\(∀z∈nm,Nm z)/\S7 K C H x dp ds db nm n F rows m g bs ns ps es vw/\n<=60/\Tw es vw/\
 ∀H',ax H H'->Q (.bl true) H'
theorem wj {C:Addr} {H:Hp} {nm:HN}:∀{vs:List V},(∀v∈vs,∃(r:Addr) (pl:Int) (ks:HI),v= .ref r/\pT C H r pl ks/\jj nm ks/\1<=pl/\pl<=1000)->∃rcs:List Rc,vs=(rcs.map fun r=>V.ref r.r)/\∀r∈rcs,pT C H r.r r.pl r.ks/\jj nm r.ks/\1<=r.pl/\r.pl<=1000
 | [],_=>⟨[],rfl,fun _ h=>(by simp at h)⟩
 |v::vs,h=>by
  obtain ⟨r,pl,ks,rfl,h1⟩:=h v (by simp)
  obtain ⟨rcs,rfl,h2⟩:=wj (vs:=vs) fun w hw=>h w (by simp[hw])
  refine ⟨⟨r,pl,ks⟩::rcs,rfl,fun r' hr=>?_⟩
  rcases EC.mp hr with rfl|w
  ·exact h1
  ·exact h2 r' w
structure pP (H:Hp) (lt:Addr) (rcs:List Rc):Prop where
 ex:∃ls:HP,H lt=some (.lst (ls.map V.ref))/\ls.length=rcs.length/\∀(i:Nat) (l:Addr) (r:Rc),ls[i]?=some l->rcs[i]?=some r->yM H l r.ks
theorem pP.kd {H H':Hp} {lt:Addr} {rcs:List Rc} (h:pP H lt rcs) (k:KD H H'):pP H' lt rcs:=by
 obtain ⟨ls,e,l,each⟩:=h.ex;exact ⟨ls,k _ _ (fun _ z=>by cases z) (fun _ z=>by cases z) e,l,fun i l r h1 h2=>(each i l r h1 h2).kd k⟩
theorem wk {C:Addr} {H H':Hp} {lr lt:Addr} {nm:HN} {rcs:List Rc} (rc:ub C H lr nm rcs) (g:ax H H') {ys:List V} (e:H' lt=some (.lst ys)) (ly:ys.length=(rcs.map fun r=>V.ref r.r).length)
  (each:∀(i:Nat) (r:Rc) (y:V),rcs[i]?=some r->ys[i]?=some y->∃(l dr lt':Addr) (fs:List (Str×V)) (ts:HP),y= .ref l/\H r.r=some (.ins C dr fs)/\fs.lookup ("takes" :Str)=some (.ref lt')/\H lt'=some (.lst (ts.map V.ref))/\H' l=some (.lst (ts.map V.ref))):pP H' lt rcs:=by
 rw[E3] at ly;obtain ⟨ls,rfl⟩:=nN (vs:=ys) fun v hv=>by
  obtain ⟨i,hi⟩:=EH.mp hv;have il:=(E2.mp hi).1;obtain ⟨l,_,_,_,_,e,_⟩:=each i rcs[i] v (E1 (by lia)) hi
  exact ⟨l,e⟩
 rw[E3] at ly;refine ⟨ls,e,ly,fun i l r h1 h2=>?_⟩
 obtain ⟨l',dr,lt',fs,ts,e1,e2,e3,e4,e5⟩:=each i r (.ref l) h2 (by rw[EA,h1];rfl)
 cases e1;obtain ⟨dr2,lt2,fs2,f1,f2,_,tk⟩:=(rc.each r (E6 h2)).1.ex;rw[e2] at f1;cases f1;rw[e3] at f2;cases f2;obtain ⟨ts2,f3,f4,f5⟩:=tk.ex;rw[e4] at f3;injection f3 with f3
 injection f3 with f3
 refine ⟨ts2,by rw[e5,f3],f4,fun j t k h3 h4=>?_⟩
 obtain ⟨am,q1,q2⟩:=f5 j t k h3 h4;exact ⟨am,g _ _ q1,g _ _ q2⟩
theorem nO {R:V->V->Prop}:∀{xs ys:List V},xs.length=ys.length->(∀(i:Nat) (x y:V),xs[i]?=some x->ys[i]?=some y->R x y)->kX R xs ys
 | [],[],_,_=>trivial
 |x::xs,y::ys,l,h=>⟨h 0 x y rfl rfl,nO (by simpa using l) fun i u v e1 e2=>h (i+1) u v (by simpa using e1) (by simpa using e2)⟩
theorem Aa {K:D9} {H:Hp} {l l':Addr} {ks:HI} (h:yM H l ks) (h':yM H l' ks):zU K H 3 (.ref l) (.ref l'):=by
 obtain ⟨ts,e,tl,each⟩:=h.ex;obtain ⟨ts',e',tl',each'⟩:=h'.ex;refine .inr ⟨l,l',_,_,rfl,rfl,.inr ⟨aQ.of e,aQ.of e'⟩,nO (by rw[E3,E3,tl,tl']) fun i x y h1 h2=>?_⟩
 obtain ⟨t,ht,rfl⟩:=gw h1;obtain ⟨t',ht',rfl⟩:=gw h2;have il:i<ks.length:=by rw[<-tl];exact (E2.mp ht).1
 obtain ⟨am,f1,f2⟩:=each i t ks[i] ht (E1 il);obtain ⟨am',f1',f2'⟩:=each' i t' ks[i] ht' (E1 il);exact .inr ⟨t,t',_,_,rfl,rfl,.inl ⟨bS.of f1,bS.of f1'⟩,.inl ⟨rfl,trivial⟩,.inr ⟨am,am',_,_,rfl,rfl,.inl ⟨bS.of f2,bS.of f2'⟩,⟨rfl,trivial⟩,⟨rfl,trivial⟩,trivial⟩,trivial⟩
theorem yj {K:D9} {H:Hp} {lt lt':Addr} {rcs:List Rc} (h:pP H lt rcs) (h':pP H lt' rcs):∃xs ys,H lt=some (.lst xs)/\H lt'=some (.lst ys)/\kX (zU K H 3) xs ys:=by
 obtain ⟨ls,e,l,each⟩:=h.ex;obtain ⟨ls',e',l',each'⟩:=h'.ex;refine ⟨_,_,e,e',nO (by rw[E3,E3,l,l']) fun i x y h1 h2=>?_⟩
 obtain ⟨t,ht,rfl⟩:=gw h1;obtain ⟨t',ht',rfl⟩:=gw h2;have il:i<rcs.length:=by rw[<-l];exact (E2.mp ht).1
 exact Aa (each i t rcs[i] ht (E1 il)) (each' i t' rcs[i] ht' (E1 il))
theorem eB.kd {C:Addr} {H H':Hp} {ld:Addr} {nm:HN} {ds:List iq} (h:eB C H ld nm ds) (k:KD H H'):eB C H' ld nm ds:=⟨k _ _ (fun _ z=>by cases z) (fun _ z=>by cases z) h.at_,fun d hd=>by
 obtain ⟨e1,e2,e3⟩:=h.each d hd;exact ⟨k _ _ (fun _ z=>by cases z) (fun _ z=>by cases z) e1,e2.kd k,e3⟩,h.few⟩
theorem eB.copy {C:Addr} {H:Hp} {ld l:Addr} {nm:HN} {ds:List iq} (h:eB C H ld nm ds) (e:H l=some (.lst (ds.map fun d=>V.ref d.t))):eB C H l nm ds:=⟨e,h.each,h.few⟩
theorem eB.rev {C:Addr} {H:Hp} {ld l:Addr} {nm:HN} {ds:List iq} (h:eB C H ld nm ds) (e:H l=some (.lst (ds.map fun d=>V.ref d.t).reverse)):eB C H l nm ds.reverse:=⟨by rw[List.map_reverse];exact e,fun d hd=>h.each d (List.mem_reverse.mp hd),by rw[Eo];exact h.few⟩
theorem BL {C:Addr} {H H':Hp} {x dp ds db:Addr} {nm:HN} {F:HP} {rows:HJ} {m:Nat} {g:HD} {bs bs' ns:HN} {ps:HK} {es:HH} {vw:HE} (h:D7 H dp ds db nm ps es bs vw) (lb:LB C F H x rows m g bs' ns) (dbF:db∉F) (k:KF F H H'):D7 H' dp ds db nm ps es bs vw:=
 ⟨k _ _ (lb.not h.ep (fun _ z=>nomatch z)) h.ep,k _ _ (lb.not h.ee (fun _ z=>nomatch z)) h.ee,k _ _ dbF h.eb,fun a b t z=>⟨k _ _ (lb.not (h.val a b t z).1 (fun _ z=>nomatch z)) (h.val a b t z).1,(h.val a b t z).2⟩,h.inn,h.bnd,h.binn,h.few,h.ne⟩
end Sw
namespace L2
open PySem PySem.Spec PyProof.Rows XH Sw Hm
theorem ud {hd:HS} {n:Nat} {js:List Nat} {te:TE} {σ:L2.St} {H1:Hp} {Q:VK} (P:Hp->Nat->V->Hp->Prop) (hok:qu hd H1) (hn:n<=sizeLine)
  (step:∀i,i<n->∀H3,ax H1 H3->∀Q':VK,(∀y H4,P H3 i y H4->ax H3 H4->Q' y H4)->te (some (.int (0+(i:Int)))::bh js σ) H3 Q')
  (fin:∀(p:Addr) (ys:List V) (H':Hp),H1 p=none->ys.length=n->(∀(i:Nat) (y:V),ys[i]?=some y->∃H3 H4 zs,ax H1 H3/\H3 p=some (.lst zs)/\ax H3 H4/\P H3 i y H4/\∀b o,b≠p->H4 b=some o->H' b=some o)->ax H1 H'->H' p=some (.lst ys)->Q (.ref p) H'):rD js te σ Q (w6 hd 0 n) H1:=by
 intro p hp;refine ⟨fun i m ys H2=>i<=n/\m=n-i/\ys.length=i/\(∀(i:Nat) (y:V),ys[i]?=some y->∃H3 H4 zs,ax H1 H3/\H3 p=some (.lst zs)/\ax H3 H4/\P H3 i y H4/\∀b o,b≠p->H4 b=some o->H2 b=some o)/\ax H1 H2/\H2 p=some (.lst ys),⟨n,EO _,rfl,rfl,fun i y e=>by simp at e,Sw.aj hp _,ac⟩,?_⟩
 rintro i m ys H2 ⟨hi,rfl,hl,hP,g,e⟩;refine ⟨e,?_⟩
 by_cases hin:i<n
 ·refine .inr ⟨hin,by lia,fun x H3 hy=>?_⟩
  obtain ⟨rfl,rfl⟩:=hy;refine step i hin _ g _ fun y H4 py g4=>⟨g4 _ _ e,n-(i+1),by lia,hin,rfl,by simp[hl],fun j y' e2=>?_,Sw.dM (g.trans g4) hp _,ac⟩
  by_cases hj:j<ys.length
  ·rw[E5 hj] at e2;obtain ⟨A,B,zs,q1,q2,q3,q4,q5⟩:=hP j y' e2;exact ⟨A,B,zs,q1,q2,q3,q4,fun b o n q=>by rw[ag n];exact g4 _ _ (q5 b o n q)⟩
  ·have ej:j=i:=by
    have:=(E2.mp e2).1;simp at this
    lia
   subst ej;rw[E7 (by lia),hl] at e2
   simp at e2;subst e2;exact ⟨_,H4,ys,g,e,g4,py,fun b o n q=>by rw[ag n];exact q⟩
 ·have e2:i=n:=by lia
  subst e2;exact .inl ⟨⟨E4 _,zz hok g⟩,fin p ys H2 hp hl hP g e⟩
theorem yk {X:Cx} (hu:X.A.units<cLine):fU X (compareOp .Eq) (fun x y H Q=>∃(a b:Addr) (as:HP),x= .ref a/\y= .ref b/\aQ X.K H a (as.map V.ref)/\aQ X.K H b (as.map V.ref)/\Q (.bl true) H):=by
 intro pins s σ H x y v u Q I rx ry h;obtain ⟨a,b,as,rfl,rfl,h1,h2,hq⟩:=h;cases rx;cases ry;obtain ⟨i1,v1,p1,_⟩:=I.list h1;obtain ⟨i2,v2,p2,_⟩:=I.list h2;have same:∀{as:HP} {us ws:HQ},aT (as.map V.ref) us->aT (as.map V.ref) ws->us=ws:=fun {as}=>by
  induction as with
  |nil=>intro us ws r1 r2;cases r1;cases r2;rfl
  |cons x as ih=>
   intro us ws r1 r2;cases r1 with
   |cons a1 b1=>
    cases r2 with
    |cons a2 b2=>
     cases a1;cases a2;rw[ih b1 b2]
 have e:=same v1 v2;refine SeqAt.eq_listAt (e:=fun _=>true) p1.isList p2.isList (by rw[e]) hu (fun j g1 g2=>?_) ?_
 ·have:i1[j]'(by simpa using g1)=i2[j]'(by simpa using g2):=by simp only[e]
  simp only[List.getElem_toArray,this];exact SeqAt.EqAt.same _
 ·exact ⟨.bl true,H,I,by show Value.bool _=Value.bool _;simp,hq⟩
end L2
namespace Sw
open PySem L2 XH Hm
theorem wm {α:Type} {P:List α->Prop} (h:∀a b c d e f,P [a,b,c,d,e,f]):∀us:List α,us.length=6->P us
 | [a,b,c,d,e,f],_=>h a b c d e f
theorem cH {t u:TS} {D:Ends} {σ:L2.St} {H:Hp} (I:(L2.St->Hp->Prop)->Prop) (h1:∀N:L2.St->Hp->Prop,I N->t {D with nx:=N} σ H) (h2:I (u D)):yU t u D σ H:=h1 _ h2
abbrev FnAt (K:D9) (f:Addr) (n q:Str) (st:Stmt) (dV:Value):Prop:=∃(oc:Value) (od:HR) (kV dc pm:Value) (an:HR) (cd ct:Value) (sl:HM),K.lookup f=some ⟨oc,od,.func (Es n q (dq st) (cG st) (au st) dV kV dc pm an cd ct),sl⟩/\FF K cd q=true/\En K (.ref f)=true
abbrev cW (K:D9) (f:Addr) (x:Str) (st:Stmt) (dV:Value):Prop:=EI K mainGlobals x=some (some (.ref f))/\FnAt K f x x st dV
abbrev nP (K:D9) (c f:Addr) (m q:Str) (st:Stmt) (dV:Value):Prop:=EV K (.ref c) m=some (some (.ref f))/\FnAt K f m q st dV
abbrev BM (n q:Str) (st:Stmt) (dV:Value) (ps:HN):Prop:=∀(kV doc pm:Value) (an:HR) (cdv ct:Value) (us:HQ),us.length=ps.length->bindArgs (Es n q (dq st) (cG st) (au st) dV kV doc pm an cdv ct) ⟨us,[]⟩=pure (ps.zip us)
theorem dP {N P:HN} {sc:Scope} (h:N.Nodup/\(∀x∈P,sc.names.lookup x=some .local∨sc.names.lookup x=some .cell)/\∀y∈sc.names,y.2≠ .free) (h1:sc.kind= .function:=by rfl) (h2:sc.isCoroutine=false:=by rfl) (h3:sc.isGenerator=false:=by rfl) (h4:N.take P.length=P:=by rfl):aB N P sc:=⟨h1,h2,h3,h.1,h4,h.2.1,h.2.2⟩
section
variable {P:Program} {w:World} {K:D9} {mg:HG} {base h:Heap} {CX:qc} {k:Nat} {f c:Addr} {x m q:Str} {st:Stmt} {ps:HN} {sp:Sp}
theorem FnAt.ex {n q:Str} {dV:Value} (a:FnAt K f n q st dV):∃fd,bA K n q st dV f fd/\En K (.ref f)=true:=by
 obtain ⟨_,_,_,_,_,_,_,_,_,l,c,k⟩:=a;exact ⟨_,fA (st:=st) l c k,k⟩
structure Bx (P:Program) (w:World) (base:Heap):Prop
noncomputable def fP (_:Bx P w base) (X:K.In h) (G:h.Ns mainGlobals mg) (a:cW K f x st .none) (b:BM x x st .none ps) (ok:∀{fd:FuncData},bA K x x st .none f fd->a8 P w K mg base CX k f fd ps sp):Dx P w K mg base CX k x ps [] sp:=
 have e:=a.2.ex
 ⟨f,e.choose,ok e.choose_spec.1,EU X G a.1,e.choose_spec.2,e.choose_spec.1.binds0 b,[],e.choose_spec.1.binds0 b,.nil⟩
noncomputable def yO (_:Bx P w base) (a:nP K c f m q st .none) (b:BM m q st .none ps) (ok:∀{fd:FuncData},bA K m q st .none f fd->a8 P w K mg base CX k f fd ps sp):i8 P w K mg base CX k f ps [] sp:=
 have e:=a.2.ex
 ⟨e.choose,ok e.choose_spec.1,e.choose_spec.1.binds0 b,[],e.choose_spec.1.binds0 b,.nil⟩
end
end Sw
namespace L2
open PySem PySem.Spec PyProof.Rows XH Sw Hm
end L2
namespace Sw
open PySem L2 XH Hm
abbrev CS:=List V->Hp->VK->Prop
abbrev BN (K:D9):CS:=fun xs H Q=>∃p ys,xs= [.ref p]/\(aQ K H p ys∨bS K H p ys)/\Q (.int ys.length) H
theorem aW {X:Cx}:cE X (.builtin "len") (BN X.K):=mP
abbrev BO (K:D9):CS:=fun xs H Q=>∃x t T b,xs= [x,.ty T]/\eP K H x t/\El K t (.type T)=some b/\Q (.bl b) H
theorem aX {X:Cx} {K:D9} (hK:X.K=K):cE X (.builtin "isinstance") (BO K):=tu hK
abbrev Ab (K:D9):CS:=fun xs H Q=>∃p ys,xs= [.ref p]/\(aQ K H p ys∨bS K H p ys)/\∀l,H l=none->Q (.ref l) (ay H l (.lst ys))
theorem ig {X:Cx} {K:D9} (h:X.K=K):cE X (.type "list") (Ab K):=qJ h
abbrev yn (K:D9):R2:=fun x y H Q=>∃a b zs,x= .ref a/\y= .ref b/\aQ K H a zs/\aQ K H b []/\Q (.bl zs.isEmpty) H
theorem mB {X:Cx} (hu:X.A.units<cLine):fU X (compareOp .Eq) (yn X.K):=vB hu
abbrev yo (K:D9):R2:=fun x y H Q=>∃a b zs,x= .ref a/\y= .ref b/\aQ K H a zs/\aQ K H b []/\Q (.bl (!zs.isEmpty)) H
theorem mC {X:Cx} (hu:X.A.units<cLine):fU X (compareOp .NotEq) (yo X.K):=vO hu
theorem xr {α:Type} {A k:α->Prop} {v:α} (h:A v) (q:k v):∃v,A v/\k v:=⟨v,h,q⟩
theorem xo {α β:Type} {A:α->Prop} {B:β->Prop} {k:α->β->Prop} {i:α} {j:β} (h:A i) (g:B j) (q:k i j):∃i j,A i/\B j/\k i j:=⟨i,j,h,g,q⟩
theorem xl {x y:V} {S:Addr->List V->Prop} {T:List V->Int->V->Prop} {k:V->Prop} {p:Addr} {xs:List V} {i:Int} {v:V} (h:x= .ref p) (g:y= .int i) (s:S p xs) (t:T xs i v) (q:k v):∃p xs i v,x= .ref p/\y= .int i/\S p xs/\T xs i v/\k v:=⟨p,xs,i,v,h,g,s,t,q⟩
end Sw
namespace Lk44
open PySem L2 Sw XH PyProof.Rows Hm Wo
abbrev HV (x:Addr):Option V:=some (.ref x)
theorem cA {X:Cx} {N P:HN} {sp:Scope} (i:Nat) (sc:aB N P sp) {x:Str} {e:Expr} {te:TE} {pos pos':Pos} (he:PE X e te) (hi:X.N[i]?=some x:=by rfl) (hx:Loc X.env.scope x:=by exact Or.inl rfl) (hn:X.N=N:=by rfl) (hs:swapsWith e (some (.Name x pos')) pos.line X.env=pure false:=by rfl) (hf:X.fn x=true∨X.env.scope.names.lookup x=some .local:=by first|exact .inl rfl|exact .inr rfl|assumption):PS X (.Assign [.Name x pos'] e pos) (ut te (aM i)):=mJ (hn▸sc.nd) hi hx he hs hf
theorem im {X:Cx} {N P:HN} {sp:Scope} (i:Nat) (sc:aB N P sp) {x:Str} {pos:Pos} (hi:X.N[i]?=some x:=by rfl) (hx:Loc X.env.scope x:=by exact Or.inl rfl) (hn:X.N=N:=by rfl) (hf:X.fn x=true∨X.env.scope.names.lookup x=some .local:=by first|exact .inl rfl|exact .inr rfl|assumption):PG X (.Name x pos) (aM i):=gq (hn▸sc.nd) hi hx hf
theorem du {X:Cx} {k j:Nat} {x:Str} {ps:HN} {dvs:List V} {sp:Sp} {e:Expr} {es:List Expr} {t:TA} {p pos:Pos} (D:Dx X.prog X.w X.K X.mg X.base bj k x ps dvs sp) (hr:bZ j X.A) (ha:PA X (e::es) t) (hk:k<=j:=by decide) (hg:Gl X x:=by rfl) (hdb:(x==("__debug__" :Str))=false:=by decide) (he:starEach (e::es) X.env=(false,eval e X.env)::starEach es X.env:=by rfl) (hpl:(backTo pos (starEach es X.env)).any (·.1)=false:=by rfl):PE X (.Call (.Name x p) (e::es) [] pos) (lG sp [] E0 t):=u4 D hr hk hg ha hdb he hpl
def top (i:Nat):Stmt:=PySem.Challenge.pw_stovework_k44_needs.main.body.getD i (.Pass ⟨0,0,0,0⟩)
def clsAt (s:Stmt) (i:Nat):Stmt:=match s with| .ClassDef _ _ _ body _ _ _ _ _ _ _=>body.getD i (.Pass ⟨0,0,0,0⟩)|_=>s
abbrev Dr:Stmt:=top 20
abbrev DT:Stmt:=top 20
abbrev Ds:Stmt:=top 21
abbrev CL:Stmt:=top 23
abbrev qW:Stmt:=top 24
abbrev Dt:Stmt:=top 25
abbrev Du:Stmt:=top 26
abbrev Dv:Stmt:=top 28
abbrev Dw:Stmt:=top 35
abbrev Dy:Stmt:=top 38
abbrev Ac:Stmt:=top 39
abbrev Ad:Stmt:=top 37
abbrev Ae:Stmt:=top 41
abbrev Af:Stmt:=top 44
abbrev Ag:Stmt:=clsAt (top 45) 0
abbrev Ah:Stmt:=clsAt (top 45) 9
abbrev Ai:Stmt:=clsAt (top 45) 1
abbrev Aj:Stmt:=clsAt (top 45) 7
abbrev Ak:Stmt:=clsAt (top 45) 3
abbrev Al:Stmt:=clsAt (top 45) 4
abbrev yq:Stmt:=clsAt (top 45) 2
abbrev Am:Stmt:=clsAt (top 45) 8
abbrev An:Stmt:=top 30
abbrev Ao:Stmt:=top 31
abbrev Ap:Stmt:=clsAt (top 47) 0
abbrev Aq:Stmt:=top 49
abbrev Ar:Stmt:=top 50
abbrev As:Stmt:=top 51
abbrev At:Stmt:=top 52
abbrev BP:Stmt:=top 53
abbrev BQ:Stmt:=top 53
abbrev BR:Stmt:=top 53
abbrev Dz:Stmt:=top 53
abbrev BS:Stmt:=top 53
abbrev Au:Stmt:=top 54
abbrev Av:Stmt:=top 55
abbrev Aw:Stmt:=top 56
abbrev Ax:Stmt:=top 57
abbrev Ay:Stmt:=top 58
abbrev Az:Stmt:=top 59
abbrev AA:Stmt:=top 60
abbrev yr:Stmt:=top 61
abbrev AB:Stmt:=top 62
abbrev AC:Stmt:=top 63
abbrev AD:Stmt:=top 64
abbrev AE:Stmt:=top 65
abbrev AF:Stmt:=top 66
abbrev AG:Stmt:=top 67
abbrev nQ:Stmt:=top 68
abbrev c9:Stmt:=clsAt (top 12) 0
abbrev ff:Stmt:=clsAt (top 11) 0
structure Bn (K:D9) (mg:HG) (Fu Fp mt Fv Gd Fl Gk Fo Gc Gb Gj Fs on Ga Ev Fn Fy Fw Gi GN GA GG GF GE GD Gw Gz GM:Addr):Prop where
 G8:∃t,mg "LETTERS" =some (.str "abcdefghijklmnopqrstuvwxyz" t)
 GU:∃t,mg "MOST_LETTERS" =some (.int 12 t)
 GY:∃t,mg "MOST_NAMES" =some (.int 80 t)
 Hj:mg "abs" =none
 GZ:mg "bool" =none
 GW:mg "int" =none
 Fk:mg "isinstance" =none
 Fx:mg "len" =none
 Go:mg "list" =none
 Hr:mg "max" =none
 Hq:mg "min" =none
 Gp:mg "range" =none
 GC:mg "reversed" =none
 GJ:mg "sorted" =none
 GV:mg "str" =none
 GI:mg "tuple" =none
 HC:mg "zip" =none
 G2:mg "EmptyHeap" =some (.ref Fu)
 G1:mg "InRing" =some (.ref Fp)
 Hi:mg "Larder" =some (.ref mt)
 G4:mg "NoAmount" =some (.ref Fv)
 Hh:mg "NoDish" =some (.ref Gd)
 G0:mg "NoName" =some (.ref Fl)
 Ho:mg "NoNet" =some (.ref Gk)
 GB:mg "NoNumber" =some (.ref Fo)
 Hg:mg "NoPack" =some (.ref Gc)
 Hf:mg "NoPlan" =some (.ref Gb)
 Hn:mg "NoRow" =some (.ref Gj)
 Gy:mg "NoStand" =some (.ref Fs)
 Gv:mg "NoStandIn" =some (.ref on)
 He:mg "NoStep" =some (.ref Ga)
 Hd:mg "Recipe" =some (.ref Ev)
 GX:mg "StoveError" =some (.ref Fn)
 Hc:mg "TooFew" =some (.ref Fy)
 G7:mg "TooMany" =some (.ref Fw)
 Hl:mg "Twice" =some (.ref Gi)
 G9:FK K Fl ug "ValueError.__new__" =true
 HA:XI K Fl
 GK:FK K Fs ug "ValueError.__new__" =true
 Hz:XI K Fs
 GQ:FK K Fo ug "ValueError.__new__" =true
 Hy:XI K Fo
 GL:XT K on
 Gm:PySem.W.subIn K (.ref on) (.ref on)=some true
 Gs:El K (.ref on) (.ref Fn)=some true
 Gx:XA K on Fn
 Gu:EV K (.ref on) "good" =some none
 Hk:XA K Fp Fn
 Ha:EV K (.ref Fp) "ring" =some none
 Gq:XI K on
 HB:XI K Fp
 GT:PySem.W.kitAny K (.ref on) [.ref Fu,.ref Fp,.ref Fv,.ref Gd,.ref Fl,.ref Gk,.ref Fo,.ref Gc,.ref Gb,.ref Gj]=some false
 GS:PySem.W.kitAny K (.ref on) [.ref Fs,.ref Ga,.ref Fy,.ref Fw,.ref Gi]=some false
 Fm:pQ K mt
 G6:Mk K mt GN
 Hx:fj K mt "part" GG
 Hs:fj K mt "stand" Gw
 Hv:fj K mt "bar" GE
 Hu:fj K mt "allow" GD
 Hw:fj K mt "barred" GF
 Hb:fj K mt "stand_in" Gz
 G3:fj K mt "learn" GA
 Ft:pQ K Ev
 G5:Mk K Ev GM
 Gf:bw K mt "parts"
 Ge:bw K mt "stands"
 Gh:bw K mt "bars"
 Gg:bw K mt "names"
 GR:bw K Ev "name"
 Gn:bw K Ev "plates"
 Fq:bw K Ev "takes"
 GO:bw K Ev "steps"
 GP:bw K Ev "links"
section
variable {P:Program} {w:World} {K:D9} {mg:HG} {base:Heap} {f:Addr} {fd:FuncData} {Fu Fp mt Fv Gd Fl Gk Fo Gc Gb Gj Fs on Ga Ev Fn Fy Fw Gi GN GA GG GF GE GD Gw Gz GM:Addr}
variable (B:Bn K mg Fu Fp mt Fv Gd Fl Gk Fo Gc Gb Gj Fs on Ga Ev Fn Fy Fw Gi GN GA GG GF GE GD Gw Gz GM)
include B
theorem nR {dV:Value} (F:bA K "__init__" "NoStandIn.__init__" c9 dV f fd):a8 P w K mg base bj 1 f fd ["self","good"] (gR on "good"):=by
 have sc:aB ["self","good"] ["self","good"] (au c9):=dP (by decide+kernel)
 refine F.ok sc (fun vs H Q E h=>?_) (fun cdv A outer s H vs Q E hr h=>?_)
 ·obtain ⟨a,y,n,rfl,_⟩:=h
  rfl
 obtain ⟨a,y,n,rfl,e,q⟩:=h;exact ⟨_,(ak (rE (K:=K) rfl (pv 0) (pv 1) rfl)),y,rfl,_,rfl,a,on,Fn,n,rfl,e,B.Gx,B.Gu,q⟩
theorem ue {dV:Value} (F:bA K "__init__" "InRing.__init__" ff dV f fd):a8 P w K mg base bj 1 f fd ["self","ring"] (gR Fp "ring"):=by
 have sc:aB ["self","ring"] ["self","ring"] (au ff):=dP (by decide+kernel)
 refine F.ok sc (fun vs H Q E h=>?_) (fun cdv A outer s H vs Q E hr h=>?_)
 ·obtain ⟨a,y,n,rfl,_⟩:=h
  rfl
 obtain ⟨a,y,n,rfl,e,q⟩:=h;exact ⟨_,(ak (rE (K:=K) rfl (pv 0) (pv 1) rfl)),y,rfl,_,rfl,a,Fp,Fn,n,rfl,e,B.Hk,B.Ha,q⟩
set_option maxHeartbeats 4000000
theorem DA {dV:Value} (F:bA K "is_whole" "is_whole" Dr dV f fd):a8 P w K mg base bj 1 f fd ["thing"] rp:=by
 have sc:aB ["thing"] ["thing"] (au Dr):=dP (by decide+kernel)
 refine F.ok sc (fun vs H Q E h=>?_) (fun cdv A outer s H vs Q E hr h=>?_)
 ·obtain ⟨_,rfl,_⟩:=h
  rfl
 obtain ⟨v,rfl,q⟩:=h;refine ⟨_,(ak (aC (dQ (av ow rfl B.Fk boot_isinstance (aa (pv 0) (aa (bE (v:= .ty "int") rfl B.GW boot_int rfl) af))) (fi (mI (av ow rfl B.Fk boot_isinstance (aa (pv 0) (aa (bE (v:= .ty "bool") rfl B.GZ boot_bool rfl) af)))))))),?_⟩;try dsimp only[cxK]
 refine (xr rfl (bO _ _ (xr rfl ⟨.ii v,xr rfl (cU (xr rfl (bO _ _ (xr rfl ⟨.ib v,xr rfl q⟩))))⟩)))
theorem DB {dV:Value} (F:bA K "is_whole" "is_whole" DT dV f fd):a8 P w K mg base bj 1 f fd ["thing"] (Br K):=by
 have sc:aB ["thing"] ["thing"] (au DT):=dP (by decide+kernel)
 refine F.ok sc (fun vs H Q E h=>?_) (fun cdv A outer s H vs Q E hr h=>?_)
 ·obtain ⟨_,_,rfl,_⟩:=h
  rfl
 obtain ⟨x,b,rfl,wh,q⟩:=h;refine ⟨_,(ak (aC (dQ (av (aX (K:=K) rfl) rfl B.Fk boot_isinstance (aa (pv 0) (aa (bE (v:= .ty "int") rfl B.GW boot_int rfl) af))) (fi (mI (av (aX (K:=K) rfl) rfl B.Fk boot_isinstance (aa (pv 0) (aa (bE (v:= .ty "bool") rfl B.GZ boot_bool rfl) af)))))))),?_⟩;try dsimp only[cxK]
 cases wh with
 | @mk t b1 b2 ty k1 k2=>
  refine (xr rfl (bG x t "int" b1 ⟨rfl,ty,k1,b1,rfl,?_⟩));cases b1 with
  |false=>exact b4 q
  |true=>exact cU ⟨_,rfl,bG x t "bool" b2 ⟨rfl,ty,k2,b2,rfl,q⟩⟩
theorem DC {dV:Value} (F:bA K "divisor" "divisor" Ds dV f fd):a8 P w K mg base bj 1 f fd ["one","other"] uN:=by
 have sc:aB ["one","other","greater","lesser","rest"] ["one","other"] (au Ds):=dP (by decide+kernel)
 refine F.ok sc (fun vs H Q E h=>?_) (fun cdv A outer s H vs Q E hr h=>?_)
 ·obtain ⟨_,_,rfl,_⟩:=h
  rfl
 obtain ⟨a,b,rfl,q⟩:=h;refine ⟨_,(ae (cA 2 sc (av jO rfl B.Hj boot_abs (aa (pv 0) af))) (ae (cA 3 sc (av jO rfl B.Hj boot_abs (aa (pv 1) af))) (ae (eK PassesOwn.never (aN iw (pv 3) ar (aK _)) (ae (cA 4 sc (aA aV (pv 2) (pv 3))) (ae (cA 2 sc (pv 3)) (ak (cA 3 sc (pv 4)))))) (ak (aC (pv 2)))))),?_⟩;try dsimp only[cxK]
 refine (gn rfl rfl rfl (xr rfl ?_));refine eM (fun σ H'=>H'=H/\∃(g l:Int) (r:Option V),σ= [some (.int a),some (.int b),some (.int g),some (.int l),r]/\0<=g/\0<=l/\bW g l=bW a b)
  (fun (σ:L2.St) (_:Hp)=>match σ[3]? with|some (some (V.int l))=>l.toNat|_=>0) ⟨rfl,cO _ _ _ ⟨rfl,ro a,ro b,uM a b⟩⟩ ?_ (fun σ H Q Q' m ⟨v,e,s,k,hk,h2⟩=>⟨v,e,s,k,hk,m _ _ h2⟩)
 rintro σ H' ⟨rfl,g,l,r,rfl,g0,l0,inv⟩;refine (xr rfl ⟨rfl,xr rfl (CF (fun c=>?_) (fun c=>?_))⟩)
 ·have lp:0<l:=by lia
  refine (bY rfl rfl (xo rfl rfl ⟨c,bY rfl rfl ⟨⟨rfl,bO l (g.fmod l) (xr rfl ⟨l0,EB g lp,?_⟩)⟩,?_⟩⟩))
  ·rw[lQ lp];exact inv
  ·have h1:=EG g lp;have h2:=EB g lp;show (g.fmod l).toNat<l.toNat
   lia
 ·subst c;rw[lR g0] at inv;rw[<-inv] at q;exact (xr rfl q)
theorem DE {dV:Value} (F:bA K "fraction" "fraction" CL dV f fd) (DZ0:Dx P w K mg base bj 1 "is_whole" ["thing"] [] rp) (DZ2:Dx P w K mg base bj 1 "divisor" ["one","other"] [] uN):a8 P w K mg base (dZ P w) 2 f fd ["top","bottom"] (oE Fo):=by
 have sc:aB ["top","bottom","common"] ["top","bottom"] (au CL):=dP (by decide+kernel)
 refine F.okX sc (fun vs H Q E h=>?_) (fun cdv A outer s H vs Q E hr h=>?_)
 ·obtain ⟨_,_,rfl,_⟩:=h
  rfl
 obtain ⟨a,b,rfl,hb,q,qe⟩:=h;refine ⟨_,(ae (aU (PW.pt (gG (b5 (bv (du DZ0 hr (aa (pv 0) af)))) (fh (b5 (bv (du DZ0 hr (aa (pv 1) af))))))) (ak (eV B.GQ rfl B.GB rfl cY (aa dh af))) aG) (ae (aU (aN eO (pv 1) ar (aK _)) (ak (eV B.GQ rfl B.GB rfl cY (aa dh af))) aG) (ae (cA 2 sc (du DZ2 hr (aa (pv 0) (aa (pv 1) af)))) (ae (aU (aN lA (pv 1) ar (aK _)) (ak (cA 2 sc (jM gM (pv 2)))) aG) (ak (aC (cg (aa (aA bD (pv 0) (pv 2)) (aa (aA bD (pv 1) (pv 2)) af))))))))),?_⟩;try dsimp only[cxK]
 refine (bY rfl rfl ⟨true,rfl,b4 (bY rfl rfl ⟨true,rfl,b4 ?_⟩)⟩);refine (xr rfl ⟨rfl,xr rfl (Bh (fun z=>⟨by show 1<=sizeLine;decide,qe z⟩) (fun b0=>?_))⟩)
 have c0:=qm (a:=a) b0;have cb:=uO (a:=a) b0 hb;have f:=yB (a:=a) b0;have q:=q b0;refine (bY rfl rfl ⟨_,xr rfl ?_⟩);refine (xr rfl (xo rfl rfl (xr rfl (d2 (fun c=>?_) (fun c=>?_)))))
 ·have e:kP a b= -bW a b:=if_pos c;rw[e] at c0 cb f;exact (gn rfl rfl rfl (xr rfl (xo rfl rfl ⟨⟨c0,cb.div c0⟩,bY rfl rfl (xo rfl rfl ⟨⟨c0,cb.div c0⟩,by show 2<=sizeLine;decide,fun t ht=>q _ _ f t _ (aj ht _) ac⟩)⟩)))
 ·have e:kP a b=bW a b:=if_neg c;rw[e] at c0 cb f;exact (bY rfl rfl (xo rfl rfl ⟨⟨c0,cb.div c0⟩,bY rfl rfl (xo rfl rfl ⟨⟨c0,cb.div c0⟩,by show 2<=sizeLine;decide,fun t ht=>q _ _ f t _ (aj ht _) ac⟩)⟩))
theorem DF {dV:Value} (F:bA K "is_fraction" "is_fraction" qW dV f fd) (DZ1:Dx P w K mg base bj 1 "is_whole" ["thing"] [] (Br K)) (DZ2:Dx P w K mg base bj 1 "divisor" ["one","other"] [] uN):a8 P w K mg base bj 2 f fd ["thing"] (u6 K):=by
 have sc:aB ["thing"] ["thing"] (au qW):=dP (by decide+kernel)
 refine F.ok sc (fun vs H Q E h=>?_) (fun cdv A outer s H vs Q E hr h=>?_)
 ·obtain ⟨_,_,rfl,_⟩:=h
  rfl
 obtain ⟨x,b,rfl,fk,q⟩:=h;refine ⟨_,(ae (aU (PW.pt (gG (b5 (bv (av (aX (K:=K) rfl) rfl B.Fk boot_isinstance (aa (pv 0) (aa (bE (v:= .ty "tuple") rfl B.GI boot_tuple rfl) af))))) (fh (aN iw (av aW rfl B.Fx boot_len (aa (pv 0) af)) ar (aK _))))) (ak (aC bH)) aG) (ae (aU (PW.pt (gG (b5 (bv (du DZ1 hr (aa (aD aL (pv 0) ar (fun _ _=>rfl)) af)))) (fh (b5 (bv (du DZ1 hr (aa (aD aL (pv 0) ar (fun _ _=>rfl)) af))))))) (ak (aC bH)) aG) (ak (aC (dQ (cF AY (aD aL (pv 0) ar (fun _ _=>rfl)) ar (aK _)) (fi (cF eO (du DZ2 hr (aa (aD aL (pv 0) ar (fun _ _=>rfl)) (aa (aD aL (pv 0) ar (fun _ _=>rfl)) af))) ar (aK _)))))))),?_⟩
 try dsimp only[cxK]
 cases fk with
 | @no _ t ty k=>exact ⟨_,rfl,bG x t "tuple" false ⟨rfl,ty,k,false,rfl,cU q⟩⟩
 | @len a ys e n=>
  refine ⟨_,rfl,bG _ _ "tuple" true ⟨rfl,.tup e,jF K,true,rfl,b4 ?_⟩⟩;exact ⟨_,rfl,bO a ys ⟨rfl,.inr (bS.of e),rfl,_,rfl,D4 n q⟩⟩
 | @top a y z e k=>
  refine ⟨_,rfl,bG _ _ "tuple" true ⟨rfl,.tup e,jF K,true,rfl,b4 ?_⟩⟩;refine ⟨_,rfl,bO a _ ⟨rfl,.inr (bS.of e),rfl,_,rfl,CG rfl ?_⟩⟩;exact ⟨_,rfl,bG _ _ _ _ ⟨rfl,rfl,(bS.of e),rfl,bO y false ⟨rfl,k,false,rfl,cU q⟩⟩⟩
 | @bot a y z e k k'=>
  refine ⟨_,rfl,bG _ _ "tuple" true ⟨rfl,.tup e,jF K,true,rfl,b4 ?_⟩⟩;refine ⟨_,rfl,bO a _ ⟨rfl,.inr (bS.of e),rfl,_,rfl,CG rfl ?_⟩⟩;exact ⟨_,rfl,bG _ _ _ _ ⟨rfl,rfl,(bS.of e),rfl,bO y true ⟨rfl,k,true,rfl,b4 ⟨_,rfl,bG _ _ _ _ ⟨rfl,rfl,(bS.of e),rfl,bO z false ⟨rfl,k',false,rfl,cU q⟩⟩⟩⟩⟩⟩
 | @two a p q' e=>
  refine ⟨_,rfl,bG _ _ "tuple" true ⟨rfl,.tup e,jF K,true,rfl,b4 ?_⟩⟩;refine ⟨_,rfl,bO a _ ⟨rfl,.inr (bS.of e),rfl,_,rfl,CG rfl ?_⟩⟩;refine ⟨_,rfl,bG _ _ _ _ ⟨rfl,rfl,(bS.of e),rfl,bO _ true ⟨rfl,u5 p,true,rfl,b4 ⟨_,rfl,bG _ _ _ _ ⟨rfl,rfl,(bS.of e),rfl,bO _ true ⟨rfl,u5 q',true,rfl,b4 ?_⟩⟩⟩⟩⟩⟩;refine ⟨_,rfl,bG _ _ _ _ ⟨rfl,rfl,(bS.of e),rfl,bO _ _ ⟨rfl,rfl,_,rfl,d2 (fun c=>?_) (fun c=>?_)⟩⟩⟩
  ·refine ⟨_,rfl,bG _ _ _ _ ⟨rfl,rfl,(bS.of e),rfl,_,rfl,bG _ _ _ _ ⟨rfl,rfl,(bS.of e),rfl,bO _ _ ⟨rfl,rfl,?_⟩⟩⟩⟩;have d:Q (.bl (decide (V.int (bW p q')=V.int 1))) H:=by
    have e2:decide (V.int (bW p q')=V.int 1)=(decide (1<=q')&&decide (bW p q'=1)):=by
     rw[decide_eq_true c,Bool.true_and]
     by_cases k:bW p q'=1
     ·rw[decide_eq_true k,decide_eq_true (vi k)]
     ·rw[decide_eq_false k,decide_eq_false fun z=>k (vj z)]
    rw[e2];exact q
   exact d
  ·have d:Q (.bl false) H:=by
    have e2:false=(decide (1<=q')&&decide (bW p q'=1)):=by
     rw[decide_eq_false c,Bool.false_and]
    rw[e2];exact q
   exact d
theorem DG {dV:Value} (F:bA K "plus" "plus" Dt dV f fd) (DZ3:Dx P w K mg base bj 2 "fraction" ["top","bottom"] [.int 1] sS):a8 P w K mg base bj 3 f fd ["one","other"] (pH K):=by
 have sc:aB ["one","other"] ["one","other"] (au Dt):=dP (by decide+kernel)
 refine F.ok sc (fun vs H Q E h=>?_) (fun cdv A outer s H vs Q E hr h=>?_)
 ·obtain ⟨_,_,_,_,_,_,rfl,_⟩:=h
  rfl
 obtain ⟨t,t',p,q,p',q',rfl,h1,h2,qq⟩:=h;refine ⟨_,(ak (aC (du DZ3 hr (aa (aA bV (aA bN (aD aL (pv 0) ar (fun _ _=>rfl)) (aD aL (pv 1) ar (fun _ _=>rfl))) (aA bN (aD aL (pv 1) ar (fun _ _=>rfl)) (aD aL (pv 0) ar (fun _ _=>rfl)))) (aa (aA bN (aD aL (pv 0) ar (fun _ _=>rfl)) (aD aL (pv 1) ar (fun _ _=>rfl))) af))))),?_⟩
 try dsimp only[cxK]
 exact ⟨_,rfl,bG _ _ _ _ ⟨rfl,rfl,h1.at_,rfl,_,rfl,bG _ _ _ _ ⟨rfl,rfl,h2.at_,rfl,bO _ _ ⟨rfl,rfl,h1.bp.ok h2.bq,_,rfl,bG _ _ _ _ ⟨rfl,rfl,h2.at_,rfl,_,rfl,cO _ _ _ ⟨_,rfl,rfl,h1.at_,rfl,_,_,rfl,rfl,h2.bp.ok h1.bq,_,_,rfl,rfl,_,rfl,_,_,_,_,rfl,rfl,h1.at_,rfl,_,rfl,_,_,_,_,rfl,rfl,h2.at_,rfl,_,_,rfl,rfl,h1.bq.ok h2.bq,_,_,rfl,uP h1.pos h2.pos,(h1.bq.mul h2.bq).mono (by decide),qq⟩⟩⟩⟩⟩⟩
theorem DH {dV:Value} (F:bA K "product" "product" Du dV f fd) (DZ3:Dx P w K mg base bj 2 "fraction" ["top","bottom"] [.int 1] sS):a8 P w K mg base bj 3 f fd ["one","other"] (qo K):=by
 have sc:aB ["one","other"] ["one","other"] (au Du):=dP (by decide+kernel)
 refine F.ok sc (fun vs H Q E h=>?_) (fun cdv A outer s H vs Q E hr h=>?_)
 ·obtain ⟨_,_,_,_,_,_,rfl,_⟩:=h
  rfl
 obtain ⟨t,t',p,q,p',q',rfl,h1,h2,qq⟩:=h;refine ⟨_,(ak (aC (du DZ3 hr (aa (aA bN (aD aL (pv 0) ar (fun _ _=>rfl)) (aD aL (pv 1) ar (fun _ _=>rfl))) (aa (aA bN (aD aL (pv 0) ar (fun _ _=>rfl)) (aD aL (pv 1) ar (fun _ _=>rfl))) af))))),?_⟩
 try dsimp only[cxK]
 exact ⟨_,rfl,bG _ _ _ _ ⟨rfl,rfl,h1.at_,rfl,_,rfl,bG _ _ _ _ ⟨rfl,rfl,h2.at_,rfl,bO _ _ ⟨rfl,rfl,h1.bp.ok h2.bp,_,rfl,bG _ _ _ _ ⟨rfl,rfl,h1.at_,rfl,_,rfl,cO _ _ _ ⟨_,rfl,rfl,h2.at_,rfl,_,_,rfl,rfl,h1.bq.ok h2.bq,_,_,rfl,uP h1.pos h2.pos,(h1.bq.mul h2.bq).mono (by decide),qq⟩⟩⟩⟩⟩⟩
theorem DI {dV:Value} (F:bA K "factor_of" "factor_of" Dv dV f fd) (DZ3:Dx P w K mg base bj 2 "fraction" ["top","bottom"] [.int 1] sS):a8 P w K mg base bj 3 f fd ["recipe","plates"] (pI Ev):=by
 have sc:aB ["recipe","plates"] ["recipe","plates"] (au Dv):=dP (by decide+kernel)
 refine F.ok sc (fun vs H Q E h=>?_) (fun cdv A outer s H vs Q E hr h=>?_)
 ·obtain ⟨_,_,_,_,rfl,_⟩:=h
  rfl
 obtain ⟨r,n,pl,ks,rfl,rc,p1,p2,q⟩:=h;obtain ⟨dr,lt,fs,er,ft,fp,tk⟩:=rc.ex;refine ⟨_,(ak (aC (du DZ3 hr (aa (pv 1) (aa (cp (pv 0) rfl) af))))),?_⟩;try dsimp only[cxK]
 exact (bY rfl rfl (bG r _ dr _ (xr rfl ⟨er,B.Ft,B.Gn,fp,_,xr rfl ⟨by lia,Bd.mono (m:=10) (by unfold Bd;show _<1024;lia) (by decide),q⟩⟩)))
theorem DJ {dV:Value} (F:bA K "is_name" "is_name" Dw dV f fd):a8 P w K mg base bj 1 f fd ["thing"] (oH K):=by
 have sc:aB ["thing","sign"] ["thing"] (au Dw):=dP (by decide+kernel)
 refine F.ok sc (fun vs H Q E h=>?_) (fun cdv A outer s H vs Q E hr h=>?_)
 ·obtain ⟨_,rfl,_⟩:=h
  rfl
 obtain ⟨x,rfl,h⟩:=h;refine ⟨_,(ae (aU (PW.pt (gG (b5 (bv (av (aX (K:=K) rfl) rfl B.Fk boot_isinstance (aa (pv 0) (aa (bE (v:= .ty "str") rfl B.GV boot_str rfl) af))))) (gG (aN lA (av iA rfl B.Fx boot_len (aa (pv 0) af)) ar (aK _)) (fh (aN nX (av iA rfl B.Fx boot_len (aa (pv 0) af)) (oG rfl B.GU) (aK _)))))) (ak (aC bH)) aG) (ae (bR PassesOwn.never rfl (zE (pv 0)) (im 1 sc) (ak (aU (aN mO (pv 1) (ve rfl B.G8) (by with_unfolding_all rfl)) (ak (aC bH)) aG))) (ak (aC bH)))),?_⟩
 try dsimp only[cxK]
 rcases h with ⟨z,rfl,hz,q1,q0⟩|⟨ty,hty,hk,q⟩
 ·have hz':z.length<=sizeLine:=EX hz (by decide)
  have hl:=m7 z;try dsimp only[aM,aR]
  refine cH (fun Nq=>1<=z.length->z.length<=12->Nq [some (.str z),none] H) (fun N hN=>?_) ?_
  ·refine (xr rfl (bG _ _ _ true ⟨rfl,.str _,rfl,xr rfl (b4 (xr rfl ⟨z,rfl,hz',xo rfl rfl (xr rfl (d2 (fun c=>?_) (fun c1=>(xr rfl ⟨z,rfl,hz',xo rfl rfl (xr rfl (d2 (fun c=>?_) (fun c2=>?_)))⟩))))⟩))⟩))
   ·exact q0 fun n=>by have:=n.1;lia
   ·exact q0 fun n=>by have:=n.2.1;lia
   ·exact hN (by lia) (by lia)
  intro l1 l2;refine (xr rfl ⟨z,rfl,xh (fun i σ H2=>H=H2/\(∃o,σ= [some (.str z),o])/\∀j c,j<i->z.cps[j]?=some c->97<=c/\c<=122) ⟨rfl,⟨_,rfl⟩,fun j c h=>absurd h (by lia)⟩ (fun i c σ H2 hc hP=>?_) (fun σ H2 hP=>?_)⟩)
  ·obtain ⟨rfl,⟨o,rfl⟩,hP⟩:=hP;refine (xr rfl (xo rfl rfl (xr rfl (DQ (fun e=>?_) (fun e=>?_)))))
   ·have e':=(rL c).symm.trans e;refine q0 fun n=>?_
    have:=n.2.2 c (E6 (show (sL z)[i]?=some c by rw[<-hc];exact Em))
    rw[decide_eq_true this] at e';cases e'
   ·have e':=(rL c).symm.trans e;refine ⟨rfl,⟨_,rfl⟩,fun j c' hj hc'=>?_⟩
    rcases ER.mp hj with k|k
    ·exact hP j c' k hc'
    ·subst k;rw[hc] at hc';cases hc';exact of_decide_eq_true e'
  ·obtain ⟨rfl,⟨o,rfl⟩,hP⟩:=hP;refine q1 ⟨by lia,by lia,fun c hc=>?_⟩
   obtain ⟨i,hi⟩:=EH.mp hc;have hi':z.cps[i]?=some c:=by rw[<-hi];exact Em.symm
   exact hP i c (by have:=(Array.getElem?_eq_some_iff.mp hi').1;exact this) hi'
 ·exact (xr rfl (bG _ _ _ false ⟨rfl,hty,hk,xr rfl (cU q)⟩))
theorem DK {dV:Value} (F:bA K "names_ahead" "names_ahead" Dy dV f fd):a8 P w K mg base bj 1 f fd ["parts","good"] rQ:=by
 have sc:aB ["parts","good","ahead","waiting","name","part"] ["parts","good"] (au Dy):=dP (by decide+kernel)
 refine F.ok sc (fun vs H Q E h=>?_) (fun cdv A outer s H vs Q E hr h=>?_)
 ·obtain ⟨_,_,_,_,rfl,_⟩:=h
  rfl
 obtain ⟨d,good,rows,ps,rfl,dd,ok,few,q⟩:=h;obtain ⟨rs,dr,ed,ndr,dnr⟩:=dd.ex;refine ⟨_,(ae (cA 2 sc (mS (jS (pv 1) dv mR) rfl rfl (by simp) (by decide))) (ae (cA 3 sc (bM (aa (pv 1) af))) (ae (eK PassesOwn.never (aN nX (av aW rfl B.Fx boot_len (aa (pv 3) af)) ar (aK _)) (ae (cA 4 sc (uF EZ PySem.F.slot_list_pop PySem.F.type_list_pop zc (pv 3))) (ak (vm (bR PassesOwn.never rfl (jG (fX (cf hr) (pv 0) (pv 4) cx ⟨rfl,rfl,rfl,rfl⟩)) (im 5 sc) (ak (aU (fT (eU (cf hr) (pv 5) (pv 2)) (by with_unfolding_all rfl)) (ae (cZ (cf hr) (pv 2) (pv 5) (pv 4) rfl) (ak (bx (eD EZ Ec Eb bC (pv 3) (aa (pv 5) af))))) aG))))))) (ak (aC (pv 2)))))),?_⟩
 try dsimp only[cxK]
 have slt:(6000:Nat)<sizeLine:=by decide
 refine fun ah na=>(xr rfl ⟨ac,[(.inr good,.non)],rfl,(by show 1<=15;decide),?_⟩)
 have ga:ax H (ay (ay H ah (.dK [])) ah (.dK (dm [] [((.inr good:Key),V.non)]))):=by
  rw[mE];exact aj na _
 have ea:(ay (ay H ah (.dK [])) ah (.dK (dm [] [((.inr good:Key),V.non)]))) ah=some (.dK (bc [(good,none)])):=ac;generalize ay (ay H ah (.dK [])) ah (.dK (dm [] [((.inr good:Key),V.non)]))=H0 at ga ea⊢;refine (xr rfl ⟨by show 1<=sizeLine;decide,fun wt nw=>?_⟩)
 have nwH:H wt=none:=ga.free nw;have g0:=ga.trans (aj nw (.lst [.str good]));have e0:ay H0 wt (.lst [.str good]) ah=some (.dK (bc [(good,none)])):=aj nw _ _ _ ea;have aw:ah≠wt:=fun z=>by rw[z,nw] at ea;cases ea
 try dsimp only[aM,aR]
 refine eM (fun σ H'=>ax H H'/\∃(es:List (Str×Option Str)) (ws:HN) (o4 o5:Option V),σ= [HV d,some (.str good),HV ah,HV wt,o4,o5]/\H' ah=some (.dK (bc es))/\H' wt=some (.lst (ws.map V.str))/\dE ps good es/\(∀y∈ws,y∈aS es)/\(∀y∈aS es,y∉ws->∀b,(y,b)∈ps->b∈aS es)/\2*(1002-(aS es).length)+ws.length<=5000)
  (fun (σ:L2.St) (H':Hp)=>match H' ah,H' wt with|some (.dK kvs),some (.lst xs)=>2*(1002-kvs.length)+xs.length|_,_=>0)
  ⟨g0,bG [(good,none)] [good] none none ⟨rfl,e0,ac,.start ps good few,fun y hy=>by simpa [aS] using hy,fun y hy n=>absurd (by simpa [aS] using hy) n,by show 2*(1002-1)+1<=5000;decide⟩⟩ ?_
  (fun σ H Q Q' m ⟨v,e,a,ys,e1,e2,i,j,e3,e4,k,hk,h2⟩=>⟨v,e,bO a ys ⟨e1,e2,bO i j ⟨e3,e4,k,hk,m _ _ h2⟩⟩⟩)
 intro σ H1 h_;refine fQ h_ fun g1 _hi=>?_
 refine io _hi fun es ws o4 o5 _hj=>?_
 refine iV _hj fun _r1 e1 w1 ab wsub _hk=>?_
 refine fQ _hk fun cl mes=>?_
 clear h_ _hi _hj _hk;subst _r1;refine (xr rfl ⟨wt,xr rfl ⟨.inl (aQ.of w1),xo rfl rfl (xr rfl (d2 (fun c=>?_) (fun c=>?_)))⟩⟩)
 ·rcases List.eq_nil_or_concat ws with rfl|⟨ws0,nm,rfl⟩
  ·simp at c
  rw[List.concat_eq_append] at*;have nmk:nm∈aS es:=wsub nm (by simp)
  have wl:(ws0++ [nm]).length=ws0.length+1:=by simp
  refine (xr rfl ⟨.inl ⟨rfl,_,aQ.of w1⟩,cO wt _ (.str nm) ⟨rfl,rfl,w1,by simp,?_⟩⟩)
  have w2:((ws0++ [nm]).map V.str).dropLast=ws0.map V.str:=by simp
  rw[w2];have g2:=dM (o:= .lst (ws0.map V.str)) g1 nwH;have e2:ay H1 wt (.lst (ws0.map V.str)) ah=some (.dK (bc es)):=by rw[ag aw];exact e1
  have w2':ay H1 wt (.lst (ws0.map V.str)) wt=some (.lst (ws0.map V.str)):=ac;generalize ay H1 wt (.lst (ws0.map V.str))=H2 at g2 e2 w2'⊢;refine (xr rfl ⟨d,rfl,.inl ⟨_,.inl (g2 _ _ ed)⟩,xr rfl (fun pn hn=>⟨_,cT.k (k:= .inr nm) (aj hn _ _ _ (g2 _ _ ed)),?_⟩)⟩)
  have g3:=g2.trans (aj hn (.dK []));have e3:=aj hn (.dK []) _ _ e2;have w3:=aj hn (.dK []) _ _ w2';have hnH:H pn=none:=g2.free hn;obtain ⟨rw_,ys,hx,hr,hH,ysl,ym,ra,rw1⟩:∃(r:Addr) (ys:HN),(aP (dH rows rs) (.inr nm)).getD (.ref pn)= .ref r/\(ay H2 pn (.dK [])) r=some (.dK (aY ys (.bl true)))/\(H r=none∨H r=some (.dK (aY ys (.bl true))))/\ys.length<=1000/\(∀b,b∈ys↔(nm,b)∈ps)/\r≠ah/\r≠wt:=by
   rcases zN (x:=nm) dr ndr ok with ⟨hv,no⟩|⟨r,ys,hv,_,hH,hl,_,hm⟩
   ·rw[hv];exact (bO pn [] ⟨rfl,ac,.inl hnH,by simp,fun b=>⟨fun h=>by simp at h,fun h=>absurd h (no b)⟩,(fun z=>by rw[z,e2] at hn;cases hn),(fun z=>by rw[z,w2'] at hn;cases hn)⟩)
   ·rw[hv];exact (bO r ys ⟨rfl,g3 _ _ hH,.inr hH,by lia,hm,(fun z=>by rw[z,na] at hH;cases hH),(fun z=>by rw[z,nwH] at hH;cases hH)⟩)
  rw[hx];generalize ay H2 pn (.dK [])=H3 at g3 e3 w3 hr⊢;refine ⟨rw_,xr rfl ⟨hr,fun o nf=>?_⟩⟩
  have fah:ay H rw_ (.frz o (.dK (aY ys (.bl true)))) ah=none:=by rw[ag (Ne.symm ra)];exact na
  have fwt:ay H rw_ (.frz o (.dK (aY ys (.bl true)))) wt=none:=by rw[ag (Ne.symm rw1)];exact nwH
  refine vq (kvs:=aY ys (.bl true)) (fun i σ H4=>ax (ay H rw_ (.frz o (.dK (aY ys (.bl true))))) H4/\∃(es':List (Str×Option Str)) (ws':HN) (o5:Option V),σ= [HV d,some (.str good),HV ah,HV wt,some (.str nm),o5]/\H4 ah=some (.dK (bc es'))/\H4 wt=some (.lst (ws'.map V.str))/\dE ps good es'/\nm∈aS es'/\(∀y∈ws',y∈aS es')/\(∀y∈aS es',y≠nm->y∉ws'->∀b,(y,b)∈ps->b∈aS es')/\(∀(j:Nat) (b:Str),j<i->ys[j]?=some b->b∈aS es')/\2*(1002-(aS es').length)+ws'.length<=2*(1002-(aS es).length)+ws0.length)
   ⟨vz g3 _ _,cO es ws0 o5 ⟨rfl,by rw[ag (Ne.symm ra)];exact e3,by rw[ag (Ne.symm rw1)];exact w3,ab,nmk,fun y hy=>wsub y (by simp[hy]),fun y hy hn hw=>cl y hy (by simp[hn,hw]),fun j b h=>absurd h (by lia),E4 _⟩⟩
   (fun i σ H4 _ h=>h.1 _ _ ac) ?_ ?_
  ·intro i k x σ H4 hk h_;refine fQ h_ fun g4 _hi=>?_
   refine AI _hi fun es' ws' o5 _hj=>?_
   refine iW _hj fun _r1 e4 w4 ab' nm' wsub' cl' pr' mes'=>?_
   clear h_ _hi _hj;subst _r1;obtain ⟨b,hb,rfl⟩:=xw hk;have hbp:(nm,b)∈ps:=(ym b).mp (E6 hb);have rm:=ab'.room;refine (bY rfl rfl ⟨ah,xr rfl ⟨cT.k (k:= .inr b) e4,xr rfl ?_⟩⟩);rw[jb];refine DQ (fun hf=>?_) (fun ht=>?_)
   ·have nb:=of_decide_eq_false hf;refine (gn rfl rfl rfl ⟨ah,xr rfl ⟨eT.k (k:= .inr b) e4 (by rw[fG];lia),?_⟩⟩)
    rw[tL nb];have w5:ay H4 ah (.dK (bc (es'++ [(b,some nm)]))) wt=some (.lst (ws'.map V.str)):=by rw[ag (Ne.symm aw)];exact w4
    have g5:=dM (o:= .dK (bc (es'++ [(b,some nm)]))) g4 fah;have nk:=fH es' b (some nm);refine (xr rfl ⟨.inl ⟨rfl,_,aQ.of w5⟩,xr rfl ⟨wt,xo rfl rfl ⟨w5,by rw[E3];lia,?_⟩⟩⟩)
    refine ⟨dM g5 fwt _,bO (es'++ [(b,some nm)]) (ws'++ [b]) (xr rfl ⟨by rw[ag aw];exact ac,by rw[ac,Ed];rfl,ab'.add nm' nb hbp,by rw[nk];simp[nm'],fun y hy=>?_,fun y hy hn hw c hc=>?_,fun j c hj hc=>?_,?_⟩)⟩
    ·rw[nk];rcases EK.mp hy with k|k
     ·simp[wsub' y k]
     ·simp at k;simp[k]
    ·rw[nk] at hy⊢;simp at hw;rcases EK.mp hy with k|k
     ·simp[cl' y k hn hw.1 c hc]
     ·simp at k;exact absurd k hw.2
    ·rw[nk];rcases ER.mp hj with k|rfl
     ·simp[pr' j c k hc]
     ·rw[hb] at hc;cases hc;simp
    ·rw[nk];simp only[E8,Ep,List.length_nil]
     lia
   ·have ib:=of_decide_eq_true ht;refine ⟨g4,bO es' ws' (xr rfl ⟨e4,w4,ab',nm',wsub',cl',fun j c hj hc=>?_,mes'⟩)⟩
    rcases ER.mp hj with k|rfl
    ·exact pr' j c k hc
    ·rw[hb] at hc;cases hc;exact ib
  ·intro σ H4 h_;refine fQ h_ fun g4 _hi=>?_
   refine AI _hi fun es' ws' o5 _hj=>?_
   refine iW _hj fun _r1 e4 w4 ab' nm' wsub' cl' pr' mes'=>?_
   clear h_ _hi _hj;subst _r1;rw[b8] at pr';have e5:ay H4 rw_ (.dK (aY ys (.bl true))) ah=some (.dK (bc es')):=by rw[ag (Ne.symm ra)];exact e4
   have w5:ay H4 rw_ (.dK (aY ys (.bl true))) wt=some (.lst (ws'.map V.str)):=by rw[ag (Ne.symm rw1)];exact w4
   refine (cO rw_ o (aY ys (.bl true)) ⟨g4 _ _ ac,nf,⟨fun b' u hb'=>?_,bG es' ws' _ o5 ⟨rfl,e5,w5,ab',wsub',fun y hy hw b hb=>?_,by simp only[E8,Ep,List.length_nil] at mes;lia⟩⟩,?_⟩)
   ·by_cases z:b'=rw_
    ·subst z;rcases hH with k|k
     ·rw[k] at hb';cases hb'
     ·rw[k] at hb';cases hb';exact ac
    ·rw[ag z];exact g4 _ _ (by rw[ag z];exact hb')
   ·by_cases z:y=nm
    ·subst z;obtain ⟨j,hj⟩:=EH.mp ((ym b).mpr hb);exact pr' j b (E2.mp hj).1 hj
    ·exact cl' y hy z hw b hb
   ·rw[e5,w5,e1,w1];show 2*(1002-(bc es').length)+(ws'.map V.str).length<2*(1002-(bc es).length)+((ws0++ [nm]).map V.str).length;rw[fG,fG,E3,E3,E8];simp only[Ep,List.length_nil]
    lia
 ·have wz:ws= []:=by
   rw[E3] at c;exact F9 (by lia)
  subst wz;exact (xr rfl (q ah H1 es g1 e1 ⟨ab,fun y=>⟨ab.led y,fun l=>l.closed (S:=fun y=>y∈aS es) ab.good fun a b ha hab=>cl a ha (by simp) b hab⟩⟩))
theorem BU {dV:Value} (F:bA K "chain_to" "chain_to" Ac dV f fd):a8 P w K mg base bj 1 f fd ["ahead","goal"] yK:=by
 have sc:aB ["ahead","goal","chain","name"] ["ahead","goal"] (au Ac):=dP (by decide+kernel)
 refine F.ok sc (fun vs H Q E h=>?_) (fun cdv A outer s H vs Q E hr h=>?_)
 ·obtain ⟨_,_,_,_,_,rfl,_⟩:=h
  rfl
 obtain ⟨ah,goal,good,ps,es,rfl,ea,ab,hg,q⟩:=h;refine ⟨_,(ae (cA 2 sc (bM af)) (ae (cA 3 sc (pv 1)) (ae (eK PassesOwn.never (aN jC (pv 3) dv (aK _)) (ae (bx (eD EZ Ec Eb bC (pv 2) (aa (pv 3) af))) (ak (cA 3 sc (iE (cf hr) (pv 0) (pv 3) (fun _ _=>rfl)))))) (ak (aC (gW rfl rfl B.Go rfl B.GC boot_list PyProof.Rows.Boot.«reversed» (pv 2))))))),?_⟩
 try dsimp only[cxK]
 have slt:(3000:Nat)<sizeLine:=by decide
 have kl:(aS es).length=es.length:=by simp[aS]
 have rm:=ab.room;refine ⟨(by show 0<=sizeLine;lia),fun lc nl=>?_⟩
 have g0:=aj nl (.lst []);refine (xr rfl ?_);try dsimp only[aM,aR]
 refine eM (fun σ H'=>ax H H'/\∃(rc:HN) (o:Option Str),σ= [HV ah,some (.str goal),HV lc,some (qB o)]/\H' lc=some (.lst (rc.map V.str))/\Back ps good goal es rc o)
  (fun (σ:L2.St) (H':Hp)=>oP es σ[3]?)
  ⟨g0,bO [] (some goal) ⟨rfl,ac,.start hg⟩⟩ ?_
  (fun σ H Q Q' m ⟨v,e,e2,b,hb,h2⟩=>⟨v,e,e2,b,hb,m _ _ h2⟩)
 rintro σ H1 ⟨g1,rc,o,rfl,e1,bk⟩;refine (xr rfl ⟨rfl,xr rfl ?_⟩);cases o with
 |none=>
  refine b4 (xr rfl ⟨lc,xr rfl ⟨aQ.of e1,fun p hp=>q p _ rc.reverse (g1.trans (aj hp _)) (g1.free hp) (by rw[ac,List.map_reverse]) (bk.way ab)⟩⟩)
 |some y=>
  obtain ⟨i,oy,hi,_,_,hl⟩:=bk.nxt y rfl;have al:ah≠lc:=fun z=>by rw[z,nl] at ea;cases ea
  refine cU (xr rfl ⟨.inl ⟨rfl,_,aQ.of e1⟩,xr rfl ⟨lc,xo rfl rfl ⟨e1,by rw[E3];lia,?_⟩⟩⟩)
  refine (bY rfl rfl ⟨ah,xr rfl ⟨(by rw[<-vy ab.nd hi];exact cT.k (k:= .inr y) (by rw[ag al];exact g1 _ _ ea)),⟨dM g1 nl _,bO (rc++ [y]) oy ⟨rfl,by rw[ac,Ed];rfl,bk.step ab hi⟩⟩,vA ab hi⟩⟩)
theorem BV {dV:Value} (F:bA K "chain_down" "chain_down" Ad dV f fd) (DZ9:Dx P w K mg base bj 1 "names_ahead" ["parts","good"] [] rQ) (DZ10:Dx P w K mg base bj 1 "chain_to" ["ahead","goal"] [] yK):a8 P w K mg base bj 2 f fd ["parts","good","goals"] gY:=by
 have sc:aB ["parts","good","goals","ahead","found"] ["parts","good","goals"] (au Ad):=dP (by decide+kernel)
 refine F.ok sc (fun vs H Q E h=>?_) (fun cdv A outer s H vs Q E hr h=>?_)
 ·obtain ⟨_,_,_,_,_,_,rfl,_⟩:=h
  rfl
 refine mD h fun d lg good rows ps gs _hi=>?_
 refine iV _hi fun _r1 dd ok few hg _hj=>?_
 refine fQ _hj fun q1 q2=>?_
 clear h _hi _hj;subst _r1;refine ⟨_,(ae (cA 3 sc (du DZ9 hr (aa (pv 0) (aa (pv 1) af)))) (ae (vm (lY sc.nd (i:=4) rfl rfl (own:= "name") (ys:= ["goals"]) (js:= [2]) rfl (xg (yG xf) (.cons rfl .nil) (by decide) rfl rfl rfl rfl rfl rfl rfl rfl) (jG (pv 3)) (fun C fp s H=>(aN (zO (K:=K) rfl) (pv 0) (pv 1) (by with_unfolding_all rfl))) (fun C fp s H=>(pv 0)))) (ae (aU (aN eO (av aW rfl B.Fx boot_len (aa (pv 4) af)) ar (aK _)) (ak (aC dv)) aG) (ak (aC (du DZ10 hr (aa (pv 3) (aa (aD aO (pv 4) ar (fun _ _=>rfl)) af)))))))),?_⟩
 try dsimp only[cxK]
 have slt:(3000:Nat)<sizeLine:=by decide
 refine (bY rfl rfl (bG d good rows ps ⟨rfl,dd,ok,few,fun ah H1 es g1 e1 ao=>?_⟩))
 have rm:=ao.base.room;have kl:=fG es;have l1:=g1 _ _ hg;have la:lg≠ah:=fun z=>by rw[z,e1] at l1;cases l1
 refine (xr rfl ⟨ah,xr rfl ⟨e1,fun o nf=>?_⟩⟩)
 refine ju (xA gs) ac (by lia) (fun i k x hk H3 g3 R hR=>?_) (fun p H' g' e'=>?_)
 ·have hk':=hk;unfold bc at hk';rw[EA] at hk';cases he:es[i]? with
  |none=>rw[he] at hk';cases hk'
  |some e=>
   rw[he] at hk';cases hk';refine (bY rfl rfl ⟨lg,xr rfl ⟨.inl (aQ.of (g3 _ _ (by rw[ag la];exact l1))),rfl,tM gs,xr rfl ?_⟩⟩)
   show R (y9 (.str e.1) (gs.map V.str)) H3;rw[rR];exact hR
 ·have fa:=g' _ _ ac;have pa:p≠ah:=fun z=>by rw[z,fa] at e';cases e'
  have g2:ax H (ay H' ah (.dK (bc es))):=fun b u hb=>by
   by_cases z:b=ah
   ·subst z;have:=(g1 _ _ hb).symm.trans e1;cases this;exact ac
   ·rw[ag z];exact g' _ _ (by rw[ag z];exact g1 _ _ hb)
  have e2:ay H' ah (.dK (bc es)) ah=some (.dK (bc es)):=ac;rw[oS] at e';have p2:ay H' ah (.dK (bc es)) p=some (.lst (((aS es).filter fun y=>decide (y∈gs)).map V.str)):=by rw[ag pa];exact e'
  refine (cO ah o (bc es) ⟨fa,nf,?_⟩);generalize ay H' ah (.dK (bc es))=H2 at g2 e2 p2⊢;clear g' e' fa;have mem:∀y,y∈((aS es).filter fun y=>decide (y∈gs))↔y∈aS es/\y∈gs:=fun y=>by simp[FL]
  have hd:good∈gs->∃r,((aS es).filter fun y=>decide (y∈gs))=good::r:=fun hin=>by
   have k0:=iK ao.base.first;cases ek:aS es with
   |nil=>rw[ek] at k0;simp at k0
   |cons c r=>
    rw[ek] at k0;simp at k0;subst k0;exact ⟨_,List.filter_cons_of_pos (by exact decide_eq_true hin)⟩
  generalize ((aS es).filter fun y=>decide (y∈gs))=fs at p2 mem hd
  refine (xr rfl ⟨p,xr rfl ⟨.inl (aQ.of p2),rfl,xr rfl ?_⟩⟩);cases fs with
  |nil=>exact cU (q1 H2 g2 fun y hy l=>by simpa using (mem y).mpr ⟨(ao.all y).mpr l,hy⟩)
  |cons c r=>
   have hc:=(mem c).mp (F7);refine dF (p:=V.int (((c::r).map V.str).length:Int)=V.int 0) (fun z=>by injection z with z;simp at z;lia) ?_
   refine (bY rfl rfl (bG p _ 0 (.str c) ⟨rfl,rfl,aQ.of p2,(show fw ((c::r).map V.str) ((0:Nat):Int)=some (.str c) from bI rfl),bG ah c good ps ⟨es,⟨rfl,e2,ao.base,hc.1,fun l H3 cs g3 nl3 e3 wy=>?_⟩⟩⟩))
   exact q2 l H3 cs c (g2.trans g3) (g2.free nl3) e3 wy hc.2 ((ao.all c).mp hc.1) fun hin=>by
    obtain ⟨r',hr'⟩:=hd hin;cases hr'
    rfl
theorem BW {dV:Value} (F:bA K "ways_out" "ways_out" Ae dV f fd) (DZ3:Dx P w K mg base bj 2 "fraction" ["top","bottom"] [.int 1] sS) (DZ6:Dx P w K mg base bj 3 "product" ["one","other"] [] (qo K)):a8 P w K mg base bj 4 f fd ["stands","good"] (yJ K):=by
 have sc:aB ["stands","good","pairs","reached","place","chain","ratio","others","name"] ["stands","good"] (au Ae):=dP (by decide+kernel)
 refine F.ok sc (fun vs H Q E h=>?_) (fun cdv A outer s H vs Q E hr h=>?_)
 ·obtain ⟨_,_,_,_,_,_,_,_,rfl,_⟩:=h
  rfl
 refine mD h fun d good b m vw g _hi=>?_
 refine wp _hi fun U Rt _hj=>?_
 refine iW _hj fun _r1 hd hU lU m1 b1 bm rt0 _hk=>?_
 refine fQ _hk fun rts q=>?_
 clear h _hi _hj _hk;subst _r1;refine ⟨_,(ae (cA 2 sc (bM (aa (cg (aa (bM (aa (pv 1) af)) (aa (xc DZ3 hr (by decide) rfl (aa ar af)) af))) af))) (ae (cA 3 sc (mS (jS (pv 1) bH mR) rfl rfl (by simp) (by decide))) (ae (cA 4 sc ar) (ae (eK PassesOwn.never (aN lA (pv 4) (av aW rfl B.Fx boot_len (aa (pv 2) af)) (aK _)) (ae (cA 5 sc (aD aL (aD aO (pv 2) (pv 4) (fun _ _=>rfl)) ar (fun _ _=>rfl))) (ae (cA 6 sc (aD aL (aD aO (pv 2) (pv 4) (fun _ _=>rfl)) ar (fun _ _=>rfl))) (ae (cA 7 sc (fX (cf hr) (pv 0) (aD aO (pv 5) (jM gM ar) (fun _ _=>rfl)) cx ⟨rfl,rfl,rfl,rfl⟩)) (ae (bR PassesOwn.never rfl (ce (av (gj rfl) rfl B.GJ PyProof.Rows.Boot.«sorted» (aa (pv 7) af))) (im 8 sc) (ak (aU (fT (eU (cf hr) (pv 8) (pv 3)) (by with_unfolding_all rfl)) (ae (cZ (cf hr) (pv 3) (pv 8) bH rfl) (ak (bx (eD EZ Ec Eb bC (pv 2) (aa (cg (aa (aA qh (pv 5) (bM (aa (pv 8) af))) (aa (du DZ6 hr (aa (pv 6) (aa (iE (cf hr) (pv 7) (pv 8) (fun _ _=>rfl)) af))) af))) af))))) aG))) (ak (yY (i:=4) sc.nd rfl (Or.inl rfl) ar yZ))))))) (ak (aC (pv 2))))))),?_⟩
 try dsimp only[cxK]
 have sl:sizeLine=16777216:=sizeLine_eq;refine (xr rfl ⟨by show 1<=sizeLine;decide,fun c0 n0=>(bO 1 1 ⟨rfl,by decide,(by unfold Bd;decide),fun p0 q0 f0 r0 H1 g1 e1=>⟨by show 2<=sizeLine;decide,fun t0 nt0=>⟨by show 1<=sizeLine;decide,fun l nl=>?_⟩⟩⟩)⟩)
 obtain ⟨rfl,rfl⟩:=zQ f0;have gA:=aj n0 (.lst [V.str good]);have gB:=gA.trans g1;have gC:=gB.trans (aj nt0 (.tup [.ref c0,.ref r0]));have gD:=gC.trans (aj nl (.lst [.ref t0]));have nlH:H l=none:=gC.free nl;have wt:pR K b Rt (fun c=>H c=none) (ay (ay H1 t0 (.tup [.ref c0,.ref r0])) l (.lst [.ref t0])) [t0] [[good]]:=by
  have k1:=aj nt0 (.tup [.ref c0,.ref r0]);have k2:=aj nl (.lst [.ref t0]);refine pR.snoc (ts:= []) (cs:= []) ⟨rfl,fun i t c h=>nomatch h⟩ (k2 _ _ ac) (k2 _ _ (k1 _ _ (g1 _ _ ac))) ?_ rt0 n0 (k2 _ _ (k1 _ _ e1))
  have b2:0<b*1:=by lia
  have b3:Bd (b*1) 1:=by unfold Bd;exact Nat.one_lt_two_pow (by lia)
  exact ⟨bS.of (k2 _ _ (k1 _ _ e1)),by decide,b3,b3⟩
 have el:ay (ay H1 t0 (.tup [.ref c0,.ref r0])) l (.lst [.ref t0]) l=some (.lst (([t0]:HP).map V.ref)):=ac;generalize ay (ay H1 t0 (.tup [.ref c0,.ref r0])) l (.lst [.ref t0])=H2 at gD wt el⊢;refine fun rd nr=>(xr rfl ⟨ac,[(.inr good,.bl true)],rfl,(by show 1<=15;decide),?_⟩)
 have g3:ax H2 (ay (ay H2 rd (.dK [])) rd (.dK (dm [] [((.inr good:Key),V.bl true)]))):=by
  rw[mE];exact aj nr _
 have er:(ay (ay H2 rd (.dK [])) rd (.dK (dm [] [((.inr good:Key),V.bl true)]))) rd=some (.dK (aY [good] (.bl true))):=ac;generalize ay (ay H2 rd (.dK [])) rd (.dK (dm [] [((.inr good:Key),V.bl true)]))=H3 at g3 er⊢;have nrH:H rd=none:=gD.free nr;have gE:=gD.trans g3;have wt3:=wt.same g3;have el3:=g3 _ _ el;clear gA gB gC gD g3 wt el nt0 nl n0 g1 e1 nr f0;try dsimp only[aM,aR]
 refine cH (fun Nq=>Nq [some (.ref d),some (.str good),some (.ref l),some (.ref rd),some (.int 0),none,none,none,none] H3) (fun N hN=>hN) ?_
 refine eM (fun σ H'=>ax H H'/\∃(i:Nat) (cs:List HN) (ts:HP) (ks:HN) (o5 o6 o7 o8:Option V),σ= [HV d,some (.str good),HV l,HV rd,some (.int i),o5,o6,o7,o8]/\H' l=some (.lst (ts.map V.ref))/\pR K b Rt (fun c=>H c=none) H' ts cs/\fO (rZ g) good cs i (fun _=>False)/\H' rd=some (.dK (aY ks (.bl true)))/\(∀x,x∈ks↔x∈cs.map aI)/\ks.length<=cs.length/\i<=cs.length)
  (fun (σ:L2.St) (_:Hp)=>match σ[4]? with|some (some (V.int i))=>U.length+2-i.toNat|_=>0) ⟨gE,fR 0 [[good]] [t0] [good] none none (bO none none ⟨rfl,el3,wt3,fO.start,er,fun x=>Iff.rfl,E4 _,EO _⟩)⟩ ?_ (fun σ H Q Q' mm h=>?_)
 ·intro σ H4 h_;refine fQ h_ fun g4 _hi=>?_
  refine mD _hi fun i cs ts ks o5 o6 _hj=>?_
  refine wp _hj fun o7 o8 _hk=>?_
  refine iV _hk fun _r1 el4 wt4 bf er4 _hl=>?_
  refine jz _hl fun hk lk ic=>?_
  clear h_ _hi _hj _hk _hl;subst _r1;have few:=bf.few hU;have lt:(ts.map V.ref).length=cs.length:=by rw[E3,wt4.1]
  refine (bY rfl rfl ⟨l,xr rfl ⟨.inl (aQ.of el4),xo rfl rfl (xr rfl (d2 (fun c=>?_) (fun c=>?_)))⟩⟩)
  ·have il:i<cs.length:=by lia
   have hc:=E1 il;generalize cs[i]=ch at hc;have ht:=E1 (show i<ts.length by rw[wt4.1];exact il)
   generalize ts[i]'(by rw[wt4.1];exact il)=t at ht
   obtain ⟨cl,rl,p,q',et,ecl,frl,rtc,_⟩:=wt4.2 i t ch ht hc;have at1:fw (ts.map V.ref) (i:Int)=some (.ref t):=bI (cD ht);have cn:=bf.ne hc;have clen:=bf.long i ch hc;refine (bY rfl rfl (xl rfl rfl (aQ.of el4) at1 (xl rfl rfl (bS.of et) rfl ?_)));refine (bY rfl rfl (xl rfl rfl (aQ.of el4) at1 (xl rfl rfl (bS.of et) rfl ?_)));try dsimp only[aM,aR]
   refine cut (fun σ H'=>ax H4 H'/\∃(oa:Addr) (row:List (Str×Addr)),σ= [HV d,some (.str good),HV l,HV rd,some (.int i),HV cl,HV rl,HV oa,o8]/\H' oa=some (.dK (cV row))/\(row.map (·.1)).Nodup/\row.length<=200/\∀y t,g (aI ch) y=some t↔(y,t)∈row) (fun N hN=>?_) ?_
   ·obtain ⟨kvs,ed,hx⟩:=(hd.same g4).ex;refine (xr rfl ⟨d,rfl,.inl ⟨_,.inl ed⟩,bY rfl rfl (xl rfl rfl (aQ.of ecl) (fc cn) (fun pn hn=>⟨_,cT.k (k:= .inr (aI ch)) (aj hn _ _ _ ed),?_⟩))⟩)
    rcases hx (aI ch) with ⟨z1,z2⟩|⟨a,row,q1,q2,q3,q4,q5⟩
    ·rw[z1];exact hN _ _ ⟨aj hn _,bO pn [] ⟨rfl,ac,by simp,EO _,fun y t=>by rw[z2];simp⟩⟩
    ·rw[q1];exact hN _ _ ⟨aj hn _,bO a row ⟨rfl,aj hn _ _ _ q2,q3,q4,q5⟩⟩
   rintro σ H5 ⟨g5,oa,row,rfl,eoa,nd,lr,hrow⟩;try dsimp only[aM,aR]
   refine cut (fun σ H'=>ax H H'/\∃(cs':List HN) (ts':HP) (ks':HN) (o8:Option V),σ= [HV d,some (.str good),HV l,HV rd,some (.int i),HV cl,HV rl,HV oa,o8]/\H' l=some (.lst (ts'.map V.ref))/\pR K b Rt (fun c=>H c=none) H' ts' cs'/\fO (rZ g) good cs' (i+1) (fun _=>False)/\H' rd=some (.dK (aY ks' (.bl true)))/\(∀x,x∈ks'↔x∈cs'.map aI)/\ks'.length<=cs'.length/\i<cs'.length) (fun N hN=>?_) ?_
   ·refine (xr rfl (bO oa _ (xr rfl ⟨eoa,mi row,nd,(by have:=Wo.e9 nd (fun y hy=>by obtain ⟨⟨y',t'⟩,h,e⟩:=EF.mp hy;cases e;exact hU _ _ ⟨t',(hrow _ _).mpr h⟩);lia),fun sp ys nsp perm srt=>⟨sp,rfl,⟨_,aQ.of ac⟩,?_⟩⟩)))
    have g6:=g5.trans (aj nsp (.lst (ys.map V.str)));have spl:sp≠l:=fun e=>by rw[e,g5 _ _ el4] at nsp;cases nsp
    have spr:sp≠rd:=fun e=>by rw[e,g5 _ _ er4] at nsp;cases nsp
    have esp:ay H5 sp (.lst (ys.map V.str)) sp=some (.lst (ys.map V.str)):=ac;have eoa6:=aj nsp (.lst (ys.map V.str)) _ _ eoa;generalize ay H5 sp (.lst (ys.map V.str))=H6 at g6 esp eoa6⊢;have g46:=g4.trans g6;have el6:=g6 _ _ el4;have er6:=g6 _ _ er4;have ecl6:=g6 _ _ ecl;have frl6:=frl.same g6;have wt6:=wt4.same g6;have kn:ks≠ []:=fun e=>by
     have:=(hk good).mpr (EF.mpr ⟨[good],E6 bf.first,rfl⟩);rw[e] at this;cases this
    have oal:oa≠l:=cJ eoa6 el6 (fun z=>nomatch z)
    have oar:oa≠rd:=cJ eoa6 er6 (fun z=>by injection z with z;exact xH kn z)
    have cll:cl≠l:=cJ ecl6 el6 (fun z=>by injection z with z;exact mj cn z)
    have clr:cl≠rd:=cJ ecl6 er6 (fun z=>nomatch z)
    have pw:=So.jd srt;have yin:∀y,y∈ys↔y∈row.map (·.1):=fun y=>perm.mem_iff
    refine cv (xs:=ys.map V.str) (fun j σ H'=>ax H H'/\c8 l rd H6 H'/\∃(cs':List HN) (ts':HP) (ks':HN) (o8:Option V),σ= [HV d,some (.str good),HV l,HV rd,some (.int i),HV cl,HV rl,HV oa,o8]/\H' l=some (.lst (ts'.map V.ref))/\pR K b Rt (fun c=>H c=none) H' ts' cs'/\fO (rZ g) good cs' i (fun z=>z∈ys.take j)/\cs'[i]?=some ch/\H' rd=some (.dK (aY ks' (.bl true)))/\(∀x,x∈ks'↔x∈cs'.map aI)/\ks'.length<=cs'.length) ?_ ?_ ?_ ?_
    ·refine ⟨g46,c8.refl _ _ _,bG cs ts ks o8 ⟨rfl,el6,wt6,?_,hc,er6,hk,lk⟩⟩;rw[show (fun z=>z∈ys.take 0)=(fun _:Str=>False) by funext z;simp]
     exact bf
    ·rintro j σ H' hj ⟨_,sb,_⟩;exact aQ.of (sb _ _ spl spr esp)
    ·intro j x σ H7 hx h_;refine jz h_ fun g7 sb _hi=>?_
     refine io _hi fun cs' ts' ks' o8 _hj=>?_
     refine iV _hj fun _r1 el7 wt7 bf7 hc7 _hk=>?_
     refine jz _hk fun er7 hk7 lk7=>?_
     clear h_ _hi _hj _hk;subst _r1;rw[EA] at hx;obtain ⟨y,hy,rfl⟩:=Et.mp hx;have ym:=E6 hy;obtain ⟨⟨y',t'⟩,ht',e⟩:=EF.mp ((yin y).mp ym);cases e;have gy:=(hrow y' t').mpr ht';have tk:(fun z=>z∈ys.take (j+1))=fun z=>z∈ys.take j∨z=y':=by
      funext z
      rw[List.take_add_one,hy];simp
     have few7:=bf7.few hU;refine (bY rfl rfl ⟨rd,xr rfl ⟨cT.k (k:= .inr y') er7,xr rfl ?_⟩⟩);rw[f9]
     by_cases hin:y'∈ks'
     ·rw[if_pos hin];refine b4 ⟨g7,sb,cO cs' ts' ks' (xr rfl ⟨el7,wt7,?_,hc7,er7,hk7,lk7⟩)⟩;rw[tk];exact bf7.seen hc7 ((hk7 y').mp hin)
     ·rw[if_neg hin];have hny:y'∉cs'.map aI:=fun z=>hin ((hk7 y').mpr z)
      refine cU (bY rfl rfl ⟨rd,xr rfl ⟨eT.k (k:= .inr y') er7 (by rw[b8];lia),?_⟩⟩)
      rw[eZ];have lrd:l≠rd:=cJ el7 er7 (fun z=>nomatch z)
      have nz:∀c∈cs',c≠ []:=fun c hc'=>by
       obtain ⟨k,hk'⟩:=EH.mp hc';exact bf7.ne hk'
      have el8:ay H7 rd (.dK (aY (cu ks' y') (.bl true))) l=some (.lst (ts'.map V.ref)):=by rw[ag lrd];exact el7
      have er8:ay H7 rd (.dK (aY (cu ks' y') (.bl true))) rd=some (.dK (aY (cu ks' y') (.bl true))):=ac;have sb8:=sb.putR (.dK (aY (cu ks' y') (.bl true)));have g8:=dM (o:= .dK (aY (cu ks' y') (.bl true))) g7 nrH;have wt8:=wt7.keep nz ((c8.refl l rd H7).putR (.dK (aY (cu ks' y') (.bl true)))) el7 er7;generalize ay H7 rd (.dK (aY (cu ks' y') (.bl true)))=H8 at el8 er8 sb8 g8 wt8⊢;have ecl8:=sb8 _ _ cll clr ecl6;have eoa8:=sb8 _ _ oal oar eoa6;have frl8:=sb8.fr el6 er6 frl6;have lch:(ch.map V.str).length=ch.length:=E3 _;have lts:(ts'.map V.ref).length=cs'.length:=by rw[E3,wt7.1]
      refine (xr rfl ⟨.inl ⟨rfl,_,aQ.of el8⟩,bY rfl rfl ⟨by show 1<=sizeLine;decide,fun l3 n3=>(bO cl l3 (xo rfl rfl ⟨aj n3 _ _ _ ecl8,ac,by rw[lch];show ch.length+1<=sizeLine;lia,fun c2 nc2=>?_⟩))⟩⟩)
      have nc2H:=(g8.trans (aj n3 (.lst [V.str y']))).free nc2;have k3:=(aj n3 (.lst [V.str y'])).trans (aj nc2 (.lst (ch.map V.str++ [V.str y'])));have ec2:ay (ay H8 l3 (.lst [V.str y'])) c2 (.lst (ch.map V.str++ [V.str y'])) c2=some (.lst ((ch++ [y']).map V.str)):=by rw[ac,Ed];rfl
      generalize ay (ay H8 l3 (.lst [V.str y'])) c2 (.lst (ch.map V.str++ [V.str y']))=H9 at k3 ec2⊢;have dg:cT H9 oa (.str y') (some (.ref t')):=by
       rw[<-gi nd ht'];exact cT.k (k:= .inr y') (k3 _ _ eoa8)
      have fu:=hd.fr (aI ch) y' t' gy;have c4:b*ch.length+b<=4000:=by
       have:=Nat.mul_le_mul_left b (show ch.length+1<=m+2 by lia)
       rw[Nat.mul_succ] at this
       lia
      refine (gn rfl rfl rfl (bO oa (.ref t') ⟨rfl,dg,fR rl t' p q' ((vw (aI ch) y').1) ((vw (aI ch) y').2) ⟨rfl,(frl8.same k3).mono (by lia),((fu.same g8).same k3).mono (by lia),fun r s fr tr H10 g10 e10=>⟨by show 2<=sizeLine;decide,fun t5 n5=>?_⟩⟩⟩))
      have k11:=(k3.trans g10).trans (aj n5 (.tup [.ref c2,.ref tr]));have w11:pR K b Rt (fun c=>H c=none) (ay H10 t5 (.tup [.ref c2,.ref tr])) (ts'++ [t5]) (cs'++ [ch++ [y']]):=by
       refine pR.snoc (wt8.same k11) ac (aj n5 _ _ _ (g10 _ _ ec2)) ?_ (rts ch p q' y' t' r s rtc gy fr) nc2H (aj n5 _ _ _ e10);have e:b*(ch++ [y']).length=b*ch.length+b:=by rw[E8,EJ,Nat.mul_succ]
       rw[e];exact ⟨bS.of (aj n5 _ _ _ e10),fr.pos,(frl.bp.mul fu.bp).of_le fr.bt,(frl.bq.mul fu.bq).of_le fr.bb⟩
      have el11:=k11 _ _ el8;have er11:=k11 _ _ er8;generalize ay H10 t5 (.tup [.ref c2,.ref tr])=H11 at k11 w11 el11 er11⊢;refine ⟨l,xo rfl rfl ⟨el11,by lia,?_⟩⟩
      have nz2:∀c∈cs'++ [ch++ [y']],c≠ []:=fun c hc'=>by
       rcases EK.mp hc' with z|z
       ·exact nz c z
       ·rw[E9.mp z];simp
      refine ⟨dM (g8.trans k11) nlH _,(sb8.thenS k11).putL _,cO (cs'++ [ch++ [y']]) (ts'++ [t5]) (cu ks' y') (xr rfl ⟨by rw[ac,Ed];rfl,w11.keep nz2 ((c8.refl l rd H11).putL _) el11 er11,?_,?_,by rw[ag (Ne.symm lrd)];exact er11,fun x=>?_,?_⟩)⟩
      ·rw[tk];refine bf7.more hc7 hny ⟨t',gy⟩ fun z hz zn=>Bz ?_ zn
       have sp2:(ys.take j++ys.drop j).Pairwise So.tN:=by rw[Ei];exact pw
       refine (F8.mp sp2).2.2 z hz y' (E6 (i:=0) ?_);rw[List.getElem?_drop];exact hy
      ·rw[E5 (E2.mp hc7).1];exact hc7
      ·rw[cL,Ed,EK,hk7 x,List.map_singleton,bP,E9]
      ·have:=(dD ks' y').2.2;rw[E8,EJ]
       lia
    ·intro σ H7 h_;refine jz h_ fun g7 sb _hi=>?_
     refine io _hi fun cs' ts' ks' o8 _hj=>?_
     refine iV _hj fun _r1 el7 wt7 bf7 hc7 _hk=>?_
     refine jz _hk fun er7 hk7 lk7=>?_
     clear h_ _hi _hj _hk;subst _r1;rw[E3,List.take_length] at bf7;refine hN _ _ ⟨g7,bG cs' ts' ks' o8 ⟨rfl,el7,wt7,bf7.next hc7 (fun y hy=>?_),er7,hk7,lk7,(E2.mp hc7).1⟩⟩
     obtain ⟨t',gy⟩:=hy;exact (yin y).mpr (EF.mpr ⟨_,(hrow y t').mp gy,rfl⟩)
   intro σ H8 h_;refine fQ h_ fun g8 _hi=>?_
   refine io _hi fun cs' ts' ks' o8 _hj=>?_
   refine iV _hj fun _r1 el8 wt8 bf8 er8 _hk=>?_
   refine jz _hk fun hk8 lk8 il8=>?_
   clear h_ _hi _hj _hk;subst _r1;refine (xr rfl (xo rfl rfl ⟨⟨g8,fR (i+1) cs' ts' ks' _ _ ⟨_,xr rfl ⟨el8,wt8,bf8,er8,hk8,lk8,il8⟩⟩⟩,?_⟩));show U.length+2-((i:Int)+1).toNat<U.length+2-(i:Int).toNat
   lia
  ·have e:i=cs.length:=by lia
   subst e;exact (xr rfl (q l cs H4 g4 nlH ⟨ts,el4,wt4⟩ bf))
 ·refine iU h fun v _hi=>?_
  refine fQ _hi fun e _hj=>?_
  refine iU _hj fun w _hk=>?_
  refine fQ _hk fun e2 _hl=>?_
  refine wp _hl fun p ys _hm=>?_
  refine jz _hm fun e3 s _hn=>?_
  refine wp _hn fun i j _ho=>?_
  refine jz _ho fun e4 e5 _h=>?_
  refine iU _h fun b' _h=>?_
  refine fQ _h fun hb h2=>?_
  exact ⟨v,e,w,e2,bO p ys ⟨e3,s,bO i j ⟨e4,e5,b',hb,mm _ _ h2⟩⟩⟩
theorem BX {dV:Value} (F:bA K "refuse_no_names" "refuse_no_names" Af dV f fd) (DZ8:Dx P w K mg base bj 1 "is_name" ["thing"] [] (oH K)):a8 P w K mg base (dZ P w) 2 f fd ["things"] (f8 K Fl):=by
 have sc:aB ["things","thing"] ["things"] (au Af):=dP (by decide+kernel)
 refine F.okX sc (fun vs H Q E h=>?_) (fun cdv A outer s H vs Q E hr h=>?_)
 ·obtain ⟨_,_,rfl,_⟩:=h
  rfl
 obtain ⟨l,xs,rfl,hl,ho,kt,kf⟩:=h;refine ⟨_,(ak (bR (jX rfl rfl) rfl (ce (pv 0)) (im 1 sc) (ak (aU (b5 (bv (du DZ8 hr (aa (pv 1) af)))) (ak (eV B.G9 rfl B.G0 rfl cY (aa dh af))) aG)))),?_⟩;try dsimp only[cxK]
 refine (xr rfl ⟨l,rfl,⟨_,aQ.of hl⟩,cv (xs:=xs) (fun i σ H'=>H=H'/\(∃o,σ= [HV l,o])/\∀(j:Nat) x,j<i->xs[j]?=some x->j6 x) ⟨rfl,⟨_,rfl⟩,fun j x h=>absurd h (FD _)⟩ (fun i σ H' _ h=>by rw[<-h.1];exact aQ.of hl) ?_ ?_⟩)
 ·rintro i x σ H' hx ⟨rfl,⟨o,rfl⟩,hP⟩
  by_cases hn:j6 x
  ·obtain ⟨z,rfl,nz⟩:=id hn;refine (bY rfl rfl (.inl ⟨z,rfl,zJ nz,fun _=>?_,fun n=>absurd nz n⟩))
   refine (xr rfl ?_);exact ⟨rfl,⟨_,rfl⟩,fun j y hj hy=>by
    rcases ER.mp hj with q|q
    ·exact hP j y q hy
    ·subst q;rw[hx] at hy;cases hy;exact hn⟩
  ·have bad:¬ ∀x∈xs,j6 x:=fun a=>hn (a x (E6 hx))
   rcases (ho x (E6 hx)).resolve_left hn with ⟨z,rfl,lz,nz⟩|⟨ty,h1,h2⟩
   ·refine (bY rfl rfl (.inl ⟨z,rfl,lz,fun n=>absurd n nz,fun _=>?_⟩))
    exact (xr rfl ⟨by show 1<=sizeLine;decide,kf bad _ fun _ _ e=>e⟩)
   ·refine (bY rfl rfl (.inr ⟨ty,h1,h2,?_⟩));exact (xr rfl ⟨by show 1<=sizeLine;decide,kf bad _ fun _ _ e=>e⟩)
 ·rintro σ H' ⟨rfl,⟨o,rfl⟩,hP⟩;exact kt fun x hx=>by
   obtain ⟨j,hj⟩:=EH.mp hx;exact hP j x (E2.mp hj).1 hj
theorem BY {dV:Value} (F:bA K "__init__" "Larder.__init__" Ag dV f fd):a8 P w K mg base bj 1 f fd ["self"] (mn mt):=by
 have sc:aB ["self"] ["self"] (au Ag):=dP (by decide+kernel)
 refine F.ok sc (fun vs H Q E h=>?_) (fun cdv A outer s H vs Q E hr h=>?_)
 ·obtain ⟨_,_,rfl,_⟩:=h
  rfl
 obtain ⟨x,dx,rfl,e0,q⟩:=h;refine ⟨_,(ae (fo (pv 0) cx rfl) (ae (fo (pv 0) cx rfl) (ae (fo (pv 0) cx rfl) (ak (fo (pv 0) cx rfl))))),?_⟩;try dsimp only[cxK]
 have k0:je x H H:=fun _ _ _ e=>e
 have l0:([]:List (Str×V)).length<=0:=E4 _;intro p np;have xp:x≠p:=fun z=>by rw[<-z,e0] at np;cases np
 refine (xr rfl (cO x _ dx (xr rfl ⟨(by rw[ag xp];exact e0),B.Fm,B.Gf,by lia,?_⟩)))
 have e1:(ay (ay H p (.dK [])) x (.ins mt dx (aJ "parts" (.ref p) []))) x=some (.ins mt dx (aJ "parts" (.ref p) [])):=ac;have k1:je x H (ay (ay H p (.dK [])) x (.ins mt dx (aJ "parts" (.ref p) []))):=k0.trans (je.step (.dK []) np);have vp:(ay (ay H p (.dK [])) x (.ins mt dx (aJ "parts" (.ref p) []))) p=some (.dK []):=by rw[ag (Ne.symm xp)];exact ac
 have l1:((aJ "parts" (.ref p) []):List (Str×V)).length<=1:=by have:=cK "parts" (.ref p) [];lia
 have fp:H p=none:=by
  cases h:H p with
  |none=>rfl
  |some ob=>rw[k0 p ob (Ne.symm xp) h] at np;cases np
 generalize (ay (ay H p (.dK [])) x (.ins mt dx (aJ "parts" (.ref p) [])))=H1 at e1 k1 vp⊢;intro st nst;have xst:x≠st:=fun z=>by rw[<-z,e1] at nst;cases nst
 refine (xr rfl (cO x _ dx (xr rfl ⟨(by rw[ag xst];exact e1),B.Fm,B.Ge,by lia,?_⟩)))
 have e2:(ay (ay H1 st (.dK [])) x (.ins mt dx (aJ "stands" (.ref st) (aJ "parts" (.ref p) [])))) x=some (.ins mt dx (aJ "stands" (.ref st) (aJ "parts" (.ref p) []))):=ac;have k2:je x H (ay (ay H1 st (.dK [])) x (.ins mt dx (aJ "stands" (.ref st) (aJ "parts" (.ref p) [])))):=k1.trans (je.step (.dK []) nst);have vst:(ay (ay H1 st (.dK [])) x (.ins mt dx (aJ "stands" (.ref st) (aJ "parts" (.ref p) [])))) st=some (.dK []):=by rw[ag (Ne.symm xst)];exact ac
 have l2:((aJ "stands" (.ref st) (aJ "parts" (.ref p) [])):List (Str×V)).length<=2:=by have:=cK "stands" (.ref st) (aJ "parts" (.ref p) []);lia
 have fst:H st=none:=by
  cases h:H st with
  |none=>rfl
  |some ob=>rw[k1 st ob (Ne.symm xst) h] at nst;cases nst
 have wpst:p≠st:=fun z=>by rw[<-z,vp] at nst;cases nst
 replace vp:(ay (ay H1 st (.dK [])) x (.ins mt dx (aJ "stands" (.ref st) (aJ "parts" (.ref p) [])))) p=some (.dK []):=je.step (.dK []) nst p _ (Ne.symm xp) vp;generalize (ay (ay H1 st (.dK [])) x (.ins mt dx (aJ "stands" (.ref st) (aJ "parts" (.ref p) []))))=H2 at e2 k2 vst vp⊢;intro b nb;have xb:x≠b:=fun z=>by rw[<-z,e2] at nb;cases nb
 refine (xr rfl (cO x _ dx (xr rfl ⟨(by rw[ag xb];exact e2),B.Fm,B.Gh,by lia,?_⟩)))
 have e3:(ay (ay H2 b (.dK [])) x (.ins mt dx (aJ "bars" (.ref b) (aJ "stands" (.ref st) (aJ "parts" (.ref p) []))))) x=some (.ins mt dx (aJ "bars" (.ref b) (aJ "stands" (.ref st) (aJ "parts" (.ref p) [])))):=ac;have k3:je x H (ay (ay H2 b (.dK [])) x (.ins mt dx (aJ "bars" (.ref b) (aJ "stands" (.ref st) (aJ "parts" (.ref p) []))))):=k2.trans (je.step (.dK []) nb);have vb:(ay (ay H2 b (.dK [])) x (.ins mt dx (aJ "bars" (.ref b) (aJ "stands" (.ref st) (aJ "parts" (.ref p) []))))) b=some (.dK []):=by rw[ag (Ne.symm xb)];exact ac
 have l3:((aJ "bars" (.ref b) (aJ "stands" (.ref st) (aJ "parts" (.ref p) []))):List (Str×V)).length<=3:=by have:=cK "bars" (.ref b) (aJ "stands" (.ref st) (aJ "parts" (.ref p) []));lia
 have fb:H b=none:=by
  cases h:H b with
  |none=>rfl
  |some ob=>rw[k2 b ob (Ne.symm xb) h] at nb;cases nb
 have wpb:p≠b:=fun z=>by rw[<-z,vp] at nb;cases nb
 have wstb:st≠b:=fun z=>by rw[<-z,vst] at nb;cases nb
 replace vp:(ay (ay H2 b (.dK [])) x (.ins mt dx (aJ "bars" (.ref b) (aJ "stands" (.ref st) (aJ "parts" (.ref p) []))))) p=some (.dK []):=je.step (.dK []) nb p _ (Ne.symm xp) vp;replace vst:(ay (ay H2 b (.dK [])) x (.ins mt dx (aJ "bars" (.ref b) (aJ "stands" (.ref st) (aJ "parts" (.ref p) []))))) st=some (.dK []):=je.step (.dK []) nb st _ (Ne.symm xst) vst;generalize (ay (ay H2 b (.dK [])) x (.ins mt dx (aJ "bars" (.ref b) (aJ "stands" (.ref st) (aJ "parts" (.ref p) [])))))=H3 at e3 k3 vb vp vst⊢;intro n nn;have xn:x≠n:=fun z=>by rw[<-z,e3] at nn;cases nn
 refine (xr rfl (cO x _ dx (xr rfl ⟨(by rw[ag xn];exact e3),B.Fm,B.Gg,by lia,?_⟩)))
 have e4:(ay (ay H3 n (.dK [])) x (.ins mt dx (aJ "names" (.ref n) (aJ "bars" (.ref b) (aJ "stands" (.ref st) (aJ "parts" (.ref p) [])))))) x=some (.ins mt dx (aJ "names" (.ref n) (aJ "bars" (.ref b) (aJ "stands" (.ref st) (aJ "parts" (.ref p) []))))):=ac;have k4:je x H (ay (ay H3 n (.dK [])) x (.ins mt dx (aJ "names" (.ref n) (aJ "bars" (.ref b) (aJ "stands" (.ref st) (aJ "parts" (.ref p) [])))))):=k3.trans (je.step (.dK []) nn);have vn:(ay (ay H3 n (.dK [])) x (.ins mt dx (aJ "names" (.ref n) (aJ "bars" (.ref b) (aJ "stands" (.ref st) (aJ "parts" (.ref p) [])))))) n=some (.dK []):=by rw[ag (Ne.symm xn)];exact ac
 have l4:((aJ "names" (.ref n) (aJ "bars" (.ref b) (aJ "stands" (.ref st) (aJ "parts" (.ref p) [])))):List (Str×V)).length<=4:=by have:=cK "names" (.ref n) (aJ "bars" (.ref b) (aJ "stands" (.ref st) (aJ "parts" (.ref p) [])));lia
 have fn:H n=none:=by
  cases h:H n with
  |none=>rfl
  |some ob=>rw[k3 n ob (Ne.symm xn) h] at nn;cases nn
 have wpn:p≠n:=fun z=>by rw[<-z,vp] at nn;cases nn
 have wstn:st≠n:=fun z=>by rw[<-z,vst] at nn;cases nn
 have wbn:b≠n:=fun z=>by rw[<-z,vb] at nn;cases nn
 replace vp:(ay (ay H3 n (.dK [])) x (.ins mt dx (aJ "names" (.ref n) (aJ "bars" (.ref b) (aJ "stands" (.ref st) (aJ "parts" (.ref p) [])))))) p=some (.dK []):=je.step (.dK []) nn p _ (Ne.symm xp) vp;replace vst:(ay (ay H3 n (.dK [])) x (.ins mt dx (aJ "names" (.ref n) (aJ "bars" (.ref b) (aJ "stands" (.ref st) (aJ "parts" (.ref p) [])))))) st=some (.dK []):=je.step (.dK []) nn st _ (Ne.symm xst) vst;replace vb:(ay (ay H3 n (.dK [])) x (.ins mt dx (aJ "names" (.ref n) (aJ "bars" (.ref b) (aJ "stands" (.ref st) (aJ "parts" (.ref p) [])))))) b=some (.dK []):=je.step (.dK []) nn b _ (Ne.symm xb) vb;generalize (ay (ay H3 n (.dK [])) x (.ins mt dx (aJ "names" (.ref n) (aJ "bars" (.ref b) (aJ "stands" (.ref st) (aJ "parts" (.ref p) []))))))=H4 at e4 k4 vn vp vst vb⊢;have la:LA mt [p,n] H4 x [] []:=⟨dx,p,n,iM (.ref p) (.ref st) (.ref b) (.ref n),[],e4,nh.1,nh.2.1,trivial,vp,vn,rfl,by simp[wpn],nh.2.2⟩
 refine q H4 [p,n,st,b] k4 (fun a ha=>?_) ⟨[p,n],dx,st,b,iM (.ref p) (.ref st) (.ref b) (.ref n),[],la,e4,km.1,km.2.1,zX vst,vb,wstb,?_,?_,fun y a e=>(by cases e),fun a ha=>?_,by simp,by simp,fun a ha=>?_,km.2.2⟩
 ·simp only[EC,Eg,or_false] at ha;rcases ha with rfl|rfl|rfl|rfl
  ·exact fp
  ·exact fn
  ·exact fst
  ·exact fb
 ·simp only[EC,Eg,or_false];exact fun z=>z.elim (fun z=>wpst z.symm) (fun z=>wstn z)
 ·simp only[EC,Eg,or_false];exact fun z=>z.elim (fun z=>wpb z.symm) (fun z=>wbn z)
 ·simp only[EC,Eg,or_false] at ha⊢;rcases ha with rfl|rfl
  ·exact .inl rfl
  ·exact .inr (.inl rfl)
 ·simp only[EC,Eg,or_false] at ha;rcases ha with rfl|rfl|rfl|rfl
  ·exact ⟨_,vp⟩
  ·exact ⟨_,vn⟩
  ·exact ⟨_,vst⟩
  ·exact ⟨_,vb⟩
theorem BZ {dV:Value} (F:bA K "learn" "Larder.learn" Ah dV f fd):a8 P w K mg base bj 1 f fd ["self","told"] (jH mt):=by
 have sc:aB ["self","told","fresh","name"] ["self","told"] (au Ah):=dP (by decide+kernel)
 refine F.ok sc (fun vs H Q E h=>?_) (fun cdv A outer s H vs Q E hr h=>?_)
 ·obtain ⟨_,_,_,_,_,_,rfl,_⟩:=h
  rfl
 refine mD h fun x l F0 rows ns xs _hi=>?_
 refine iV _hi fun _r1 la el room nd q=>?_
 clear h _hi;subst _r1;refine ⟨_,(ae (lY sc.nd (i:=2) rfl rfl (own:= "name") (ys:= ["self"]) (js:= [0]) rfl (xg (yG xf) (.cons rfl .nil) (by decide) rfl rfl rfl rfl rfl rfl rfl rfl) (ce (pv 1)) (fun C fp s H=>(fT (eU (by exact cf hr) (pv 0) (nj (K:=K) rfl (pv 1) rfl)) (by with_unfolding_all rfl))) (fun C fp s H=>(pv 0))) (ae (aU (aN nX (aA bV (av ja rfl B.Fx boot_len (aa (cp (pv 0) rfl) af)) (av aW rfl B.Fx boot_len (aa (pv 2) af))) (oG rfl B.GY) (aK _)) (ak ur) aG) (ak (bR PassesOwn.never rfl (ce (pv 2)) (im 3 sc) (ak (cZ (cf hr) (cp (pv 0) rfl) (pv 3) bH rfl)))))),?_⟩
 try dsimp only[cxK]
 refine io la.dd fun dx p n fs _hi=>?_
 refine iV _hi fun ex fp fn dd en _hj=>?_
 refine jz _hj fun _ _ fm=>?_
 have slt:(3000:Nat)<sizeLine:=by decide
 refine (xr rfl ⟨l,rfl,⟨_,aQ.of el⟩,oR (xs:=xs.map V.str) (fun v=>match v with| .str y=> !decide (y∈ns)|_=>false) (aQ.of el) (by rw[E3];lia) (fun v hv H3 g3 R hR=>?_) (fun p1 H1 g1 e1=>?_)⟩)
 ·obtain ⟨y,hy,rfl⟩:=EF.mp hv;refine (bY rfl rfl (bG x _ dx _ (xr rfl ⟨g3 _ _ ex,B.Fm,B.Gg,fn,n,xr rfl ⟨cT.k (k:= .inr y) (g3 _ _ en),xr rfl ?_⟩⟩)));rw[f9]
  by_cases h:y∈ns
  ·rw[if_pos h];have hR':R (!decide (y∈ns)) H3:=hR;rw[decide_eq_true h] at hR';exact hR'
  ·rw[if_neg h];have hR':R (!decide (y∈ns)) H3:=hR;rw[decide_eq_false h] at hR';exact hR'
 ·have fe:∀l:HN,(l.map V.str).filter (fun v=>match v with| .str y=> !decide (y∈ns)|_=>false)=(l.filter fun y=> !decide (y∈ns)).map V.str:=by
   intro l
   induction l with
   |nil=>rfl
   |cons c l ih=>
    rw[Ek,FI,FI,ih]
    by_cases h:c∈ns
    ·simp[h]
    ·simp[h]
  rw[fe] at e1;have fl:=FT (fun y=> !decide (y∈ns)) xs
  have fmem:∀y,y∈ns∨y∈(xs.filter fun y=> !decide (y∈ns))↔y∈ns∨y∈xs:=by
   intro y;rw[FL]
   by_cases h:y∈ns<;>simp[h]
  generalize (xs.filter fun y=> !decide (y∈ns))=fr at e1 fl fmem
  try dsimp only[aM,aR]
  refine cH (fun Nq=>Nq [some (.ref x),some (.ref l),some (.ref p1),none] H1) (fun N hN=>?_) ?_
  ·refine (xr rfl (bG x _ dx _ (xr rfl ⟨g1 _ _ ex,B.Fm,B.Gg,fn,n,xr rfl ⟨.inl (g1 _ _ en),xr rfl ⟨p1,xr rfl ⟨.inl (aQ.of e1),xo rfl rfl (xo rfl rfl (xr rfl (d2 (fun c=>?_) (fun c=>hN))))⟩⟩⟩⟩)))
   rw[b8,E3] at c
   lia
  refine (xr rfl ⟨p1,rfl,⟨_,aQ.of e1⟩,cv (xs:=fr.map V.str) (fun i σ H'=>KF F0 H1 H'/\(∃o,σ= [HV x,HV l,HV p1,o])/\LA mt F0 H' x rows (gb ns (fr.take i))) ⟨KF.refl,⟨_,rfl⟩,la.same g1⟩ (fun i σ H' _ h=>aQ.of (h.1 _ _ ((la.same g1).not e1 (fun _ z=>nomatch z)) e1)) ?_ ?_⟩)
  ·rintro i v σ H' hx ⟨k,⟨o,rfl⟩,la'⟩;rw[EA] at hx;cases hc:fr[i]? with
   |none=>rw[hc] at hx;cases hx
   |some y=>
    rw[hc] at hx;cases hx;refine io la'.dd fun dx' p' n' fs' _hi=>?_
    refine iV _hi fun ex' fp' fn' dd' en' _hj=>?_
    refine jz _hj fun _ _ fm'=>?_
    have il:=(E2.mp hc).1;have tl:=l8 (fr.take i) ns;rw[EN] at tl;have tk:fr.take (i+1)=fr.take i++ [y]:=by rw[List.take_succ,hc];rfl
    refine (xr rfl (bG x _ dx' _ (xr rfl ⟨ex',B.Fm,B.Gg,fn',xr rfl ⟨n',xr rfl ⟨eT.k (k:= .inr y) en' (by rw[b8];lia),?_⟩⟩⟩)))
    rw[eZ,<-qF,<-tk];obtain ⟨la2,k2,_⟩:=la'.learn (ms:=gb ns (fr.take (i+1))) ex' fn';exact ⟨k.trans k2,⟨_,rfl⟩,la2⟩
  ·rintro σ H' ⟨k,⟨o,rfl⟩,la'⟩;rw[E3,List.take_length] at la';exact q H' _ ((KF.of g1).trans k) la' (jv nd) fun y=>l7.trans (fmem y)
theorem B1 {dV:Value} (F:bA K "part" "Larder.part" Ai dV f fd) (DZ11:Dx P w K mg base bj 2 "chain_down" ["parts","good","goals"] [] gY) (DZ15:i8 P w K mg base bj 1 GA ["self","told"] [] (jH mt)) (XZ13:Dx P w K mg base (dZ P w) 2 "refuse_no_names" ["things"] [] (f8 K Fl)) (I_InRing:Bs P w K mg base 1 Fp ["self","ring"] (gR Fp "ring")):a8 P w K mg base (dZ P w) 3 f fd ["self","good","other"] (rT K mt Fl Fp):=by
 have sc:aB ["self","good","other","back","inside"] ["self","good","other"] (au Ai):=dP (by decide+kernel)
 refine F.okX sc (fun vs H Q E h=>?_) (fun cdv A outer s H vs Q E hr h=>?_)
 ·obtain ⟨_,_,_,_,_,_,_,rfl,_⟩:=h
  rfl
 refine mD h fun x g o F0 rows ns _hi=>?_
 refine iU _hi fun ps _hj=>?_
 refine iW _hj fun _r1 la ok few nd n78 hg ho _hk=>?_
 refine fQ _hk fun eN qq=>?_
 clear h _hi _hj _hk;subst _r1;refine ⟨_,(ae (bx (fE XZ13 hr (by decide) rfl cY (aa (bM (aa (pv 1) (aa (pv 2) af))) af))) (ae (cA 3 sc (du DZ11 hr (aa (cp (pv 0) rfl) (aa (pv 2) (aa (bM (aa (pv 1) af)) af))))) (ae (aU (aN jC (pv 3) dv (aK _)) (ak (rJ I_InRing hr (by decide) rfl B.G1 rfl cY (aa (aA qh (bM (aa (pv 1) af)) (dj rn (pv 3) eC (dz (jM gM ar)))) af))) aG) (ae (bx (fZ (pv 0) DZ15 hr (by decide) (aa (bM (aa (pv 1) (aa (pv 2) af))) af))) (ae (cA 4 sc (eD FM PySem.F.slot_dict_setdefault PySem.F.type_dict_setdefault lW (cp (pv 0) rfl) (aa (pv 1) (aa cx af)))) (ak (cZ (cf hr) (pv 4) (pv 2) bH rfl))))))),?_⟩
 try dsimp only[cxK]
 have slt:(3000:Nat)<sizeLine:=by decide
 refine (bY rfl rfl ⟨by show 2<=sizeLine;decide,fun l0 n0=>?_⟩)
 have g1:=aj n0 (.lst [g,o]);refine ⟨l0,xr rfl ⟨ac,(fun y hy=>?_),fun nn=>?_,fun nn H' gg=>eN (fun z=>nn fun y hy=>?_) H' (g1.trans gg)⟩⟩
 ·rcases EC.mp hy with rfl|hy
  ·exact hg.imp id (eY.same g1)
  ·rw[E9.mp hy];exact ho.imp id (eY.same g1)
 rotate_left
 ·rcases EC.mp hy with rfl|hy
  ·exact z.1
  ·rw[E9.mp hy];exact z.2
 obtain ⟨zg,rfl,mg'⟩:=nn g (by simp)
 obtain ⟨zo,rfl,mo'⟩:=nn o (by simp)
 obtain ⟨qR,qD⟩:=qq zg zo rfl rfl mg' mo';have la1:=la.same g1;generalize ay H l0 (.lst [.str zg,.str zo])=H1 at g1 la1⊢;refine io la1.dd fun dx p n fs _hi=>?_
 refine iV _hi fun ex fp fn dd en _hj=>?_
 refine jz _hj fun _ _ fm=>?_
 refine (xr rfl (bG x _ dx _ (xr rfl ⟨ex,B.Fm,B.Gf,fp,bY rfl rfl ⟨by show 1<=sizeLine;decide,fun l2 n2=>?_⟩⟩)))
 have g2:=aj n2 (.lst [.str zg]);refine (fR p l2 zo rows ps [zg] ⟨rfl,dd.same g2,ok,by lia,ac,fun H3 g3 nl=>?_,fun lb H3 c goal g3 nlb eb wy gm gl ga=>?_⟩)
 ·have g13:=g2.trans g3;have la3:=la1.same g13;try dsimp only[aM,aR]
  refine (xr rfl ⟨rfl,xr rfl (b4 ?_)⟩);refine io la3.dd fun dx p n fs _hi=>?_
  refine iV _hi fun ex fp fn dd en _hj=>?_
  refine jz _hj fun _ _ fm=>?_
  refine (xr rfl (cO x _ dx (xr rfl ⟨ex,B.Fm,B.G3,fm _ (by simp),bY rfl rfl ⟨by show 2<=sizeLine;decide,fun l4 n4=>?_⟩⟩)))
  have g4:=aj n4 (.lst [.str zg,.str zo]);refine (fR x l4 F0 rows ns [zg,zo] ⟨rfl,la3.same g4,ac,by simp;lia,nd,fun H5 ms k5 la5 nd5 m5=>?_⟩)
  have k05:KF F0 H H5:=(KF.of ((g1.trans g13).trans g4)).trans k5;refine io la5.ex fun dx p n fs _hi=>?_
  refine iU _hi fun rs _hj=>?_
  refine iW _hj fun ex fp fn dr ed en eF ndF fm=>?_
  have rf:=ok.few;have dl:=dr.len;have nl':¬Led ps zo zg:=nl zg (by simp)
  refine (xr rfl (bG x _ dx _ (xr rfl ⟨ex,B.Fm,B.Gf,fp,.inr (.inr (.inl ⟨rfl,.inl ⟨_,ed⟩⟩)),xr rfl (fun pn hn=>?_)⟩)))
  have g6:=aj hn (.dK []);refine (bG p _ (.inr zg) (.ref pn) ⟨rfl,rfl,g6 _ _ ed,by lia,fun w hw=>?_,fun hw=>?_⟩)
  ·obtain ⟨r,ys,rfl,hm,hH,la6,k6⟩:=(la5.same g6).put_some (y:=zo) (g6 _ _ ex) fp (g6 _ _ ed) hw;have ysl:=(ok.small _ hm).1;refine (bY rfl rfl ⟨r,xr rfl ⟨eT.k (k:= .inr zo) hH (by rw[b8];have:ys.length<=ps.length:=ysl;lia),?_⟩⟩)
   rw[eZ];exact qD nl' F0 _ ms ((k05.trans (KF.of g6)).trans k6) FG.refl la6 nd5 fun y=>(m5 y).trans (by simp)
  ·have pd:pn≠p:=fun z=>by rw[z,ed] at hn;cases hn
   obtain ⟨la6,k6⟩:=la5.put_none (y:=zo) ex fp ed hn hw;refine (bY rfl rfl ⟨pn,xr rfl ⟨eT.k (k:= .inr zo) (kvs:= []) (by rw[ag pd];exact ac) (by show 0<sizeLine;lia),?_⟩⟩)
   refine qD nl' (F0++ [pn]) _ ms (k05.trans k6) (fun a ha=>?_) la6 nd5 fun y=>(m5 y).trans (by simp)
   rcases EK.mp ha with ha|ha
   ·exact .inl ha
   ·rw[E9.mp ha];refine .inr ?_;cases hp:H pn with
    |none=>rfl
    |some ob=>rw[k05 _ _ (la5.free hn) hp] at hn;cases hn
 ·obtain rfl:=E9.mp gm;try dsimp only[aM,aR]
  have c1:1<=c.length:=by
   have:=wy.first;cases c with
   |nil=>cases this
   |cons _ _=>simp
  refine (xr rfl ⟨rfl,xr rfl (cU ?_)⟩);refine (xr rfl ⟨by show 1<=sizeLine;decide,fun l4 n4=>?_⟩)
  have g4:=aj n4 (.lst [.str goal]);refine (gn rfl rfl rfl ⟨lb,xr rfl ⟨aQ.of (g4 _ _ eb),fun l5 n5=>?_⟩⟩)
  rw[tG (by rw[E3];exact c1),<-List.map_dropLast]
  have g5:=aj n5 (.lst (c.dropLast.map V.str));have lf:=wy.few;refine (bO l4 l5 (xo rfl rfl ⟨g5 _ _ ac,ac,(by rw[E3,List.length_dropLast];show 1+_<=_;lia),fun l6 n6=>?_⟩))
  have g6:=aj n6 (.lst ([.str goal]++c.dropLast.map V.str));have gA:=((((g1.trans g2).trans g3).trans g4).trans g5).trans g6;refine ⟨by show 1<=sizeLine;decide,fun xa na=>rK na fun d H2 g ea ed ne gd edd=>⟨rfl,d,ea,?_⟩⟩
  exact qR gl d l6 _ c (gA.trans gd) (gd _ _ ac) edd wy
theorem B2 {dV:Value} (F:bA K "barred" "Larder.barred" Aj dV f fd) (DZ11:Dx P w K mg base bj 2 "chain_down" ["parts","good","goals"] [] gY) (XZ13:Dx P w K mg base (dZ P w) 2 "refuse_no_names" ["things"] [] (f8 K Fl)):a8 P w K mg base (dZ P w) 3 f fd ["self","good"] (jg K mt Fl):=by
 have sc:aB ["self","good"] ["self","good"] (au Aj):=dP (by decide+kernel)
 refine F.okX sc (fun vs H Q E h=>?_) (fun cdv A outer s H vs Q E hr h=>?_)
 ·obtain ⟨_,_,_,_,_,_,_,_,_,rfl,_⟩:=h
  rfl
 refine jy h fun x v F1 rows m g bs ns ps _hi=>?_
 refine iV _hi fun _r1 lb ok few hv _hj=>?_
 refine fQ _hj fun eN qq=>?_
 clear h _hi _hj;subst _r1;refine ⟨_,(ae (bx (fE XZ13 hr (by decide) rfl cY (aa (bM (aa (pv 1) af)) af))) (ak (aC (du DZ11 hr (aa (cp (pv 0) rfl) (aa (pv 1) (aa (dw (qL rfl) rfl B.Go boot_list (aa (cp (pv 0) rfl) af)) af))))))),?_⟩
 try dsimp only[cxK]
 refine (xr rfl ⟨by show 1<=sizeLine;decide,fun l0 n0=>?_⟩)
 have g1:=aj n0 (.lst [v]);refine ⟨l0,xr rfl ⟨ac,(fun y hy=>by rw[E9.mp hy];exact hv.imp id (eY.same g1)),fun nn=>?_,fun nn H' gg=>eN (fun z=>nn fun y hy=>by rw[E9.mp hy];exact z) H' (g1.trans gg)⟩⟩
 obtain ⟨z,rfl,mz⟩:=nn v (by simp)
 have qz:=qq z rfl mz;have lb1:=lb.same g1;generalize ay H l0 (.lst [.str z])=H1 at g1 lb1⊢;obtain ⟨F0,la,sub,back⟩:=lb1.la;refine io la.dd fun dx' p n fs' _hi=>?_
 refine iV _hi fun ex' fp fn dd en _hj=>?_
 refine jz _hj fun _ _ fm'=>?_
 refine io lb1.at_ fun dx s b fs _hi=>?_
 refine iU _hi fun dk _hj=>?_
 refine iW _hj fun ex es eb bd hb fm sF bF pb=>?_
 refine (xr rfl (bG x _ dx' _ (xr rfl ⟨ex',B.Fm,B.Gf,fp,bY rfl rfl (bG x _ dx _ (xr rfl ⟨ex,B.Fm,B.Gh,eb,b,xr rfl ⟨hb,fun l2 n2=>?_⟩⟩))⟩)))
 have kk:(aY bs (.bl true)).map (fun p=>kV p.1)=bs.map V.str:=by
  unfold aY;rw[Eh]
  rfl
 rw[kk];have g2:=aj n2 (.lst (bs.map V.str));exact (fR p l2 z rows ps bs ⟨rfl,dd.same g2,ok,few,ac,fun H3 g3 nl=>qz.1 H3 ((g1.trans g2).trans g3) nl,fun l H3 c goal g3 nl el wy gm gl ga=>qz.2 l H3 c goal ((g1.trans g2).trans g3) ((g1.trans g2).free nl) el wy gm gl ga⟩)
theorem B3 {dV:Value} (F:bA K "bar" "Larder.bar" Ak dV f fd) (DZ15:i8 P w K mg base bj 1 GA ["self","told"] [] (jH mt)) (XZ13:Dx P w K mg base (dZ P w) 2 "refuse_no_names" ["things"] [] (f8 K Fl)):a8 P w K mg base (dZ P w) 3 f fd ["self","good"] (vR K mt Fl):=by
 have sc:aB ["self","good"] ["self","good"] (au Ak):=dP (by decide+kernel)
 refine F.okX sc (fun vs H Q E h=>?_) (fun cdv A outer s H vs Q E hr h=>?_)
 ·obtain ⟨_,_,_,_,_,_,_,_,rfl,_⟩:=h
  rfl
 refine mD h fun x v F1 rows m g _hi=>?_
 refine wp _hi fun bs ns _hj=>?_
 refine iV _hj fun _r1 lb b200 nd n79 _hk=>?_
 refine jz _hk fun hv eN qq=>?_
 clear h _hi _hj _hk;subst _r1;refine ⟨_,(ae (bx (fE XZ13 hr (by decide) rfl cY (aa (bM (aa (pv 1) af)) af))) (ae (bx (fZ (pv 0) DZ15 hr (by decide) (aa (bM (aa (pv 1) af)) af))) (ak (cZ (cf hr) (cp (pv 0) rfl) (pv 1) bH rfl)))),?_⟩
 try dsimp only[cxK]
 have slt:(3000:Nat)<sizeLine:=by decide
 refine (xr rfl ⟨by show 1<=sizeLine;decide,fun l0 n0=>?_⟩)
 have g1:=aj n0 (.lst [v]);refine ⟨l0,xr rfl ⟨ac,(fun y hy=>by rw[E9.mp hy];exact hv.imp id (eY.same g1)),fun nn=>?_,fun nn H' gg=>eN (fun z=>nn fun y hy=>by rw[E9.mp hy];exact z) H' (g1.trans gg)⟩⟩
 obtain ⟨z,rfl,mz⟩:=nn v (by simp)
 have qz:=qq z rfl mz;have lb1:=lb.same g1;generalize ay H l0 (.lst [.str z])=H1 at g1 lb1⊢;obtain ⟨F0,la,sub,back⟩:=lb1.la;refine io lb1.at_ fun dx s b fs _hi=>?_
 refine iU _hi fun dk _hj=>?_
 refine iW _hj fun ex es eb bd hb fm sF bF pb=>?_
 refine (xr rfl (cO x _ dx (xr rfl ⟨ex,B.Fm,B.G3,fm _ (by decide),xr rfl ⟨by show 1<=sizeLine;decide,fun l4 n4=>?_⟩⟩)))
 have g4:=aj n4 (.lst [.str z]);obtain ⟨F0,la,sub,back⟩:=(lb1.same g4).la;refine (fR x l4 F0 rows ns [z] ⟨rfl,la,ac,by simp;lia,nd,fun H5 ms k5 la5 nd5 m5=>?_⟩)
 have lb5:=back _ _ _ la5 k5;have kF:KF F1 H H5:=(KF.of (g1.trans g4)).trans fun a o n e=>k5 a o (fun z=>n (sub a z)) e
 refine io lb5.at_ fun dx s b fs _hi=>?_
 refine iU _hi fun dk _hj=>?_
 refine iW _hj fun ex es eb bd hb fm sF bF pb=>?_
 refine (xr rfl (bG x _ dx _ (xr rfl ⟨ex,B.Fm,B.Gh,eb,xr rfl ⟨b,xr rfl ⟨eT.k (k:= .inr z) hb (by rw[b8];lia),?_⟩⟩⟩)))
 rw[eZ];obtain ⟨lb6,k6⟩:=pb (cu bs z);exact qz _ ms (kF.trans k6) lb6 nd5 fun y=>(m5 y).trans (by simp)
theorem B4 {dV:Value} (F:bA K "allow" "Larder.allow" Al dV f fd) (XZ13:Dx P w K mg base (dZ P w) 2 "refuse_no_names" ["things"] [] (f8 K Fl)):a8 P w K mg base (dZ P w) 3 f fd ["self","good"] (pf K mt Fl):=by
 have sc:aB ["self","good"] ["self","good"] (au Al):=dP (by decide+kernel)
 refine F.okX sc (fun vs H Q E h=>?_) (fun cdv A outer s H vs Q E hr h=>?_)
 ·obtain ⟨_,_,_,_,_,_,_,_,rfl,_⟩:=h
  rfl
 refine mD h fun x v F1 rows m g _hi=>?_
 refine wp _hi fun bs ns _hj=>?_
 refine uf _hj fun _r1 lb hv _hk=>?_
 refine fQ _hk fun eN qq=>?_
 clear h _hi _hj _hk;subst _r1;refine ⟨_,(ae (bx (fE XZ13 hr (by decide) rfl cY (aa (bM (aa (pv 1) af)) af))) (ak (bx (uJ (cp (pv 0) rfl) (pv 1) dv ⟨rfl,rfl,rfl,rfl⟩)))),?_⟩
 try dsimp only[cxK]
 refine (xr rfl ⟨by show 1<=sizeLine;decide,fun l0 n0=>?_⟩)
 have g1:=aj n0 (.lst [v]);refine ⟨l0,xr rfl ⟨ac,(fun y hy=>by rw[E9.mp hy];exact hv.imp id (eY.same g1)),fun nn=>?_,fun nn H' gg=>eN (fun z=>nn fun y hy=>by rw[E9.mp hy];exact z) H' (g1.trans gg)⟩⟩
 obtain ⟨z,rfl,mz⟩:=nn v (by simp)
 have qz:=qq z rfl mz;have lb1:=lb.same g1;generalize ay H l0 (.lst [.str z])=H1 at g1 lb1⊢;refine io lb1.at_ fun dx s b fs _hi=>?_
 refine iU _hi fun dk _hj=>?_
 refine iW _hj fun ex es eb bd hb fm sF bF pb=>?_
 refine (xr rfl (bG x _ dx _ (xr rfl ⟨ex,B.Fm,B.Gh,eb,b,rfl,.inl ⟨_,.inl hb⟩,xr rfl (bO _ (.inr z) ⟨hb,rfl,fun w hw=>?_,fun hw=>?_⟩)⟩)))
 ·rw[tU];obtain ⟨lb6,k6⟩:=pb (kZ bs z);exact qz _ ((KF.of g1).trans k6) lb6
 ·rw[f9] at hw;have nz:z∉bs:=fun h=>by rw[if_pos h] at hw;cases hw
  exact qz _ (KF.of g1) (by rw[tV nz];exact lb1)
theorem B5 {dV:Value} (F:bA K "stand" "Larder.stand" yq dV f fd) (Dis_Z3:Dx P w K mg base bj 2 "is_fraction" ["thing"] [] (u6 K)) (DZ15:i8 P w K mg base bj 1 GA ["self","told"] [] (jH mt)) (XZ3:Dx P w K mg base (dZ P w) 2 "fraction" ["top","bottom"] [.int 1] (oE Fo)) (XZ13:Dx P w K mg base (dZ P w) 2 "refuse_no_names" ["things"] [] (f8 K Fl)):a8 P w K mg base (dZ P w) 3 f fd ["self","good","other","ratio"] (ko K mt Fl Fs):=by
 have sc:aB ["self","good","other","ratio","others"] ["self","good","other","ratio"] (au yq):=dP (by decide+kernel)
 refine F.okX sc (fun vs H Q E h=>?_) (fun cdv A outer s H vs Q E hr h=>?_)
 ·obtain ⟨_,_,_,_,_,_,_,_,_,_,rfl,_⟩:=h
  rfl
 refine jy h fun x v w r F1 rows m g bs _hi=>?_
 refine iU _hi fun ns _hj=>?_
 refine iW _hj fun _r1 lb m1000 nd n78 hv hw hr0 _hk=>?_
 refine fQ _hk fun eN qq=>?_
 clear h _hi _hj _hk;subst _r1;refine ⟨_,(ae (bx (fE XZ13 hr (by decide) rfl cY (aa (bM (aa (pv 1) (aa (pv 2) af))) af))) (ae (aU (aN pW (pv 3) dv (aK _)) (ak (cA 3 sc (rH XZ3 hr (by decide) rfl cY (aa ar af)))) aG) (ae (aU (aN eO (pv 1) (pv 2) (aK _)) (ak (eV B.GK rfl B.Gy rfl cY (aa dh af))) aG) (ae (aU (fT (qi (cf hr) (pv 2) (fX (cf hr) (cp (pv 0) rfl) (pv 1) cx ⟨rfl,rfl,rfl,rfl⟩)) (by with_unfolding_all rfl)) (ak (eV B.GK rfl B.Gy rfl cY (aa dh af))) aG) (ae (aU (PW.pt (gG (b5 (bv (du Dis_Z3 hr (aa (pv 3) af)))) (fh (aN yw (aD aL (pv 3) ar (fun _ _=>rfl)) ar (aK _))))) (ak (eV B.GK rfl B.Gy rfl cY (aa dh af))) aG) (ae (bx (fZ (pv 0) DZ15 hr (by decide) (aa (bM (aa (pv 1) (aa (pv 2) af))) af))) (ae (cA 4 sc (eD FM PySem.F.slot_dict_setdefault PySem.F.type_dict_setdefault lW (cp (pv 0) rfl) (aa (pv 1) (aa cx af)))) (ak (cZ (cf hr) (pv 4) (pv 2) (pv 3) rfl))))))))),?_⟩
 try dsimp only[cxK]
 have slt:(3000:Nat)<sizeLine:=by decide
 refine (bY rfl rfl ⟨by show 2<=sizeLine;decide,fun l0 n0=>?_⟩)
 have g1:=aj n0 (.lst [v,w]);refine ⟨l0,xr rfl ⟨ac,(fun y hy=>?_),fun nn=>?_,fun nn H' gg=>eN (fun z=>nn fun y hy=>?_) H' (g1.trans gg)⟩⟩
 ·rcases EC.mp hy with rfl|hy
  ·exact hv.imp id (eY.same g1)
  ·rw[E9.mp hy];exact hw.imp id (eY.same g1)
 rotate_left
 ·rcases EC.mp hy with rfl|hy
  ·exact z.1
  ·rw[E9.mp hy];exact z.2
 obtain ⟨zg,rfl,mg'⟩:=nn v (by simp)
 obtain ⟨zo,rfl,mo'⟩:=nn w (by simp)
 obtain ⟨qS,qD⟩:=qq zg zo rfl rfl mg' mo';have lb1:=lb.same g1;generalize ay H l0 (.lst [.str zg,.str zo])=H1 at g1 lb1⊢;try dsimp only[aM,aR]
 refine cH (fun Nq=>∀(r':V) (H':Hp),ax H1 H'->(((∃(p q:Int) (t:Addr),r'= .ref t/\H' t=some (.tup [.int p,.int q])/\0<p/\nS p q/\Bd 200 p/\Bd 200 q/\qM H r p q/\∀r2,r= .ref r2->t=r2)∨(jw K H' r'/\jw K H r)))->Nq [some (.ref x),some (.str zg),some (.str zo),some r',none] H') (fun N hN=>?_) ?_
 ·rcases hr0 with ⟨p,q,⟨rfl,rfl,rfl⟩|⟨t,rfl,et,p0,lo,bp,bq⟩⟩|bad
  ·refine (xr rfl ⟨rfl,xr rfl (dT rfl (bO 1 1 ⟨rfl,Bd.one.mono (by decide),fun _ p' q' f t H2 g2 e2=>?_,fun z=>absurd z (by decide)⟩))⟩)
   obtain ⟨rfl,rfl⟩:=vC f;exact hN _ _ g2 (.inl (cO 1 1 t ⟨rfl,e2,by decide,⟨by decide,rfl⟩,Bd.one.mono (by decide),Bd.one.mono (by decide),.inl ⟨rfl,rfl,rfl⟩,fun r2 z=>(by cases z)⟩))
  ·exact (xr rfl ⟨rfl,xr rfl (dF nofun (hN (.ref t) _ (.refl _) (.inl (cO p q t ⟨rfl,g1 _ _ et,p0,lo,bp,bq,.inr ⟨t,rfl,et,p0,lo,bp,bq⟩,fun r2 z=>(by cases z;rfl)⟩))))⟩)
  ·exact (xr rfl ⟨rfl,xr rfl (dF bad.1 (hN r _ (.refl _) (.inr ⟨bad.same g1,bad⟩)))⟩)
 intro r' H2 g2 hr2;have k2:=g1.trans g2;have lb2:=lb1.same g2;refine (bY rfl rfl ⟨rfl,xr rfl (d2 (fun c=>⟨by show 1<=sizeLine;decide,qS (.inl (by injection c)) _ k2⟩) (fun c=>?_))⟩)
 have zne:zg≠zo:=fun z=>c (by rw[z])
 refine io lb2.at_ fun dx s b fs _hi=>?_
 refine iU _hi fun dk _hj=>?_
 refine iW _hj fun ex es eb bd hb fm sF bF pb=>?_
 try dsimp only[aM,aR]
 refine cH (fun Nq=>∀H':Hp,ax H2 H'->¬rZ g zg zo->Nq [some (.ref x),some (.str zg),some (.str zo),some r',none] H') (fun N hN=>?_) ?_
 ·refine (bY rfl rfl (bG x _ dx _ (xr rfl ⟨ex,B.Fm,B.Ge,es,s,rfl,.inl ⟨_,.inl bd.at_⟩,xr rfl (fun pn hn=>?_)⟩)))
  have g3:=aj hn (.dK []);refine ⟨_,cT.k (k:= .inr zg) (g3 _ _ bd.at_),?_⟩;rcases bd.ex zg with ⟨e1,e2⟩|⟨a,row,e1,e2,e3,e4,e5,e6,e7⟩
  ·rw[e1];exact ⟨pn,xr rfl ⟨cT.k (k:= .inr zo) ac,xr rfl (b4 (hN _ g3 (fun ⟨t,z⟩=>(by rw[e2] at z;cases z))))⟩⟩
  ·rw[e1];refine ⟨a,xr rfl ⟨cT.k (k:= .inr zo) (g3 _ _ e2),xr rfl ?_⟩⟩;cases hg:g zg zo with
   |none=>
    have:aP (cV row) (.inr zo)=none:=by
     cases hx:aP (cV row) (.inr zo) with
     |none=>rfl
     |some u=>
      obtain ⟨⟨y,t⟩,hm,e⟩:=EF.mp (show (.inr zo,u)∈cV row from gu hx)
      cases e;have:=(e7 _ _).mpr hm;rw[hg] at this;cases this
    rw[this];exact b4 (hN _ g3 (fun ⟨t,z⟩=>(by rw[hg] at z;cases z)))
   |some t=>
    rw[gi e5 ((e7 zo t).mp hg)];exact cU ⟨by show 1<=sizeLine;decide,qS (.inr (.inl ⟨t,hg⟩)) _ (k2.trans g3)⟩
 intro H3 g3 nst;have k3:=k2.trans g3;have lb3:=lb2.same g3;clear ex es eb bd hb fm sF bF pb;rcases hr2 with ⟨p,q,t,rfl,et,p0,lo,bp,bq,rok,tr⟩|⟨bad,bad0⟩
 rotate_left
 ·have bad3:=bad.same g3;obtain ⟨_,f|⟨t,p,q,rfl,et,f,pz⟩⟩:=bad3
  ·exact (xr rfl (bO r' false ⟨rfl,f,xr rfl (cU ⟨by show 1<=sizeLine;decide,qS (.inr (.inr bad0)) _ k3⟩)⟩))
  ·exact (xr rfl (bO _ true ⟨rfl,f,xr rfl (b4 (xr rfl (xl rfl rfl (bS.of et) rfl (xo rfl rfl (xr rfl (dT pz ⟨by show 1<=sizeLine;decide,qS (.inr (.inr bad0)) _ k3⟩))))))⟩))
 have et3:=g3 _ _ et;refine (xr rfl (bO _ true ⟨rfl,zy et3 (by rw[decide_eq_true (show 1<=q by have:=lo.pos;lia),decide_eq_true lo.low];rfl),xr rfl (b4 (xr rfl (xl rfl rfl (bS.of et3) rfl (xo rfl rfl (xr rfl (dF (by lia) ?_))))))⟩))
 refine io lb3.at_ fun dx s b fs _hi=>?_
 refine iU _hi fun dk _hj=>?_
 refine iW _hj fun ex es eb bd hb fm sF bF pb=>?_
 refine (xr rfl (cO x _ dx (xr rfl ⟨ex,B.Fm,B.G3,fm _ (by decide),bY rfl rfl ⟨by show 2<=sizeLine;decide,fun l4 n4=>?_⟩⟩)))
 have g4:=aj n4 (.lst [.str zg,.str zo]);obtain ⟨F0,la,sub,back⟩:=(lb3.same g4).la;refine (fR x l4 F0 rows ns [zg,zo] ⟨rfl,la,ac,by simp;lia,nd,fun H5 ms k5 la5 nd5 m5=>?_⟩)
 have lb5:=back _ _ _ la5 k5;have kF:KF F1 H H5:=(KF.of (k3.trans g4)).trans fun a o n e=>k5 a o (fun z=>n (sub a z)) e
 have et5:H5 t=some (.tup [.int p,.int q]):=k5 _ _ (fun z=>(lb3.same g4).not (g4 _ _ et3) (fun _ z=>nomatch z) (sub t z)) (g4 _ _ et3)
 clear ex es eb bd hb fm sF bF pb;refine io lb5.at_ fun dx s b fs _hi=>?_
 refine iU _hi fun dk _hj=>?_
 refine iW _hj fun ex es eb bd hb fm sF bF pb=>?_
 have dF:∀a∈F1,∃kv,H5 a=some (.dK kv):=fun a ha=>by
  refine mD lb5.ex fun _ _ _ _ _ _ _hi=>?_
  refine iW _hi fun _ _ _ _ _ _ _ _ _hj=>?_
  refine iV _hj fun _ _ _ _ _ _hk=>?_
  refine fQ _hk fun q8 _=>?_
  exact q8 a ha
 refine (xr rfl (bG x _ dx _ (xr rfl ⟨ex,B.Fm,B.Ge,es,.inr (.inr (.inl ⟨rfl,.inl ⟨_,bd.at_⟩⟩)),xr rfl (fun pn hn=>?_)⟩)))
 have g6:=aj hn (.dK []);have dkl:=bd.few;have m5':∀y,y∈ms↔y∈ns∨y=zg∨y=zo:=fun y=>(m5 y).trans (by simp)
 refine (bG s _ (.inr zg) (.ref pn) ⟨rfl,rfl,g6 _ _ bd.at_,by lia,fun w hw=>?_,fun hw=>?_⟩)
 ·rcases bd.ex zg with ⟨e1,_⟩|⟨a,row,e1,e2,e3,e4,e5,e6,e7⟩
  ·rw[hw] at e1;cases e1
  rw[hw] at e1;cases e1;have aF:=fL.mp e3;have lb6:=lb5.same g6;have bd6:=bd.same g6;have bd7:=BD.put (g':=nD g zg zo t) bd6 hw (g6 _ _ e2) (fun _ _=>rfl)
  refine (gn rfl rfl rfl ⟨a,xr rfl ⟨eT.k (k:= .inr zo) (g6 _ _ e2) (by unfold cV;rw[E3];lia),?_⟩⟩)
  refine qD zne nst p q rok F1 _ ms t ((kF.trans (KF.of g6)).trans (KF.put _ aF)) FG.refl (LB.stands (r:=a) (u:= .dK []) lb6 (g6 _ _ ex) es (fun _ h=>h) (fun b' o n e=>KF.put _ aF b' o n e) (fun b' o e ns' ni=>?_) (bd7.mono (by lia)) (fun dk2 e y b' z=>?_) (fun b' hb'=>?_)) (by rw[ag (fun z=>by rw[z] at et5;rw[et5] at e2;cases e2)];exact g6 _ _ et5) tr nd5 m5'
  ·rw[ag (fun z=>ni dk bd6.at_ zg (by rw[z];exact hw))]
   exact e
  ·rw[bd6.at_] at e;cases e;exact .inl z
  ·by_cases c:b'=a
   ·exact ⟨_,by rw[c];exact ac⟩
   ·obtain ⟨kv,e⟩:=dF b' hb';exact ⟨kv,by rw[ag c];exact g6 _ _ e⟩
 ·have ps:pn≠s:=fun z=>by rw[z,bd.at_] at hn;cases hn
  have pF:pn∉F1:=lb5.free hn;have new:∀y,aP dk (.inr y)≠some (.ref pn):=fun y=>bd.new hn y
  have bd6:=xL (F':=F1++ [pn]) (bd.same g6) (fun a h=>Ex _ h)
  have bd7:=BD.open (x0:=zg) bd6 hw (show ay H5 pn (.dK []) pn=some (.dK (cV [])) from ac) (fL.mpr (by simp)) ps new
  have hv7:aP (putK dk (.inr zg) (.ref pn)) (.inr zg)=some (V.ref pn):=by rw[iB,if_pos rfl]
  have ep7:ay (ay H5 pn (.dK [])) s (.dK (putK dk (.inr zg) (.ref pn))) pn=some (.dK (cV [])):=by rw[ag ps];exact ac
  have bd8:=BD.put (g':=nD g zg zo t) bd7 hv7 ep7 (fun _ _=>rfl)
  refine (gn rfl rfl rfl ⟨pn,xr rfl ⟨eT.k (k:= .inr zo) (kvs:= []) ep7 (by show 0<sizeLine;lia),?_⟩⟩)
  have tp:t≠pn:=fun z=>by rw[z,hn] at et5;cases et5
  have ts:t≠s:=fun z=>by rw[z,bd.at_] at et5;cases et5
  refine qD zne nst p q rok (F1++ [pn]) _ ms t (kF.trans fun b' o n e=>?_) (fun a ha=>?_) (LB.stands (r:=s) (u:= .dK []) lb5 ex es (fun a h=>Ex _ h) (fun b' o n e=>?_) (fun b' o e ns' ni=>?_) bd8 (fun dk2 e y b' z=>?_) (fun b' hb'=>?_)) (by rw[ag tp,ag ts,ag tp];exact et5) tr nd5 m5'
  ·rw[ag (fun z=>by rw[z,hn] at e;cases e),ag (fun z=>n (by rw[z];exact sF)),ag (fun z=>by rw[z,hn] at e;cases e)]
   exact e
  ·rcases EK.mp ha with h|h
   ·exact .inl h
   ·rw[E9.mp h];refine .inr ?_;cases hp:H pn with
    |none=>rfl
    |some ob=>rw[kF _ _ pF hp] at hn;cases hn
  ·rw[ag (fun z=>by rw[z,hn] at e;cases e),ag (fun z=>n (Ex _ (by rw[z];exact sF))),ag (fun z=>by rw[z,hn] at e;cases e)]
   exact e
  ·rw[ag (fun z=>by rw[z,hn] at e;cases e),ag ns',ag (fun z=>by rw[z,hn] at e;cases e)]
   exact e
  ·rw[bd.at_] at e;cases e;rw[iB] at z
   split at z
   ·cases z;exact .inr hn
   ·exact .inl z
  ·by_cases c1:b'=pn
   ·exact ⟨_,by rw[c1];exact ac⟩
   ·by_cases c2:b'=s
    ·exact ⟨_,by rw[ag c1,c2];exact ac⟩
    ·rcases EK.mp hb' with h|h
     ·obtain ⟨kv,e⟩:=dF b' h;exact ⟨kv,by rw[ag c1,ag c2,ag c1];exact e⟩
     ·exact absurd (E9.mp h) c1
theorem B6 {dV:Value} (F:bA K "stand_in" "Larder.stand_in" Am dV f fd) (DZ12:Dx P w K mg base bj 4 "ways_out" ["stands","good"] [] (yJ K)) (XZ13:Dx P w K mg base (dZ P w) 2 "refuse_no_names" ["things"] [] (f8 K Fl)) (XZ17:i8 P w K mg base (dZ P w) 3 GF ["self","good"] [] (jg K mt Fl)) (I_NoStandIn:Bs P w K mg base 1 on ["self","good"] (gR on "good")):a8 P w K mg base (dZ P w) 5 f fd ["self","good"] (v5 K mt Fl on):=by
 have sc:aB ["self","good","pair"] ["self","good"] (au Am):=dP (by decide+kernel)
 refine F.okX sc (fun vs H Q E h=>?_) (fun cdv A outer s H vs Q E hr h=>?_)
 ·obtain ⟨_,_,_,_,_,_,_,_,_,_,_,_,rfl,_⟩:=h
  rfl
 refine jy h fun x v F1 rows m g bs ns ps _hi=>?_
 refine AI _hi fun vw U Rt _hj=>?_
 refine iW _hj fun _r1 lb m200 ok few hv ra hU _hk=>?_
 refine uf _hk fun u17 rt0 rts _hl=>?_
 refine fQ _hl fun eN qq=>?_
 clear h _hi _hj _hk _hl;subst _r1;refine ⟨_,(ae (bx (fE XZ13 hr (by decide) rfl cY (aa (bM (aa (pv 1) af)) af))) (ae (bR (jX rfl rfl) rfl (ce (du DZ12 hr (aa (cp (pv 0) rfl) (aa (pv 1) af)))) (im 2 sc) (ak (aU (aN pW (vc XZ17 hr (by decide) cY (pv 0) (aa (aD aO (aD aL (pv 2) ar (fun _ _=>rfl)) (jM gM ar) (fun _ _=>rfl)) af)) dv (aK _)) (ak (aC (pv 2))) aG))) (ak (rJ I_NoStandIn hr (by decide) rfl B.Gv rfl cY (aa (pv 1) af))))),?_⟩
 try dsimp only[cxK]
 refine ⟨_,rfl,by show 1<=sizeLine;decide,fun l0 n0=>?_⟩
 have g1:=aj n0 (.lst [v]);refine (bO l0 _ ⟨rfl,ac,(fun y hy=>by rw[E9.mp hy];exact hv.imp id (eY.same g1)),fun nn=>?_,fun nn H' gg=>eN (fun z=>nn fun y hy=>by rw[E9.mp hy];exact z) H' (g1.trans gg)⟩)
 obtain ⟨z,rfl,mz⟩:=nn v (by simp)
 have qz:=qq z rfl mz;have lb1:=lb.same g1;generalize ay H l0 (.lst [.str z])=H1 at g1 lb1⊢;have ra1:∀a b t,g a b=some t->gF K 200 H1 t (vw a b).1 (vw a b).2:=fun a b t e=>⟨bS.of (g1 _ _ (ra.fr a b t e).1),(ra.fr a b t e).2.2.1.pos,(ra.fr a b t e).2.2.2.1,(ra.fr a b t e).2.2.2.2⟩
 refine io lb1.at_ fun dx s b fs _hi=>?_
 refine iU _hi fun dk _hj=>?_
 refine iW _hj fun ex es eb bd hb fm sF bF pb=>?_
 refine ⟨_,rfl,bG x _ dx _ ⟨_,⟨rfl,ex,B.Fm,B.Ge,es,_,rfl,fR s z 200 17 vw g (bO U Rt ⟨rfl,bd.done m200 ra1,hU,u17,by decide,by decide,by decide,rt0 z rfl,rts,fun l cs H2 g2 nl wo bf=>?_⟩)⟩⟩⟩
 obtain ⟨q1,q2⟩:=qz cs bf;obtain ⟨ts,el,lt,each⟩:=wo.ex;have lst:∀(j:Nat) (d:HN),cs[j]?=some d->Nm (aI d):=fun j d hd=>by
  by_cases c0:j=0
  ·subst c0;rw[bf.first] at hd;cases hd;exact mz
  ·obtain ⟨i,c,y,_,_,_,e,⟨t,ht⟩,_⟩:=bf.from_ j d (by lia) hd
   rw[e];have:aI (c++ [y])=y:=by unfold aI;simp
   rw[this];exact (ra.nm _ _ _ ht).2
 refine ⟨l,rfl,⟨_,aQ.of el⟩,cv (xs:=ts.map V.ref) (fun k σ H'=>(∃o2:Option V,σ= [HV x,some (.str z),o2])/\ax H2 H'/\∀(j:Nat) (d:HN),j<k->cs[j]?=some d->Blk ps bs (aI d)) ⟨⟨none,rfl⟩,.refl _,fun j d h=>absurd h (FD _)⟩ (fun k σ H' _ h=>aQ.of (h.2.1 _ _ el)) ?_ ?_⟩
 ·rintro k y σ H3 hy ⟨⟨o2,rfl⟩,g3,bl⟩;rw[EA] at hy;obtain ⟨t,ht,rfl⟩:=Et.mp hy;have kl:k<cs.length:=by rw[<-lt];exact (E2.mp ht).1
  have hc:=E1 kl;generalize cs[k]=c at hc;obtain ⟨cl,rl,p,q,e1,e2,_,rt,ncl,e3⟩:=each k t c ht hc;have nl:=lst k c hc;have k3:=g2.trans g3;have c1:1<=c.length:=by
   cases c with
   |nil=>exact absurd nl.1 (by show ¬1<=(sL "").length;decide)
   |cons _ _=>simp
  have al:fw (c.map V.str) (-1)=some (.str (aI c)):=fc (fun z=>by rw[z] at c1;simp at c1)
  have lb3:=lb1.same k3;refine io lb3.at_ fun dx3 s3 b3 fs3 _hi=>?_
  refine iU _hi fun dk3 _hj=>?_
  refine iW _hj fun ex3 es3 eb3 bd3 hb3 fm3 sF3 bF3 pb3=>?_
  refine ⟨_,rfl,bG x _ dx3 _ ⟨rfl,ex3,B.Fm,B.Hw,fm3 _ (by decide),_,rfl,bG t _ _ _ ⟨rfl,rfl,bS.of (g3 _ _ e1),rfl,_,rfl,bG cl _ _ _ ⟨rfl,rfl,aQ.of (g3 _ _ e2),al,eG x (.str (aI c)) F1 rows m g bs ns ps ⟨rfl,lb3,ok,few,.inl ⟨_,rfl,nl⟩,fun z'=>absurd ⟨_,rfl,nl⟩ z',fun z' ez' mz'=>?_⟩⟩⟩⟩⟩
  injection ez' with ez'
  subst ez';refine ⟨fun H4 g4 nb=>?_,fun lw H4 cw goal g4 nlw ew wy gm gl ga=>?_⟩
  ·exact ⟨rfl,_,rfl,dT rfl ⟨_,rfl,q1 k c t cl rl p q H4 ((g1.trans k3).trans g4) (g1.free ncl) hc bl (fun ⟨b',h1,h2⟩=>nb b' h1 h2) (g4 _ _ (g3 _ _ e1)) (g4 _ _ (g3 _ _ e2)) (g4 _ _ (g3 _ _ e3)) rt⟩⟩
  ·refine ⟨rfl,_,rfl,dF nofun ⟨⟨_,rfl⟩,g3.trans g4,fun j d hj hd=>?_⟩⟩
   by_cases cj:j=k
   ·subst cj;rw[hc] at hd;cases hd;exact ⟨goal,gm,gl⟩
   ·exact bl j d (by lia) hd
 ·rintro σ H3 ⟨⟨o2,rfl⟩,g3,bl⟩;rw[E3,lt] at bl;refine ⟨_,rfl,by show 1<=sizeLine;decide,fun xa na=>rK na fun d H4 gx ea ed ne gd edd=>⟨rfl,d,ea,?_⟩⟩
  exact q2 (fun j d hd=>bl j d (E2.mp hd).1 hd) d _ (((g1.trans g2).trans g3).trans gd) edd
theorem B7 {dV:Value} (F:bA K "chosen" "chosen" An dV f fd) (XZ21:i8 P w K mg base (dZ P w) 5 Gz ["self","good"] [] (v5 K mt Fl on)):a8 P w K mg base (dZ P w) 6 f fd ["recipe","larder"] (gz K Ev mt on):=by
 have sc:aB ["recipe","larder","told","take","pair"] ["recipe","larder"] (au An):=dP (by decide+kernel)
 refine F.okX sc (fun vs H Q E h=>?_) (fun cdv A outer s H vs Q E hr h=>?_)
 ·obtain ⟨_,_,_,_,_,_,_,_,_,_,_,_,_,_,_,_,_,_,rfl,_⟩:=h
  rfl
 refine jy h fun r x dp ds db pl ks nm n _hi=>?_
 refine jy _hi fun F1 rows m g bs ns ps es vw _hj=>?_
 refine iV _hj fun _r1 rc k100 knm s7 _hk=>?_
 refine jz _hk fun n60 qD qE=>?_
 clear h _hi _hj _hk;subst _r1;refine ⟨_,(ae (cA 2 sc (bM af)) (ae (bR (jX rfl rfl) rfl (ce (cp (pv 0) rfl)) (im 3 sc) (ae (cA 4 sc (vc XZ21 hr (by decide) cY (pv 1) (aa (aD aL (pv 3) ar (fun _ _=>rfl)) af))) (ak (bx (eD EZ Ec Eb bC (pv 2) (aa (cg (aa (aD aL (pv 3) ar (fun _ _=>rfl)) (aa (aD aL (pv 4) ar (fun _ _=>rfl)) (aa (aD aL (pv 4) ar (fun _ _=>rfl)) af)))) af)))))) (ak (aC (pv 2))))),?_⟩
 try dsimp only[cxK]
 have slt:(3000:Nat)<sizeLine:=by decide
 obtain ⟨dr,lt,fs,er,ft,fp,⟨ts,el,tl,each⟩⟩:=rc.ex;have cnt:=s7.cnt;have few:=s7.d7.few;refine ⟨by show 0<=sizeLine;decide,fun l nl=>?_⟩
 have g0:=aj nl (.lst []);have w0:uh H (ay H l (.lst [])) l ks [] (fun z c p q=>fM es ps bs z c/\kY vw c p q):=⟨[],ac,rfl,EO _,fun i t k r h=>by simp at h⟩
 generalize ay H l (.lst [])=H0 at g0 w0⊢;try dsimp only[aM,aR]
 refine cH (fun Nq=>∀(rs:List fN) (o3 o4:Option V) (H':Hp),ax H H'->rs.length=ks.length->(uh H H' l ks rs (fun z c p q=>fM es ps bs z c/\kY vw c p q))->Nq [some (.ref r),some (.ref x),some (.ref l),o3,o4] H') (fun N hN=>?_) ?_
 ·refine (xr rfl (bG r _ dr _ (xr rfl ⟨g0 _ _ er,B.Ft,B.Fq,ft,lt,rfl,⟨_,aQ.of (g0 _ _ el)⟩,cv (xs:=ts.map V.ref) (fun i σ H'=>ax H H'/\(∃rs:List fN,rs.length=i/\uh H H' l ks rs (fun z c p q=>fM es ps bs z c/\kY vw c p q))/\(∀(j:Nat) (k':HU),j<i->ks[j]?=some k'->hJ es ps bs k'.1)/\∃o3 o4:Option V,σ= [HV r,HV x,HV l,o3,o4]) ⟨g0,⟨[],rfl,w0⟩,fun j k h=>absurd h (FD _),bO none none rfl⟩ (fun i σ H' _ h=>aQ.of (h.1 _ _ el)) ?_ ?_⟩)))
  ·rintro i v σ H1 hv ⟨g1,⟨rs,rl',cw⟩,pre,o3,o4,rfl⟩;rw[EA] at hv;cases ht:ts[i]? with
   |none=>rw[ht] at hv;cases hv
   |some t=>
    rw[ht] at hv;cases hv;have il:i<ks.length:=by rw[<-tl];exact (E2.mp ht).1
    have hk:=E1 il;generalize ks[i]=k at hk;obtain ⟨am,e1,e2⟩:=each i t k ht hk;have nk:=knm k (E6 hk);have s1:=s7.same g1;refine io s1.lb.at_ fun dx s0 b0 fs' _hi=>?_
    refine iU _hi fun dk _hj=>?_
    refine iW _hj fun ex es0 eb bd hb fm sF bF pb=>?_
    refine (xr rfl (cO x _ dx (xr rfl ⟨ex,B.Fm,B.Hb,fm _ (by decide),xr rfl (xl rfl rfl (bS.of (g1 _ _ e1)) rfl (eG x (.str k.1) F1 rows m g bs ns ps (cO vw nm (kY vw) ⟨rfl,s1.lb,by lia,s1.ok,by lia,.inl ⟨k.1,rfl,nk⟩,s1.ra,s1.hU,by lia,fun y ey=>vQ _ _,fun c p q y t r s h1 h2 h3=>sg h1 h3,fun nn=>absurd ⟨k.1,rfl,nk⟩ nn,fun y ey _ cs hbf=>?_⟩)))⟩)))
    cases ey;refine ⟨fun kk c pt cl rl p q' H2 g2 ncl hkk bl nb e1' e2' e3' hRt=>?_,fun all d H2 g2 ed=>qE i k d H2 (g1.trans g2) hk pre (ss (fun a b=>s7.st a b) hbf all) ed⟩
    have due:=v6 (fun a b=>s7.st a b) hbf hkk bl nb
    obtain ⟨ts2,hl2,tl2,rk2,_⟩:=(cw.same g2).ex;have cll:cl≠l:=fun z=>by
     obtain ⟨_,hl1,_⟩:=cw.ex;rw[z,hl1] at ncl;cases ncl
    try dsimp only[aM,aR]
    refine (xr rfl ⟨.inl ⟨rfl,_,aQ.of hl2⟩,xr rfl (xl rfl rfl (bS.of (g2 _ _ (g1 _ _ e1))) rfl (xr rfl (xl rfl rfl (bS.of e1') rfl (xr rfl (xl rfl rfl (bS.of e1') rfl ⟨by show 3<=sizeLine;decide,fun t3 n3=>?_⟩)))))⟩)
    have k3:=aj n3 (.tup [.str k.1,.ref cl,.ref rl]);have et3:ay H2 t3 (.tup [.str k.1,.ref cl,.ref rl]) t3=some (.tup [.str k.1,.ref cl,.ref rl]):=ac;generalize ay H2 t3 (.tup [.str k.1,.ref cl,.ref rl])=H3 at k3 et3⊢;refine ⟨l,xo rfl rfl ⟨k3 _ _ hl2,by rw[E3];lia,dM ((g1.trans g2).trans k3) nl _,⟨rs++ [(c,p,q')],by rw[E8,rl'];rfl,?_⟩,fun j k' hj hk'=>?_,bO _ _ rfl⟩⟩
    ·have:=((cw.same g2).same k3).snoc (k3 _ _ hl2) (k:=k) (by rw[rl'];exact hk) (t:=t3) (cl:=cl) (rl:=rl) (c:=c) (p:=p) (q:=q') ⟨due,hRt⟩ et3 (k3 _ _ e2') (k3 _ _ e3') (g1.free ncl) cll
     rw[Ed] at this;exact this
    ·rcases ER.mp hj with w|rfl
     ·exact pre j k' w hk'
     ·rw[hk] at hk';cases hk';exact nK due
  ·rintro σ H1 ⟨g1,⟨rs,rl',cw⟩,pre,o3,o4,rfl⟩;rw[E3,tl] at rl';exact hN rs o3 o4 _ g1 rl' cw
 intro rs o3 o4 H1 g1 rl' cw;exact (xr rfl (qD l rs H1 g1 nl rl' cw))
theorem B8 {dV:Value} (F:bA K "needs_of" "needs_of" Ao dV f fd) (DZ5:Dx P w K mg base bj 3 "plus" ["one","other"] [] (pH K)) (DZ6:Dx P w K mg base bj 3 "product" ["one","other"] [] (qo K)) (DZ7:Dx P w K mg base bj 3 "factor_of" ["recipe","plates"] [] (pI Ev)) (XZ3:Dx P w K mg base (dZ P w) 2 "fraction" ["top","bottom"] [.int 1] (oE Fo)) (XZ22:Dx P w K mg base (dZ P w) 6 "chosen" ["recipe","larder"] [] (gz K Ev mt on)):a8 P w K mg base (dZ P w) 7 f fd ["dishes","larder"] (kK K Ev mt on):=by
 have sc:aB ["dishes","larder","sums","dish","factor","take","choice","name","amount"] ["dishes","larder"] (au Ao):=dP (by decide+kernel)
 refine F.okX sc (fun vs H Q E h=>?_) (fun cdv A outer s H vs Q E hr h=>?_)
 ·obtain ⟨_,_,_,_,_,_,_,_,_,_,_,_,_,_,_,_,_,rfl,_⟩:=h
  rfl
 refine jy h fun ld x dp ds db nm n F1 rows _hi=>?_
 refine mD _hi fun m g bs ns ps es _hj=>?_
 refine wp _hj fun vw dd _hk=>?_
 refine iV _hk fun _r1 da nmz s7 n60 _hl=>?_
 refine jz _hl fun tw qD qE=>?_
 clear h _hi _hj _hk _hl;subst _r1;refine ⟨_,(ae (cA 2 sc cx) (ae (bR (jX rfl rfl) rfl (ce (pv 0)) (im 3 sc) (ae (cA 4 sc (du DZ7 hr (aa (aD aL (pv 3) ar (fun _ _=>rfl)) (aa (aD aL (pv 3) ar (fun _ _=>rfl)) af)))) (ak (bR (jX rfl rfl) rfl (zS rfl B.HC (aa (cp (aD aL (pv 3) ar (fun _ _=>rfl)) rfl) (aa (fE XZ22 hr (by decide) rfl cY (aa (aD aL (pv 3) ar (fun _ _=>rfl)) (aa (pv 1) af))) af))) (jL rfl (cX (im 5 sc) (cX (im 6 sc) iu))) (ae (cA 7 sc (aD aO (aD aL (pv 6) ar (fun _ _=>rfl)) (jM gM ar) (fun _ _=>rfl))) (ae (cA 8 sc (du DZ6 hr (aa (du DZ6 hr (aa (aD aL (pv 5) ar (fun _ _=>rfl)) (aa (pv 4) af))) (aa (aD aL (pv 6) ar (fun _ _=>rfl)) af)))) (ak (cZ (cf hr) (pv 2) (pv 7) (du DZ5 hr (aa (fX (cf hr) (pv 2) (pv 7) (rH XZ3 hr (by decide) rfl cY (aa ar af)) ⟨rfl,rfl,rfl,rfl⟩) (aa (pv 8) af))) rfl)))))))) (ak (aC (av (kG rfl) rfl B.GJ PyProof.Rows.Boot.«sorted» (aa (uF FM PySem.F.slot_dict_items PySem.F.type_dict_items vM (pv 2)) af)))))),?_⟩
 try dsimp only[cxK]
 have slt:(3000:Nat)<sizeLine:=by decide
 have few:=da.few;have dfew:=s7.d7.few;intro d nd;have g0:=aj nd (.dK []);have sm0:jJ (ay H d (.dK [])) d [] (fun _=>none):=jJ.nil ac
 generalize ay H d (.dK [])=H0 at g0 sm0⊢;try dsimp only[aM,aR]
 refine cut (fun σ H'=>ax H H'/\(∃rows',jJ H' d rows' (sumF (ie es ps bs vw) dd)/\rows'.length<=30)/\(∀d'∈dd,∀k∈d'.ks,hJ es ps bs k.1)/\∃o3 o4 o5 o6 o7 o8:Option V,σ= [HV ld,HV x,HV d,o3,o4,o5,o6,o7,o8]) (fun N hN=>?_) ?_
 ·refine (xr rfl ⟨ld,rfl,⟨_,aQ.of (g0 _ _ da.at_)⟩,cv (xs:=dd.map fun d=>V.ref d.t) (fun i σ H'=>ax H H'/\(∃rows',jJ H' d rows' (sumF (ie es ps bs vw) (dd.take i))/\rows'.length<=5*i)/\nL (5*i) (sumF (ie es ps bs vw) (dd.take i))/\(∀(i':Nat) (d':iq),i'<i->dd[i']?=some d'->∀k∈d'.ks,hJ es ps bs k.1)/\∃o3 o4 o5 o6 o7 o8:Option V,σ= [HV ld,HV x,HV d,o3,o4,o5,o6,o7,o8]) ⟨g0,⟨[],sm0,EO _⟩,nL.nil,fun i' _ h=>absurd h (FD _),fR none none none none none none rfl⟩ (fun i σ H' _ h=>aQ.of (h.1 _ _ da.at_)) ?_ ?_⟩)
  ·intro i v σ H1 hv h_;refine uf h_ fun g1 _r1 gk1 _hi=>?_
   refine fQ _hi fun pre _hj=>?_
   refine mD _hj fun o3 o4 o5 o6 o7 o8 _r2=>?_
   clear h_ _hi _hj;obtain ⟨rows1,sm1,rl1⟩:=_r1;subst _r2;rw[EA] at hv;cases hd:dd[i]? with
   |none=>rw[hd] at hv;cases hv
   |some d9=>
   rw[hd] at hv;cases hv;have il:i<dd.length:=(E2.mp hd).1;obtain ⟨et,rc,kok,pl1,pl2,n1,n2⟩:=(da.same g1).each d9 (E6 hd);have kf:=kok.few;have bn:=yf n1 n2;have bpl:=yf pl1 pl2;try dsimp only[aM,aR]
   refine cut (fun σ H'=>ax H1 H'/\∃(tf:Addr) (fp fq:Int),Fr fp fq d9.n d9.pl/\H' tf=some (.tup [.int fp,.int fq])/\σ= [HV ld,HV x,HV d,HV d9.t,HV tf,o5,o6,o7,o8]) (fun N hN=>(xr rfl (xl rfl rfl (bS.of et) rfl (xr rfl (xl rfl rfl (bS.of et) rfl (bG d9.r d9.n d9.pl d9.ks ⟨rfl,rc,pl1,pl2,fun fp fq f tf H2 g2 etf=>hN _ _ ⟨g2,cO tf fp fq ⟨f,etf,rfl⟩⟩⟩)))))) ?_
   rintro σ H2 ⟨g2,tf,fp,fq,f1,etf,rfl⟩;have bfp:Bd 10 fp:=bn.of_le f1.bt;have bfq:Bd 10 fq:=bpl.of_le f1.bb;obtain ⟨dr,lt,fs,er,ft,_,⟨ts,el,tl,each⟩⟩:=(rc.kd (KD.of g2)).ex;have et2:=g2 _ _ et;refine (xr rfl (xl rfl rfl (bS.of et2) rfl (bG d9.r _ dr _ (xr rfl ⟨er,B.Ft,B.Fq,ft,xr rfl (xl rfl rfl (bS.of et2) rfl (xr rfl (eG d9.r x dp ds db d9.pl d9.ks nm n (eG F1 rows m g bs ns ps es vw ⟨rfl,rc.kd (KD.of g2),by lia,fun k hk=>nmz _ (kok.inn k hk),s7.same (g1.trans g2),n60,fun l rs H3 g3 nl rl cw=>?_,fun j k a H3 g3 hk prek nf ea=>qE i j d9 k a H3 hd hk pre prek nf ((g1.trans g2).trans g3) ea⟩))))⟩))))
   have cw':=cw;obtain ⟨ts2,el2,tl2,_,each2⟩:=cw.ex;have g03:=(g1.trans g2).trans g3;have elt3:=g3 _ _ el;refine (bO lt l ⟨rfl,⟨_,aQ.of elt3⟩,⟨_,aQ.of el2⟩,xI (xs:=ts.map V.ref) (ys:=ts2.map V.ref) (fun j σ H'=>ax H H'/\KD H3 H'/\(∃rows',jJ H' d rows' (ua (ie es ps bs vw) d9 (sumF (ie es ps bs vw) (dd.take i)) j)/\rows'.length<=5*i+j)/\nL (5*i+j) (ua (ie es ps bs vw) d9 (sumF (ie es ps bs vw) (dd.take i)) j)/\(∀(j':Nat) (k':HU),j'<j->d9.ks[j']?=some k'->hJ es ps bs k'.1)/\∃o5 o6 o7 o8:Option V,σ= [HV ld,HV x,HV d,HV d9.t,HV tf,o5,o6,o7,o8]) ?_ ?_ ?_ ?_⟩)
   ·exact ⟨g03,KD.of (.refl _),⟨rows1,(sm1.same (g2.trans g3)),by lia⟩,gk1,fun j' _ h=>absurd h (FD _),bG _ _ _ _ rfl⟩
   ·rintro j σ H4 _ ⟨_,k4,_⟩;exact ⟨aQ.of (k4 _ _ (fun _ z=>by cases z) (fun _ z=>by cases z) elt3),aQ.of (k4 _ _ (fun _ z=>by cases z) (fun _ z=>by cases z) el2)⟩
   ·rintro j x' y' σ H4 T hx hy ⟨g4,k4,⟨rows4,sm4,rl4⟩,gk4,pre4,o5,o6,o7,o8,rfl⟩ nT;obtain ⟨t,ht,rfl⟩:=gw hx;obtain ⟨t2,ht2,rfl⟩:=gw hy;have jk:j<d9.ks.length:=by rw[<-tl];exact (E2.mp ht).1
    have jr:j<rs.length:=by rw[<-tl2];exact (E2.mp ht2).1
    have hk:=E1 jk;have hr':=E1 jr;generalize d9.ks[j]=k at hk;generalize rs[j]=r at hr';obtain ⟨am,e1,e2⟩:=each j t k ht hk;obtain ⟨⟨due,rtv⟩,cl,rl',e3,e4,e5,_,_⟩:=each2 j t2 k r ht2 hk hr';obtain ⟨k10,klo,kb1,kb2⟩:=kok.am k (E6 hk);have hW:=v7 tw due rtv;obtain ⟨r0,rlo,rb1,rb2⟩:=yN tw s7.d7.inn dfew.2.2 due rtv;have gT:=aj nT (.tup [.ref t,.ref t2]);have kd:=k4.trans (KD.of gT);have up:∀a o,(∀kv,o≠HO.dK kv)->(∀kv,o≠HO.dT kv)->H3 a=some o->ay H4 T (.tup [.ref t,.ref t2]) a=some o:=kd;have f1':=up _ _ (fun _ z=>by cases z) (fun _ z=>by cases z) (g3 _ _ e1)
    have f2':=up _ _ (fun _ z=>by cases z) (fun _ z=>by cases z) (g3 _ _ e2)
    have f3':=up _ _ (fun _ z=>by cases z) (fun _ z=>by cases z) e3
    have f4':=up _ _ (fun _ z=>by cases z) (fun _ z=>by cases z) e4
    have f5':=up _ _ (fun _ z=>by cases z) (fun _ z=>by cases z) e5
    have ftf:=up _ _ (fun _ z=>by cases z) (fun _ z=>by cases z) (g3 _ _ etf)
    have sm5:=sm4.same gT;have g5:=g4.trans gT;refine ⟨T,xr rfl ⟨bS.of ac,rfl,_,xr rfl ⟨_,xr rfl ⟨rfl,?_⟩⟩⟩⟩;clear up;generalize ay H4 T (.tup [.ref t,.ref t2])=H5 at*;try dsimp only[aM,aR]
    refine cH (fun Nq=>Nq [some (.ref ld),some (.ref x),some (.ref d),some (.ref d9.t),some (.ref tf),some (.ref t),some (.ref t2),some (.str (aI r.1)),o8] H5) (fun N hN=>(xr rfl (xl rfl rfl (bS.of f3') rfl (xr rfl (xl rfl rfl (aQ.of f4') (fc rtv.1) hN))))) ?_
    refine cut (fun σ H'=>ax H5 H'/\∃(ap aq tp tq:Int) (tb:Addr),Fr ap aq (k.2.1*fp) (k.2.2*fq)/\Fr tp tq (ap*r.2.1) (aq*r.2.2)/\Bd 301 tp/\Bd 228 tq/\H' tb=some (.tup [.int tp,.int tq])/\σ= [HV ld,HV x,HV d,HV d9.t,HV tf,HV t,HV t2,some (.str (aI r.1)),HV tb]) (fun N hN=>?_) ?_
    ·refine (xr rfl (xl rfl rfl (bS.of f1') rfl (xr rfl (bG am tf _ _ ⟨_,xr rfl ⟨⟨bS.of f2',klo.pos,kb1.mono (by decide),kb2.mono (by decide)⟩,⟨bS.of ftf,f1.pos,bfp.mono (by decide),bfq.mono (by decide)⟩,fun ap aq f2 ta H6 g6 eta=>?_⟩⟩))))
     have ba1:=(kb1.mul bfp).of_le f2.bt;have ba2:=(kb2.mul bfq).of_le f2.bb;refine (xr rfl (xl rfl rfl (bS.of (g6 _ _ f3')) rfl (fR ta rl' ap aq r.2.1 r.2.2 ⟨rfl,⟨bS.of eta,f2.pos,ba1.mono (by decide),ba2.mono (by decide)⟩,⟨bS.of (g6 _ _ f5'),rlo.pos,rb1.mono (by decide),rb2.mono (by decide)⟩,fun tp tq f3 tb H7 g7 etb=>hN _ _ ⟨g6.trans g7,bG ap aq tp tq ⟨tb,⟨f2,f3,(ba1.mul rb1).of_le f3.bt,(ba2.mul rb2).of_le f3.bb,etb,rfl⟩⟩⟩⟩)))
    intro σ H7 h_;refine fQ h_ fun g7 _hi=>?_
    refine io _hi fun ap aq tp tq _hj=>?_
    refine iU _hj fun tb _hk=>?_
    refine iV _hk fun f2 f3 bt1 bt2 etb _r1=>?_
    clear h_ _hi _hj _hk;subst _r1;have sm7:=sm5.same g7;refine (xr rfl ⟨d,rfl,.inl ⟨_,.inl sm7.at_⟩,xr rfl (bO 0 1 ⟨rfl,Bd.one.mono (by decide),fun _ p' q' f0 tz H8 g8 etz=>?_,fun z=>absurd z (by decide)⟩)⟩)
    obtain ⟨rfl,rfl⟩:=BK f0;have sm8:=sm7.same g8;obtain ⟨th,hv',eth⟩:=sm8.have (aI r.1) etz;refine ⟨_,cT.k (k:= .inr (aI r.1)) sm8.at_,?_⟩;rw[hv'];obtain ⟨z1,z2,z3⟩:=gk4.z (aI r.1);refine (xr rfl (fR th tb _ _ tp tq ⟨rfl,⟨bS.of eth,z1,z2.mono (by lia),z3.mono (by lia)⟩,⟨bS.of (g8 _ _ etb),f3.pos,bt1.mono (by decide),bt2.mono (by decide)⟩,fun sp sq f4 tsm H9 g9 ets=>?_⟩))
    have sm9:=sm8.same g9;refine (bY rfl rfl ⟨d,xr rfl ⟨eT.k (k:= .inr (aI r.1)) sm9.at_ (by rw[pC];lia),?_⟩⟩)
    have bT:Bd 301 (k.2.1*d9.n*r.2.1):=((kb1.mul bn).mul rb1).mono (by decide)
    have bB:Bd 228 (k.2.2*d9.pl*r.2.2):=((kb2.mul bpl).mul rb2).mono (by decide)
    obtain ⟨eq,gk'⟩:=wb gk4 klo.pos (by lia) rlo.pos f1 f2 f3 f4 bT bB
    have eN:ua (ie es ps bs vw) d9 (sumF (ie es ps bs vw) (dd.take i)) (j+1)=kH (ua (ie es ps bs vw) d9 (sumF (ie es ps bs vw) (dd.take i)) j) (aI r.1) (sp,sq):=by
     rw[pJ hk,<-eq];unfold pG;rw[hW]
    have pl':=kI rows4 (aI r.1) tsm sm9.nd;have g79:=(g7.trans g8).trans g9;refine ⟨dM (g5.trans g79) nd _,(kd.trans (KD.of g79)).trans (KD.putK sm9.at_ _),⟨_,eN▸sm9.put ets,by lia⟩,eN▸gk',fun j' k' hj' hk'=>?_,bG _ _ _ _ rfl⟩
    rcases ER.mp hj' with w|rfl
    ·exact pre4 j' k' w hk'
    ·rw[hk] at hk';cases hk';exact nK due
   ·rintro σ H4 ⟨g4,k4,⟨rows4,sm4,rl4⟩,gk4,pre4,o5,o6,o7,o8,rfl⟩;have lmin:min (ts.map V.ref).length (ts2.map V.ref).length=d9.ks.length:=by rw[E3,E3,tl,tl2,rl];exact Nat.min_self _
    rw[lmin] at sm4 gk4 pre4 rl4;rw[sB (E4 _),<-mw hd] at sm4 gk4;refine ⟨g4,⟨rows4,sm4,by lia⟩,gk4.mono (by lia),fun i' d' hi' hd' k hk=>?_,fR _ _ _ _ _ _ rfl⟩
    rcases ER.mp hi' with w|rfl
    ·exact pre i' d' w hd' k hk
    ·rw[hd] at hd';cases hd';obtain ⟨j',hj'⟩:=EH.mp hk;exact pre4 j' k (E2.mp hj').1 hj'
  ·intro σ H1 h_;refine uf h_ fun g1 _r1 gk1 _hi=>?_
   refine fQ _hi fun pre _hj=>?_
   refine mD _hj fun o3 o4 o5 o6 o7 o8 _r2=>?_
   clear h_ _hi _hj;obtain ⟨rows1,sm1,rl1⟩:=_r1;subst _r2;rw[E3,Ey (E4 _)] at sm1;rw[E3] at rl1 pre;refine hN _ _ ⟨g1,⟨rows1,sm1,by lia⟩,fun d' hd' k hk=>?_,fR _ _ _ _ _ _ rfl⟩
   obtain ⟨i',hi'⟩:=EH.mp hd';exact pre i' d' (E2.mp hi').1 hi' k hk
 rintro σ H1 ⟨g1,⟨rows1,sm1,rl1⟩,allF,o3,o4,o5,o6,o7,o8,rfl⟩;refine (xr rfl ⟨.inr (.inr (.inl ⟨rfl,.inl ⟨_,sm1.at_⟩⟩)),d,xr rfl ⟨rfl,sm1.at_,fun v nv=>?_⟩⟩)
 have gv:=aj nv (.ext fun h=>h.IsItemsView v d)
 have sm2:=sm1.same gv;refine (cO v d rows1 ⟨rfl,ac,sm2.at_,sm2.nd,by lia,fun l ys as H2 g2 nl el py sy ly each=>?_⟩)
 have gA:=(g1.trans gv).trans g2;exact qD l H2 allF gA ((g1.trans gv).free nl) (sm2.srt g2 el py sy ly each (by lia))
theorem B9 {dV:Value} (F:bA K "__init__" "Recipe.__init__" Ap dV f fd):a8 P w K mg base bj 1 f fd ["self","name","plates","takes","steps","links"] (su Ev):=by
 have sc:aB ["self","name","plates","takes","steps","links"] ["self","name","plates","takes","steps","links"] (au Ap):=dP (by decide+kernel)
 refine F.ok sc (fun vs H Q E h=>?_) (fun cdv A outer s H vs Q E hr h=>?_)
 ·obtain ⟨_,_,_,_,_,_,_,_,_,_,rfl,_⟩:=h
  rfl
 refine jy h fun a dx lt ls lk nm pl xt xs _hi=>?_
 refine iU _hi fun xk _hj=>?_
 refine iV _hj fun _r1 e0 et es ek q=>?_
 clear h _hi _hj;subst _r1;refine ⟨_,(ae (fo (pv 0) (pv 1) rfl) (ae (fo (pv 0) (pv 2) rfl) (ae (fo (pv 0) (dw dL rfl B.Go boot_list (aa (pv 3) af)) rfl) (ae (fo (pv 0) (dw dL rfl B.Go boot_list (aa (pv 4) af)) rfl) (ak (fo (pv 0) (dw dL rfl B.Go boot_list (aa (pv 5) af)) rfl)))))),?_⟩;try dsimp only[cxK]
 have l0:([]:List (Str×V)).length<=0:=E4 _;have l1:=CK (s:= "name") (v:=nm) l0;have l2:=CK (s:= "plates") (v:= .int pl) l1;refine (bY rfl rfl (cO a _ dx (xr rfl ⟨e0,B.Ft,B.GR,by lia,?_⟩)))
 refine (bY rfl rfl (cO a _ dx (xr rfl ⟨ac,B.Ft,B.Gn,by lia,?_⟩)))
 refine (xr rfl (bO lt xt ⟨rfl,.inl (aQ.of (c5 ac (c5 e0 et))),fun la na=>?_⟩))
 have l3:=CK (s:= "takes") (v:= .ref la) l2;refine (xr rfl (cO a _ dx (xr rfl ⟨dO ac na,B.Ft,B.Fq,by lia,?_⟩)))
 refine (xr rfl (bO ls xs ⟨rfl,.inl (aQ.of (c5 (dO ac na) (aj na _ _ _ (c5 ac (c5 e0 es))))),fun l2 n2=>?_⟩))
 have l4:=CK (s:= "steps") (v:= .ref l2) l3;refine (xr rfl (cO a _ dx (xr rfl ⟨dO ac n2,B.Ft,B.GO,by lia,?_⟩)))
 refine (xr rfl (bO lk xk ⟨rfl,.inl (aQ.of (c5 (dO ac n2) (aj n2 _ _ _ (c5 (dO ac na) (aj na _ _ _ (c5 ac (c5 e0 ek))))))),fun l3 n3=>?_⟩))
 exact (xr rfl (cO a _ dx (xr rfl ⟨dO ac n3,B.Ft,B.GP,by lia,q la _ _ (hZ (qT (hZ (qT (hZ (qT (hZ (hZ (fun _ _ _ e=>e) _) _) na _) _) n2 _) _) n3 _) _) (ya (hZ (hZ (fun _ _ _ e=>e) _) _) ac na) (c5 (dO ac n3) (aj n3 _ _ _ (c5 (dO ac n2) (aj n2 _ _ _ (c5 (dO ac na) ac))))) ac sv.1 sv.2⟩)))
theorem Ca {dV:Value} (F:bA K "_law_cell_at" "_law_cell_at" Aq dV f fd):a8 P w K mg base bj 1 f fd ["_law_script","_law_k"] (mW K):=by
 have sc:aB ["_law_script","_law_k"] ["_law_script","_law_k"] (au Aq):=dP (by decide+kernel)
 refine F.ok sc (fun vs H Q E h=>?_) (fun cdv A outer s H vs Q E hr h=>?_)
 ·obtain ⟨_,_,_,rfl,_⟩:=h
  rfl
 obtain ⟨a,ns,k,rfl,hS,h0,q⟩:=h;refine ⟨_,(ae (aU (aN lA (pv 1) (av aW rfl B.Fx boot_len (aa (pv 0) af)) (aK _)) (ak (aC (aD aO (pv 0) (pv 1) (fun _ _=>rfl)))) aG) (ak (aC ar))),?_⟩
 try dsimp only[cxK]
 refine ⟨_,rfl,_,rfl,bO a _ ⟨rfl,.inl hS,bO _ _ ⟨rfl,rfl,_,rfl,d2 (fun c=>?_) (fun c=>?_)⟩⟩⟩
 ·obtain ⟨v,hv⟩:=wQ h0 c;exact ⟨_,rfl,_,rfl,bG a _ _ _ ⟨rfl,rfl,hS,hv,q v⟩⟩
 ·exact q 0
theorem Cb {dV:Value} (F:bA K "_law_names" "_law_names" Ar dV f fd):a8 P w K mg base bj 1 f fd ["_law_number","_law_many"] pA:=by
 have sc:aB ["_law_number","_law_many","_law_cell","_law_letters","_law_base","_law_k","_law_at","_law_size","_law_step","_law_core","_law_names_here","_law_sign"] ["_law_number","_law_many"] (au Ar):=dP (by decide+kernel)
 refine F.ok sc (fun vs H Q E h=>?_) (fun cdv A outer s H vs Q E hr h=>?_)
 ·obtain ⟨_,_,rfl,_⟩:=h
  rfl
 obtain ⟨nb,many,rfl,m0,m1,q⟩:=h;refine ⟨_,(ae (cA 2 sc (aA aV (pv 0) ar)) (ae (cA 3 sc dh) (ae (cA 4 sc dh) (ae (bR PassesOwn.never rfl (cQ rfl B.Gp (aa ar af)) (im 5 sc) (ak (cA 4 sc (aA c7 (pv 4) (aD qd (pv 3) (aA aV (aA aV (aA bN (aA bV (pv 2) ar) (aA bV (aA bV (aA bN (pv 5) (pv 5)) (aA bN ar (pv 5))) ar)) ar) ar) (fun _ _=>rfl)))))) (ae (cA 6 sc (aA aV (aA bD (pv 2) ar) ar)) (ae (cA 7 sc (aA aV (aA bD (pv 2) ar) ar)) (ae (cA 8 sc (aD aO (bM (aa ar (aa ar (aa ar (aa ar (aa ar (aa ar (aa ar (aa ar af))))))))) (aA aV (aA bD (pv 2) ar) ar) (fun _ _=>rfl))) (ae (cA 9 sc (dj gU (pv 4) eC (dz (pv 7)))) (ae (cA 10 sc (bM af)) (ae (bR PassesOwn.never rfl (cQ rfl B.Gp (aa (pv 1) af)) (im 5 sc) (ae (cA 11 sc (aD qd (pv 3) (aA aV (aA bV (aA bD (pv 2) ar) (aA bN (pv 5) (pv 8))) ar) (fun _ _=>rfl))) (ak (aU (aN nX (pv 1) ar (aK _)) (ak (bx (eD EZ Ec Eb bC (pv 10) (aa (aA c7 (aA c7 (aA c7 (dj gU (pv 9) eC (dz (pv 6))) (aD qd (pv 3) (aA bD (pv 5) ar) (fun _ _=>rfl))) (pv 11)) (dj gU (pv 9) (dz (pv 6)) eC)) af)))) (ak (aU (PW.pt (mH (aN eO (aA aV (pv 2) ar) ar (aK _)) (mG (aN yw (pv 1) ar (aK _))))) (ak (bx (eD EZ Ec Eb bC (pv 10) (aa (dj gU (pv 4) eC (dz (aA bV (pv 5) ar))) af)))) (ak (aU (aN eO (aA aV (pv 2) ar) ar (aK _)) (ak (bx (eD EZ Ec Eb bC (pv 10) (aa (aA c7 (dj gU (pv 4) eC (dz (aA aV (pv 5) ar))) (pv 11)) af)))) (ak (bx (eD EZ Ec Eb bC (pv 10) (aa (aA c7 (aA c7 (dj gU (pv 9) eC (dz (pv 6))) (pv 11)) (dj gU (pv 9) (dz (pv 6)) eC)) af)))))))))))) (ak (aC (pv 10))))))))))))),?_⟩
 try dsimp only[cxK]
 refine (xr rfl (xo rfl rfl ⟨(by show (1000003:Int)≠0;decide),?_⟩))
 have c0:=EB nb (show (0:Int)<1000003 by decide)
 have c1:=EG nb (show (0:Int)<1000003 by decide)
 have s9:(9000:Nat)<=sizeLine:=by decide
 have one:∀c:Nat,(⟨#[c]⟩:Str).length=1:=fun _=>rfl
 have sm:∀(x:Int),0<=x->x<2^30->Bd 30 x:=fun x h0 h1=>by unfold Bd;lia
 have bd3:Bd 30 (3:Int):=by unfold Bd;decide
 try dsimp only[aM,aR]
 refine cut (fun σ H'=>H=H'/\∃c:Int,0<=c/\c<1000003/\σ= [some (.int nb),some (.int many),some (.int c),some (.str dU),none,none,none,none,none,none,none,none]) (fun N hN=>hN _ _ ⟨rfl,_,c0,c1,rfl⟩) ?_
 clear c0 c1;rintro σ _ ⟨rfl,c,c0,c1,rfl⟩;refine cH (fun Nq=>Nq [some (.int nb),some (.int many),some (.int c),some (.str dU),some (.str ""),none,none,none,none,none,none,none] H) (fun N hN=>hN) ?_
 refine cut (fun σ H'=>H=H'/\∃(b:Str) (o5:Option V),σ= [some (.int nb),some (.int many),some (.int c),some (.str dU),some (.str b),o5,none,none,none,none,none,none]/\b.length=12/\Lt b) (fun N hN=>?_) ?_
 ·refine (xr rfl ⟨by decide,by decide,cR (fun i σ H'=>H=H'/\∃(b:Str) (o5:Option V),σ= [some (.int nb),some (.int many),some (.int c),some (.str dU),some (.str b),o5,none,none,none,none,none,none]/\b.length=i/\Lt b) ⟨rfl,bO _ none ⟨rfl,rfl,Lt.nil⟩⟩ (fun i σ H' hi hP=>?_) (fun σ H' hP=>?_)⟩)
  ·obtain ⟨rfl,b,o5,rfl,hb,hL⟩:=hP;have hi':i<12:=hi;have bk:Bd 30 (0+(i:Int)):=sm _ (by lia) (by lia)
   have b1:Bd 60 ((0+(i:Int))*(0+(i:Int))):=bk.mul bk;have b2:Bd 60 (3*(0+(i:Int))):=bd3.mul bk;have b3:Bd 62 ((0+(i:Int))*(0+(i:Int))+3*(0+(i:Int))+7):=(b1.add b2).add ((show Bd 61 (7:Int) by unfold Bd;decide))
   have i0:=EB (((c+1)*((0+(i:Int))*(0+(i:Int))+3*(0+(i:Int))+7)).fmod 1013) (show (0:Int)<26 by decide)
   have i1:=EG (((c+1)*((0+(i:Int))*(0+(i:Int))+3*(0+(i:Int))+7)).fmod 1013) (show (0:Int)<26 by decide)
   obtain ⟨ch,hch,hq⟩:=vD i0 i1;refine (gn rfl rfl rfl (xo rfl rfl (bY rfl rfl (xo rfl rfl ⟨bk.ok bk,xr rfl (xo rfl rfl ⟨bd3.ok bk,xo rfl rfl (xo rfl rfl (xo rfl rfl ⟨(sm (c+1) (by lia) (by lia)).ok b3,xo rfl rfl ⟨(by show (1013:Int)≠0;decide),xo rfl rfl ⟨(by show (26:Int)≠0;decide),cO dU _ ch ⟨rfl,rfl,by decide,hch,xo rfl rfl ⟨?_,?_⟩⟩⟩⟩⟩))⟩)⟩))))
   ·rw[one];lia
   ·exact ⟨rfl,_,xr rfl ⟨by rw[Str.length_append,one,hb],hL.app (Lt.one hq)⟩⟩
  ·obtain ⟨rfl,b,o5,rfl,hb,hL⟩:=hP;exact hN _ _ ⟨rfl,bO b o5 ⟨rfl,by rw[hb];rfl,hL⟩⟩
 rintro σ _ ⟨rfl,b,o5,rfl,hb12,hL⟩;have hb:b.length<=12:=by lia
 have hz:b.length<=sizeLine:=by lia
 have a0:=EB (c.fdiv 3) (show (0:Int)<11 by decide)
 have z0:=EB (c.fdiv 40) (show (0:Int)<11 by decide)
 have t0:=EB (c.fdiv 500) (show (0:Int)<8 by decide)
 have t1:=EG (c.fdiv 500) (show (0:Int)<8 by decide)
 refine (xr rfl (xo rfl rfl ⟨⟨by show (3:Int)≠0;decide,ES (by decide)⟩,xo rfl rfl ⟨(by show (11:Int)≠0;decide),?_⟩⟩))
 refine (xr rfl (xo rfl rfl ⟨⟨by show (40:Int)≠0;decide,ES (by decide)⟩,xo rfl rfl ⟨(by show (11:Int)≠0;decide),?_⟩⟩))
 refine ⟨by show 8<=sizeLine;decide,fun ls ns=>?_⟩
 have g1:=aj ns (.lst [.int 1,.int 3,.int 5,.int 7,.int 9,.int 11,.int 15,.int 17]);obtain ⟨v,hv,ev⟩:=zH (xs:= [V.int 1,V.int 3,V.int 5,V.int 7,V.int 9,V.int 11,V.int 15,V.int 17]) t0 (by show (c.fdiv 500).fmod 8<((8:Nat):Int);exact t1)
 obtain ⟨st,rfl,st0,st1,sto⟩:∃y:Int,v= .int y/\0<=y/\y<20/\nE y:=by
  simp at hv;rcases hv with rfl|rfl|rfl|rfl|rfl|rfl|rfl|rfl
  all_goals exact ⟨_,rfl,by decide,by decide,by unfold nE;decide⟩
 refine (xr rfl (xo rfl rfl ⟨⟨by show (500:Int)≠0;decide,ES (by decide)⟩,xo rfl rfl ⟨(by show (8:Int)≠0;decide),xl rfl rfl (aQ.of ac) ev ?_⟩⟩))
 refine (gn rfl rfl rfl ⟨b,rfl,hz,?_⟩);have hc:(dN b none (some ((c.fdiv 40).fmod 11))).length<=12:=EX (eE _ _ _) hb;refine ⟨by show 0<=sizeLine;decide,fun lp np=>?_⟩
 have z1:=EG (c.fdiv 40) (show (0:Int)<11 by decide)
 have a1:=EG (c.fdiv 3) (show (0:Int)<11 by decide)
 have hc10:(dN b none (some ((c.fdiv 40).fmod 11))).length<=10:=by rw[iN z0];lia
 have hcL:=hL.cut none (some ((c.fdiv 40).fmod 11));generalize dN b none (some ((c.fdiv 40).fmod 11))=core at*;have cz:core.length<=sizeLine:=by lia
 have g2:=g1.trans (aj np (.lst []));have cl:∀lo hi,(dN core lo hi).length<=12:=fun lo hi=>EX (eE _ _ _) hc
 have bl:∀lo hi,(dN b lo hi).length<=12:=fun lo hi=>EX (eE _ _ _) hb
 try dsimp only[aM,aR]
 refine cut (fun σ H'=>ax H H'/\∃(zs:HN) (o5 o11:Option V),σ= [some (.int nb),some (.int many),some (.int c),some (.str dU),some (.str b),o5,some (.int ((c.fdiv 3).fmod 11)),some (.int ((c.fdiv 40).fmod 11)),some (.int st),some (.str core),HV lp,o11]/\(zs.length:Int)=many/\H' lp=some (.lst (zs.map V.str))/\∀(k:Nat) (z:Str),zs[k]?=some z->Nm z/\xQ (c.fmod 3) (dN core none (some ((c.fdiv 3).fmod 11))).cps.toList (dN core (some ((c.fdiv 3).fmod 11)) none).cps.toList k (sgn (c.fdiv 7) st k) z) (fun N hN=>?_) ?_
 ·refine (bY rfl rfl ⟨by lia,by lia,cR (fun i σ H'=>ax H H'/\∃(zs:HN) (o5 o11:Option V),σ= [some (.int nb),some (.int many),some (.int c),some (.str dU),some (.str b),o5,some (.int ((c.fdiv 3).fmod 11)),some (.int ((c.fdiv 40).fmod 11)),some (.int st),some (.str core),HV lp,o11]/\zs.length=i/\H' lp=some (.lst (zs.map V.str))/\∀(k:Nat) (z:Str),zs[k]?=some z->Nm z/\xQ (c.fmod 3) (dN core none (some ((c.fdiv 3).fmod 11))).cps.toList (dN core (some ((c.fdiv 3).fmod 11)) none).cps.toList k (sgn (c.fdiv 7) st k) z) ⟨g2,cO [] o5 none ⟨rfl,rfl,ac,fun k z h=>by simp at h⟩⟩ (fun i σ H' hi hP=>?_) (fun σ H' hP=>?_)⟩)
  ·obtain ⟨g,zs,o5,o11,rfl,hl,e,nz⟩:=hP;have hi':(i:Int)<many:=by have:i<many.toNat:=hi;lia
   have i0:=EB (c.fdiv 7+(0+(i:Int))*st) (show (0:Int)<26 by decide)
   have i1:=EG (c.fdiv 7+(0+(i:Int))*st) (show (0:Int)<26 by decide)
   have hch:=xO i0 i1;have hq:97<=sgn (c.fdiv 7) st i/\sgn (c.fdiv 7) st i<=122:=by unfold sgn;lia
   rw[show 97+((c.fdiv 7+(0+(i:Int))*st).fmod 26).toNat=sgn (c.fdiv 7) st i from rfl] at hch
   have k0:0<=(0+(i:Int)).fdiv 26:=by rw[Int.fdiv_eq_ediv_of_nonneg _ (by decide)];lia
   have k1:(0+(i:Int)).fdiv 26<26:=by rw[Int.fdiv_eq_ediv_of_nonneg _ (by decide)];lia
   obtain ⟨ch2,hch2⟩:=rP k0 k1;have app:∀(z:Str),ax H (ay H' lp (.lst (zs.map V.str++ [.str z])))/\ay H' lp (.lst (zs.map V.str++ [.str z])) lp=some (.lst ((zs++ [z]).map V.str)):=fun z=>⟨dM g (g1.free np) _,by rw[ac,Ed];rfl⟩
   have lnp:(zs.map V.str).length<sizeLine:=by rw[E3,hl];lia
   refine (bY rfl rfl (xo rfl rfl ⟨⟨by show (7:Int)≠0;decide,ES (by decide)⟩,bY rfl rfl (xo rfl rfl ⟨(sm _ (by lia) (by lia)).ok (sm st (by lia) (by lia)),xo rfl rfl (xo rfl rfl ⟨(by show (26:Int)≠0;decide),cO dU _ (sgn (c.fdiv 7) st i) ⟨rfl,rfl,by decide,hch,?_⟩⟩)⟩)⟩))
   have sn:∀z,Nm z/\xQ (c.fmod 3) (dN core none (some ((c.fdiv 3).fmod 11))).cps.toList (dN core (some ((c.fdiv 3).fmod 11)) none).cps.toList i (sgn (c.fdiv 7) st i) z->∀(k:Nat) (y:Str),(zs++ [z])[k]?=some y->Nm y/\xQ (c.fmod 3) (dN core none (some ((c.fdiv 3).fmod 11))).cps.toList (dN core (some ((c.fdiv 3).fmod 11)) none).cps.toList k (sgn (c.fdiv 7) st k) y:=fun z hz' k y hy=>by
    by_cases ck:k<zs.length
    ·rw[E5 ck] at hy;exact nz k y hy
    ·rw[E7 (by lia)] at hy
     have:k-zs.length=0:=by
      cases hk:k-zs.length with
      |zero=>rfl
      |succ n=>rw[hk] at hy;simp at hy
     rw[this] at hy;cases hy;have:k=i:=by lia
     rw[this];exact hz'
   have q0:=EB (0+(i:Int)) (show (0:Int)<11 by decide)
   have q1:=EG (0+(i:Int)) (show (0:Int)<11 by decide)
   refine (xr rfl (xo rfl rfl (xr rfl (d2 (fun z26=>absurd m1 (by lia)) (fun _=>?_)))))
   ·refine (xr rfl (xo rfl rfl ⟨(by show (3:Int)≠0;decide),rfl,xr rfl (Bh (fun m1c=>(xr rfl (xo rfl rfl (xr rfl (d2 (fun _=>?_) (fun z12=>absurd m1 (by lia))))))) (fun m1n=>?_))⟩))
    ·refine (xr rfl ⟨.inl ⟨rfl,_,aQ.of e⟩,bY rfl rfl (xo rfl rfl (xr rfl ⟨b,rfl,hz,lp,xo rfl rfl ⟨e,lnp,(app _).1,bO _ _ (xr rfl ⟨by rw[E8,hl];rfl,(app _).2,sn _ ?_⟩)⟩⟩))⟩)
     refine ⟨(hL.cut _ _).nm ?_ ?_,?_⟩
     ·rw[iN (by lia)];lia
     ·exact bl _ _
     ·unfold xQ;rw[if_pos m1c,iN (by lia)]
      lia
    ·refine (xr rfl (xo rfl rfl ⟨(by show (3:Int)≠0;decide),rfl,xr rfl (Bh (fun m2c=>?_) (fun m2n=>?_))⟩))
     ·refine (xr rfl ⟨.inl ⟨rfl,_,aQ.of e⟩,bY rfl rfl (xo rfl rfl ⟨(by show (11:Int)≠0;decide),xr rfl ⟨b,rfl,hz,xr rfl (xo rfl rfl ⟨?_,lp,xo rfl rfl ⟨e,lnp,(app _).1,bO _ _ (xr rfl ⟨by rw[E8,hl];rfl,(app _).2,sn _ ?_⟩)⟩⟩)⟩⟩)⟩)
      ·(simp only[Str.length_append,one];have l3:=bl none (some ((0+(i:Int)).fmod 11));lia)
      ·refine ⟨((hL.cut _ _).app (Lt.one hq)).nm ?_ ?_,?_⟩
       ·rw[Str.length_append,one];lia
       ·rw[Str.length_append,one,iN q0];lia
       ·unfold xQ;rw[if_neg m1n,if_pos m2c];exact ⟨_,nG _ _⟩
     ·refine (xr rfl ⟨.inl ⟨rfl,_,aQ.of e⟩,gn rfl rfl rfl ⟨core,rfl,cz,xr rfl (xo rfl rfl ⟨?_,gn rfl rfl rfl ⟨core,rfl,cz,xo rfl rfl ⟨?_,lp,xo rfl rfl ⟨e,lnp,(app _).1,bO _ _ (xr rfl ⟨by rw[E8,hl];rfl,(app _).2,sn _ ?_⟩)⟩⟩⟩⟩)⟩⟩)
      ·(simp only[Str.length_append,one];have l1:=cl none (some ((c.fdiv 3).fmod 11));have l2:=cl (some ((c.fdiv 3).fmod 11)) none;lia)
      ·(simp only[Str.length_append,one];have l1:=cl none (some ((c.fdiv 3).fmod 11));have l2:=cl (some ((c.fdiv 3).fmod 11)) none;lia)
      ·refine ⟨(((hcL.cut _ _).app (Lt.one hq)).app (hcL.cut _ _)).nm ?_ ?_,?_⟩
       ·rw[Str.length_append,Str.length_append,one];lia
       ·rw[Str.length_append,Str.length_append,one,iN a0,xC a0];lia
       ·unfold xQ;rw[if_neg m1n,if_neg m2n,nG,nG,List.append_assoc]
        rfl
  ·obtain ⟨g,zs,o5,o11,rfl,hl,e,nz⟩:=hP;exact hN _ _ ⟨g,cO zs o5 o11 ⟨rfl,by lia,e,nz⟩⟩
 rintro σ H1 ⟨g,zs,o5',o11,rfl,hl,e,nz⟩;exact (xr rfl (q lp H1 zs g e hl (fun z hz=>by obtain ⟨k,hk⟩:=EH.mp hz;exact (nz k z hk).1) (tW sto (by lia) nz)))
theorem Cc {dV:Value} (F:bA K "_law_divisor_of" "_law_divisor_of" As dV f fd):a8 P w K mg base bj 1 f fd ["_law_one","_law_other"] vT:=by
 have sc:aB ["_law_one","_law_other"] ["_law_one","_law_other"] (au As):=dP (by decide+kernel)
 refine F.ok sc (fun vs H Q E h=>?_) (fun cdv A outer s H vs Q E hr h=>?_)
 ·obtain ⟨_,_,rfl,_⟩:=h
  rfl
 obtain ⟨a,b,rfl,b0,q⟩:=h;refine ⟨_,(ae (eK PassesOwn.never (aN iw (pv 1) ar (aK _)) (ak (yX (i:=0) (j:=1) rfl sc.nd rfl rfl (by decide) rfl rfl (aa (pv 1) (aa (aA aV (pv 0) (pv 1)) af)) rfl))) (ak (aC (av jO rfl B.Hj boot_abs (aa (pv 0) af))))),?_⟩
 try dsimp only[cxK]
 refine eM (fun σ H'=>H=H'/\∃(g l:Int),σ= [some (.int g),some (.int l)]/\(l=0->0<=g)/\0<=l/\bW g l=bW a b)
  (fun (σ:L2.St) (_:Hp)=>match σ[1]? with|some (some (V.int l))=>l.toNat|_=>0) ⟨rfl,bO _ _ ⟨rfl,fun z=>by lia,by lia,rfl⟩⟩ ?_ (fun σ H Q Q' m ⟨v,e,s,k,hk,h2⟩=>⟨v,e,s,k,hk,m _ _ h2⟩)
 rintro σ H' ⟨rfl,g,l,rfl,g0,l0,inv⟩;refine (xr rfl ⟨rfl,xr rfl (CF (fun c=>?_) (fun c=>?_))⟩)
 ·have lp:0<l:=by lia
  refine (gn rfl rfl rfl (xo rfl rfl ⟨c,_,xr rfl ⟨⟨rfl,bO l (g.fmod l) ⟨rfl,fun _=>l0,EB g lp,?_⟩⟩,?_⟩⟩))
  ·rw[lQ lp];exact inv
  ·have h1:=EG g lp;have h2:=EB g lp;show (g.fmod l).toNat<l.toNat
   lia
 ·have g1:=g0 c;subst c;rw[lR g1] at inv;rw[<-inv] at q;refine (bY rfl rfl ?_);rw[if_neg (show ¬g<0 by lia)]
  exact q
theorem Cd {dV:Value} (F:bA K "_law_lowest" "_law_lowest" At dV f fd) (DZ27:Dx P w K mg base bj 1 "_law_divisor_of" ["_law_one","_law_other"] [] vT):a8 P w K mg base bj 2 f fd ["_law_top","_law_bottom"] oz:=by
 have sc:aB ["_law_top","_law_bottom","_law_by"] ["_law_top","_law_bottom"] (au At):=dP (by decide+kernel)
 refine F.ok sc (fun vs H Q E h=>?_) (fun cdv A outer s H vs Q E hr h=>?_)
 ·obtain ⟨_,_,rfl,_⟩:=h
  rfl
 obtain ⟨a,b,rfl,b0,hb,q⟩:=h;refine ⟨_,(ae (cA 2 sc (du DZ27 hr (aa (pv 0) (aa (pv 1) af)))) (ak (aC (cg (aa (aA bD (pv 0) (pv 2)) (aa (aA bD (pv 1) (pv 2)) af)))))),?_⟩;try dsimp only[cxK]
 have c0:=qm (a:=a) (show b≠0 by lia)
 have cb:=uO (a:=a) (show b≠0 by lia) hb
 have f:=yB (a:=a) (show b≠0 by lia)
 rw[wR b0] at c0 cb f;exact (bY rfl rfl (bO a b ⟨rfl,b0,bY rfl rfl (xo rfl rfl ⟨⟨c0,cb.div c0⟩,bY rfl rfl (xo rfl rfl ⟨⟨c0,cb.div c0⟩,by show 2<=sizeLine;decide,fun t ht=>q _ _ f t _ (aj ht _) ac⟩)⟩)⟩))
theorem Ce {dV:Value} (F:bA K "_law_alike" "_law_alike" BP dV f fd):a8 P w K mg base bj 1 f fd ["_law_found","_law_due"] r6:=by
 have sc:aB ["_law_found","_law_due","_law_k"] ["_law_found","_law_due"] (au BP):=dP (by decide+kernel)
 exact ⟨fun _ _ _ _ h=>h.elim,fun _ _ _ _ _ _ _ _ _ _ _ _ _ h=>h.elim⟩
theorem Cf {dV:Value} (F:bA K "_law_alike" "_law_alike" BQ dV f fd) (DZ29:Dx P w K mg base bj 1 "_law_alike" ["_law_found","_law_due"] [] r6):a8 P w K mg base bj 2 f fd ["_law_found","_law_due"] (iS 0):=by
 have sc:aB ["_law_found","_law_due","_law_k"] ["_law_found","_law_due"] (au BQ):=dP (by decide+kernel)
 refine F.ok sc (fun vs H Q E h=>?_) (fun cdv A outer s H vs Q E hr h=>?_)
 ·obtain ⟨_,_,rfl,_⟩:=h
  rfl
 obtain ⟨x,y,rfl,al,q⟩:=h;refine ⟨_,(ae (aU (bv (av (aX (K:=K) rfl) rfl B.Fk boot_isinstance (aa (pv 1) (aa (bE (v:= .ty "str") rfl B.GV boot_str rfl) af)))) (ak (aC (dQ (av (aX (K:=K) rfl) rfl B.Fk boot_isinstance (aa (pv 0) (aa (bE (v:= .ty "str") rfl B.GV boot_str rfl) af))) (fi (cF eO (pv 0) (pv 1) (aK _)))))) aG) (ae (aU (bv (av (aX (K:=K) rfl) rfl B.Fk boot_isinstance (aa (pv 1) (aa (bE (v:= .ty "int") rfl B.GW boot_int rfl) af)))) (ak (aC (dQ (av (aX (K:=K) rfl) rfl B.Fk boot_isinstance (aa (pv 0) (aa (bE (v:= .ty "int") rfl B.GW boot_int rfl) af))) (dQ (mI (av (aX (K:=K) rfl) rfl B.Fk boot_isinstance (aa (pv 0) (aa (bE (v:= .ty "bool") rfl B.GZ boot_bool rfl) af)))) (fi (cF eO (pv 0) (pv 1) (aK _))))))) aG) (ae (aU (bv (av (aX (K:=K) rfl) rfl B.Fk boot_isinstance (aa (pv 1) (aa (bE (v:= .ty "tuple") rfl B.GI boot_tuple rfl) af)))) (ak (aU (b5 (bv (av (aX (K:=K) rfl) rfl B.Fk boot_isinstance (aa (pv 0) (aa (bE (v:= .ty "tuple") rfl B.GI boot_tuple rfl) af))))) (ak (aC bH)) aG)) (ak (aU (b5 (bv (av (aX (K:=K) rfl) rfl B.Fk boot_isinstance (aa (pv 0) (aa (bE (v:= .ty "list") rfl B.Go boot_list rfl) af))))) (ak (aC bH)) aG))) (ae (aU (aN iw (av aW rfl B.Fx boot_len (aa (pv 0) af)) (av aW rfl B.Fx boot_len (aa (pv 1) af)) (aK _)) (ak (aC bH)) aG) (ae (bR PassesOwn.never rfl (cQ rfl B.Gp (aa (av aW rfl B.Fx boot_len (aa (pv 1) af)) af)) (im 2 sc) (ak (aU (b5 (bv (du DZ29 hr (aa (aD (sD aO aL) (pv 0) (pv 2) (fun _ _=>rfl)) (aa (aD (sD aO aL) (pv 1) (pv 2) (fun _ _=>rfl)) af))))) (ak (aC bH)) aG))) (ak (aC bH))))))),?_⟩
 try dsimp only[cxK]
 obtain ⟨rfl,hl⟩:=al
 ·rcases hl with ⟨z,rfl⟩|⟨i,rfl⟩
  ·refine (xr rfl (bG _ _ _ true ⟨rfl,.str _,rfl,xr rfl (cU ?_)⟩));exact (xr rfl (bG _ _ _ true ⟨rfl,.str _,rfl,xr rfl (cU (bY rfl rfl ⟨rfl,CH (Q:=fun v=>Q v _) q⟩))⟩))
  ·refine (xr rfl (bG _ _ _ false ⟨rfl,.int _,rfl,xr rfl (b4 ?_)⟩));refine (xr rfl (bG _ _ _ true ⟨rfl,.int _,rfl,xr rfl (cU ?_)⟩));exact (xr rfl (bG _ _ _ true ⟨rfl,.int _,rfl,xr rfl (cU (xr rfl (bG _ _ _ false ⟨rfl,.int _,rfl,bY rfl rfl (cU (bY rfl rfl ⟨rfl,CH (Q:=fun v=>Q v _) q⟩))⟩)))⟩))
theorem wn {lv9 n9:Nat} {dV:Value} (F:bA K "_law_alike" "_law_alike" BR dV f fd) (DZ30:Dx P w K mg base bj lv9 "_law_alike" ["_law_found","_law_due"] [] (iS n9)):a8 P w K mg base bj (lv9+1) f fd ["_law_found","_law_due"] (iS (n9+1)):=by
 have sc:aB ["_law_found","_law_due","_law_k"] ["_law_found","_law_due"] (au BR):=dP (by decide+kernel)
 refine F.ok sc (fun vs H Q E h=>?_) (fun cdv A outer s H vs Q E hr h=>?_)
 ·obtain ⟨_,_,rfl,_⟩:=h
  rfl
 obtain ⟨x,y,rfl,al,q⟩:=h;refine ⟨_,(ae (aU (bv (av (aX (K:=K) rfl) rfl B.Fk boot_isinstance (aa (pv 1) (aa (bE (v:= .ty "str") rfl B.GV boot_str rfl) af)))) (ak (aC (dQ (av (aX (K:=K) rfl) rfl B.Fk boot_isinstance (aa (pv 0) (aa (bE (v:= .ty "str") rfl B.GV boot_str rfl) af))) (fi (cF eO (pv 0) (pv 1) (aK _)))))) aG) (ae (aU (bv (av (aX (K:=K) rfl) rfl B.Fk boot_isinstance (aa (pv 1) (aa (bE (v:= .ty "int") rfl B.GW boot_int rfl) af)))) (ak (aC (dQ (av (aX (K:=K) rfl) rfl B.Fk boot_isinstance (aa (pv 0) (aa (bE (v:= .ty "int") rfl B.GW boot_int rfl) af))) (dQ (mI (av (aX (K:=K) rfl) rfl B.Fk boot_isinstance (aa (pv 0) (aa (bE (v:= .ty "bool") rfl B.GZ boot_bool rfl) af)))) (fi (cF eO (pv 0) (pv 1) (aK _))))))) aG) (ae (aU (bv (av (aX (K:=K) rfl) rfl B.Fk boot_isinstance (aa (pv 1) (aa (bE (v:= .ty "tuple") rfl B.GI boot_tuple rfl) af)))) (ak (aU (b5 (bv (av (aX (K:=K) rfl) rfl B.Fk boot_isinstance (aa (pv 0) (aa (bE (v:= .ty "tuple") rfl B.GI boot_tuple rfl) af))))) (ak (aC bH)) aG)) (ak (aU (b5 (bv (av (aX (K:=K) rfl) rfl B.Fk boot_isinstance (aa (pv 0) (aa (bE (v:= .ty "list") rfl B.Go boot_list rfl) af))))) (ak (aC bH)) aG))) (ae (aU (aN iw (av aW rfl B.Fx boot_len (aa (pv 0) af)) (av aW rfl B.Fx boot_len (aa (pv 1) af)) (aK _)) (ak (aC bH)) aG) (ae (bR PassesOwn.never rfl (cQ rfl B.Gp (aa (av aW rfl B.Fx boot_len (aa (pv 1) af)) af)) (im 2 sc) (ak (aU (b5 (bv (u4 DZ30 hr (by lia) rfl (aa (aD (sD aO aL) (pv 0) (pv 2) (fun _ _=>rfl)) (aa (aD (sD aO aL) (pv 1) (pv 2) (fun _ _=>rfl)) af))))) (ak (aC bH)) aG))) (ak (aC bH))))))),?_⟩
 try dsimp only[cxK]
 have s4:(5000:Nat)<=sizeLine:=by decide
 rcases al with ⟨rfl,hl⟩|⟨a,b,xs,ys,rfl,rfl,⟨e1,e2⟩|⟨e1,e2⟩,len,lx,each⟩
 ·rcases hl with ⟨z,rfl⟩|⟨i,rfl⟩
  ·refine (xr rfl (bG _ _ _ true ⟨rfl,.str _,rfl,xr rfl (cU ?_)⟩));exact (xr rfl (bG _ _ _ true ⟨rfl,.str _,rfl,xr rfl (cU (bY rfl rfl ⟨rfl,CH (Q:=fun v=>Q v _) q⟩))⟩))
  ·refine (xr rfl (bG _ _ _ false ⟨rfl,.int _,rfl,xr rfl (b4 ?_)⟩));refine (xr rfl (bG _ _ _ true ⟨rfl,.int _,rfl,xr rfl (cU ?_)⟩));exact (xr rfl (bG _ _ _ true ⟨rfl,.int _,rfl,xr rfl (cU (xr rfl (bG _ _ _ false ⟨rfl,.int _,rfl,bY rfl rfl (cU (bY rfl rfl ⟨rfl,CH (Q:=fun v=>Q v _) q⟩))⟩)))⟩))
 ·refine (xr rfl (bG _ _ _ false ⟨rfl,.lst e2,rfl,xr rfl (b4 ?_)⟩));refine (xr rfl (bG _ _ _ false ⟨rfl,.lst e2,rfl,xr rfl (b4 ?_)⟩));try dsimp only[aM,aR]
  refine cH (fun Nq=>Nq [some (.ref a),some (.ref b),none] H) (fun N hN=>?_) ?_
  ·exact (xr rfl (bG _ _ _ false ⟨rfl,.lst e2,rfl,xr rfl (b4 (xr rfl (bG _ _ _ true ⟨rfl,.lst e1,rfl,xr rfl (b4 (hN))⟩)))⟩))
  refine (xr rfl ⟨a,xr rfl ⟨.inl (aQ.of e1),xr rfl ⟨b,xr rfl ⟨.inl (aQ.of e2),rfl,xr rfl (nF (congrArg (fun n:Nat=>V.int (n:Int)) len) ?_)⟩⟩⟩⟩)
  refine (xr rfl ⟨b,xr rfl ⟨.inl (aQ.of e2),xr rfl ⟨by lia,by lia,cR (fun i σ H'=>H=H'/\∃o2:Option V,σ= [HV a,HV b,o2]) ⟨rfl,none,rfl⟩ (fun i σ H' hi hP=>?_) (fun σ H' hP=>?_)⟩⟩⟩)
  ·obtain ⟨rfl,o2,rfl⟩:=hP;have iy:i<ys.length:=by lia
   have ixx:i<xs.length:=by lia
   have a1:fw xs (0+(i:Int))=some xs[i]:=by
    rw[Fe];exact bI (E1 ixx)
   have a2:fw ys (0+(i:Int))=some ys[i]:=by
    rw[Fe];exact bI (E1 iy)
   exact (bY rfl rfl (.inl (xl rfl rfl (aQ.of e1) a1 (bY rfl rfl (.inl (xl rfl rfl (aQ.of e2) a2 ⟨_,xr rfl ⟨each i _ _ (E1 ixx) (E1 iy),xr rfl (b4 ⟨rfl,_,rfl⟩)⟩⟩))))))
  ·obtain ⟨rfl,o2,rfl⟩:=hP;exact q
 ·refine (xr rfl (bG _ _ _ false ⟨rfl,.tup e2,rfl,xr rfl (b4 ?_)⟩));refine (xr rfl (bG _ _ _ false ⟨rfl,.tup e2,rfl,xr rfl (b4 ?_)⟩));try dsimp only[aM,aR]
  refine cH (fun Nq=>Nq [some (.ref a),some (.ref b),none] H) (fun N hN=>?_) ?_
  ·exact (xr rfl (bG _ _ _ true ⟨rfl,.tup e2,rfl,xr rfl (cU (xr rfl (bG _ _ _ true ⟨rfl,.tup e1,rfl,xr rfl (b4 (hN))⟩)))⟩))
  refine (xr rfl ⟨a,xr rfl ⟨.inr (bS.of e1),xr rfl ⟨b,xr rfl ⟨.inr (bS.of e2),rfl,xr rfl (nF (congrArg (fun n:Nat=>V.int (n:Int)) len) ?_)⟩⟩⟩⟩)
  refine (xr rfl ⟨b,xr rfl ⟨.inr (bS.of e2),xr rfl ⟨by lia,by lia,cR (fun i σ H'=>H=H'/\∃o2:Option V,σ= [HV a,HV b,o2]) ⟨rfl,none,rfl⟩ (fun i σ H' hi hP=>?_) (fun σ H' hP=>?_)⟩⟩⟩)
  ·obtain ⟨rfl,o2,rfl⟩:=hP;have iy:i<ys.length:=by lia
   have ixx:i<xs.length:=by lia
   have a1:fw xs (0+(i:Int))=some xs[i]:=by
    rw[Fe];exact bI (E1 ixx)
   have a2:fw ys (0+(i:Int))=some ys[i]:=by
    rw[Fe];exact bI (E1 iy)
   exact (bY rfl rfl (.inr (xl rfl rfl (bS.of e1) a1 (bY rfl rfl (.inr (xl rfl rfl (bS.of e2) a2 ⟨_,xr rfl ⟨each i _ _ (E1 ixx) (E1 iy),xr rfl (b4 ⟨rfl,_,rfl⟩)⟩⟩))))))
  ·obtain ⟨rfl,o2,rfl⟩:=hP;exact q
theorem Cg {dV:Value} (F:bA K "_law_alike" "_law_alike" Dz dV f fd) (DZ31:Dx P w K mg base bj 3 "_law_alike" ["_law_found","_law_due"] [] (iS 1)):a8 P w K mg base bj 4 f fd ["_law_found","_law_due"] (iS 2):=wn B F DZ31
theorem Ch {dV:Value} (F:bA K "_law_alike" "_law_alike" BS dV f fd) (DZ32:Dx P w K mg base bj 4 "_law_alike" ["_law_found","_law_due"] [] (iS 2)):a8 P w K mg base bj 5 f fd ["_law_found","_law_due"] (iS 3):=wn B F DZ32
theorem Ci {dV:Value} (F:bA K "_law_led_to" "_law_led_to" Au dV f fd):a8 P w K mg base bj 1 f fd ["_law_pairs","_law_good"] nJ:=by
 have sc:aB ["_law_pairs","_law_good","_law_known","_law_grows","_law_before","_law_one","_law_other"] ["_law_pairs","_law_good"] (au Au):=dP (by decide+kernel)
 refine F.ok sc (fun vs H Q E h=>?_) (fun cdv A outer s H vs Q E hr h=>?_)
 ·obtain ⟨_,_,_,_,rfl,_⟩:=h
  rfl
 obtain ⟨dp,good,kvs,ps,rfl,ep,ky,few,q⟩:=h;refine ⟨_,(ae (cA 2 sc (mS (jS (pv 1) bH mR) rfl rfl (by simp) (by decide))) (ae (cA 3 sc bH) (ae (eK PassesOwn.never (bv (pv 3)) (ae (cA 4 sc (av ja rfl B.Fx boot_len (aa (pv 2) af))) (ae (xG (bR PassesOwn.never rfl (vH (pv 0)) (jL rfl (cX (im 5 sc) (cX (im 6 sc) iu))) (ak (aU (fT (qi (cf hr) (pv 5) (pv 2)) (by with_unfolding_all rfl)) (ak (cZ (cf hr) (pv 2) (pv 6) bH rfl)) aG)))) (ak (cA 3 sc (cF nX (av ja rfl B.Fx boot_len (aa (pv 2) af)) (pv 4) (aK _))))))) (ak (aC (pv 2)))))),?_⟩
 try dsimp only[cxK]
 refine fun d nd=>(xr rfl ⟨ac,[(.inr good,.bl true)],rfl,(by show 1<=15;decide),?_⟩)
 have g0:ax H (ay (ay H d (.dK [])) d (.dK (dm [] [((.inr good:Key),V.bl true)]))):=by
  rw[mE];exact aj nd _
 have e0:(ay (ay H d (.dK [])) d (.dK (dm [] [((.inr good:Key),V.bl true)]))) d=some (.dK (aY [good] (.bl true))):=ac;generalize ay (ay H d (.dK [])) d (.dK (dm [] [((.inr good:Key),V.bl true)]))=H0 at g0 e0⊢;have slt:(3000:Nat)<sizeLine:=by decide
 have dpd:d≠dp:=fun z=>by rw[z,ep] at nd;cases nd
 try dsimp only[aM,aR]
 refine cH (fun Nq=>∀H':Hp,H'=H0->Nq [some (.ref dp),some (.str good),some (.ref d),some (.bl true),none,none,none] H') (fun N hN=>hN _ rfl) ?_
 intro _ rfl;refine cut (fun σ H'=>ax H H'/\∃(ks:HN) (o4 o5 o6:Option V),σ= [HV dp,some (.str good),HV d,some (.bl false),o4,o5,o6]/\H' d=some (.dK (aY ks (.bl true)))/\ks.Nodup/\ks.length<=1001/\∀y,y∈ks↔Led ps good y) (fun N hN=>?_) ?_
 ·refine eM (fun σ H'=>ax H H'/\∃(ks:HN) (g:Bool) (o4 o5 o6:Option V),σ= [HV dp,some (.str good),HV d,some (.bl g),o4,o5,o6]/\H' d=some (.dK (aY ks (.bl true)))/\ks.Nodup/\good∈ks/\(∀y∈ks,Led ps good y)/\ks.length+iJ (ps.map (·.2)) ks<=1001/\(g=false->∀a b,a∈ks->(a,b)∈ps->b∈ks))
   (fun (σ:L2.St) (H':Hp)=>match σ[3]?,H' d with|some (some (V.bl g)),some (.dK kvs)=>2*(1002-kvs.length)+(if g=true then 1 else 0)|_,_=>0)
   ⟨g0,bG [good] true none none ⟨none,⟨rfl,e0,by simp,by simp,fun y hy=>by simp at hy;subst hy;exact .self,?_,fun z=>nomatch z⟩⟩⟩ ?_ (fun σ H Q Q' m ⟨v,e,b,hb,h2⟩=>⟨v,e,b,hb,m _ _ h2⟩)
  ·have:=jt (ps.map (·.2)) [good];rw[E3] at this;show 1+_<=_
   lia
  intro σ H1 h_;refine fQ h_ fun g1 _hi=>?_
  refine io _hi fun ks gr o4 o5 _hj=>?_
  refine iU _hj fun o6 _hk=>?_
  refine iV _hk fun _r1 e1 nd1 hg hL _hl=>?_
  refine fQ _hl fun room cl=>?_
  clear h_ _hi _hj _hk _hl;subst _r1;refine (xr rfl ⟨gr,rfl,?_⟩);cases gr with
  |false=>exact b4 (hN _ _ ⟨g1,bG ks o4 o5 o6 ⟨rfl,e1,nd1,by lia,fun y=>⟨hL y,fun l=>l.closed (S:=fun y=>y∈ks) hg (cl rfl)⟩⟩⟩)
  |true=>
   refine cU (xr rfl ⟨d,xr rfl ⟨.inl e1,?_⟩⟩);try dsimp only[aM,aR]
   refine cut (fun σ H'=>ax H H'/\∃(ks':HN) (o5 o6:Option V),σ= [HV dp,some (.str good),HV d,some (.bl true),some (.int ((aY ks (V.bl true)).length)),o5,o6]/\H' d=some (.dK (aY ks' (.bl true)))/\ks'.Nodup/\(∀y∈ks,y∈ks')/\(∀y∈ks',Led ps good y)/\ks'.length+iJ (ps.map (·.2)) ks'<=1001/\ks.length<=ks'.length/\(ks'.length=ks.length->∀y∈ks',y∈ks)/\(∀a b,a∈ks->(a,b)∈ps->b∈ks')) (fun N' hN'=>?_) ?_
   ·refine (xr rfl ⟨dp,xr rfl ⟨g1 _ _ ep,fun o nf=>?_⟩⟩)
    have gf:ax (ay H dp (.frz o (.dT kvs))) (ay H1 dp (.frz o (.dT kvs))):=fun a u z=>by
     by_cases c:a=dp
     ·rw[c,ac] at z;cases z;rw[c];exact ac
     ·rw[ag c] at z⊢;exact g1 _ _ z
    have nf':ay H dp (.frz o (.dT kvs)) d=none:=by rw[ag dpd];exact nd
    refine tT (fun i σ H'=>ax (ay H dp (.frz o (.dT kvs))) H'/\∃(ks':HN) (o5 o6:Option V),σ= [HV dp,some (.str good),HV d,some (.bl true),some (.int ((aY ks (V.bl true)).length)),o5,o6]/\H' d=some (.dK (aY ks' (.bl true)))/\ks'.Nodup/\(∀y∈ks,y∈ks')/\(∀y∈ks',Led ps good y)/\ks'.length+iJ (ps.map (·.2)) ks'<=1001/\ks.length<=ks'.length/\(ks'.length=ks.length->∀y∈ks',y∈ks)/\(∀(j:Nat) (a b:Str),j<i->ps[j]?=some (a,b)->a∈ks->b∈ks'))
     ⟨gf,cO ks o5 o6 ⟨rfl,by rw[ag dpd];exact e1,nd1,fun _ z=>z,hL,room,E4 _,fun _ _ z=>z,fun j a b h=>absurd h (by lia)⟩⟩ (fun i σ H' _ h=>h.1 _ _ ac) ?_ ?_
    ·intro i k v b σ H2 hk eb2 h_;refine fQ h_ fun g2 _hi=>?_
     refine AI _hi fun ks' o5 o6 _hj=>?_
     refine iW _hj fun _r1 e2 nd2 sub hL2 room2 le2 eq2 cl2=>?_
     clear h_ _hi _hj;subst _r1;obtain ⟨p1,p2,rfl,hpi⟩:=ky.at_ hk;have pm:(p1,p2)∈ps:=E6 hpi;have pm2:p2∈ps.map (·.2):=EF.mpr ⟨_,pm,rfl⟩;refine ⟨b,xr rfl ⟨bS.of eb2,rfl,_,xr rfl ⟨_,xr rfl ⟨rfl,?_⟩⟩⟩⟩;refine (bY rfl rfl ⟨d,xr rfl ⟨cT.k (k:= .inr p1) e2,xr rfl ?_⟩⟩);rw[f9]
     by_cases hin:p1∈ks'
     ·rw[if_pos hin];refine cU (bY rfl rfl ⟨d,xr rfl ⟨eT.k (k:= .inr p2) e2 (by rw[b8];lia),?_⟩⟩)
      have gN:=dM (o:= .dK (putK (aY ks' (.bl true)) (.inr p2) (.bl true))) g2 nf';refine ⟨gN,bO (cu ks' p2) _ (xr rfl ⟨by rw[ac,eZ],dS nd2,fun y hy=>cL.mpr (.inl (sub y hy)),fun y hy=>?_,EX (lX pm2) room2,EX le2 (dD ks' p2).1,fun e y hy=>?_,fun j u v hj hv hu=>?_⟩)⟩
      ·rcases cL.mp hy with k|rfl
       ·exact hL2 y k
       ·exact .step (hL2 _ hin) pm
      ·have k1:=(dD ks' p2).1;have e':ks'.length=ks.length:=by lia
       rcases cL.mp hy with k|rfl
       ·exact eq2 e' y k
       ·exact eq2 e' _ ((dD ks' _).2.1 (by lia))
      ·rcases ER.mp hj with k|rfl
       ·exact cL.mpr (.inl (cl2 j u v k hv hu))
       ·rw[hpi] at hv;cases hv;exact cL.mpr (.inr rfl)
     ·rw[if_neg hin];refine b4 ⟨g2,bO ks' _ (xr rfl ⟨e2,nd2,sub,hL2,room2,le2,eq2,fun j u v hj hv hu=>?_⟩)⟩
      rcases ER.mp hj with k|rfl
      ·exact cl2 j u v k hv hu
      ·rw[hpi] at hv;cases hv;exact absurd (sub _ hu) hin
    ·intro σ H2 h_;refine fQ h_ fun g2 _hi=>?_
     refine AI _hi fun ks' o5 o6 _hj=>?_
     refine iW _hj fun _r1 e2 nd2 sub hL2 room2 le2 eq2 cl2=>?_
     clear h_ _hi _hj;subst _r1;refine (cO dp o _ ⟨g2 _ _ ac,nf,hN' _ _ ⟨vI ep g2,cO ks' o5 o6 ⟨rfl,by rw[ag dpd];exact e2,nd2,sub,hL2,room2,le2,eq2,fun a b ha hab=>?_⟩⟩⟩)
     obtain ⟨j,hj⟩:=EH.mp hab;have jl:=(E2.mp hj).1;exact cl2 j a b (by rw[ky.len];exact jl) hj ha
   intro σ H2 h_;refine fQ h_ fun g2 _hi=>?_
   refine AI _hi fun ks' o5 o6 _hj=>?_
   refine iW _hj fun _r1 e2 nd2 sub hL2 room2 le2 eq2 cl2=>?_
   clear h_ _hi _hj;subst _r1;refine (xr rfl ⟨d,xr rfl ⟨.inl e2,xr rfl (xo rfl rfl ⟨⟨g2,bG ks' _ _ o5 ⟨o6,⟨rfl,e2,nd2,sub good hg,hL2,room2,fun hf a b ha hab=>?_⟩⟩⟩,?_⟩)⟩⟩)
   ·have nlt:=of_decide_eq_false hf;rw[b8,b8] at nlt;exact cl2 a b (eq2 (by lia) a ha) hab
   ·show (match (some (some (V.bl (decide (_:Prop))))),H2 d with|some (some (V.bl g)),some (.dK kvs)=>2*(1002-kvs.length)+(if g=true then 1 else 0)|_,_=>0)<(match (some (some (V.bl true))),H1 d with|some (some (V.bl g)),some (.dK kvs)=>2*(1002-kvs.length)+(if g=true then 1 else 0)|_,_=>0)
    rw[e1,e2];show 2*(1002-(aY ks' (V.bl true)).length)+(if decide (_:Prop)=true then 1 else 0)<2*(1002-(aY ks (V.bl true)).length)+(if true=true then 1 else 0)
    rw[b8,b8,if_pos rfl]
    by_cases c:((ks.length:Nat):Int)<((ks'.length:Nat):Int)
    ·rw[decide_eq_true c,if_pos rfl]
     lia
    ·rw[decide_eq_false c,if_neg (by decide)]
     lia
 rintro σ H1 ⟨g1,ks,o4,o5,o6,rfl,e1,ndk,kl,mem⟩;exact (xr rfl (q d H1 ks g1 nd e1 ndk kl mem))
theorem Cj {dV:Value} (F:bA K "_law_ratio" "_law_ratio" Av dV f fd) (DZ28:Dx P w K mg base bj 2 "_law_lowest" ["_law_top","_law_bottom"] [] oz):a8 P w K mg base bj 3 f fd ["_law_cell"] jh:=by
 have sc:aB ["_law_cell","_law_number"] ["_law_cell"] (au Av):=dP (by decide+kernel)
 refine F.ok sc (fun vs H Q E h=>?_) (fun cdv A outer s H vs Q E hr h=>?_)
 ·obtain ⟨_,rfl,_⟩:=h
  rfl
 obtain ⟨c,rfl,q⟩:=h;refine ⟨_,(ae (cA 1 sc (aA aV (aA bN (aA aV (pv 0) ar) ar) ar)) (ak (aC (du DZ28 hr (aa (aA bV ar (pv 1)) (aa (aA bV ar (aA aV (aA bN (pv 1) ar) ar)) af)))))),?_⟩;try dsimp only[cxK]
 refine (xr rfl (xo rfl rfl ⟨(by show (1000003:Int)≠0;decide),xo rfl rfl ⟨IntMulOk.of_right (by decide),xo rfl rfl ⟨(by show (999983:Int)≠0;decide),?_⟩⟩⟩))
 have n0:=EB (c.fmod 1000003*48271) (show (0:Int)<999983 by decide)
 have n1:=EG (c.fmod 1000003*48271) (show (0:Int)<999983 by decide)
 have m0:=EB ((c.fmod 1000003*48271).fmod 999983*31) (show (0:Int)<997 by decide)
 have m1:=EG ((c.fmod 1000003*48271).fmod 999983*31) (show (0:Int)<997 by decide)
 refine (xr rfl (xo rfl rfl (xr rfl (xo rfl rfl ⟨IntMulOk.of_right (by decide),xo rfl rfl ⟨(by show (997:Int)≠0;decide),xo rfl rfl ⟨_,xr rfl ⟨by lia,?_,fun p' q' f=>q p' q' (xB f.same (by lia) f.pos (by lia)) f.to ?_ ?_ f⟩⟩⟩⟩))))
 ·unfold Bd;lia
 ·have:=f.bt;unfold Bd;lia
 ·have:=f.bb;unfold Bd;lia
theorem Ck {dV:Value} (F:bA K "_law_larder" "_law_larder" Aw dV f fd) (DZ14:i8 P w K mg base bj 1 GN ["self"] [] (mn mt)) (DZ16:i8 P w K mg base bj 3 GG ["self","good","other"] [] (nI mt)) (DZ18:i8 P w K mg base bj 3 GE ["self","good"] [] (qO mt)) (DZ20:i8 P w K mg base bj 3 Gw ["self","good","other","ratio"] [.non] (kA mt)) (DZ35:Dx P w K mg base bj 3 "_law_ratio" ["_law_cell"] [] jh):a8 P w K mg base bj 4 f fd ["_law_script","_law_names_here","_law_pairs","_law_stands","_law_bars"] (kC K mt):=by
 have sc:aB ["_law_script","_law_names_here","_law_pairs","_law_stands","_law_bars","_law_larder_here","_law_cell","_law_at","_law_to"] ["_law_script","_law_names_here","_law_pairs","_law_stands","_law_bars"] (au Aw):=dP (by decide+kernel)
 refine F.ok sc (fun vs H Q E h=>?_) (fun cdv A outer s H vs Q E hr h=>?_)
 ·obtain ⟨_,_,_,_,_,_,_,rfl,_⟩:=h
  rfl
 refine mD h fun a l dp ds db ns0 _hi=>?_
 refine iU _hi fun nm _hj=>?_
 refine iW _hj fun _r1 hS h63 el0 n2 n12 nmd nmz _hk=>?_
 refine uf _hk fun ep0 es0' eb0' _hl=>?_
 refine fQ _hl fun dne q=>?_
 clear h _hi _hj _hk _hl;subst _r1;refine ⟨_,(ae (cA 5 sc (zC B.G6 DZ14 hr (by decide) rfl B.Hi)) (ae (bR PassesOwn.never rfl (ce (dj rn (pv 0) (dz ar) (dz ar))) (im 6 sc) (ae (cA 7 sc (aA aV (aA bD (pv 6) ar) (av aW rfl B.Fx boot_len (aa (pv 1) af)))) (ae (cA 8 sc (aA aV (aA bD (aA bD (pv 6) ar) (av aW rfl B.Fx boot_len (aa (pv 1) af))) (av aW rfl B.Fx boot_len (aa (pv 1) af)))) (ak (aU (PW.pt (mH (aN lA (aA aV (pv 6) ar) ar (aK _)) (mG (aN iw (pv 7) (pv 8) (aK _))))) (ae (bx (fZ (pv 5) DZ16 hr (by decide) (aa (aD aO (pv 1) (av (lC rfl) rfl B.Hq boot_min (aa (pv 7) (aa (pv 8) af))) (fun _ _=>rfl)) (aa (aD aO (pv 1) (av (lB rfl) rfl B.Hr boot_max (aa (pv 7) (aa (pv 8) af))) (fun _ _=>rfl)) af)))) (ak (cZ (cf hr) (pv 2) (cg (aa (aD aO (pv 1) (av (lC rfl) rfl B.Hq boot_min (aa (pv 7) (aa (pv 8) af))) (fun _ _=>rfl)) (aa (aD aO (pv 1) (av (lB rfl) rfl B.Hr boot_max (aa (pv 7) (aa (pv 8) af))) (fun _ _=>rfl)) af))) bH rfl))) (ak (aU (PW.pt (mH (aN lA (aA aV (pv 6) ar) ar (aK _)) (mH (aN iw (pv 7) (pv 8) (aK _)) (mG (fT (eU (cf hr) (cg (aa (aD aO (pv 1) (pv 7) (fun _ _=>rfl)) (aa (aD aO (pv 1) (pv 8) (fun _ _=>rfl)) af))) (pv 3)) (by with_unfolding_all rfl)))))) (ae (cZ (cf hr) (pv 3) (cg (aa (aD aO (pv 1) (pv 7) (fun _ _=>rfl)) (aa (aD aO (pv 1) (pv 8) (fun _ _=>rfl)) af))) (du DZ35 hr (aa (aA bD (pv 6) ar) af)) rfl) (ak (bx (fZ (pv 5) DZ20 hr (by decide) (aa (aD aO (pv 1) (pv 7) (fun _ _=>rfl)) (aa (aD aO (pv 1) (pv 8) (fun _ _=>rfl)) (aa (du DZ35 hr (aa (aA bD (pv 6) ar) af)) af))))))) (ak (aU (aN eO (aA aV (pv 6) ar) ar (aK _)) (ae (bx (fZ (pv 5) DZ18 hr (by decide) (aa (aD aO (pv 1) (pv 7) (fun _ _=>rfl)) af))) (ak (cZ (cf hr) (pv 4) (aD aO (pv 1) (pv 7) (fun _ _=>rfl)) bH rfl))) aG))))))))) (ak (aC (pv 5))))),?_⟩
 try dsimp only[cxK]
 have slt:(3000:Nat)<sizeLine:=by decide
 intro x dx nx ndx ne;refine (bO x dx ⟨rfl,ac,fun H2 F0 k2 f0 lb=>⟨rfl,?_⟩⟩)
 have g2:ax H H2:=fun b o e=>k2 b o (fun z=>by rw[z,nx] at e;cases e) (by rw[ag (fun z=>by rw[z,nx] at e;cases e),ag (fun z=>by rw[z,ndx] at e;cases e)];exact e)
 have dbF:db∉F0:=fun z=>by
  have:=f0 db z;rw[ag (fun w=>by rw[w,nx] at eb0';cases eb0'),ag (fun w=>by rw[w,ndx] at eb0';cases eb0'),eb0'] at this
  cases this
 have lw:t9 K mt H2 x dp ds db nm 0:=(eG F0 _ _ _ _ _ _ _ _ ⟨S7.start lb (g2 _ _ ep0) (g2 _ _ es0') (g2 _ _ eb0') dbF dne n12,(fun a b h=>(by cases h)),fun a b ⟨t,h⟩=>(by cases h)⟩)
 have el2:=g2 _ _ el0;have hS2:=g2.seq hS;clear dbF lb f0 k2 ne ndx nx dx F0;have ll:(nm.map V.str).length=nm.length:=E3 _;have lp:(0:Int)<((nm.map V.str).length:Int):=by lia
 have ln:((nm.map V.str).length:Int)≠0:=by lia
 try dsimp only[aM,aR]
 refine cut (fun σ H'=>∃(n:Nat) (o6 o7 o8:Option V),σ= [HV a,HV l,HV dp,HV ds,HV db,HV x,o6,o7,o8]/\KD H H'/\n<=16/\t9 K mt H' x dp ds db nm n) (fun N hN=>?_) ?_
 ·refine (gn rfl rfl rfl ⟨a,xr rfl ⟨hS2,fun ls nls=>⟨ls,rfl,⟨_,aQ.of ac⟩,?_⟩⟩⟩)
  have cl:=BH ns0;have ci:∀v∈kS (ns0.map V.int) (some 2) (some 18),∃c:Int,v= .int c:=fun v hv=>by
   obtain ⟨c,_,e⟩:=EF.mp (List.mem_of_mem_drop (List.mem_of_mem_take hv));exact ⟨c,e.symm⟩
  generalize kS (ns0.map V.int) (some 2) (some 18)=cells at cl ci;have g4:=aj nls (.lst cells);have lw4:t9 K mt (ay H2 ls (.lst cells)) x dp ds db nm 0:=by
   refine jy lw fun F rows m g bs ns ps es vw _hi=>?_
   refine fQ _hi fun s7 up=>?_
   exact (eG F rows m g bs ns ps es vw ⟨s7.same g4,up⟩)
  refine cv (xs:=cells) (fun i σ H'=>H' ls=some (.lst cells)/\H' l=some (.lst (nm.map V.str))/\KD H H'/\t9 K mt H' x dp ds db nm i/\∃(o6 o7 o8:Option V),σ= [HV a,HV l,HV dp,HV ds,HV db,HV x,o6,o7,o8]) ⟨ac,g4 _ _ el2,KD.of (g2.trans g4),lw4,cO none none none rfl⟩ (fun i σ H' _ h=>aQ.of h.1) ?_ ?_
  ·rintro i9 v σ H4 hv9 ⟨els,el,kd4,⟨F1,rows,m,g,bs,ns,ps,es,vw,s6,up⟩,o6,o7,o8,rfl⟩;have il9:=(E2.mp hv9).1;obtain ⟨c,rfl⟩:=ci v (E6 hv9);have cnt:=s6.cnt;have few:=s6.d7.few;have b6:=s6.d7.bars;have n6:=s6.len;have kp:∀H5,KD H4 H5->H5 ls=some (.lst cells)/\H5 l=some (.lst (nm.map V.str))/\KD H H5:=fun H5 k=>⟨k _ _ (fun _ z=>by cases z) (fun _ z=>by cases z) els,k _ _ (fun _ z=>by cases z) (fun _ z=>by cases z) el,kd4.trans k⟩
   obtain ⟨i,ei,il⟩:∃i:Nat,(c.fdiv 8).fmod ((nm.map V.str).length:Int)=(i:Int)/\i<nm.length:=by
    have h0:=EB (c.fdiv 8) lp;have h1:=EG (c.fdiv 8) lp;exact ⟨((c.fdiv 8).fmod ((nm.map V.str).length:Int)).toNat,by lia,by lia⟩
   obtain ⟨j,ej,jl⟩:∃j:Nat,((c.fdiv 8).fdiv ((nm.map V.str).length:Int)).fmod ((nm.map V.str).length:Int)=(j:Int)/\j<nm.length:=by
    have h0:=EB ((c.fdiv 8).fdiv ((nm.map V.str).length:Int)) lp;have h1:=EG ((c.fdiv 8).fdiv ((nm.map V.str).length:Int)) lp;exact ⟨(((c.fdiv 8).fdiv ((nm.map V.str).length:Int)).fmod ((nm.map V.str).length:Int)).toNat,by lia,by lia⟩
   have ha:=E1 il;have hb:=E1 jl;generalize nm[i]=za at ha;generalize nm[j]=zb at hb;have ain:=E6 ha;have bin:=E6 hb;have na:=nmz za ain;have nb:=nmz zb bin;have ati:fw (nm.map V.str) (i:Int)=some (.str za):=bI (cD ha);have atj:fw (nm.map V.str) (j:Int)=some (.str zb):=bI (cD hb);obtain ⟨u,v,eu,ev,ul,vl,uv⟩:∃u v:Nat,(if (j:Int)<(i:Int) then (j:Int) else (i:Int))=(u:Int)/\(if (j:Int)>(i:Int) then (j:Int) else (i:Int))=(v:Int)/\u<nm.length/\v<nm.length/\(i≠j->u<v):=by
    rcases FW i j with h|h|h
    ·exact (bO i j ⟨by rw[if_neg (by lia)],by rw[if_pos (by lia)],il,jl,fun _=>h⟩)
    ·exact (bO i j ⟨by rw[if_neg (by lia)],by rw[if_neg (by lia),h],il,jl,fun z=>absurd h z⟩)
    ·exact (bO j i ⟨by rw[if_pos (by lia)],by rw[if_neg (by lia)],jl,il,fun _=>h⟩)
   have hu:=E1 ul;have hv:=E1 vl;generalize nm[u]=z1 at hu;generalize nm[v]=z2 at hv;have atu:fw (nm.map V.str) (u:Int)=some (.str z1):=bI (cD hu);have atv:fw (nm.map V.str) (v:Int)=some (.str z2):=bI (cD hv);have i1:=E6 hu;have i2:=E6 hv;have nn1:=nmz z1 i1;have nn2:=nmz z2 i2;try dsimp only[aM,aR]
   refine cut (fun σ H'=>σ= [HV a,HV l,HV dp,HV ds,HV db,HV x,some (.int c),some (.int (i:Int)),o8]/\H4=H') (fun N hN=>(xr rfl (xo rfl rfl ⟨⟨by decide,ES (by decide)⟩,xr rfl ⟨l,xr rfl ⟨.inl (aQ.of el),xo rfl rfl ⟨ln,hN _ _ ⟨by rw[<-ei];rfl,rfl⟩⟩⟩⟩⟩))) ?_
   rintro σ _ ⟨rfl,rfl⟩;refine cut (fun σ H'=>σ= [HV a,HV l,HV dp,HV ds,HV db,HV x,some (.int c),some (.int (i:Int)),some (.int (j:Int))]/\H4=H') (fun N hN=>(xr rfl (xo rfl rfl ⟨⟨by decide,ES (by decide)⟩,xr rfl ⟨l,xr rfl ⟨.inl (aQ.of el),xo rfl rfl ⟨⟨ln,ES (by lia)⟩,xr rfl ⟨l,xr rfl ⟨.inl (aQ.of el),xo rfl rfl ⟨ln,hN _ _ ⟨by rw[<-ej];rfl,rfl⟩⟩⟩⟩⟩⟩⟩⟩))) ?_
   rintro σ _ ⟨rfl,rfl⟩;have w0:=EB c (show (0:Int)<8 by decide)
   by_cases c2:c.fmod 8<2
   ·refine (xr rfl (xo rfl rfl ⟨(by show (8:Int)≠0;decide),xo rfl rfl (xr rfl (dT c2 (bY rfl rfl ⟨rfl,xr rfl (CF (fun ne=>?_) (fun eq=>?_))⟩)))⟩))
    ·have uv:=uv (fun z=>ne (by rw[z]))
     refine io s6.lb.at_ fun dx s0 b0 fs _hi=>?_
     refine iU _hi fun dk _hj=>?_
     refine iW _hj fun ex es1 eb1 bd hb1 fm sF bF pb=>?_
     have kz:(nU ps).length<sizeLine:=by rw[xU];lia
     refine (xr rfl (cO x _ dx (xr rfl ⟨ex,B.Fm,B.Hx,fm _ (by decide),gn rfl rfl rfl ⟨_,xr rfl (xl rfl rfl (aQ.of el) (by rw[eu];exact atu) (gn rfl rfl rfl ⟨_,xr rfl (xl rfl rfl (aQ.of el) (by rw[ev];exact atv) (eG x z1 z2 F1 rows m g bs ns ⟨ps,⟨rfl,s6.lb,s6.ok,by lia,s6.nn,by lia,nn1,nn2,up.1.noring nmd uv hu hv,fun F' H5 ms k5 fg lb5 nd hs=>?_⟩⟩))⟩))⟩⟩)))
     have d5:=s6.d7k k5;have el5:=k5 _ _ (s6.lb.not el (fun _ z=>nomatch z)) el
     refine (gn rfl rfl rfl (xr rfl ⟨_,xr rfl (xl rfl rfl (aQ.of el5) (by rw[eu];exact atu) (gn rfl rfl rfl ⟨_,xr rfl (xl rfl rfl (aQ.of el5) (by rw[ev];exact atv) ⟨by show 2<=sizeLine;decide,fun t1 m1=>⟨dp,xr rfl ⟨eT.t (k:= [.inr z1,.inr z2]) (aj m1 _ _ _ d5.ep) ac kz,?_⟩⟩⟩)⟩))⟩))
     obtain ⟨f1,f2,f3⟩:=kp _ (((KD.kf s6.lb k5).trans (KD.of (aj m1 _))).trans (KD.putT (aj m1 _ _ _ d5.ep) _));exact ⟨f1,f2,f3,(eG F' _ m g bs ms _ es vw ⟨s6.part k5 fg lb5 nd hs (aj m1 _) i1 i2 (by lia),up.1.add uv hu hv,up.2⟩),cO _ _ _ rfl⟩
    ·exact (xr rfl (xo rfl rfl ⟨(by show (8:Int)≠0;decide),xo rfl rfl (xr rfl (dT (by lia) (bY rfl rfl ⟨rfl,xr rfl (CG eq (xr rfl (xo rfl rfl ⟨(by show (8:Int)≠0;decide),rfl,xr rfl (Dk (by lia) ⟨(kp _ (KD.of (.refl _))).1,(kp _ (KD.of (.refl _))).2.1,(kp _ (KD.of (.refl _))).2.2,(eG F1 rows m g bs ns ps es vw ⟨s6.more,up⟩),cO _ _ _ rfl⟩)⟩)))⟩)))⟩))
   refine (xr rfl (xo rfl rfl ⟨(by show (8:Int)≠0;decide),xo rfl rfl (xr rfl (dF c2 ?_))⟩))
   by_cases c6:c.fmod 8<6
   ·refine (xr rfl (xo rfl rfl ⟨(by show (8:Int)≠0;decide),xo rfl rfl (xr rfl (dT c6 (bY rfl rfl ⟨rfl,xr rfl (CF (fun ne=>?_) (fun eq=>?_))⟩)))⟩))
    rotate_left
    ·exact (xr rfl (xo rfl rfl ⟨(by show (8:Int)≠0;decide),rfl,xr rfl (Dk (by lia) ⟨(kp _ (KD.of (.refl _))).1,(kp _ (KD.of (.refl _))).2.1,(kp _ (KD.of (.refl _))).2.2,(eG F1 rows m g bs ns ps es vw ⟨s6.more,up⟩),cO _ _ _ rfl⟩)⟩))
    have zne:za≠zb:=fun z=>ne (by
     rw[<-z] at hb;rw[(List.getElem?_inj il nmd).mp (ha.trans hb.symm)])
    refine (bY rfl rfl (xl rfl rfl (aQ.of el) ati (bY rfl rfl (xl rfl rfl (aQ.of el) atj ⟨by show 2<=sizeLine;decide,fun t0 n0=>(xr rfl ⟨ds,xr rfl ⟨cT.t (k:= [.inr za,.inr zb]) (aj n0 _ _ _ s6.d7.ee) ac,xr rfl ?_⟩⟩)⟩))))
    have k0:=aj n0 (.tup [.str za,.str zb]);generalize ay H4 t0 (.tup [.str za,.str zb])=H5 at k0⊢;have s5:=s6.same k0;cases hv9':aP (k8 es) [.inr za,.inr zb] with
    |some v9=>
     obtain ⟨f1,f2,f3⟩:=kp _ (KD.of k0);exact b4 (xr rfl (xo rfl rfl ⟨(by show (8:Int)≠0;decide),rfl,xr rfl (Dk (by lia) ⟨f1,f2,f3,(eG F1 rows m g bs ns ps es vw ⟨s5.more,up⟩),cO _ _ _ rfl⟩)⟩))
    |none=>
     have new:∀t,(za,zb,t)∉es:=fun t z=>by
      obtain ⟨t',e',_⟩:=pB z;rw[hv9'] at e';cases e'
     have kz:(k8 es).length<sizeLine:=by rw[xR];lia
     refine cU (xr rfl (xo rfl rfl ⟨⟨by decide,ES (by decide)⟩,xr rfl (fun p q' p0 lo b1 b2 fq r0 H6 g6 er0=>?_)⟩))
     have k6:=k0.trans g6;have s6b:=s6.same k6;have el6:=k6 _ _ el;refine (gn rfl rfl rfl (xl rfl rfl (aQ.of el6) ati (bY rfl rfl (xl rfl rfl (aQ.of el6) atj ⟨by show 2<=sizeLine;decide,fun t1 m1=>⟨ds,xr rfl ⟨eT.t (k:= [.inr za,.inr zb]) (aj m1 _ _ _ s6b.d7.ee) ac kz,?_⟩⟩⟩))))
     have s7a:=s6b.same (aj m1 (.tup [.str za,.str zb]));have er0a:=aj m1 (.tup [.str za,.str zb]) _ _ er0;have el7:=aj m1 (.tup [.str za,.str zb]) _ _ el6;have kd7:KD H4 (ay H6 t1 (.tup [.str za,.str zb])):=KD.of (k6.trans (aj m1 _));generalize ay H6 t1 (.tup [.str za,.str zb])=H7 at s7a er0a el7 kd7⊢;have lb7:=s7a.lb.far s7a.d7.ee (fun _ z=>nomatch z) (fun _ _ _ z=>nomatch z) (.dT (putK (k8 es) [.inr za,.inr zb] (.ref r0)))
     have kd8:=kd7.trans (KD.putT s7a.d7.ee (.dT (putK (k8 es) [.inr za,.inr zb] (.ref r0))));have el8:ay H7 ds (.dT (putK (k8 es) [.inr za,.inr zb] (.ref r0))) l=some (.lst (nm.map V.str)):=iR s7a.d7.ee el7 (fun z=>nomatch z)
     refine io lb7.at_ fun dx s0 b0 fs _hi=>?_
     refine iU _hi fun dk _hj=>?_
     refine iW _hj fun ex es1 eb1 bd hb1 fm sF bF pb=>?_
     refine (xr rfl (cO x _ dx (xr rfl ⟨ex,B.Fm,B.Hs,fm _ (by decide),bY rfl rfl (xl rfl rfl (aQ.of el8) ati (bY rfl rfl (xl rfl rfl (aQ.of el8) atj (xr rfl (xo rfl rfl ⟨⟨by decide,ES (by decide)⟩,xr rfl (fun p2 q2 _ _ _ _ fq2 r H8 g8 er=>?_)⟩)))))⟩)))
     obtain ⟨rfl,rfl⟩:=x5 fq fq2;refine (eG x r za zb p q' F1 rows m (cO g bs ns ⟨rfl,lb7.same g8,by lia,s6.nn,by lia,na,nb,er,p0,lo,b1,b2,zne,(fun z=>by obtain ⟨t,z⟩:=(s6.st _ _).mp z;exact new t z),fun F' H9 ms k9 fg lb9 er9 nd hs=>?_⟩))
     obtain ⟨f1,f2,f3⟩:=kp _ ((kd8.trans (KD.of g8)).trans (KD.kf (lb7.same g8) k9));exact ⟨f1,f2,f3,(eG F' rows (m+2) _ bs ms ps _ _ ⟨s7a.standB er0a g8 k9 fg lb9 er9 p0 lo b1 b2 na nb nd hs ain bin zne new (by lia),up.1,up.2.add p0 lo.pos (sw fq).1 (sw fq).2⟩),cO _ _ _ rfl⟩
   refine (xr rfl (xo rfl rfl ⟨(by show (8:Int)≠0;decide),xo rfl rfl (xr rfl (dF c6 (xr rfl (xo rfl rfl ⟨(by show (8:Int)≠0;decide),rfl,xr rfl (Bh (fun _=>?_) (fun _=>⟨(kp _ (KD.of (.refl _))).1,(kp _ (KD.of (.refl _))).2.1,(kp _ (KD.of (.refl _))).2.2,(eG F1 rows m g bs ns ps es vw ⟨s6.more,up⟩),cO _ _ _ rfl⟩))⟩))))⟩))
   refine io s6.lb.at_ fun dx s0 b0 fs _hi=>?_
   refine iU _hi fun dk _hj=>?_
   refine iW _hj fun ex es1 eb1 bd hb1 fm sF bF pb=>?_
   have kz:(aY bs (.bl true)).length<sizeLine:=by rw[b8];lia
   refine (xr rfl (cO x _ dx (xr rfl ⟨ex,B.Fm,B.Hv,fm _ (by decide),bY rfl rfl (xl rfl rfl (aQ.of el) ati (fR x za F1 rows m g (bO bs ns ⟨rfl,s6.lb,by lia,s6.nn,by lia,na,fun H5 ms k5 lb5 nd hs=>?_⟩)))⟩)))
   have el5:=k5 _ _ (s6.lb.not el (fun _ z=>nomatch z)) el
   have d5:=s6.d7k k5;refine (gn rfl rfl rfl (xl rfl rfl (aQ.of el5) ati ⟨db,xr rfl ⟨eT.k (k:= .inr za) d5.eb kz,?_⟩⟩));rw[eZ];obtain ⟨f1,f2,f3⟩:=kp _ ((KD.kf s6.lb k5).trans (KD.putK d5.eb _));refine ⟨f1,f2,f3,(eG F1 rows m g _ ms ps es vw ⟨(s6.barred k5 lb5 nd (fun y hy=>?_) (dS s6.d7.bnd) (fun y hy=>?_)).more,up⟩),cO _ _ _ rfl⟩
   ·rcases (hs y).mp hy with w|rfl
    ·exact s6.nsm y w
    ·exact ain
   ·rcases cL.mp hy with w|rfl
    ·exact s6.d7.binn y w
    ·exact ain
  ·rintro σ H4 ⟨els,el,kd4,lw',o6,o7,o8,rfl⟩;exact hN _ _ (bG _ o6 o7 o8 ⟨rfl,kd4,cl,lw'⟩)
 rintro σ H4 ⟨n,o6,o7,o8,rfl,kd,n16,lw'⟩;exact (xr rfl (q x n H4 kd n16 lw'))
theorem Cl {dV:Value} (F:bA K "_law_recipe" "_law_recipe" Ax dV f fd) (DZ24:i8 P w K mg base bj 1 GM ["self","name","plates","takes","steps","links"] [] (su Ev)) (DZ25:Dx P w K mg base bj 1 "_law_cell_at" ["_law_script","_law_k"] [] (mW K)) (DZ28:Dx P w K mg base bj 2 "_law_lowest" ["_law_top","_law_bottom"] [] oz) (DZ35:Dx P w K mg base bj 3 "_law_ratio" ["_law_cell"] [] jh):a8 P w K mg base bj 4 f fd ["_law_script","_law_start","_law_names_here"] (kE K Ev):=by
 have sc:aB ["_law_script","_law_start","_law_names_here","_law_cell","_law_takes","_law_k","_law_number","_law_good","_law_amount"] ["_law_script","_law_start","_law_names_here"] (au Ax):=dP (by decide+kernel)
 refine F.ok sc (fun vs H Q E h=>?_) (fun cdv A outer s H vs Q E hr h=>?_)
 ·obtain ⟨_,_,_,_,_,rfl,_⟩:=h
  rfl
 refine io h fun a l st ns0 _hi=>?_
 refine iU _hi fun nm _hj=>?_
 refine iV _hj fun _r1 hS st0 el n2 _hk=>?_
 refine fQ _hk fun n12 q=>?_
 clear h _hi _hj _hk;subst _r1;refine ⟨_,(ae (cA 3 sc (aA aV (du DZ25 hr (aa (pv 0) (aa (pv 1) af))) (aA jE ar ar))) (ae (cA 4 sc (bM af)) (ae (bR PassesOwn.never rfl (cQ rfl B.Gp (aa (aA aV (pv 3) ar) af)) (im 5 sc) (ae (cA 6 sc (aA aV (du DZ25 hr (aa (pv 0) (aa (aA bV (aA bV (pv 1) ar) (pv 5)) af))) (aA jE ar ar))) (ae (cA 7 sc (aD aO (pv 2) (aA aV (aA bV (aA bD (pv 3) ar) (aA bN (pv 5) (aA bV ar (aA aV (pv 6) ar)))) (av aW rfl B.Fx boot_len (aa (pv 2) af))) (fun _ _=>rfl))) (ak (aU (aN mM (pv 7) (mZ (own:= "_law_take") (ys:= []) (js:= []) rfl (xg xf .nil (by decide) rfl rfl rfl rfl rfl rfl rfl rfl) (ce (pv 4)) (fun C fp s H=>(aD (xJ (K:=K) rfl) (pv 0) ar (fun _ _=>rfl)))) (by with_unfolding_all rfl)) (ae (cA 8 sc (du DZ35 hr (aa (aA bD (pv 6) ar) af))) (ae (aU (aN eO (aA aV (pv 6) ar) ar (aK _)) (ak (cA 8 sc (du DZ28 hr (aa (aA bV ar (pv 6)) (aa (aA bV (aA jE ar ar) (aA bD (pv 6) ar)) af))))) aG) (ak (bx (eD EZ Ec Eb bC (pv 4) (aa (cg (aa (pv 7) (aa (pv 8) af))) af)))))) aG))))) (ak (aC (zB B.G5 DZ24 hr (by decide) rfl B.Hd (aa dh (aa (aA bV ar (aA aV (aA bD (pv 3) ar) ar)) (aa (pv 4) (aa (bM af) (aa (bM af) af))))))))))),?_⟩
 try dsimp only[cxK]
 have slt:(3000:Nat)<sizeLine:=by decide
 have p15:((10:Int)^(15:Int).toNat)=1000000000000000:=by decide
 have p29:((10:Int)^(29:Int).toNat)=100000000000000000000000000000:=by decide
 have ll:(nm.map V.str).length=nm.length:=E3 _;have lp:(0:Int)<((nm.map V.str).length:Int):=by lia
 have ln:((nm.map V.str).length:Int)≠0:=by lia
 refine cut (fun σ H'=>H=H'/\∃c:Int,0<=c/\c<1000000000000000/\σ= [HV a,some (.int st),HV l,some (.int c),none,none,none,none,none]) (fun N hN=>(bY rfl rfl (cO a ns0 st ⟨rfl,hS,st0,fun c0=>(xo rfl rfl ⟨⟨by decide,by decide⟩,xo rfl rfl ⟨(show ((10:Int)^(15:Int).toNat)≠0 by decide),hN _ _ ⟨rfl,_,(by rw[p15];exact EB _ (by decide)),(by rw[p15];exact EG _ (by decide)),rfl⟩⟩⟩)⟩))) ?_
 rintro σ _ ⟨rfl,c,c0,c1,rfl⟩;refine ⟨by show 0<=sizeLine;decide,fun lt nlt=>?_⟩
 have g1:=aj nlt (.lst []);try dsimp only[aM,aR]
 refine cut (fun σ H'=>ax H H'/\∃(ts:HP) (ks:HI) (o5 o6 o7 o8:Option V),H' lt=some (.lst (ts.map V.ref))/\wu H' ts ks/\jj nm ks/\σ= [HV a,some (.int st),HV l,some (.int c),HV lt,o5,o6,o7,o8]) (fun N hN=>?_) ?_
 ·have c60:=EB c (show (0:Int)<6 by decide)
  have c61:=EG c (show (0:Int)<6 by decide)
  refine ⟨_,rfl,_,_,rfl,rfl,(by show (6:Int)≠0;decide),_,rfl,by lia,by lia,cR (fun i σ H'=>ax H H'/\∃(ts:HP) (ks:HI) (o5 o6 o7 o8:Option V),H' lt=some (.lst (ts.map V.ref))/\wu H' ts ks/\jj nm ks/\ks.length<=i/\σ= [HV a,some (.int st),HV l,some (.int c),HV lt,o5,o6,o7,o8]) ⟨g1,fR [] [] none none none none ⟨ac,⟨rfl,fun i t k h1 _=>(by simp at h1)⟩,⟨fun k hk=>(by simp at hk),FO,fun k hk=>(by simp at hk),EO _⟩,EO _,rfl⟩⟩ ?_ (fun σ H' h=>by
   refine fQ h fun g _hi=>?_
   refine mD _hi fun ts ks o5 o6 o7 o8 _hj=>?_
   refine uf _hj fun e tk ok _hk=>?_
   refine fQ _hk fun _ _r1=>?_
   clear h _hi _hj _hk;subst _r1;exact hN _ _ ⟨g,fR ts ks o5 o6 o7 o8 ⟨e,tk,ok,rfl⟩⟩)⟩
  intro i σ H2 il h_;refine fQ h_ fun g2 _hi=>?_
  refine mD _hi fun ts ks o5 o6 o7 o8 _hj=>?_
  refine uf _hj fun e2 tk ok _hk=>?_
  refine fQ _hk fun kl _r1=>?_
  clear h_ _hi _hj _hk;subst _r1;have il6:i<6:=by lia
  have el2:=g2 _ _ el;try dsimp only[aM,aR]
  refine cut (fun σ H'=>H2=H'/\∃m:Int,0<=m/\m<1000000000000000/\σ= [HV a,some (.int st),HV l,some (.int c),HV lt,some (.int (0+(i:Int))),some (.int m),o7,o8]) (fun N hN=>(bY rfl rfl (xo rfl rfl (xr rfl (xo rfl rfl (bO a ns0 (xr rfl ⟨g2.seq hS,by lia,fun c0=>(xo rfl rfl ⟨⟨by decide,by decide⟩,xo rfl rfl ⟨(show ((10:Int)^(15:Int).toNat)≠0 by decide),hN _ _ ⟨rfl,_,(by rw[p15];exact EB _ (by decide)),(by rw[p15];exact EG _ (by decide)),rfl⟩⟩⟩)⟩))))))) ?_
  rintro σ _ ⟨rfl,m,m0,m1,rfl⟩;have bk:Bd 4 (0+(i:Int)):=by unfold Bd;show _<16;lia
  have m20:=EB m (show (0:Int)<2 by decide)
  have m21:=EG m (show (0:Int)<2 by decide)
  have bm:Bd 4 (1+m.fmod 2):=by unfold Bd;show _<16;lia
  refine cut (fun σ H'=>H2=H'/\∃z:Str,z∈nm/\σ= [HV a,some (.int st),HV l,some (.int c),HV lt,some (.int (0+(i:Int))),some (.int m),some (.str z),o8]) (fun N hN=>?_) ?_
  ·have hw:∀x:Int,∃z:Str,z∈nm/\fw (nm.map V.str) (x.fmod ((nm.map V.str).length:Int))=some (.str z):=fun x=>by
    have h0:=EB x lp;have h1:=EG x lp;obtain ⟨j,ej⟩:∃j:Nat,x.fmod ((nm.map V.str).length:Int)=(j:Int):=⟨_,(Int.toNat_of_nonneg h0).symm⟩;rw[ej] at h1⊢;have jl:j<nm.length:=by lia
    exact ⟨nm[j],List.getElem_mem jl,bI (cD (E1 jl))⟩
   obtain ⟨z,hz,az⟩:=hw (c.fdiv 6+(0+(i:Int))*(1+m.fmod 2));exact (bY rfl rfl (xo rfl rfl ⟨⟨by decide,ES (by decide)⟩,bY rfl rfl (xo rfl rfl ⟨(by show (2:Int)≠0;decide),xo rfl rfl (xo rfl rfl ⟨bk.ok bm,xo rfl rfl (xr rfl ⟨l,xr rfl ⟨.inl (aQ.of el2),xo rfl rfl ⟨ln,xl rfl rfl (aQ.of el2) az (hN _ _ ⟨rfl,z,hz,rfl⟩)⟩⟩⟩)⟩)⟩)⟩))
  rintro σ _ ⟨rfl,z,hz,rfl⟩;have tl:=tk.len;have xat:∀v∈ts.map V.ref,∃(r am:Addr) (k:HU),v= .ref r/\H2 r=some (.tup [.str k.1,.ref am]):=fun v hv=>by
   obtain ⟨r,hr,rfl⟩:=EF.mp hv;obtain ⟨j,hj⟩:=EH.mp hr;have jl:j<ks.length:=by rw[<-tl];exact (E2.mp hj).1
   obtain ⟨am,e1,_⟩:=tk.each j r _ hj (E1 jl);exact (bO r am (xr rfl e1))
  refine (bY rfl rfl ⟨lt,rfl,⟨_,aQ.of e2⟩,vf (xs:=ts.map V.ref) (fun x y=>∃(r am:Addr) (k:HU),x= .ref r/\H2 r=some (.tup [.str k.1,.ref am])/\y= .str k.1) (aQ.of e2) (by rw[E3];lia) (fun v hv H3 g3 Q' hQ=>?_) (fun p1 ys1 H3 np1 hl1 ht1 g3 e3=>?_)⟩)
  ·obtain ⟨r,am,k,rfl,er⟩:=xat v hv;exact (xr rfl (bG r _ 0 (.str k.1) ⟨rfl,rfl,bS.of (g3 _ _ er),rfl,hQ _ _ (cO r am k ⟨rfl,er,rfl⟩) (.refl _)⟩))
  rw[tk.col hl1 ht1] at e3;refine ⟨p1,xr rfl ⟨.inl (aQ.of e3),rfl,(by rw[List.all_map];exact Er.mpr fun _ _=>rfl),xr rfl ?_⟩⟩
  have g03:=g2.trans g3;refine BJ (fun nin=>?_) (fun _=>?_)
  ·refine cut (fun σ H'=>ax H3 H'/\∃(am:Addr) (p q:Int),0<p/\nS p q/\Bd 50 p/\Bd 97 q/\H' am=some (.tup [.int p,.int q])/\σ= [HV a,some (.int st),HV l,some (.int c),HV lt,some (.int (0+(i:Int))),some (.int m),some (.str z),HV am]) (fun N hN=>(xr rfl (xo rfl rfl ⟨⟨by decide,ES (by decide)⟩,xr rfl (fun p q p0 lo _ _ f am H4 g4 e4=>hN _ _ ⟨g4,cO am p q ⟨p0,lo,(sw f).1.mono (by decide),(sw f).2.mono (by decide),e4,rfl⟩⟩)⟩))) ?_
   rintro σ H4 ⟨g4,am,p,q,p0,lo,b1,b2,e4,rfl⟩;refine cut (fun σ H'=>ax H3 H'/\∃(am:Addr) (p q:Int),0<p/\nS p q/\Bd 50 p/\Bd 97 q/\H' am=some (.tup [.int p,.int q])/\σ= [HV a,some (.int st),HV l,some (.int c),HV lt,some (.int (0+(i:Int))),some (.int m),some (.str z),HV am]) (fun N hN=>?_) ?_
   ·refine (xr rfl (xo rfl rfl ⟨(by show (7:Int)≠0;decide),rfl,xr rfl (Bh (fun _=>?_) (fun _=>hN _ _ ⟨g4,cO am p q ⟨p0,lo,b1,b2,e4,rfl⟩⟩))⟩))
    have d0:0<=m.fdiv 7:=Int.fdiv_nonneg m0 (by decide)
    have d1:m.fdiv 7<=m:=by rw[Int.fdiv_eq_ediv_of_nonneg _ (by decide)];lia
    refine (xr rfl (xo rfl rfl (xo rfl rfl ⟨⟨by decide,by decide⟩,xr rfl (xo rfl rfl ⟨⟨by decide,ES (by decide)⟩,xo rfl rfl ⟨_,xr rfl ⟨by rw[p29];lia,?_,fun p q f am H5 g5 e5=>?_⟩⟩⟩)⟩)))
    ·refine Bd.mono (m:=97) ?_ (by decide)
     rw[p29];unfold Bd;show _<158456325028528675187087900672
     lia
    ·have bt:=f.bt;have bb:=f.bb;rw[p29] at bb;have sm:=f.same;rw[p29] at sm;refine hN _ _ ⟨g4.trans g5,cO am p q ⟨?_,f.to,?_,?_,e5,rfl⟩⟩
     ·have f0:=f.pos;have:0<p*(100000000000000000000000000000+m.fdiv 7):=by rw[sm];exact F6 (by lia) f0
      exact Int.pos_of_mul_pos_left this (by lia)
     ·unfold Bd;show _<1125899906842624
      lia
     ·unfold Bd;show _<158456325028528675187087900672
      lia
   rintro σ H5 ⟨g5,am,p,q,p0,lo,b1,b2,e5,rfl⟩;have e25:=g5 _ _ (g3 _ _ e2);refine (xr rfl ⟨?_,bY rfl rfl ⟨by show 2<=sizeLine;decide,fun t nt=>⟨lt,xo rfl rfl ⟨aj nt _ _ _ e25,by rw[E3];lia,?_⟩⟩⟩⟩)
   ·exact Or.inl ⟨rfl,_,aQ.of e25⟩
   have g6:=aj nt (.tup [.str z,.ref am]);have g26:=(g3.trans g5).trans g6;have e26:=g26 _ _ e2;have tp:∀b xs,ay H5 t (.tup [.str z,.ref am]) b=some (.tup xs)->ay (ay H5 t (.tup [.str z,.ref am])) lt (.lst (ts.map V.ref++ [.ref t])) b=some (.tup xs):=fun b xs e=>by
    rw[ag (fun w=>by rw[w,e26] at e;cases e)]
    exact e
   refine ⟨dM (g2.trans g26) nlt _,fR (ts++ [t]) (ks++ [(z,p,q)]) _ _ _ _ ⟨(by rw[ac,Ed];rfl),(tk.mono (fun _ _ e=>tp _ _ (g26 _ _ e))).snoc (tp _ _ ac) (tp _ _ (g6 _ _ e5)),ok.snoc hz nin p0 lo b1 b2 (by lia),by rw[E8,EJ];lia,rfl⟩⟩
  ·exact ⟨g03,fR ts ks _ _ _ _ ⟨g3 _ _ e2,tk.mono (fun _ _ e=>g3 _ _ e),ok,by lia,rfl⟩⟩
 intro σ H2 h_;refine fQ h_ fun g2 _hi=>?_
 refine mD _hi fun ts ks o5 o6 o7 o8 _hj=>?_
 refine uf _hj fun e2 tk ok _r1=>?_
 clear h_ _hi _hj;subst _r1;have w0:=EB (c.fdiv 60) (show (0:Int)<1000 by decide)
 have w1:=EG (c.fdiv 60) (show (0:Int)<1000 by decide)
 refine (xr rfl (xo rfl rfl ⟨⟨by decide,ES (by decide)⟩,xo rfl rfl ⟨(by show (1000:Int)≠0;decide),xo rfl rfl (xr rfl ⟨by show 0<=sizeLine;decide,fun l1 n1=>⟨by show 0<=sizeLine;decide,fun l2 n2'=>?_⟩⟩)⟩⟩))
 have h1:=aj n1 (.lst []);have h2:=aj n2' (.lst []);have el1:ay (ay H2 l1 (.lst [])) l2 (.lst []) l1=some (.lst []):=h2 _ _ ac;have el2:ay (ay H2 l1 (.lst [])) l2 (.lst []) l2=some (.lst []):=ac;have h12:=h1.trans h2;have elt:=h12 _ _ e2;have g3:=g2.trans h12;replace tk:=tk.mono (fun _ _ e=>h12 _ _ e)
 generalize ay (ay H2 l1 (.lst [])) l2 (.lst [])=H3 at el1 el2 elt g3 tk⊢;intro x dx nx ndx ne;have g4:ax H3 (ay (ay H3 dx (.own x)) x (.ins Ev dx [])):=fun b o e=>by
  rw[ag (fun w=>by rw[w,nx] at e;cases e),ag (fun w=>by rw[w,ndx] at e;cases e)]
  exact e
 refine (eG x dx lt l1 l2 _ _ _ _ (xr rfl ⟨ac,g4 _ _ elt,g4 _ _ el1,g4 _ _ el2,fun la fs H5 k5 nla ela ex f1 f2=>⟨rfl,?_⟩⟩))
 have g5:ax H3 H5:=fun b o e=>k5 b o (fun w=>by rw[w,nx] at e;cases e) (g4 _ _ e)
 have nxH:H x=none:=by
  cases h:H x with
  |none=>rfl
  |some o=>rw[g3 _ _ h] at nx;cases nx
 have tk5:=tk.mono (fun _ _ e=>g5 _ _ e)
 exact q x _ ks H5 (g3.trans g5) nxH (by lia) (by lia) ok ⟨dx,la,fs,ex,f1,f2,⟨ts,ela,tk5.len,tk5.each⟩,(g3.trans g4).free nla⟩
theorem Cm {dV:Value} (F:bA K "_law_dishes" "_law_dishes" Ay dV f fd) (DZ25:Dx P w K mg base bj 1 "_law_cell_at" ["_law_script","_law_k"] [] (mW K)):a8 P w K mg base bj 2 f fd ["_law_script","_law_recipes"] (pK K Ev):=by
 have sc:aB ["_law_script","_law_recipes","_law_dishes_here","_law_k","_law_cell"] ["_law_script","_law_recipes"] (au Ay):=dP (by decide+kernel)
 refine F.ok sc (fun vs H Q E h=>?_) (fun cdv A outer s H vs Q E hr h=>?_)
 ·obtain ⟨_,_,_,_,_,rfl,_⟩:=h
  rfl
 obtain ⟨a,lr,ns0,nm,rcs,rfl,hS,rc,q⟩:=h;refine ⟨_,(ae (cA 2 sc (bM af)) (ae (aU (aN (mC hr.units0) (pv 1) (bM af) (aK _)) (ak (bR PassesOwn.never rfl (cQ rfl B.Gp (aa (aA bV ar (aA aV (du DZ25 hr (aa (pv 0) (aa ar af))) ar)) af)) (im 3 sc) (ae (cA 4 sc (aA aV (du DZ25 hr (aa (pv 0) (aa (aA bV ar (pv 3)) af))) (aA jE ar ar))) (ak (bx (eD EZ Ec Eb bC (pv 2) (aa (cg (aa (aD aO (pv 1) (aA aV (pv 4) (av aW rfl B.Fx boot_len (aa (pv 1) af))) (fun _ _=>rfl)) (aa (aA bV ar (aA aV (aA bD (pv 4) ar) ar)) af))) af))))))) aG) (ak (aC (pv 2))))),?_⟩
 try dsimp only[cxK]
 have slt:(3000:Nat)<sizeLine:=by decide
 have p9:((10:Int)^(9:Int).toNat)=1000000000:=by decide
 refine ⟨by show 0<=sizeLine;decide,fun ld nld=>?_⟩
 have g0:=aj nld (.lst []);have e0:ay H ld (.lst []) ld=some (.lst []):=ac;generalize ay H ld (.lst [])=H0 at g0 e0⊢;try dsimp only[aM,aR]
 refine cut (fun σ H'=>ax H H'/\∃(dd:List iq) (o3 o4:Option V),σ= [HV a,HV lr,HV ld,o3,o4]/\dd.length<=6/\H' ld=some (.lst (dd.map fun d=>V.ref d.t))/\∀d∈dd,H' d.t=some (.tup [.ref d.r,.int d.n])/\pT Ev H d.r d.pl d.ks/\jj nm d.ks/\1<=d.pl/\d.pl<=1000/\1<=d.n/\d.n<=1000) (fun N hN=>?_) ?_
 ·refine (xr rfl ⟨by show 0<=sizeLine;decide,fun l0 n0=>?_⟩)
  have g1:=g0.trans (aj n0 (.lst []));have e1:=aj n0 (.lst []) _ _ e0;refine (bO lr l0 (xr rfl ⟨rfl,aQ.of (g1 _ _ rc.at_),aQ.of ac,xr rfl ?_⟩));generalize ay H0 l0 (.lst [])=H1 at g1 e1⊢;cases hr':rcs with
  |nil=>exact b4 (hN _ _ ⟨g1,cO [] none none ⟨rfl,EO _,e1,fun d hd=>absurd hd (by simp)⟩⟩)
  |cons r1 rs1=>
  have ln:0<rcs.length:=by rw[hr'];simp
  rw[<-hr'];have ne:(!(rcs.map fun r=>V.ref r.r).isEmpty)=true:=by rw[hr'];rfl
  have ll:(rcs.map fun r=>V.ref r.r).length=rcs.length:=E3 _
  have lp:(0:Int)<((rcs.map fun r=>V.ref r.r).length:Int):=by lia
  have lz:((rcs.map fun r=>V.ref r.r).length:Int)≠0:=by lia
  rw[ne];refine cU (xr rfl (cO a ns0 46 ⟨rfl,g1.seq hS,by decide,fun c=>(xo rfl rfl ⟨(by show (6:Int)≠0;decide),xo rfl rfl (xr rfl ⟨?_,?_,?_⟩)⟩)⟩))
  ·have:=EB c (show (0:Int)<6 by decide)
   lia
  ·have:=EG c (show (0:Int)<6 by decide)
   lia
  refine cR (fun i σ H'=>ax H H'/\∃(dd:List iq) (o3 o4:Option V),σ= [HV a,HV lr,HV ld,o3,o4]/\dd.length<=i/\H' ld=some (.lst (dd.map fun d=>V.ref d.t))/\∀d∈dd,H' d.t=some (.tup [.ref d.r,.int d.n])/\pT Ev H d.r d.pl d.ks/\jj nm d.ks/\1<=d.pl/\d.pl<=1000/\1<=d.n/\d.n<=1000) ⟨g1,cO [] none none ⟨rfl,EO _,e1,fun d hd=>absurd hd (by simp)⟩⟩ ?_ ?_
  ·rintro i σ H2 il ⟨g2,dd,o3,o4,rfl,dl,e2,each⟩;have i6:i<6:=by
    have:=EG c (show (0:Int)<6 by decide)
    lia
   try dsimp only[aM,aR]
   refine cH (fun Nq=>∀(m:Int),Nq [some (.ref a),some (.ref lr),some (.ref ld),some (.int (0+(i:Int))),some (.int m)] H2) (fun N hN=>(bY rfl rfl (xo rfl rfl (bO a ns0 (xr rfl ⟨g2.seq hS,by lia,fun c0=>(xo rfl rfl ⟨⟨by decide,by decide⟩,xo rfl rfl ⟨(show ((10:Int)^(9:Int).toNat)≠0 by decide),hN _⟩⟩)⟩))))) ?_
   intro m;have el2:=g2 _ _ rc.at_;obtain ⟨rk,hrk,az⟩:∃rk:Rc,rk∈rcs/\fw (rcs.map fun r=>V.ref r.r) (m.fmod ((rcs.map fun r=>V.ref r.r).length:Int))=some (.ref rk.r):=by
    have h0:=EB m lp;have h1:=EG m lp;obtain ⟨j,ej⟩:∃j:Nat,m.fmod ((rcs.map fun r=>V.ref r.r).length:Int)=(j:Int):=⟨_,(Int.toNat_of_nonneg h0).symm⟩
    rw[ej] at h1⊢;have jl:j<rcs.length:=by lia
    exact ⟨rcs[j],List.getElem_mem jl,bI (by rw[EA,E1 jl];rfl)⟩
   have w0:=EB (m.fdiv 7) (show (0:Int)<1000 by decide)
   have w1:=EG (m.fdiv 7) (show (0:Int)<1000 by decide)
   refine (xr rfl ⟨Or.inl ⟨rfl,_,aQ.of e2⟩,gn rfl rfl rfl ⟨lr,xr rfl ⟨.inl (aQ.of el2),xo rfl rfl ⟨lz,xl rfl rfl (aQ.of el2) az (xr rfl (xo rfl rfl ⟨⟨by decide,ES (by decide)⟩,xo rfl rfl ⟨(by show (1000:Int)≠0;decide),xo rfl rfl ⟨by show 2<=sizeLine;decide,fun t nt=>⟨ld,xo rfl rfl ⟨aj nt _ _ _ e2,by rw[E3];lia,?_⟩⟩⟩⟩⟩))⟩⟩⟩⟩)
   have g3:=aj nt (.tup [.ref rk.r,.int (1+(m.fdiv 7).fmod 1000)]);have e3:=g3 _ _ e2;have tp:∀b xs,ay H2 t (.tup [.ref rk.r,.int (1+(m.fdiv 7).fmod 1000)]) b=some (.tup xs)->ay (ay H2 t (.tup [.ref rk.r,.int (1+(m.fdiv 7).fmod 1000)])) ld (.lst ((dd.map fun d=>V.ref d.t)++ [.ref t])) b=some (.tup xs):=fun b xs e=>by
    rw[ag (fun w=>by rw[w,e3] at e;cases e)]
    exact e
   obtain ⟨k1,k2,k3,k4⟩:=rc.each rk hrk;refine ⟨dM (g2.trans g3) nld _,bO (dd++ [⟨t,rk.r,rk.pl,rk.ks,1+(m.fdiv 7).fmod 1000⟩]) _ (xr rfl ⟨by rw[E8,EJ];lia,by rw[ac,Ed];rfl,fun d hd=>?_⟩)⟩
   rcases EK.mp hd with w|w
   ·obtain ⟨f1,f2⟩:=each d w;exact ⟨tp _ _ (g3 _ _ f1),f2⟩
   ·rw[E9] at w;subst w;exact ⟨tp _ _ ac,k1,k2,k3,k4,by show (1:Int)<=1+_;lia,by show 1+(m.fdiv 7).fmod 1000<=1000;lia⟩
  ·rintro σ H2 ⟨g2,dd,o3,o4,rfl,dl,e2,each⟩;have:=EG c (show (0:Int)<6 by decide)
   exact hN _ _ ⟨g2,cO dd o3 o4 ⟨rfl,by lia,e2,each⟩⟩
 rintro σ H1 ⟨g1,dd,o3,o4,rfl,dl,e1,each⟩;exact (xr rfl (q ld dd H1 g1 nld ⟨e1,fun d hd=>⟨(each d hd).1,(each d hd).2.1.kd (KD.of g1),(each d hd).2.2⟩,dl⟩))
theorem Cn {dV:Value} (F:bA K "_law_free" "_law_free" Az dV f fd) (DZ34:Dx P w K mg base bj 1 "_law_led_to" ["_law_pairs","_law_good"] [] nJ):a8 P w K mg base bj 2 f fd ["_law_pairs","_law_bars","_law_good"] qP:=by
 have sc:aB ["_law_pairs","_law_bars","_law_good","_law_led"] ["_law_pairs","_law_bars","_law_good"] (au Az):=dP (by decide+kernel)
 refine F.ok sc (fun vs H Q E h=>?_) (fun cdv A outer s H vs Q E hr h=>?_)
 ·obtain ⟨_,_,_,_,_,rfl,_⟩:=h
  rfl
 refine io h fun dp db good ps _hi=>?_
 refine iU _hi fun bs _hj=>?_
 refine iV _hj fun _r1 ep few eb fb q=>?_
 clear h _hi _hj;subst _r1;refine ⟨_,(ae (mJ (i:=3) sc.nd rfl (Or.inr rfl) (du DZ34 hr (aa (pv 0) (aa (pv 2) af)))) (ak (aC (cF (mB hr.units0) (vo (lV (own:= "_law_name") (ys:= ["_law_led"]) (js:= [3]) rfl (xg (yG xf) (.cons rfl .nil) (by decide) rfl rfl rfl rfl rfl rfl rfl rfl) (jG (pv 1)) (fun C fp s H=>(fT (qi (by exact cf hr) (pv 0) (pv 1)) (by with_unfolding_all rfl))) (fun C fp s H=>(pv 0)))) (bM af) (aK _))))),?_⟩
 try dsimp only[cxK]
 have slt:(3000:Nat)<sizeLine:=by decide
 refine (bY rfl rfl (bG dp good (nU ps) ps ⟨rfl,ep,D6 ps,few,fun dk H1 ks g1 ndk e1 ndd kl mem=>?_⟩))
 try dsimp only[aM,aR]
 have dbd:db≠dk:=fun z=>by rw[<-z,eb] at ndk;cases ndk
 have eb1:=g1 _ _ eb;refine (xr rfl ⟨db,xr rfl ⟨eb1,fun o nf=>ju (xA ks) ac (by rw[b8];lia) (fun i k x hk H3 g3 R hR=>?_) (fun p H' g' e'=>?_)⟩⟩)
 ·obtain ⟨y,rfl⟩:=vX hk;refine (bY rfl rfl ⟨dk,xr rfl ⟨cT.k (k:= .inr y) (g3 _ _ (by rw[ag (Ne.symm dbd)];exact e1)),xr rfl ?_⟩⟩)
  rw[f9]
  by_cases c:y∈ks
  ·rw[if_pos c];rw[show xA ks (.inr y)=true from decide_eq_true c] at hR
   exact hR
  ·rw[if_neg c];rw[show xA ks (.inr y)=false from decide_eq_false c] at hR
   exact hR
 ·have fa:=g' _ _ ac;have pa:p≠db:=fun z=>by rw[z,fa] at e';cases e'
  have g2:=g1.trans (vI eb1 g');rw[ku] at e';refine (cO db o _ ⟨fa,nf,by show 0<=sizeLine;decide,fun l0 n0=>(bO p l0 (xr rfl ⟨rfl,aQ.of (aj n0 _ _ _ (by rw[ag pa];exact e')),aQ.of ac,q _ _ (g2.trans (aj n0 _)) ?_⟩))⟩)
  rw[List.isEmpty_iff,List.map_eq_nil_iff,List.filter_eq_nil_iff];constructor
  ·rintro h ⟨b,hb,l⟩;exact h b hb (decide_eq_true ((mem b).mpr l))
  ·intro h b hb w;exact h ⟨b,hb,(mem b).mp (of_decide_eq_true w)⟩
theorem Co {dV:Value} (F:bA K "_law_none_free" "_law_none_free" AA dV f fd) (DZ34:Dx P w K mg base bj 1 "_law_led_to" ["_law_pairs","_law_good"] [] nJ) (DZ39:Dx P w K mg base bj 2 "_law_free" ["_law_pairs","_law_bars","_law_good"] [] qP):a8 P w K mg base bj 3 f fd ["_law_recipe_here","_law_pairs","_law_stands","_law_bars"] (hV Ev):=by
 have sc:aB ["_law_recipe_here","_law_pairs","_law_stands","_law_bars","_law_good","_law_amount"] ["_law_recipe_here","_law_pairs","_law_stands","_law_bars"] (au AA):=dP (by decide+kernel)
 refine F.ok sc (fun vs H Q E h=>?_) (fun cdv A outer s H vs Q E hr h=>?_)
 ·obtain ⟨_,_,_,_,_,_,_,_,_,_,_,rfl,_⟩:=h
  rfl
 refine jy h fun r dp ds db pl ks nm ps es _hi=>?_
 refine wp _hi fun bs vw _hj=>?_
 refine iV _hj fun _r1 rc k100 d7 qN qS=>?_
 clear h _hi _hj;subst _r1;refine ⟨_,(ae (bR PassesOwn.never rfl (ce (cp (pv 0) rfl)) (jL rfl (cX (im 4 sc) (cX (im 5 sc) iu))) (ak (aU (aN (mB hr.units0) (vo (lV (own:= "_law_name") (ys:= ["_law_pairs","_law_bars"]) (js:= [1,3]) rfl (xg (yG (yG xf)) (.cons rfl (.cons rfl .nil)) (by decide) rfl rfl rfl rfl rfl rfl rfl rfl) (jG (du DZ34 hr (aa (pv 2) (aa (pv 4) af)))) (fun C fp s H=>(bv (du DZ39 hr (aa (pv 1) (aa (pv 2) (aa (pv 0) af)))))) (fun C fp s H=>(pv 0)))) (bM af) (aK _)) (ak (aC (pv 4))) aG))) (ak (aC dv))),?_⟩
 try dsimp only[cxK]
 have slt:(3000:Nat)<sizeLine:=by decide
 obtain ⟨dr,lt,fs,er,ft,fp,⟨ts,el,tl,each⟩⟩:=rc.ex;have few:=d7.few;have b12:=d7.bars;refine (xr rfl (bG r _ dr _ (xr rfl ⟨er,B.Ft,B.Fq,ft,lt,rfl,⟨_,aQ.of el⟩,cv (xs:=ts.map V.ref) (fun i σ H'=>ax H H'/\(∀(j:Nat) (k':HU),j<i->ks[j]?=some k'->hJ es ps bs k'.1)/\∃o4 o5:Option V,σ= [HV r,HV dp,HV ds,HV db,o4,o5]) ⟨.refl _,fun j k h=>absurd h (FD _),bO none none rfl⟩ (fun i σ H' _ h=>aQ.of (h.1 _ _ el)) ?_ ?_⟩)))
 ·rintro i v σ H1 hv ⟨g1,pre,o4,o5,rfl⟩;rw[EA] at hv;cases ht:ts[i]? with
  |none=>rw[ht] at hv;cases hv
  |some t=>
   rw[ht] at hv;cases hv;have il:i<ks.length:=by rw[<-tl];exact (E2.mp ht).1
   have hk:=E1 il;generalize ks[i]=k at hk;obtain ⟨am,e1,e2⟩:=each i t k ht hk;refine ⟨t,xr rfl ⟨bS.of (g1 _ _ e1),rfl,_,xr rfl ⟨_,xr rfl ⟨rfl,?_⟩⟩⟩⟩;try dsimp only[aM,aR]
   have d71:=d7.same g1;refine (bY rfl rfl (bG ds k.1 (k8 es) (xZ es) ⟨rfl,d71.ee,D8 es,by rw[x2];lia,fun dk H2 kn g2 ndk e2' ndd kl mem=>⟨dk,xr rfl ⟨e2',fun o nf=>?_⟩⟩⟩))
   have dpk:dp≠dk:=fun z=>by rw[<-z,d71.ep] at ndk;cases ndk
   have dbk:db≠dk:=fun z=>by rw[<-z,d71.eb] at ndk;cases ndk
   have d72:=d71.same g2;refine tZ (BI ps bs kn) (fun _ _ _=>True) (fun _ _ _ _ _ h=>h) (fun _ _ _ _ _ _ _ _ h=>h) ac (by rw[b8];lia) (fun i' k' x' hk' H3 g3=>?_) (fun p H3 vs np g3 e3 vl h1 h2=>?_)
   ·obtain ⟨y,rfl,hy⟩:=x9 hk';have pi:BI ps bs kn i'=CJ ps bs y:=by unfold BI;rw[hy]
    refine ⟨fun R hR=>?_,fun H4 g4 R hR=>(xr rfl (hR _ _ (.refl _) trivial))⟩
    rw[pi] at hR;exact (gn rfl rfl rfl (bG dp db y ps ⟨bs,⟨rfl,g3 _ _ (by rw[ag dpk];exact d72.ep),by lia,g3 _ _ (by rw[ag dbk];exact d72.eb),by lia,fun H4 b g4 hb=>⟨b,rfl,by rw[zZ hb];exact hR H4 g4⟩⟩⟩))
   ·have fa:=g3 _ _ ac;have pd:p≠dk:=fun z=>by rw[z,fa] at e3;cases e3
    have gA:=(g1.trans g2).trans (vI e2' g3);refine (cO dk o _ ⟨fa,nf,by show 0<=sizeLine;decide,fun l0 n0=>(cO p l0 vs ⟨rfl,rfl,aQ.of (aj n0 _ _ _ (by rw[ag pd];exact e3)),aQ.of ac,xr rfl ?_⟩)⟩)
    have gB:=gA.trans (aj n0 (.lst []))
    by_cases fr:hJ es ps bs k.1
    ·obtain ⟨y,hl,nb⟩:=id fr;obtain ⟨i',hi'⟩:=EH.mp ((mem y).mpr hl);obtain ⟨v,hv,_⟩:=h2 i' (by rw[b8];exact (E2.mp hi').1) (by unfold BI;rw[hi'];exact kx.mpr nb)
     cases vs with
     |nil=>cases hv
     |cons v0 vr=>
      refine b4 ⟨gB,fun j k' hj hk'=>?_,bO _ _ rfl⟩
      rcases ER.mp hj with w|rfl
      ·exact pre j k' w hk'
      ·rw[hk] at hk';cases hk';exact fr
    ·cases vs with
     |nil=>exact cU ⟨_,rfl,qS i k _ gB hk pre fr⟩
     |cons v0 vr=>
      exfalso;obtain ⟨i',il',pr',_⟩:=h1 v0 (by simp)
      unfold BI at pr';cases hy:kn[i']? with
      |none=>rw[hy] at pr';cases pr'
      |some y=>
       rw[hy] at pr';exact fr ⟨y,(mem y).mp (E6 hy),kx.mp pr'⟩
 ·rintro σ H1 ⟨g1,pre,o4,o5,rfl⟩;rw[E3,tl] at pre;exact qN _ g1 fun k hk=>by
   obtain ⟨j,hj⟩:=EH.mp hk;exact pre j k (E2.mp hj).1 hj
theorem Cp {dV:Value} {hd:HS} (F:bA K "_law_refused" "_law_refused" yr dV f fd):yF hd P w K mg base 1 f fd ["_law_e","_law_good"] (dG on):=by
 have sc:aB ["_law_e","_law_good"] ["_law_e","_law_good"] (au yr):=dP (by decide+kernel)
 refine F.okH sc (fun vs H Q E h=>?_) (fun cdv A outer s H vs Q E hr h=>?_)
 ·obtain ⟨_,_,_,rfl,_⟩:=h
  rfl
 obtain ⟨a,d,s,rfl,⟨n,e⟩,ed,q⟩:=h;refine ⟨_,(ae (aU (bv (av (kh (K:=K) rfl) rfl B.Fk boot_isinstance (aa (pv 0) (aa (cg (aa (b9 (v:=V.ref Fu) rfl B.G2 rfl) (aa (b9 (v:=V.ref Fp) rfl B.G1 rfl) (aa (b9 (v:=V.ref Fv) rfl B.G4 rfl) (aa (b9 (v:=V.ref Gd) rfl B.Hh rfl) (aa (b9 (v:=V.ref Fl) rfl B.G0 rfl) (aa (b9 (v:=V.ref Gk) rfl B.Ho rfl) (aa (b9 (v:=V.ref Fo) rfl B.GB rfl) (aa (b9 (v:=V.ref Gc) rfl B.Hg rfl) (aa (b9 (v:=V.ref Gb) rfl B.Hf rfl) (aa (b9 (v:=V.ref Gj) rfl B.Hn rfl) af))))))))))) af)))) (ak (aC bH)) aG) (ae (aU (PW.pt (gG (bv (av (kh (K:=K) rfl) rfl B.Fk boot_isinstance (aa (pv 0) (aa (cg (aa (b9 (v:=V.ref Fs) rfl B.Gy rfl) (aa (b9 (v:=V.ref Ga) rfl B.He rfl) (aa (b9 (v:=V.ref Fy) rfl B.Hc rfl) (aa (b9 (v:=V.ref Fw) rfl B.G7 rfl) (aa (b9 (v:=V.ref Gi) rfl B.Hl rfl) af)))))) af)))) (fh (b5 (bv (av (sV (K:=K) rfl) rfl B.Fk boot_isinstance (aa (pv 0) (aa (b9 (v:=V.ref Fn) rfl B.GX rfl) af)))))))) (ak (aC bH)) aG) (ak (aC (dQ (av (aX (K:=K) rfl) rfl B.Fk boot_isinstance (aa (rF (K:=K) rfl (pv 0) rfl) (aa (bE (v:= .ty "str") rfl B.GV boot_str rfl) af))) (fi (cF eO (rF (K:=K) rfl (pv 0) rfl) (pv 1) (aK _)))))))),?_⟩;try dsimp only[cxK]
 refine (xr rfl ⟨by show 10<=sizeLine;decide,fun t1 n1=>?_⟩)
 have g1:=aj n1 (.tup [.ref Fu,.ref Fp,.ref Fv,.ref Gd,.ref Fl,.ref Gk,.ref Fo,.ref Gc,.ref Gb,.ref Gj]);refine (fR a _ (some d) t1 [Fu,Fp,Fv,Gd,Fl,Gk,Fo,Gc,Gb,Gj] false ⟨rfl,⟨n,g1 _ _ e⟩,⟨_,g1 _ _ ed⟩,B.Gq,ac,B.GT,xr rfl (b4 ?_)⟩);refine (xr rfl ⟨by show 5<=sizeLine;decide,fun t2 n2=>?_⟩)
 have g2:=g1.trans (aj n2 (.tup [.ref Fs,.ref Ga,.ref Fy,.ref Fw,.ref Gi]));refine (fR a _ (some d) t2 [Fs,Ga,Fy,Fw,Gi] false ⟨rfl,⟨n,g2 _ _ e⟩,⟨_,g2 _ _ ed⟩,B.Gq,ac,B.GS,xr rfl (b4 ?_)⟩);refine (xr rfl (bG a _ (some d) _ ⟨true,⟨rfl,⟨n,g2 _ _ e⟩,⟨_,g2 _ _ ed⟩,B.Gq,.own B.Gs,true,rfl,b4 ?_⟩⟩));refine (xr rfl (bG a _ d _ ⟨_,xr rfl ⟨g2 _ _ e,g2 _ _ ed,⟨B.Gq.gg,B.Gx.dct,B.Gu⟩,rfl,?_⟩⟩));refine (bG _ _ _ true ⟨rfl,.str _,rfl,xr rfl (cU ?_)⟩);refine (xr rfl (bG a _ d _ ⟨_,xr rfl ⟨g2 _ _ e,g2 _ _ ed,⟨B.Gq.gg,B.Gx.dct,B.Gu⟩,rfl,?_⟩⟩));refine (xr rfl ⟨rfl,?_⟩);show Q (.bl (decide (V.str s=V.str s))) _;rw[decide_eq_true rfl];exact q _ g2
theorem Cq {dV:Value} (F:bA K "_law_chosen" "_law_chosen" AB dV f fd) (XZ22:Dx P w K mg base (dZ P w) 6 "chosen" ["recipe","larder"] [] (gz K Ev mt on)) (HZ41:∀hd,AK hd P w K mg base 1 "_law_refused" ["_law_e","_law_good"] (dG on)):a8 P w K mg base bj 7 f fd ["_law_recipe_here","_law_larder_here","_law_none"] (kD K Ev mt):=by
 have sc:aB ["_law_recipe_here","_law_larder_here","_law_none","_law_found","_law_e"] ["_law_recipe_here","_law_larder_here","_law_none"] (au AB):=dP (by decide+kernel)
 refine F.ok sc (fun vs H Q E h=>?_) (fun cdv A outer s H vs Q E hr h=>?_)
 ·obtain ⟨_,_,_,_,_,_,_,_,_,_,_,_,_,_,_,_,_,_,_,rfl,_⟩:=h
  rfl
 refine jy h fun r x dp ds db nv pl ks nm _hi=>?_
 refine jy _hi fun n F1 rows m g bs ns ps es _hj=>?_
 refine iU _hj fun vw _hk=>?_
 refine iV _hk fun _r1 rc k100 knm s7 _hl=>?_
 refine jz _hl fun n60 qD qE=>?_
 clear h _hi _hj _hk _hl;subst _r1;refine ⟨_,(ae (uS rfl rfl (fun pins E=>(ak (cA 3 sc (fE XZ22 hr (by decide) rfl cY (aa (pv 0) (aa (pv 1) af)))))) (u0 B.GL rfl B.Gv sc.nd (i:=4) rfl rfl (fun pins a=>(ak (aC (cg (aa dh (aa (u8 (j:=6) (HZ41 (some (.ref a))) (hr.suite _) (by decide) rfl (aa (pv 4) (aa (pv 2) af))) af)))))) uT)) (ak (aC (pv 3)))),?_⟩
 try dsimp only[cxK]
 refine (bY rfl rfl (eG r x dp ds db pl ks nm n (eG F1 rows m g bs ns ps es vw ⟨rfl,rc,k100,knm,s7,n60,fun l rs H1 g1 nl rl cw=>(xr rfl (qD l rs H1 g1 nl rl cw)),fun i k d H1 g1 hk pre nf ed a na=>(bO on true ⟨rfl,B.Gm,cU ?_⟩)⟩)))
 obtain ⟨rfl,qt⟩:=qE i k hk pre nf;have k4:=aj na (wT a (.ref on) (some d));exact (bY rfl rfl (cO a d k.1 ⟨rfl,⟨_,ac⟩,k4 _ _ ed,fun H5 g5=>⟨by show 2<=sizeLine;decide,fun t nt=>qt t _ (((g1.trans k4).trans g5).trans (aj nt _)) ac⟩⟩))
theorem Cr {dV:Value} (F:bA K "_law_needed" "_law_needed" AC dV f fd) (XZ23:Dx P w K mg base (dZ P w) 7 "needs_of" ["dishes","larder"] [] (kK K Ev mt on)) (HZ41:∀hd,AK hd P w K mg base 1 "_law_refused" ["_law_e","_law_good"] (dG on)):a8 P w K mg base bj 8 f fd ["_law_dishes_here","_law_larder_here","_law_none"] (pM K Ev mt):=by
 have sc:aB ["_law_dishes_here","_law_larder_here","_law_none","_law_found","_law_e"] ["_law_dishes_here","_law_larder_here","_law_none"] (au AC):=dP (by decide+kernel)
 refine F.ok sc (fun vs H Q E h=>?_) (fun cdv A outer s H vs Q E hr h=>?_)
 ·obtain ⟨_,_,_,_,_,_,_,_,_,_,_,_,_,_,_,_,_,_,rfl,_⟩:=h
  rfl
 refine jy h fun ld x dp ds db nv nm n F1 _hi=>?_
 refine jy _hi fun rows m g bs ns ps es vw dd _hj=>?_
 refine iV _hj fun _r1 da nmz s7 n60 _hk=>?_
 refine jz _hk fun tw qD qE=>?_
 clear h _hi _hj _hk;subst _r1;refine ⟨_,(ae (uS rfl rfl (fun pins E=>(ak (cA 3 sc (fE XZ23 hr (by decide) rfl cY (aa (pv 0) (aa (pv 1) af)))))) (u0 B.GL rfl B.Gv sc.nd (i:=4) rfl rfl (fun pins a=>(ak (aC (cg (aa dh (aa (u8 (j:=7) (HZ41 (some (.ref a))) (hr.suite _) (by decide) rfl (aa (pv 4) (aa (pv 2) af))) af)))))) uT)) (ak (aC (pv 3)))),?_⟩
 try dsimp only[cxK]
 refine (bY rfl rfl (eG ld x dp ds db nm n F1 rows (fR m g bs ns ps es (bO vw dd ⟨rfl,da,nmz,s7,n60,tw,fun l H1 allF g1 nl sr=>(xr rfl (qD l H1 allF g1 nl sr)),fun i j d k d' H1 hd hk pre prek nf g1 ed a na=>(bO on true ⟨rfl,B.Gm,cU ?_⟩)⟩))))
 obtain ⟨rfl,qt⟩:=qE i j d k hd hk pre prek nf;have k4:=aj na (wT a (.ref on) (some d'));exact (bY rfl rfl (cO a d' k.1 ⟨rfl,⟨_,ac⟩,k4 _ _ ed,fun H5 g5=>⟨by show 2<=sizeLine;decide,fun t nt=>qt t _ (((g1.trans k4).trans g5).trans (aj nt _)) ac⟩⟩))
theorem Cs {dV:Value} (F:bA K "_law_walked" "_law_walked" AD dV f fd) (DZ21:i8 P w K mg base bj 5 Gz ["self","good"] [] (wd K mt)) (DZ28:Dx P w K mg base bj 2 "_law_lowest" ["_law_top","_law_bottom"] [] oz) (DZ33:Dx P w K mg base bj 5 "_law_alike" ["_law_found","_law_due"] [] (iS 3)) (DZ39:Dx P w K mg base bj 2 "_law_free" ["_law_pairs","_law_bars","_law_good"] [] qP):a8 P w K mg base bj 6 f fd ["_law_row","_law_good","_law_larder_here","_law_pairs","_law_stands","_law_bars"] (pO K mt):=by
 have sc:aB ["_law_row","_law_good","_law_larder_here","_law_pairs","_law_stands","_law_bars","_law_chain","_law_top","_law_bottom","_law_k"] ["_law_row","_law_good","_law_larder_here","_law_pairs","_law_stands","_law_bars"] (au AD):=dP (by decide+kernel)
 refine F.ok sc (fun vs H Q E h=>?_) (fun cdv A outer s H vs Q E hr h=>?_)
 ·obtain ⟨_,_,_,_,_,_,_,_,_,_,_,_,_,_,_,_,_,_,_,_,_,_,rfl,_⟩:=h
  rfl
 refine jy h fun t x dp ds db cl rl z c _hi=>?_
 refine jy _hi fun p q' nm n F1 rows m g bs _hj=>?_
 refine io _hj fun ns ps es vw _hk=>?_
 refine iW _hk fun _r1 e1 e2 e3 nz due hRt s7 _hl=>?_
 refine jz _hl fun n60 tw q=>?_
 clear h _hi _hj _hk _hl;subst _r1;refine ⟨_,(ae (aU (b5 (bv (du DZ33 hr (aa (pv 0) (aa (aA wG (cg (aa (pv 1) af)) (fZ (pv 2) DZ21 hr (by decide) (aa (pv 1) af))) af))))) (ak (aC bH)) aG) (ae (cA 6 sc (aD aL (pv 0) ar (fun _ _=>rfl))) (ae (cA 7 sc ar) (ae (cA 8 sc ar) (ae (bR PassesOwn.never rfl (cQ rfl B.Gp (aa (aA y4 (av aW rfl B.Fx boot_len (aa (pv 6) af)) ar) af)) (im 9 sc) (ae (aU (fT (eU (cf hr) (cg (aa (aD aO (pv 6) (pv 9) (fun _ _=>rfl)) (aa (aD aO (pv 6) (aA bV (pv 9) ar) (fun _ _=>rfl)) af))) (pv 4)) (by with_unfolding_all rfl)) (ak (aC bH)) aG) (ae (cA 7 sc (aA bN (pv 7) (aD aL (iE (cf hr) (pv 4) (cg (aa (aD aO (pv 6) (pv 9) (fun _ _=>rfl)) (aa (aD aO (pv 6) (aA bV (pv 9) ar) (fun _ _=>rfl)) af))) (fun _ _=>rfl)) ar (fun _ _=>rfl)))) (ak (cA 8 sc (aA bN (pv 8) (aD aL (iE (cf hr) (pv 4) (cg (aa (aD aO (pv 6) (pv 9) (fun _ _=>rfl)) (aa (aD aO (pv 6) (aA bV (pv 9) ar) (fun _ _=>rfl)) af))) (fun _ _=>rfl)) ar (fun _ _=>rfl)))))))) (ae (aU (PW.pt (gG (aN iw (aD aO (pv 6) ar (fun _ _=>rfl)) (pv 1) (aK _)) (fh (b5 (bv (du DZ39 hr (aa (pv 3) (aa (pv 5) (aa (aD aO (pv 6) (jM gM ar) (fun _ _=>rfl)) af))))))))) (ak (aC bH)) aG) (ak (aC (cF (zm hr.units0) (aD aL (pv 0) ar (fun _ _=>rfl)) (du DZ28 hr (aa (pv 7) (aa (pv 8) af))) (aK _)))))))))),?_⟩
 try dsimp only[cxK]
 have slt:(3000:Nat)<sizeLine:=by decide
 have cnt:=s7.cnt;have few:=s7.d7.few;have b12:=s7.d7.bars;have cfew:=due.len (U:=nm) (fun a b ⟨t,h⟩=>(s7.d7.inn a b t h).2.1)
 have pc:=due.1;have cn:=pc.ne;have c1:=FN.mpr cn;obtain ⟨c0,lnk⟩:=pc.link;have lcm:(c.map V.str).length=c.length:=E3 _;refine cH (fun Nq=>∀H':Hp,ax H H'->Nq [some (.ref t),some (.str z),some (.ref x),some (.ref dp),some (.ref ds),some (.ref db),none,none,none,none] H') (fun N hN=>?_) ?_
 ·refine ⟨_,rfl,_,rfl,by show 1<=sizeLine;decide,fun t1 n1=>?_⟩
  have g1:=aj n1 (.tup [.str z]);have et1:ay H t1 (.tup [.str z]) t1=some (.tup [.str z]):=ac;generalize ay H t1 (.tup [.str z])=H1 at g1 et1⊢;have s1:=s7.same g1;refine io s1.lb.at_ fun dx s0 b0 fs _hi=>?_
  refine iU _hi fun dk _hj=>?_
  refine iW _hj fun ex es0 eb bd hb fm sF bF pb=>?_
  refine ⟨_,rfl,bG x _ dx _ ⟨rfl,ex,B.Fm,B.Hb,fm _ (by decide),_,rfl,eG x dp ds db z nm n F1 rows (fR m g bs ns ps es ⟨vw,⟨rfl,nz,s1,n60,nK due,fun t2 cl2 rl2 c2 p2 q2 H2 g2 _ due2 rt2 f1 f2 f3=>?_⟩⟩)⟩⟩
  have:=pD due2 due;subst this;obtain ⟨rfl,rfl⟩:=pE tw due rt2 hRt;refine (bG t1 t2 _ _ ⟨rfl,rfl,bS.of (g2 _ _ et1),bS.of f1,(fun w=>nomatch w),by show 3<=sizeLine;decide,(fun w=>nomatch w),fun _ t3 n3=>?_⟩)
  have g3:=aj n3 (.tup ([.str z]++ [.ref cl2,.ref rl2]));have gA:=(g1.trans g2).trans g3;exact (bO _ _ ⟨rfl,yh (gA _ _ e1) ac (gA _ _ e2) (g3 _ _ f2) (gA _ _ e3) (g3 _ _ f3) (by lia),_,rfl,b4 (hN _ gA)⟩)
 intro H4 g4;have s4:=s7.same g4;have e14:=g4 _ _ e1;have ec:=g4 _ _ e2;have er:=g4 _ _ e3;refine ⟨_,rfl,bG t _ _ _ ⟨rfl,rfl,bS.of e14,rfl,?_⟩⟩;have bd1:Bd (200*0+1) 1:=by rw[Nat.mul_zero];unfold Bd;decide
 try dsimp only[aM,aR]
 refine cH (fun Nq=>Nq [some (.ref t),some (.str z),some (.ref x),some (.ref dp),some (.ref ds),some (.ref db),some (.ref cl),some (.int 1),none,none] H4) (fun N hN=>hN) ?_
 refine cH (fun Nq=>Nq [some (.ref t),some (.str z),some (.ref x),some (.ref dp),some (.ref ds),some (.ref db),some (.ref cl),some (.int 1),some (.int 1),none] H4) (fun N hN=>hN) ?_
 refine cH (fun Nq=>∀(o8:Option V) (H':Hp),ax H4 H'->Bd (200*(c.length-1)+1) (eh vw c (c.length-1)).2->0<(eh vw c (c.length-1)).2->Nq [some (.ref t),some (.str z),some (.ref x),some (.ref dp),some (.ref ds),some (.ref db),some (.ref cl),some (.int (eh vw c (c.length-1)).1),some (.int (eh vw c (c.length-1)).2),o8] H') (fun N hN=>?_) ?_
 ·refine ⟨_,rfl,bO cl _ ⟨rfl,.inl (aQ.of ec),bO _ _ ⟨rfl,rfl,_,rfl,by lia,by lia,cR (fun i σ H'=>∃o8:Option V,σ= [HV t,some (.str z),HV x,HV dp,HV ds,HV db,HV cl,some (.int (eh vw c i).1),some (.int (eh vw c i).2),o8]/\ax H4 H'/\Bd (200*i+1) (eh vw c i).1/\Bd (200*i+1) (eh vw c i).2/\0<(eh vw c i).2) ⟨none,rfl,.refl _,bd1,bd1,(by show (0:Int)<1;decide)⟩ ?_ ?_⟩⟩⟩
  ·rintro i σ H5 hi ⟨o8,rfl,g5,bT,bB,B0⟩;have i1:i+1<c.length:=by lia
   have hx:=E1 (show i<c.length by lia)
   have hy:=E1 i1;generalize c[i]=xx at hx;generalize c[i+1]=y at hy;obtain ⟨t',ht'⟩:=lnk i xx y hx hy;obtain ⟨tr,hv,ht⟩:=pB ht';obtain ⟨etr,p0,lo,bp,bq⟩:=s4.d7.val xx y tr ht;have at1:fw (c.map V.str) (0+(i:Int))=some (.str xx):=by rw[show 0+(i:Int)=(i:Int) by lia];exact bI (cD hx)
   have at2:fw (c.map V.str) (0+(i:Int)+1)=some (.str y):=by rw[show 0+(i:Int)+1=((i+1:Nat):Int) by lia];exact bI (cD hy)
   refine ⟨_,rfl,_,rfl,bG cl _ _ _ ⟨rfl,rfl,aQ.of (g5 _ _ ec),at1,_,rfl,_,rfl,bO _ _ ⟨rfl,rfl,bG cl _ _ _ ⟨rfl,rfl,aQ.of (g5 _ _ ec),at2,by show 2<=sizeLine;decide,fun tt ntt=>?_⟩⟩⟩⟩
   have k2:=g5.trans (aj ntt (.tup [.str xx,.str y]));refine ⟨_,rfl,bO ds _ ⟨rfl,cT.t (k:= [.inr xx,.inr y]) (k2 _ _ s4.d7.ee) ac,_,rfl,?_⟩⟩;rw[hv];generalize ay H5 tt (.tup [.str xx,.str y])=H6 at k2⊢;refine b4 ?_;have big:200*i+1+200<=134217728:=by lia
   try dsimp only[aM,aR]
   refine ⟨_,rfl,_,rfl,_,rfl,_,rfl,bG cl _ _ _ ⟨rfl,rfl,aQ.of (k2 _ _ ec),at1,_,rfl,_,rfl,bO _ _ ⟨rfl,rfl,bG cl _ _ _ ⟨rfl,rfl,aQ.of (k2 _ _ ec),at2,by show 2<=sizeLine;decide,fun t6 n6=>?_⟩⟩⟩⟩
   have k6:=k2.trans (aj n6 (.tup [.str xx,.str y]));refine (bO ds (.ref tr) ⟨rfl,(by rw[<-hv];exact cT.t (k:= [.inr xx,.inr y]) (k6 _ _ s4.d7.ee) ac),bG tr _ _ _ ⟨rfl,rfl,bS.of (k6 _ _ etr),rfl,bO _ _ ⟨rfl,rfl,bT.ok bp big,?_⟩⟩⟩)
   generalize ay H6 t6 (.tup [.str xx,.str y])=H7 at k6⊢;try dsimp only[aM,aR]
   refine ⟨_,rfl,_,rfl,_,rfl,_,rfl,bG cl _ _ _ ⟨rfl,rfl,aQ.of (k6 _ _ ec),at1,_,rfl,_,rfl,bO _ _ ⟨rfl,rfl,bG cl _ _ _ ⟨rfl,rfl,aQ.of (k6 _ _ ec),at2,by show 2<=sizeLine;decide,fun t7 n7=>?_⟩⟩⟩⟩
   have k7:=k6.trans (aj n7 (.tup [.str xx,.str y]));refine (bO ds (.ref tr) ⟨rfl,(by rw[<-hv];exact cT.t (k:= [.inr xx,.inr y]) (k7 _ _ s4.d7.ee) ac),bG tr _ _ _ ⟨rfl,rfl,bS.of (k7 _ _ etr),rfl,bO _ _ ⟨rfl,rfl,bB.ok bq big,?_⟩⟩⟩)
   have pr:eh vw c (i+1)=((eh vw c i).1*(vw xx y).1,(eh vw c i).2*(vw xx y).2):=by
    show ((eh vw c i).1*(vw (c.getD i "") (c.getD (i+1) "")).1,(eh vw c i).2*(vw (c.getD i "") (c.getD (i+1) "")).2)=_;rw[Ee,Ee,hx,hy]
    rfl
   have bi':200*(i+1)+1=200*i+1+200:=by lia
   refine ⟨some (.int (0+(i:Int))),(by rw[pr];rfl),k7,?_,?_,?_⟩
   ·rw[pr,bi'];exact bT.mul bp
   ·rw[pr,bi'];exact bB.mul bq
   ·rw[pr];exact F6 B0 lo.pos
  ·rintro σ H5 ⟨o8,rfl,g5,bT,bB,B0⟩;have e:((((c.map V.str).length:Nat):Int)-1).toNat=c.length-1:=by lia
   rw[e] at bT bB B0;rw[e];exact hN o8 _ g5 bB B0
 intro o8 H5 g5 bB B0;have s5:=s4.same g5;try dsimp only[aM,aR]
 refine ⟨_,rfl,bG cl _ _ _ ⟨rfl,rfl,aQ.of (g5 _ _ ec),bI (j:=0) (cD c0),_,rfl,rfl,_,rfl,nF rfl ?_⟩⟩;refine ⟨_,rfl,_,rfl,_,rfl,_,rfl,bG cl _ _ _ ⟨rfl,rfl,aQ.of (g5 _ _ ec),fc cn,bG dp db (aI c) ps ⟨bs,⟨rfl,s5.d7.ep,by lia,s5.d7.eb,by lia,fun H6 b g6 hb=>?_⟩⟩⟩⟩
 have:b=true:=hb.mpr due.2.1;subst this;refine ⟨_,rfl,b4 ?_⟩;have g56:=g5.trans g6;refine ⟨_,rfl,bG t _ _ _ ⟨rfl,rfl,bS.of (g56 _ _ e14),rfl,_,rfl,_,rfl,bO _ _ ⟨rfl,B0,bB.mono (by lia),fun p2 q2 f2 t2 H7 g7 e7=>?_⟩⟩⟩
 obtain ⟨rfl,rfl⟩:=xK hRt f2 B0;refine (fR rl t2 _ _ _ _ ⟨rfl,rfl,bS.of (g7 _ _ (g56 _ _ er)),bS.of e7,?_⟩);show Q (.bl (decide (p=p/\q'=q'))) _;rw[decide_eq_true ⟨rfl,rfl⟩];exact q _ ((g4.trans g56).trans g7)
theorem Ct {dV:Value} (F:bA K "_law_chosen_right" "_law_chosen_right" AE dV f fd) (DZ40:Dx P w K mg base bj 3 "_law_none_free" ["_law_recipe_here","_law_pairs","_law_stands","_law_bars"] [] (hV Ev)) (DZ42:Dx P w K mg base bj 7 "_law_chosen" ["_law_recipe_here","_law_larder_here","_law_none"] [] (kD K Ev mt)) (DZ44:Dx P w K mg base bj 6 "_law_walked" ["_law_row","_law_good","_law_larder_here","_law_pairs","_law_stands","_law_bars"] [] (pO K mt)):a8 P w K mg base bj 8 f fd ["_law_recipe_here","_law_larder_here","_law_pairs","_law_stands","_law_bars"] (gL K Ev mt):=by
 have sc:aB ["_law_recipe_here","_law_larder_here","_law_pairs","_law_stands","_law_bars","_law_none","_law_found","_law_k","_law_row"] ["_law_recipe_here","_law_larder_here","_law_pairs","_law_stands","_law_bars"] (au AE):=dP (by decide+kernel)
 refine F.ok sc (fun vs H Q E h=>?_) (fun cdv A outer s H vs Q E hr h=>?_)
 ·obtain ⟨_,_,_,_,_,_,_,_,_,_,_,_,_,_,_,_,_,_,rfl,_⟩:=h
  rfl
 refine jy h fun r x dp ds db pl ks nm n _hi=>?_
 refine jy _hi fun F1 rows m g bs ns ps es vw _hj=>?_
 refine iV _hj fun _r1 rc k100 kn s7 _hk=>?_
 refine jz _hk fun n60 tw q=>?_
 clear h _hi _hj _hk;subst _r1;refine ⟨_,(ae (cA 5 sc (du DZ40 hr (aa (pv 0) (aa (pv 2) (aa (pv 3) (aa (pv 4) af)))))) (ae (cA 6 sc (du DZ42 hr (aa (pv 0) (aa (pv 1) (aa (pv 5) af))))) (ae (aU (aN jC (pv 5) dv (aK _)) (ak (aC (cF (r8 0 (Nat.lt_trans (Nat.add_lt_add_left (by decide:1<64) _) hr.units)) (pv 6) (cg (aa dh (aa bH af))) (aK _)))) aG) (ae (aU (PW.pt (gG (b5 (bv (av (aX (K:=K) rfl) rfl B.Fk boot_isinstance (aa (pv 6) (aa (bE (v:= .ty "list") rfl B.Go boot_list rfl) af))))) (fh (aN iw (av aW rfl B.Fx boot_len (aa (pv 6) af)) (av aW rfl B.Fx boot_len (aa (cp (pv 0) rfl) af)) (aK _))))) (ak (aC bH)) aG) (ae (bR PassesOwn.never rfl (cQ rfl B.Gp (aa (av aW rfl B.Fx boot_len (aa (pv 6) af)) af)) (im 7 sc) (ak (aU (b5 (bv (du DZ44 hr (aa (aD aO (pv 6) (pv 7) (fun _ _=>rfl)) (aa (aD aL (aD aO (cp (pv 0) rfl) (pv 7) (fun _ _=>rfl)) ar (fun _ _=>rfl)) (aa (pv 1) (aa (pv 2) (aa (pv 3) (aa (pv 4) af))))))))) (ak (aC bH)) aG))) (ae (bR PassesOwn.never rfl (ce (pv 6)) (im 8 sc) (ak (bx (eD EZ Ec Eb bC (aD aL (pv 8) ar (fun _ _=>rfl)) (aa dh af))))) (ae (bx (eD EZ Ec Eb bC (pv 6) (aa dv af))) (ak (aC bH))))))))),?_⟩
 try dsimp only[cxK]
 have slt:(3000:Nat)<sizeLine:=by decide
 have cnt:=s7.cnt;have few:=s7.d7.few;obtain ⟨dr,lt,fs,er,ft,fp,⟨tk,elt,tl,each⟩⟩:=rc.ex;refine (gn rfl rfl rfl (xr rfl (eG r dp ds db pl ks nm ps es (bO bs vw ⟨rfl,rc,k100,s7.d7,fun H1 g1 all=>?_,fun i k H1 g1 hk pre nf=>?_⟩))))
 ·try dsimp only[aM,aR]
  refine (gn rfl rfl rfl (eG r x dp ds db .non pl ks nm (eG n F1 rows m g bs ns ps es ⟨vw,⟨rfl,rc.kd (KD.of g1),k100,kn,s7.same g1,n60,fun l rs H2 g2 nl rl cw=>?_,fun i k hk pre nf=>absurd (all k (E6 hk)) nf⟩⟩)))
  have g12:=g1.trans g2;have s2:=s7.same g12;obtain ⟨ts,el,tl2,_,each2⟩:=cw.ex;try dsimp only[aM,aR]
  refine cH (fun Nq=>Nq [some (.ref r),some (.ref x),some (.ref dp),some (.ref ds),some (.ref db),some .non,some (.ref l),none,none] H2) (fun N hN=>?_) ?_
  ·refine (xr rfl ⟨rfl,xr rfl (nF rfl ?_)⟩);exact hN
  refine cH (fun Nq=>Nq [some (.ref r),some (.ref x),some (.ref dp),some (.ref ds),some (.ref db),some .non,some (.ref l),none,none] H2) (fun N hN=>?_) ?_
  ·refine (xr rfl (bG _ _ _ true ⟨rfl,.lst el,rfl,xr rfl (b4 (xr rfl ⟨l,xr rfl ⟨.inl (aQ.of el),xr rfl (bG r _ dr _ (xr rfl ⟨(g12 _ _ er),B.Ft,B.Fq,ft,lt,xr rfl ⟨.inl (aQ.of (g12 _ _ elt)),rfl,xr rfl (nF (congrArg (fun n:Nat=>V.int (n:Int)) (by rw[E3,E3];lia)) (hN))⟩⟩))⟩⟩))⟩))
  refine cH (fun Nq=>∀(o7:Option V) (H':Hp),ax H2 H'->Nq [some (.ref r),some (.ref x),some (.ref dp),some (.ref ds),some (.ref db),some .non,some (.ref l),o7,none] H') (fun N hN=>?_) ?_
  ·refine (xr rfl ⟨l,xr rfl ⟨.inl (aQ.of el),xr rfl ⟨by lia,by rw[E3];lia,cR (fun i σ H'=>∃o7:Option V,σ= [HV r,HV x,HV dp,HV ds,HV db,some .non,HV l,o7,none]/\ax H2 H') ⟨none,rfl,.refl _⟩ ?_ ?_⟩⟩⟩)
   ·rintro i σ H3 hi ⟨o7,rfl,g3⟩;rw[E3] at hi;have it:i<ts.length:=by lia
    have ik:i<ks.length:=by lia
    have ir:i<rs.length:=by lia
    have i2:i<tk.length:=by lia
    have hT:=E1 it;have hK:=E1 ik;have hR:=E1 ir;have hU:=E1 i2;generalize ts[i]=t at hT;generalize ks[i]=k at hK;generalize rs[i]=rr at hR;generalize tk[i]=u at hU;obtain ⟨⟨due,hRt⟩,cl,rl',f1,f2,f3,f4,f5⟩:=each2 i t k rr hT hK hR;obtain ⟨am,h1,h2⟩:=each i u k hU hK;have g123:=g12.trans g3;have at1:fw (ts.map V.ref) (0+(i:Int))=some (.ref t):=by rw[Fe];exact bI (cD hT)
    have at2:fw (tk.map V.ref) (0+(i:Int))=some (.ref u):=by rw[Fe];exact bI (cD hU)
    refine (bY rfl rfl (xl rfl rfl (aQ.of (g3 _ _ el)) at1 (xr rfl (bG r _ dr _ (xr rfl ⟨(g123 _ _ er),B.Ft,B.Fq,ft,xr rfl (xl rfl rfl (aQ.of (g123 _ _ elt)) at2 (xl rfl rfl (bS.of (g123 _ _ h1)) rfl (gn rfl rfl rfl (xr rfl (eG t x dp ds db cl rl' k.1 rr.1 (eG rr.2.1 rr.2.2 nm n F1 rows m g bs (bG ns ps es vw ⟨rfl,g3 _ _ f1,g3 _ _ f2,g3 _ _ f3,kn k (E6 hK),due,hRt,s7.same g123,n60,tw,fun H4 g4=>(xr rfl (b4 (xr rfl (g3.trans g4))))⟩)))))))⟩)))))
   ·rintro σ H3 ⟨o7,rfl,g3⟩;exact hN o7 _ g3
  intro o7 H3 g3;have g13:=g12.trans g3;have el3:=g3 _ _ el;have nl1:H l=none:=g1.free nl;try dsimp only[aM,aR]
  refine cH (fun Nq=>∀(o8:Option V) (H':Hp),ax H H'->H' l=some (.lst (ts.map V.ref))->Nq [some (.ref r),some (.ref x),some (.ref dp),some (.ref ds),some (.ref db),some .non,some (.ref l),o7,o8] H') (fun N hN=>?_) ?_
  ·refine (xr rfl ⟨l,rfl,⟨_,aQ.of el3⟩,cv (xs:=ts.map V.ref) (fun i σ H'=>∃o8:Option V,σ= [HV r,HV x,HV dp,HV ds,HV db,some .non,HV l,o7,o8]/\ax H H'/\H' l=some (.lst (ts.map V.ref))/\∀(j:Nat) (t:Addr),ts[j]?=some t->∃(kv rv:V) (cl:Addr) (xs:List V),H' t=some (.tup [kv,.ref cl,rv])/\H' cl=some (.lst xs)/\xs.length<=20+i/\H cl=none/\cl≠l) ⟨none,rfl,g13,el3,fun j t hT=>?_⟩ (fun i σ H' _ h=>by obtain ⟨_,_,_,e,_⟩:=h;exact aQ.of e) ?_ ?_⟩)
   ·have ir:j<rs.length:=by have:=(E2.mp hT).1;lia
    obtain ⟨⟨due,hRt⟩,cl,rl',f1,f2,f3,f4,f5⟩:=each2 j t ks[j] rs[j] hT (E1 (by lia)) (E1 ir)
    have cfew:=due.len (U:=nm) (fun a b ⟨t,h⟩=>(s7.d7.inn a b t h).2.1)
    exact (bG _ _ cl _ ⟨g3 _ _ f1,g3 _ _ f2,by rw[E3];lia,g1.free f4,f5⟩)
   ·rintro i v σ H4 hv ⟨o8,rfl,g4,el4,inv⟩;have il:=(E2.mp hv).1;rw[E3] at il;have hT:=E1 il;rw[cD hT] at hv;cases hv;generalize ts[i]=t at hT;obtain ⟨kv,rv,cl,xs,f1,f2,f3,f4,f5⟩:=inv i t hT;refine (xr rfl (xl rfl rfl (bS.of f1) rfl ⟨.inl ⟨rfl,_,aQ.of f2⟩,cl,xo rfl rfl ⟨f2,by lia,xr rfl ⟨dM g4 f4 _,by rw[ag (Ne.symm f5)];exact el4,fun j t' hT'=>?_⟩⟩⟩))
    obtain ⟨kv',rv',cl',xs',f1',f2',f3',f4',f5'⟩:=inv j t' hT';have tp:∀a ys,H4 a=some (.tup ys)->ay H4 cl (.lst (xs++ [.str "z"])) a=some (.tup ys):=fun a ys e=>by rw[ag (fun w=>by rw[w,f2] at e;cases e)];exact e
    by_cases w:cl'=cl
    ·subst w;rw[f2] at f2';cases f2';exact (bG kv' rv' cl' _ ⟨tp _ _ f1',ac,by rw[E8,EJ];lia,f4',f5'⟩)
    ·exact (bG kv' rv' cl' xs' ⟨tp _ _ f1',by rw[ag w];exact f2',by lia,f4',f5'⟩)
   ·rintro σ H4 ⟨o8,rfl,g4,el4,inv⟩;exact hN o8 _ g4 el4
  intro o8 H4 g4 el4;exact (xr rfl ⟨.inl ⟨rfl,_,aQ.of el4⟩,l,xo rfl rfl ⟨el4,by rw[E3];lia,q _ (dM g4 nl1 _)⟩⟩)
 ·try dsimp only[aM,aR]
  have ik:=(E2.mp hk).1;refine (gn rfl rfl rfl (eG r x dp ds db (.str k.1) pl ks nm (eG n F1 rows m g bs ns ps es ⟨vw,⟨rfl,rc.kd (KD.of g1),k100,kn,s7.same g1,n60,fun l rs H2 g2 nl rl cw=>?_,fun i' k' hk' pre' nf'=>?_⟩⟩)))
  ·exfalso;obtain ⟨ts,el,tl2,_,each2⟩:=cw.ex;exact nf (nK (each2 i ts[i] k rs[i] (E1 (by lia)) hk (E1 (by lia))).1.1)
  ·have ei:i'=i:=by
    rcases FW i' i with w|w|w
    ·exact absurd (pre i' k' w hk') nf'
    ·exact w
    ·exact absurd (pre' i k w hk) nf
   subst ei;rw[hk] at hk';cases hk';refine ⟨rfl,fun t H2 g2 et=>?_⟩
   try dsimp only[aM,aR]
   refine (xr rfl ⟨rfl,xr rfl (nT (fun w=>nomatch w) (xr rfl ⟨by show 2<=sizeLine;decide,fun t2 n2=>?_⟩))⟩)
   have k2:=aj n2 (.tup [.str "refused",.bl true]);exact (bO t t2 (xo rfl rfl ⟨bS.of (k2 _ _ et),bS.of ac,⟨⟨rfl,trivial⟩,⟨rfl,trivial⟩,trivial⟩,q _ ((g1.trans g2).trans k2)⟩))
theorem Cu {dV:Value} (F:bA K "_law_sums" "_law_sums" AF dV f fd) (DZ22:Dx P w K mg base bj 6 "chosen" ["recipe","larder"] [] (jm K Ev mt)) (DZ28:Dx P w K mg base bj 2 "_law_lowest" ["_law_top","_law_bottom"] [] oz):a8 P w K mg base bj 7 f fd ["_law_dishes_here","_law_larder_here"] (wg K Ev mt):=by
 have sc:aB ["_law_dishes_here","_law_larder_here","_law_sums_here","_law_recipe_here","_law_plates","_law_rows","_law_k","_law_name","_law_amount","_law_top","_law_bottom","_law_before"] ["_law_dishes_here","_law_larder_here"] (au AF):=dP (by decide+kernel)
 refine F.ok sc (fun vs H Q E h=>?_) (fun cdv A outer s H vs Q E hr h=>?_)
 ·obtain ⟨_,_,_,_,_,_,_,_,_,_,_,_,_,_,_,_,_,rfl,_⟩:=h
  rfl
 refine jy h fun ld x dp ds db nm n F1 rows _hi=>?_
 refine mD _hi fun m g bs ns ps es _hj=>?_
 refine wp _hj fun vw dd _hk=>?_
 refine iV _hk fun _r1 da nmz s7 n60 _hl=>?_
 refine jz _hl fun tw allF q=>?_
 clear h _hi _hj _hk _hl;subst _r1;refine ⟨_,(ae (mJ (i:=2) sc.nd rfl (Or.inr rfl) cx) (ae (bR PassesOwn.never rfl (ce (pv 0)) (jL rfl (cX (im 3 sc) (cX (im 4 sc) iu))) (ae (cA 5 sc (du DZ22 hr (aa (pv 3) (aa (pv 1) af)))) (ak (bR PassesOwn.never rfl (cQ rfl B.Gp (aa (av aW rfl B.Fx boot_len (aa (cp (pv 3) rfl) af)) af)) (im 6 sc) (ae (cA 7 sc (aD aO (aD aL (aD aO (pv 5) (pv 6) (fun _ _=>rfl)) ar (fun _ _=>rfl)) (jM gM ar) (fun _ _=>rfl))) (ae (cA 8 sc (aD aL (aD aO (cp (pv 3) rfl) (pv 6) (fun _ _=>rfl)) ar (fun _ _=>rfl))) (ae (cA 9 sc (aA bN (aA bN (aD aL (pv 8) ar (fun _ _=>rfl)) (pv 4)) (aD aL (aD aL (aD aO (pv 5) (pv 6) (fun _ _=>rfl)) ar (fun _ _=>rfl)) ar (fun _ _=>rfl)))) (ae (cA 10 sc (aA bN (aA bN (aD aL (pv 8) ar (fun _ _=>rfl)) (cp (pv 3) rfl)) (aD aL (aD aL (aD aO (pv 5) (pv 6) (fun _ _=>rfl)) ar (fun _ _=>rfl)) ar (fun _ _=>rfl)))) (ae (cA 11 sc (fX (cf hr) (pv 2) (pv 7) (cg (aa ar (aa ar af))) ⟨rfl,rfl,rfl,rfl⟩)) (ak (cZ (cf hr) (pv 2) (pv 7) (du DZ28 hr (aa (aA bV (aA bN (aD aL (pv 11) ar (fun _ _=>rfl)) (pv 10)) (aA bN (pv 9) (aD aL (pv 11) ar (fun _ _=>rfl)))) (aa (aA bN (aD aL (pv 11) ar (fun _ _=>rfl)) (pv 10)) af))) rfl))))))))))) (ak (aC (mZ (own:= "_law_name") (ys:= ["_law_sums_here"]) (js:= [2]) rfl (xg (yG xf) (.cons rfl .nil) (by decide) rfl rfl rfl rfl rfl rfl rfl rfl) (ce (av (gj rfl) rfl B.GJ PyProof.Rows.Boot.«sorted» (aa (pv 2) af))) (fun C fp s H=>(cg (aa (pv 0) (aa (iE (cf hr) (pv 1) (pv 0) (fun _ _=>rfl)) af))))))))),?_⟩
 try dsimp only[cxK]
 have slt:(3000:Nat)<sizeLine:=by decide
 have few:=da.few;have dfew:=s7.d7.few;intro d nd;have g0:=aj nd (.dK []);have sm0:jJ (ay H d (.dK [])) d [] (fun _=>none):=jJ.nil ac
 generalize ay H d (.dK [])=H0 at g0 sm0⊢;try dsimp only[aM,aR]
 refine cut (fun σ H'=>ax H H'/\(∃rows',jJ H' d rows' (sumF (ie es ps bs vw) dd)/\rows'.length<=30)/\∃o3 o4 o5 o6 o7 o8 o9 o10 o11:Option V,σ= [HV ld,HV x,HV d,o3,o4,o5,o6,o7,o8,o9,o10,o11]) (fun N hN=>?_) ?_
 ·refine (xr rfl ⟨ld,rfl,⟨_,aQ.of (g0 _ _ da.at_)⟩,cv (xs:=dd.map fun d=>V.ref d.t) (fun i σ H'=>ax H H'/\(∃rows',jJ H' d rows' (sumF (ie es ps bs vw) (dd.take i))/\rows'.length<=5*i)/\nL (5*i) (sumF (ie es ps bs vw) (dd.take i))/\∃o3 o4 o5 o6 o7 o8 o9 o10 o11:Option V,σ= [HV ld,HV x,HV d,o3,o4,o5,o6,o7,o8,o9,o10,o11]) ⟨g0,⟨[],sm0,EO _⟩,nL.nil,eG none none none none none none none none none rfl⟩ (fun i σ H' _ h=>aQ.of (h.1 _ _ da.at_)) ?_ ?_⟩)
  ·intro i v σ H1 hv h_;refine uf h_ fun g1 _r1 gk1 _hi=>?_
   refine jy _hi fun o3 o4 o5 o6 o7 o8 o9 o10 o11 _r2=>?_
   clear h_ _hi;obtain ⟨rows1,sm1,rl1⟩:=_r1;subst _r2;rw[EA] at hv;cases hd:dd[i]? with
   |none=>rw[hd] at hv;cases hv
   |some d9=>
   rw[hd] at hv;cases hv;have il:i<dd.length:=(E2.mp hd).1;have hdm:=E6 hd;obtain ⟨et,rc,kok,pl1,pl2,n1,n2⟩:=(da.same g1).each d9 hdm;have kf:=kok.few;have bn:=yf n1 n2;have bpl:=yf pl1 pl2;refine ⟨d9.t,xr rfl ⟨bS.of et,rfl,_,xr rfl ⟨_,xr rfl ⟨rfl,?_⟩⟩⟩⟩;try dsimp only[aM,aR]
   refine (bY rfl rfl (eG d9.r x dp ds db d9.pl d9.ks nm n (eG F1 rows m g bs ns ps es vw ⟨rfl,rc,by lia,fun k hk=>nmz _ (kok.inn k hk),s7.same g1,n60,allF d9 hdm,fun l rs H3 g3 nl rl cw=>?_⟩)))
   obtain ⟨ts2,el2,tl2,_,each2⟩:=cw.ex;obtain ⟨dr,lt,fs,er,ft,fp,⟨ts,el,tl,each⟩⟩:=(rc.kd (KD.of g3)).ex;have g03:=g1.trans g3;try dsimp only[aM,aR]
   refine (xr rfl (bG d9.r _ dr _ (xr rfl ⟨er,B.Ft,B.Fq,ft,lt,xr rfl ⟨.inl (aQ.of el),xr rfl ⟨by lia,by rw[E3];lia,cR (fun j σ H'=>ax H H'/\KD H3 H'/\(∃rows',jJ H' d rows' (ua (ie es ps bs vw) d9 (sumF (ie es ps bs vw) (dd.take i)) j)/\rows'.length<=5*i+j)/\nL (5*i+j) (ua (ie es ps bs vw) d9 (sumF (ie es ps bs vw) (dd.take i)) j)/\∃o6 o7 o8 o9 o10 o11:Option V,σ= [HV ld,HV x,HV d,HV d9.r,some (.int d9.n),HV l,o6,o7,o8,o9,o10,o11]) ⟨g03,KD.of (.refl _),⟨rows1,sm1.same g3,by lia⟩,gk1,fR _ _ _ _ _ _ rfl⟩ ?_ ?_⟩⟩⟩)))
   ·intro j σ H4 hj h_;refine uf h_ fun g4 k4 _r1 _hi=>?_
    refine fQ _hi fun gk4 _hj=>?_
    refine mD _hj fun o6 o7 o8 o9 o10 o11 _r2=>?_
    clear h_ _hi _hj;obtain ⟨rows4,sm4,rl4⟩:=_r1;subst _r2;rw[E3] at hj;have j1:j<ts.length:=by lia
    have jk:j<d9.ks.length:=by lia
    have jr:j<rs.length:=by lia
    have j2:j<ts2.length:=by lia
    have ht:=E1 j1;have ht2:=E1 j2;have hk:=E1 jk;have hr':=E1 jr;generalize ts[j]=t at ht;generalize ts2[j]=t2 at ht2;generalize d9.ks[j]=k at hk;generalize rs[j]=r at hr';obtain ⟨am,e1,e2⟩:=each j t k ht hk;obtain ⟨⟨due,rtv⟩,cl,rl',e3,e4,e5,_,_⟩:=each2 j t2 k r ht2 hk hr';obtain ⟨k10,klo,kb1,kb2⟩:=kok.am k (E6 hk);have hW:=v7 tw due rtv;obtain ⟨r0,rlo,rb1,rb2⟩:=yN tw s7.d7.inn dfew.2.2 due rtv;have f1':=k4 _ _ (fun _ z=>by cases z) (fun _ z=>by cases z) e1
    have f2':=k4 _ _ (fun _ z=>by cases z) (fun _ z=>by cases z) e2
    have f3':=k4 _ _ (fun _ z=>by cases z) (fun _ z=>by cases z) e3
    have f4':=k4 _ _ (fun _ z=>by cases z) (fun _ z=>by cases z) e4
    have f5':=k4 _ _ (fun _ z=>by cases z) (fun _ z=>by cases z) e5
    have er4:=k4 _ _ (fun _ z=>by cases z) (fun _ z=>by cases z) er
    have el4:=k4 _ _ (fun _ z=>by cases z) (fun _ z=>by cases z) el
    have el24:=k4 _ _ (fun _ z=>by cases z) (fun _ z=>by cases z) el2
    have at1:fw (ts2.map V.ref) (0+(j:Int))=some (.ref t2):=by rw[Fe];exact bI (cD ht2)
    have at2:fw (ts.map V.ref) (0+(j:Int))=some (.ref t):=by rw[Fe];exact bI (cD ht)
    try dsimp only[aM,aR]
    refine cH (fun Nq=>Nq [some (.ref ld),some (.ref x),some (.ref d),some (.ref d9.r),some (.int d9.n),some (.ref l),some (.int (0+(j:Int))),some (.str (aI r.1)),o8,o9,o10,o11] H4) (fun N hN=>(bY rfl rfl (xl rfl rfl (aQ.of el24) at1 (xl rfl rfl (bS.of f3') rfl (xr rfl (xl rfl rfl (aQ.of f4') (fc rtv.1) hN)))))) ?_
    refine cH (fun Nq=>Nq [some (.ref ld),some (.ref x),some (.ref d),some (.ref d9.r),some (.int d9.n),some (.ref l),some (.int (0+(j:Int))),some (.str (aI r.1)),some (.ref am),o9,o10,o11] H4) (fun N hN=>(xr rfl (bG d9.r _ dr _ (xr rfl ⟨er4,B.Ft,B.Fq,ft,xr rfl (xl rfl rfl (aQ.of el4) at2 (xl rfl rfl (bS.of f1') rfl hN))⟩)))) ?_
    refine cH (fun Nq=>Nq [some (.ref ld),some (.ref x),some (.ref d),some (.ref d9.r),some (.int d9.n),some (.ref l),some (.int (0+(j:Int))),some (.str (aI r.1)),some (.ref am),some (.int (k.2.1*d9.n*r.2.1)),o10,o11] H4) (fun N hN=>(xr rfl (xl rfl rfl (bS.of f2') rfl (xr rfl (xo rfl rfl ⟨kb1.ok bn,bY rfl rfl (xl rfl rfl (aQ.of el24) at1 (xl rfl rfl (bS.of f3') rfl (xl rfl rfl (bS.of f5') rfl (xo rfl rfl ⟨(kb1.mul bn).ok rb1,hN⟩))))⟩))))) ?_
    refine cH (fun Nq=>Nq [some (.ref ld),some (.ref x),some (.ref d),some (.ref d9.r),some (.int d9.n),some (.ref l),some (.int (0+(j:Int))),some (.str (aI r.1)),some (.ref am),some (.int (k.2.1*d9.n*r.2.1)),some (.int (k.2.2*d9.pl*r.2.2)),o11] H4) (fun N hN=>(xr rfl (xl rfl rfl (bS.of f2') rfl (xr rfl (bG d9.r _ dr _ (xr rfl ⟨er4,B.Ft,B.Gn,fp,xo rfl rfl ⟨kb2.ok bpl,bY rfl rfl (xl rfl rfl (aQ.of el24) at1 (xl rfl rfl (bS.of f3') rfl (xl rfl rfl (bS.of f5') rfl (xo rfl rfl ⟨(kb2.mul bpl).ok rb2,hN⟩))))⟩⟩)))))) ?_
    have bT:Bd 301 (k.2.1*d9.n*r.2.1):=((kb1.mul bn).mul rb1).mono (by decide)
    have bB:Bd 228 (k.2.2*d9.pl*r.2.2):=((kb2.mul bpl).mul rb2).mono (by decide)
    have B0:0<k.2.2*d9.pl*r.2.2:=F6 (F6 klo.pos (by lia)) rlo.pos
    generalize hT:k.2.1*d9.n*r.2.1=T at bT⊢;generalize hB:k.2.2*d9.pl*r.2.2=B' at bB B0⊢;refine (xr rfl ⟨d,rfl,.inl ⟨_,.inl sm4.at_⟩,xr rfl ⟨by show 2<=sizeLine;decide,fun tz ntz=>?_⟩⟩)
    have g8:=aj ntz (.tup [.int 0,.int 1]);have sm8:=sm4.same g8;have etz:ay H4 tz (.tup [.int 0,.int 1]) tz=some (.tup [.int 0,.int 1]):=ac;generalize ay H4 tz (.tup [.int 0,.int 1])=H8 at g8 sm8 etz⊢;obtain ⟨th,hv',eth⟩:=sm8.have (aI r.1) etz;refine ⟨_,cT.k (k:= .inr (aI r.1)) sm8.at_,?_⟩;rw[hv'];obtain ⟨z1,z2,z3⟩:=gk4.z (aI r.1);try dsimp only[aM,aR]
    refine (xr rfl (xl rfl rfl (bS.of eth) rfl (xr rfl (xo rfl rfl ⟨z2.ok bB (by lia),bY rfl rfl (xl rfl rfl (bS.of eth) rfl (xo rfl rfl ⟨bT.ok z3 (by lia),xo rfl rfl (xr rfl (xl rfl rfl (bS.of eth) rfl (xr rfl (xo rfl rfl ⟨z3.ok bB (by lia),_,xr rfl ⟨F6 z1 B0,(z3.mul bB).mono (by lia),fun sp sq f4 tsm H9 g9 ets=>?_⟩⟩))))⟩))⟩))))
    have sm9:=sm8.same g9;refine (bY rfl rfl ⟨d,xr rfl ⟨eT.k (k:= .inr (aI r.1)) sm9.at_ (by rw[pC];lia),?_⟩⟩)
    have eN:ua (ie es ps bs vw) d9 (sumF (ie es ps bs vw) (dd.take i)) (j+1)=kH (ua (ie es ps bs vw) d9 (sumF (ie es ps bs vw) (dd.take i)) j) (aI r.1) (sp,sq):=by
     rw[pJ hk,<-sA gk4 B0 f4,<-hT,<-hB];unfold pG;rw[hW]
    have gk':=gk4.set B0 bT bB f4;have pl':=kI rows4 (aI r.1) tsm sm9.nd;have g79:=g8.trans g9;exact ⟨dM (g4.trans g79) nd _,(k4.trans (KD.of g79)).trans (KD.putK sm9.at_ _),⟨_,eN▸sm9.put ets,by lia⟩,eN▸gk',fR _ _ _ _ _ _ rfl⟩
   ·intro σ H4 h_;refine uf h_ fun g4 k4 _r1 _hi=>?_
    refine fQ _hi fun gk4 _hj=>?_
    refine mD _hj fun o6 o7 o8 o9 o10 o11 _r2=>?_
    clear h_ _hi _hj;obtain ⟨rows4,sm4,rl4⟩:=_r1;subst _r2;have lmin:(((ts.map V.ref).length:Nat):Int).toNat=d9.ks.length:=by rw[E3];lia
    rw[lmin] at sm4 gk4 rl4;rw[sB (E4 _),<-mw hd] at sm4 gk4;exact ⟨g4,⟨rows4,sm4,by lia⟩,gk4.mono (by lia),eG _ _ _ _ _ _ _ _ _ rfl⟩
  ·intro σ H1 h_;refine uf h_ fun g1 _r1 gk1 _hi=>?_
   refine jy _hi fun o3 o4 o5 o6 o7 o8 o9 o10 o11 _r2=>?_
   clear h_ _hi;obtain ⟨rows1,sm1,rl1⟩:=_r1;subst _r2;rw[E3,Ey (E4 _)] at sm1;rw[E3] at rl1;exact hN _ _ ⟨g1,⟨rows1,sm1,by lia⟩,eG _ _ _ _ _ _ _ _ _ rfl⟩
 intro σ H1 h_;refine jz h_ fun g1 _r1 _hi=>?_
 refine jy _hi fun o3 o4 o5 o6 o7 o8 o9 o10 o11 _r2=>?_
 clear h_ _hi;obtain ⟨rows1,sm1,rl1⟩:=_r1;subst _r2;refine (xr rfl (bO d _ (xr rfl ⟨sm1.at_,mi rows1,sm1.nd,by rw[E3];lia,fun ls ys nls py sy=>⟨ls,rfl,⟨_,aQ.of ac⟩,?_⟩⟩)))
 have gs:=aj nls (.lst (ys.map V.str));have els:ay H1 ls (.lst (ys.map V.str)) ls=some (.lst (ys.map V.str)):=ac;generalize ay H1 ls (.lst (ys.map V.str))=H2 at gs els⊢;have sm2:=sm1.same gs;have yl:ys.length=rows1.length:=by rw[py.length_eq,E3]
 refine kj (K:=K) (fun H3 v y H4=>∃(z:Str) (t a:Addr),v= .str z/\(z,t)∈rows1/\y= .ref a/\H4 a=some (.tup [.str z,.ref t])/\H3 a=none) (aQ.of els) (by rw[E3];lia) (fun v hv H3 g3 Q' hQ=>?_) (fun p vs H3 np lv each g3 ep=>?_)
 ·obtain ⟨z,hz,rfl⟩:=EF.mp hv;obtain ⟨⟨z',t⟩,hm,rfl⟩:=EF.mp (py.mem_iff.mp hz);refine (gn rfl rfl rfl (bO d (.ref t) ⟨rfl,(by rw[<-gi sm1.nd hm];exact cT.k (k:= .inr z') (g3 _ _ sm2.at_)),by show 2<=sizeLine;decide,fun a na=>hQ _ _ (cO z' t a ⟨rfl,hm,rfl,ac,na⟩) (aj na _)⟩))
 ·refine q p H3 ((g1.trans gs).trans g3) (sm2.told g3 ep py sy (by rw[lv,E3]) (fun i z v hz hv=>?_) (by lia))
  obtain ⟨H4,H5,s4,n4,⟨z',t,a,e1,hm,e2,e3,e4⟩,keep⟩:=each i (.str z) v (cD hz) hv;cases e1;refine (bO a t ⟨e2,hm,keep a _ (fun w=>?_) e3⟩)
  rw[w] at e4;exact n4 e4
theorem Cv {dV:Value} (F:bA K "_law_needs_right" "_law_needs_right" AG dV f fd) (DZ33:Dx P w K mg base bj 5 "_law_alike" ["_law_found","_law_due"] [] (iS 3)) (DZ40:Dx P w K mg base bj 3 "_law_none_free" ["_law_recipe_here","_law_pairs","_law_stands","_law_bars"] [] (hV Ev)) (DZ43:Dx P w K mg base bj 8 "_law_needed" ["_law_dishes_here","_law_larder_here","_law_none"] [] (pM K Ev mt)) (DZ46:Dx P w K mg base bj 7 "_law_sums" ["_law_dishes_here","_law_larder_here"] [] (wg K Ev mt)):a8 P w K mg base bj 9 f fd ["_law_dishes_here","_law_larder_here","_law_pairs","_law_stands","_law_bars"] (iT K Ev mt):=by
 have sc:aB ["_law_dishes_here","_law_larder_here","_law_pairs","_law_stands","_law_bars","_law_none","_law_recipe_here","_law_plates","_law_found"] ["_law_dishes_here","_law_larder_here","_law_pairs","_law_stands","_law_bars"] (au AG):=dP (by decide+kernel)
 refine F.ok sc (fun vs H Q E h=>?_) (fun cdv A outer s H vs Q E hr h=>?_)
 ·obtain ⟨_,_,_,_,_,_,_,_,_,_,_,_,_,_,_,_,_,rfl,_⟩:=h
  rfl
 refine jy h fun ld x dp ds db nm n F1 rows _hi=>?_
 refine mD _hi fun m g bs ns ps es _hj=>?_
 refine wp _hj fun vw dd _hk=>?_
 refine iV _hk fun _r1 da nz s7 n60 _hl=>?_
 refine fQ _hl fun tw q=>?_
 clear h _hi _hj _hk _hl;subst _r1;refine ⟨_,(ae (cA 5 sc dv) (ae (bR PassesOwn.never rfl (ce (pv 0)) (jL rfl (cX (im 6 sc) (cX (im 7 sc) iu))) (ak (aU (aN pW (pv 5) dv (aK _)) (ak (cA 5 sc (du DZ40 hr (aa (pv 6) (aa (pv 2) (aa (pv 3) (aa (pv 4) af))))))) aG))) (ae (cA 8 sc (du DZ43 hr (aa (pv 0) (aa (pv 1) (aa (pv 5) af))))) (ae (aU (aN jC (pv 5) dv (aK _)) (ak (aC (cF (r8 0 (Nat.lt_trans (Nat.add_lt_add_left (by decide:1<64) _) hr.units)) (pv 8) (cg (aa dh (aa bH af))) (aK _)))) aG) (ak (aC (du DZ33 hr (aa (pv 8) (aa (du DZ46 hr (aa (pv 0) (aa (pv 1) af))) af))))))))),?_⟩
 try dsimp only[cxK]
 have slt:(3000:Nat)<sizeLine:=by decide
 have cnt:=s7.cnt;have few:=s7.d7.few;have dfew:=da.few;refine cH (fun Nq=>Nq [some (.ref ld),some (.ref x),some (.ref dp),some (.ref ds),some (.ref db),some .non,none,none,none] H) (fun N hN=>hN) ?_
 refine cH (fun Nq=>∀(v:V) (o6 o7:Option V) (H':Hp),ax H H'->wf es ps bs dd dd.length v->Nq [some (.ref ld),some (.ref x),some (.ref dp),some (.ref ds),some (.ref db),some v,o6,o7,none] H') (fun N hN=>?_) ?_
 ·refine (xr rfl ⟨ld,rfl,⟨_,aQ.of da.at_⟩,cv (xs:=dd.map fun d=>V.ref d.t) (fun i σ H'=>∃(v:V) (o6 o7:Option V),σ= [HV ld,HV x,HV dp,HV ds,HV db,some v,o6,o7,none]/\ax H H'/\wf es ps bs dd i v) (cO .non none none ⟨rfl,.refl _,.inl ⟨rfl,fun i d h=>absurd h (FD _)⟩⟩) (fun i σ H' _ h=>by obtain ⟨_,_,_,_,g,_⟩:=h;exact aQ.of (g _ _ da.at_)) ?_ ?_⟩)
  ·rintro i v σ H1 hv ⟨nv,o6,o7,rfl,g1,na⟩;have il:=(E2.mp hv).1;rw[E3] at il;have hD:=E1 il;rw[EA,hD] at hv;cases hv;generalize dd[i]=d at hD;obtain ⟨f1,f2,f3,f4,f5,f6,f7⟩:=da.each d (E6 hD);refine ⟨d.t,xr rfl ⟨bS.of (g1 _ _ f1),rfl,_,xr rfl ⟨_,xr rfl ⟨rfl,?_⟩⟩⟩⟩;try dsimp only[aM,aR]
   rcases na with ⟨rfl,pre⟩|⟨i0,j0,d0,k0,rfl,i00,h1,h2,h3,h4,h5⟩
   ·refine (xr rfl ⟨rfl,xr rfl (d2 (fun _=>?_) (fun w=>absurd rfl w))⟩)
    have kf:=f3.few;refine (gn rfl rfl rfl (xr rfl (eG d.r dp ds db d.pl d.ks nm ps es (bO bs vw ⟨rfl,f2.kd (KD.of g1),by lia,s7.d7.same g1,fun H2 g2 all=>?_,fun j k H2 g2 hk pre2 nf=>?_⟩))))
    ·exact ⟨_,_,_,rfl,g1.trans g2,.inl ⟨rfl,fun i' d' hi' hd'=>by
      rcases ER.mp hi' with w|rfl
      ·exact pre i' d' w hd'
      ·rw[hD] at hd';cases hd';exact all⟩⟩
    ·exact (bO _ _ (xr rfl ⟨g1.trans g2,.inr (bG i j d k ⟨rfl,Nat.lt_succ_self _,hD,hk,pre,pre2,nf⟩)⟩))
   ·refine (xr rfl ⟨rfl,xr rfl (d2 (fun w=>nomatch w) (fun _=>(bO _ _ (xr rfl ⟨g1,.inr (bG i0 j0 d0 k0 ⟨rfl,by lia,h1,h2,h3,h4,h5⟩)⟩))))⟩)
  ·rintro σ H1 ⟨nv,o6,o7,rfl,g1,na⟩;rw[E3] at na;exact hN nv o6 o7 _ g1 na
 intro nv o6 o7 H1 g1 na;have s1:=s7.same g1;try dsimp only[aM,aR]
 refine (gn rfl rfl rfl (eG ld x dp ds db nv nm n F1 (eG rows m g bs ns ps es vw dd ⟨rfl,da.same g1,nz,s1,n60,tw,fun l H2 allF g2 nl sr=>?_,fun i j d k hd hk pre prek nf=>?_⟩)))
 ·rcases na with ⟨rfl,pre⟩|⟨i0,j0,d0,k0,rfl,i00,h1,h2,h3,h4,h5⟩
  ·try dsimp only[aM,aR]
   refine (xr rfl ⟨rfl,xr rfl (nF rfl ?_)⟩);refine (gn rfl rfl rfl (eG ld x dp ds db nm n F1 rows (fR m g bs ns ps es (bO vw dd ⟨rfl,da.same (g1.trans g2),nz,s1.same g2,n60,tw,allF,fun l2 H3 g3 sr2=>⟨_,xr rfl ⟨yi (sr.same g3) sr2,q _ ((g1.trans g2).trans g3)⟩⟩⟩))))
  ·exact absurd (allF d0 (E6 h1) k0 (E6 h2)) h5
 ·rcases na with ⟨rfl,pre0⟩|⟨i0,j0,d0,k0,rfl,i00,h1,h2,h3,h4,h5⟩
  ·exact absurd (pre0 i d (E2.mp hd).1 hd k (E6 hk)) nf
  ·have ei:i0=i:=by
    rcases FW i0 i with w|w|w
    ·exact absurd (pre i0 d0 w h1 k0 (E6 h2)) h5
    ·exact w
    ·exact absurd (h3 i d w hd k (E6 hk)) nf
   subst ei;rw[hd] at h1;cases h1;have ej:j0=j:=by
    rcases FW j0 j with w|w|w
    ·exact absurd (prek j0 k0 w h2) h5
    ·exact w
    ·exact absurd (h4 j k w hk) nf
   subst ej;rw[hk] at h2;cases h2;refine ⟨rfl,fun t H2 g2 et=>?_⟩
   try dsimp only[aM,aR]
   refine (xr rfl ⟨rfl,xr rfl (nT (fun w=>nomatch w) (xr rfl ⟨by show 2<=sizeLine;decide,fun t2 n2=>?_⟩))⟩)
   have k2:=aj n2 (.tup [.str "refused",.bl true]);exact (bO t t2 (xo rfl rfl ⟨bS.of (k2 _ _ et),bS.of ac,⟨⟨rfl,trivial⟩,⟨rfl,trivial⟩,trivial⟩,q _ ((g1.trans g2).trans k2)⟩))
theorem Cw {dV:Value} (F:bA K "law" "law" nQ dV f fd) (DZ19:i8 P w K mg base bj 3 GD ["self","good"] [] (kr mt)) (DZ23:Dx P w K mg base bj 7 "needs_of" ["dishes","larder"] [] (kN K Ev mt)) (DZ25:Dx P w K mg base bj 1 "_law_cell_at" ["_law_script","_law_k"] [] (mW K)) (DZ26:Dx P w K mg base bj 1 "_law_names" ["_law_number","_law_many"] [] pA) (DZ36:Dx P w K mg base bj 4 "_law_larder" ["_law_script","_law_names_here","_law_pairs","_law_stands","_law_bars"] [] (kC K mt)) (DZ37:Dx P w K mg base bj 4 "_law_recipe" ["_law_script","_law_start","_law_names_here"] [] (kE K Ev)) (DZ38:Dx P w K mg base bj 2 "_law_dishes" ["_law_script","_law_recipes"] [] (pK K Ev)) (DZ45:Dx P w K mg base bj 8 "_law_chosen_right" ["_law_recipe_here","_law_larder_here","_law_pairs","_law_stands","_law_bars"] [] (gL K Ev mt)) (DZ47:Dx P w K mg base bj 9 "_law_needs_right" ["_law_dishes_here","_law_larder_here","_law_pairs","_law_stands","_law_bars"] [] (iT K Ev mt)):a8 P w K mg base bj 10 f fd ["_law_script"] (rq K):=by
 have sc:aB ["_law_script","_law_names_here","_law_pairs","_law_stands","_law_bars","_law_larder_here","_law_recipes","_law_takes","_law_recipe_here","_law_dishes_here","_law_turned","_law_name"] ["_law_script"] (au nQ):=dP (by decide+kernel)
 refine F.ok sc (fun vs H Q E h=>?_) (fun cdv A outer s H vs Q E hr h=>?_)
 ·obtain ⟨_,_,rfl,_⟩:=h
  rfl
 obtain ⟨a,ns,rfl,hS,h63,q⟩:=h;refine ⟨_,(ae (mJ (i:=1) sc.nd rfl (Or.inr rfl) (du DZ26 hr (aa (du DZ25 hr (aa (pv 0) (aa ar af))) (aa (aA bV ar (aA aV (du DZ25 hr (aa (pv 0) (aa ar af))) ar)) af)))) (ae (cA 2 sc ol) (ae (cA 3 sc ol) (ae (cA 4 sc cx) (ae (cA 5 sc (du DZ36 hr (aa (pv 0) (aa (pv 1) (aa (pv 2) (aa (pv 3) (aa (pv 4) af))))))) (ae (uZ (hd:=none) (own:= "_law_k") (ys:= ["_law_script","_law_names_here"]) (js:= [0,1]) sc.nd (i:=6) rfl rfl hr.hd (xg (yG (yG xf)) (.cons rfl (.cons rfl .nil)) (by decide) rfl rfl rfl rfl rfl rfl rfl rfl) (tm rfl B.Gp (aa (aA aV (aA bD (du DZ25 hr (aa (pv 0) (aa ar af))) ar) ar) af)) (fun C fp s H=>(du DZ37 hr (aa (pv 1) (aa (aA bV ar (aA bN ar (pv 0))) (aa (pv 2) af)))))) (ae (vN (own:= "_law_recipe_here") (ys:= []) (js:= []) sc.nd (i:=7) rfl rfl rfl (xg xf .nil (by decide) rfl rfl rfl rfl rfl rfl rfl rfl) (ce (pv 6)) (fun C fp s H=>(dw (ig (K:=K) rfl) rfl B.Go boot_list (aa (nj (K:=K) rfl (pv 0) rfl) af)))) (ae (bR PassesOwn.never rfl (ce (aA qh (pv 6) (pv 6))) (im 8 sc) (ak (aU (b5 (bv (du DZ45 hr (aa (pv 8) (aa (pv 5) (aa (pv 2) (aa (pv 3) (aa (pv 4) af)))))))) (ak (aC bH)) aG))) (ae (cA 9 sc (du DZ38 hr (aa (pv 0) (aa (pv 6) af)))) (ae (cA 10 sc (gW rfl rfl B.Go rfl B.GC boot_list PyProof.Rows.Boot.«reversed» (pv 9))) (ae (aU (b5 (bv (du DZ47 hr (aa (dw (ig (K:=K) rfl) rfl B.Go boot_list (aa (pv 9) af)) (aa (pv 5) (aa (pv 2) (aa (pv 3) (aa (pv 4) af)))))))) (ak (aC bH)) aG) (ae (aU (PW.pt (gG (b5 (bv (du DZ47 hr (aa (pv 10) (aa (pv 5) (aa (pv 2) (aa (pv 3) (aa (pv 4) af)))))))) (fh (aN (mC hr.units0) (du DZ23 hr (aa (bM af) (aa (pv 5) af))) (bM af) (aK _))))) (ak (aC bH)) aG) (ae (bR PassesOwn.never rfl (ce (av (gj rfl) rfl B.GJ PyProof.Rows.Boot.«sorted» (aa (pv 4) af))) (im 11 sc) (ak (bx (fZ (pv 5) DZ19 hr (by decide) (aa (pv 11) af))))) (ae (aU (b5 (bv (du DZ47 hr (aa (pv 9) (aa (pv 5) (aa (pv 2) (aa (pv 3) (aa cx af)))))))) (ak (aC bH)) aG) (ak (aC (dQ (cF (zV 3 (Nat.lt_trans (Nat.add_lt_add_left (by decide:4<64) _) hr.units)) (mZ (own:= "_law_recipe_here") (ys:= []) (js:= []) rfl (xg xf .nil (by decide) rfl rfl rfl rfl rfl rfl rfl rfl) (ce (pv 6)) (fun C fp s H=>(dw (ig (K:=K) rfl) rfl B.Go boot_list (aa (nj (K:=K) rfl (pv 0) rfl) af)))) (pv 7) (aK _)) (fi (cF (yk hr.units0) (pv 10) (gW rfl rfl B.Go rfl B.GC boot_list PyProof.Rows.Boot.«reversed» (pv 9)) (aK _)))))))))))))))))))),?_⟩
 try dsimp only[cxK]
 have slt:(3000:Nat)<sizeLine:=by decide
 refine (xr rfl (cO a ns 1 ⟨rfl,hS,by decide,fun c1=>(xr rfl (cO a ns 0 ⟨rfl,hS,by decide,fun hd=>(xo rfl rfl ⟨(by show (6:Int)≠0;decide),xo rfl rfl ?_⟩)⟩))⟩))
 have m0:=EB hd (show (0:Int)<6 by decide)
 have m1:=EG hd (show (0:Int)<6 by decide)
 refine ⟨c1,xr rfl ⟨by lia,by lia,fun ln H1 zs g1 en zl nz ndz=>?_⟩⟩
 have z2:2<=zs.length:=by lia
 have z12:zs.length<=12:=by lia
 clear zl m0 m1 hd c1;try dsimp only[aM,aR]
 refine fun dp n1=>?_
 try dsimp only[aM,aR]
 refine fun ds n2=>?_
 try dsimp only[aM,aR]
 refine fun db n3=>?_
 have g3:=((aj n1 (.dT [])).trans (aj n2 (.dT []))).trans (aj n3 (.dK []));have e1:=(aj n3 (.dK [])) _ _ ((aj n2 (.dT [])) dp _ ac);have e2:=(aj n3 (.dK [])) ds _ ac;have e3:ay (ay (ay H1 dp (.dT [])) ds (.dT [])) db (.dK []) db=some (.dK []):=ac;have dn:dp≠ds:=fun z=>by rw[<-z,ac] at n2;cases n2
 generalize ay (ay (ay H1 dp (.dT [])) ds (.dT [])) db (.dK [])=H3 at g3 e1 e2 e3⊢;have en3:=g3 _ _ en;have hS3:=(g1.trans g3).seq hS;clear g3 n1 n2 n3 en g1 H1 hS;try dsimp only[aM,aR]
 refine cH (fun Nq=>∀(x:Addr) (n:Nat) (H':Hp),n<=16->t9 K mt H' x dp ds db zs n->H' ln=some (.lst (zs.map V.str))->aQ K H' a (ns.map V.int)->Nq [some (.ref a),some (.ref ln),some (.ref dp),some (.ref ds),some (.ref db),some (.ref x),none,none,none,none,none,none] H') (fun N hN=>(gn rfl rfl rfl (bY rfl rfl (fR a ln dp ds db ns ⟨zs,⟨rfl,hS3,h63,en3,z2,z12,ndz,nz,e1,e2,e3,dn,fun x n H4 kd n16 lw=>hN x n _ n16 lw (kd _ _ (fun _ z=>by cases z) (fun _ z=>by cases z) en3) (kd.seq hS3)⟩⟩)))) ?_
 clear hS3 en3 e1 e2 e3 dn H3;rintro x n H4 n16 ⟨F1,rows,m,g,bs,ns',ps,es,vw,s7,up,tw⟩ en hS;clear up;try dsimp only[aM,aR]
 refine cH (fun Nq=>∀(lr:Addr) (rcs:List Rc) (H':Hp),ax H4 H'->ub Ev H' lr zs rcs->Nq [some (.ref a),some (.ref ln),some (.ref dp),some (.ref ds),some (.ref db),some (.ref x),some (.ref lr),none,none,none,none,none] H') (fun N hN=>?_) ?_
 ·refine (xr rfl (cO a ns 0 ⟨rfl,hS,by decide,fun hd=>(xo rfl rfl ⟨⟨by decide,ES (by decide)⟩,xo rfl rfl ⟨(by show (5:Int)≠0;decide),xr rfl ⟨?_,?_,?_⟩⟩⟩)⟩))
  ·have:=EB (hd.fdiv 6) (show (0:Int)<5 by decide)
   lia
  ·have:=EG (hd.fdiv 6) (show (0:Int)<5 by decide)
   lia
  have m0:=EB (hd.fdiv 6) (show (0:Int)<5 by decide)
  have m1:=EG (hd.fdiv 6) (show (0:Int)<5 by decide)
  refine ud (fun H5 i y H6=>∃(r:Addr) (pl:Int) (ks:HI),y= .ref r/\1<=pl/\pl<=1000/\jj zs ks/\x6 Ev H5 H6 r pl ks) qu.no (by lia) (fun i hi H5 g5 Q' hQ=>?_) fun lr ys H5 nlr ly each g5 elr=>?_
  ·have bk:Bd 4 (0+(i:Int)):=by unfold Bd;show _<16;lia
   have b7:Bd 4 7:=by unfold Bd;decide
   exact (bY rfl rfl (xo rfl rfl ⟨b7.ok bk,xo rfl rfl (xr rfl (bG a ln _ ns ⟨zs,⟨rfl,g5.seq hS,by lia,g5 _ _ en,z2,z12,fun r pl ks H6 g6 nr p1 p2 ok rc=>hQ _ _ (cO r pl ks ⟨rfl,p1,p2,ok,rc⟩) g6⟩⟩))⟩))
  ·obtain ⟨rcs,rfl,er⟩:=wj (C:=Ev) (H:=H5) (nm:=zs) (vs:=ys) (fun v hv=>by
    obtain ⟨i,hi⟩:=EH.mp hv;obtain ⟨H6,H7,zl,s6,hz,s67,⟨r,pl,ks,e,p1,p2,ok,rc⟩,keep⟩:=each i v hi;exact (cO r pl ks ⟨e,rc.keep s67 hz keep,ok,p1,p2⟩))
   rw[E3] at ly;exact hN lr rcs _ g5 ⟨elr,er,by lia⟩
 intro lr rcs H5 g5 rc;replace s7:=s7.same g5;replace en:=g5 _ _ en;replace hS:=g5.seq hS;have rfew:=rc.few;clear g5 H4;try dsimp only[aM,aR]
 refine cH (fun Nq=>∀(lt:Addr) (H':Hp),ax H5 H'->pP H' lt rcs->Nq [some (.ref a),some (.ref ln),some (.ref dp),some (.ref ds),some (.ref db),some (.ref x),some (.ref lr),some (.ref lt),none,none,none,none] H') (fun N hN=>?_) ?_
 ·refine (xr rfl ⟨lr,rfl,⟨_,aQ.of rc.at_⟩,kj (K:=K) (fun H6 v y H7=>∃(r l:Addr) (pl:Int) (ks:HI) (dr lt:Addr) (fs:List (Str×V)) (ts:HP),v= .ref r/\y= .ref l/\H5 r=some (.ins Ev dr fs)/\fs.lookup ("takes" :Str)=some (.ref lt)/\H5 lt=some (.lst (ts.map V.ref))/\H7 l=some (.lst (ts.map V.ref))/\H6 l=none) (aQ.of rc.at_) (by rw[E3];lia) (fun v hv H6 g6 Q' hQ=>?_) (fun lt ys H6 nlt ly each g6 elt=>?_)⟩)
  ·obtain ⟨r,hr,rfl⟩:=EF.mp hv;obtain ⟨dr,lt,fs,er,ft,fp,⟨ts,el,tl,_⟩⟩:=(rc.each r hr).1.ex;exact (xr rfl (bG r.r _ dr _ (xr rfl ⟨g6 _ _ er,B.Ft,B.Fq,ft,lt,xr rfl ⟨.inl (aQ.of (g6 _ _ el)),fun l nl=>hQ _ _ (fR r.r l r.pl r.ks dr lt (bO fs ts ⟨rfl,rfl,er,ft,el,ac,nl⟩)) (aj nl _)⟩⟩)))
  ·exact hN lt _ g6 (wk rc g6 elt ly (fun i r y hr hy=>by
    obtain ⟨H7,H8,s7',n7,⟨r',l,pl,ks,dr,lt',fs,ts,e1,e2,e3,e4,e5,e6,e7⟩,keep⟩:=each i (.ref r.r) y (cD hr) hy;cases e1;exact (bG l dr lt' fs ⟨ts,⟨e2,e3,e4,e5,keep l _ (fun w=>by rw[w] at e7;exact n7 e7) e6⟩⟩)))
 intro lt H6 g6 tks;replace s7:=s7.same g6;replace en:=g6 _ _ en;replace hS:=g6.seq hS;replace rc:=rc.kd (KD.of g6);clear g6 H5;try dsimp only[aM,aR]
 refine cH (fun Nq=>∀(o8:Option V) (H':Hp),ax H6 H'->Nq [some (.ref a),some (.ref ln),some (.ref dp),some (.ref ds),some (.ref db),some (.ref x),some (.ref lr),some (.ref lt),o8,none,none,none] H') (fun N hN=>?_) ?_
 ·refine (bY rfl rfl (bO lr lr (xo rfl rfl ⟨rc.at_,rc.at_,by rw[E3];lia,fun l2 n2=>⟨l2,rfl,⟨_,aQ.of ac⟩,?_⟩⟩)))
  have g2:=aj n2 (.lst ((rcs.map fun r=>V.ref r.r)++rcs.map fun r=>V.ref r.r))
  have el2:ay H6 l2 (.lst ((rcs.map fun r=>V.ref r.r)++rcs.map fun r=>V.ref r.r)) l2=some (.lst ((rcs.map fun r=>V.ref r.r)++rcs.map fun r=>V.ref r.r)):=ac
  generalize ay H6 l2 (.lst ((rcs.map fun r=>V.ref r.r)++rcs.map fun r=>V.ref r.r))=H7 at g2 el2⊢
  refine cv (xs:=(rcs.map fun r=>V.ref r.r)++rcs.map fun r=>V.ref r.r) (fun i σ H'=>∃o8:Option V,σ= [HV a,HV ln,HV dp,HV ds,HV db,HV x,HV lr,HV lt,o8,none,none,none]/\ax H7 H') ⟨none,rfl,.refl _⟩ (fun i σ H' _ h=>by obtain ⟨_,_,g⟩:=h;exact aQ.of (g _ _ el2)) ?_ ?_
  ·rintro i v σ H8 hv ⟨o8,rfl,g8⟩;have:v∈rcs.map fun r=>V.ref r.r:=by
    rcases EK.mp (E6 hv) with w|w<;>exact w
   obtain ⟨r,hr,rfl⟩:=EF.mp this;obtain ⟨r1,r2,r3,r4⟩:=rc.each r hr;have gA:=g2.trans g8;have kf:=r2.few;exact (gn rfl rfl rfl (bY rfl rfl (eG r.r x dp ds db r.pl r.ks zs n (eG F1 rows m g bs ns' ps es vw ⟨rfl,r1.kd (KD.of gA),by lia,fun k hk=>nz _ (r2.inn k hk),s7.same gA,by lia,tw,fun H9 g9=>(xr rfl (b4 (xr rfl (g8.trans g9))))⟩))))
  ·rintro σ H8 ⟨o8,rfl,g8⟩;exact hN o8 _ (g2.trans g8)
 intro o8 H7 g7;replace s7:=s7.same g7;replace en:=g7 _ _ en;replace hS:=g7.seq hS;replace rc:=rc.kd (KD.of g7);replace tks:=tks.kd (KD.of g7);clear g7 H6;try dsimp only[aM,aR]
 refine cH (fun Nq=>∀(ld:Addr) (dd:List iq) (H':Hp),ax H7 H'->eB Ev H' ld zs dd->Nq [some (.ref a),some (.ref ln),some (.ref dp),some (.ref ds),some (.ref db),some (.ref x),some (.ref lr),some (.ref lt),o8,some (.ref ld),none,none] H') (fun N hN=>?_) ?_
 ·exact (bY rfl rfl (bG a lr ns zs ⟨rcs,⟨rfl,hS,rc,fun ld dd H8 g8 nld da=>hN ld dd _ g8 da⟩⟩))
 intro ld dd H8 g8 da;replace s7:=s7.same g8;replace rc:=rc.kd (KD.of g8);replace tks:=tks.kd (KD.of g8);clear g8 en hS H7;try dsimp only[aM,aR]
 refine cH (fun Nq=>∀(lu:Addr) (H':Hp),ax H8 H'->H' lu=some (.lst (dd.map fun d=>V.ref d.t).reverse)->Nq [some (.ref a),some (.ref ln),some (.ref dp),some (.ref ds),some (.ref db),some (.ref x),some (.ref lr),some (.ref lt),o8,some (.ref ld),some (.ref lu),none] H') (fun N hN=>?_) ?_
 ·exact (xr rfl ⟨ld,xr rfl ⟨aQ.of da.at_,fun lu nlu=>hN lu _ (aj nlu _) ac⟩⟩)
 intro lu H9 g8 elu;replace da:=da.same g8;replace s7:=s7.same g8;replace rc:=rc.kd (KD.of g8);replace tks:=tks.kd (KD.of g8);clear g8 H8;have dlu:eB Ev H9 lu zs dd.reverse:=da.rev elu;try dsimp only[aM,aR]
 refine cH (fun Nq=>∀H':Hp,ax H9 H'->Nq [some (.ref a),some (.ref ln),some (.ref dp),some (.ref ds),some (.ref db),some (.ref x),some (.ref lr),some (.ref lt),o8,some (.ref ld),some (.ref lu),none] H') (fun N hN=>?_) ?_
 ·refine (xr rfl ⟨ld,xr rfl ⟨.inl (aQ.of da.at_),fun lc nlc=>?_⟩⟩)
  have gc:=aj nlc (.lst (dd.map fun d=>V.ref d.t))
  have dac:eB Ev (ay H9 lc (.lst (dd.map fun d=>V.ref d.t))) lc zs dd:=(da.same gc).copy ac
  generalize ay H9 lc (.lst (dd.map fun d=>V.ref d.t))=H9x at gc dac⊢
  exact (gn rfl rfl rfl (xr rfl (eG lc x dp ds db zs n F1 rows (fR m g bs ns' ps es (bO vw dd ⟨rfl,dac,nz,s7.same gc,by lia,tw,fun H10 g10=>(xr rfl (b4 (hN _ (gc.trans g10))))⟩)))))
 intro H8 g9;replace s7:=s7.same g9;replace rc:=rc.kd (KD.of g9);replace tks:=tks.kd (KD.of g9);replace da:=da.same g9;replace dlu:=dlu.same g9;replace elu:=g9 _ _ elu;clear g9 H9;try dsimp only[aM,aR]
 refine cH (fun Nq=>∀H':Hp,ax H8 H'->Nq [some (.ref a),some (.ref ln),some (.ref dp),some (.ref ds),some (.ref db),some (.ref x),some (.ref lr),some (.ref lt),o8,some (.ref ld),some (.ref lu),none] H') (fun N hN=>?_) ?_
 ·refine (gn rfl rfl rfl (bY rfl rfl (eG lu x dp ds db zs n F1 rows (fR m g bs ns' ps es (bO vw dd.reverse ⟨rfl,dlu,nz,s7,by lia,tw,fun H10 g10=>(xr rfl (b4 ?_))⟩)))))
  refine ⟨by show 0<=sizeLine;decide,fun l0 n0=>?_⟩
  have g0:=g10.trans (aj n0 (.lst []));have d0:eB Ev (ay H10 l0 (.lst [])) l0 zs []:=⟨ac,fun d hd=>(by simp at hd),EO _⟩
  generalize ay H10 l0 (.lst [])=H11 at g0 d0⊢;refine (xr rfl (eG l0 x dp ds db zs n F1 rows (fR m g bs ns' ps es (bO vw [] ⟨rfl,d0,nz,s7.same g0,by lia,tw,fun d hd=>(by simp at hd),fun ls H12 g12 _ sr=>⟨by show 0<=sizeLine;decide,fun l1 n1=>?_⟩⟩))))
  obtain ⟨as,ys,els,la,_,_,_,mem,_⟩:=sr.ex;have ey:ys= []:=by
   cases ys with
   |nil=>rfl
   |cons y ys=>exact nomatch (mem y.1 y.2).mp (by simp)
  subst ey;have ea:as= []:=F9 la;subst ea;have g1:=aj n1 (.lst []);exact (cO ls l1 [] ⟨rfl,rfl,aQ.of (g1 _ _ els),aQ.of ac,xr rfl (b4 (hN _ ((g0.trans g12).trans g1)))⟩)
 intro H10 g10;replace s7:=s7.same g10;replace rc:=rc.kd (KD.of g10);replace tks:=tks.kd (KD.of g10);replace da:=da.same g10;replace elu:=g10 _ _ elu;clear g10 dlu H8;have b12:=s7.d7.bars;try dsimp only[aM,aR]
 refine cH (fun Nq=>∀(o11:Option V) (H':Hp),KD H10 H'->LB mt F1 H' x rows m g [] ns'->D7 H' dp ds db zs ps es bs vw->ph K H' g vw->Nq [some (.ref a),some (.ref ln),some (.ref dp),some (.ref ds),some (.ref db),some (.ref x),some (.ref lr),some (.ref lt),o8,some (.ref ld),some (.ref lu),o11] H') (fun N hN=>?_) ?_
 ·refine (xr rfl (bO db bs (xr rfl ⟨s7.d7.eb,xX _ _,s7.d7.bnd,by lia,fun ls ys nls py sy=>⟨ls,rfl,⟨_,aQ.of ac⟩,?_⟩⟩)))
  have gs:=aj nls (.lst (ys.map V.str));have els:ay H10 ls (.lst (ys.map V.str)) ls=some (.lst (ys.map V.str)):=ac;generalize ay H10 ls (.lst (ys.map V.str))=H11 at gs els⊢;have s8:=s7.same gs;refine cv (xs:=ys.map V.str) (fun i σ H'=>∃(o11:Option V) (bs':HN),σ= [HV a,HV ln,HV dp,HV ds,HV db,HV x,HV lr,HV lt,o8,HV ld,HV lu,o11]/\KD H11 H'/\LB mt F1 H' x rows m g bs' ns'/\D7 H' dp ds db zs ps es bs vw/\ph K H' g vw/\∀b∈bs',b∈bs/\b∉ys.take i) (bO none bs ⟨rfl,KD.of (.refl _),s8.lb,s8.d7,s8.ra,fun b hb=>⟨hb,by simp⟩⟩) (fun i σ H' _ h=>by obtain ⟨_,_,_,k,_⟩:=h;exact aQ.of (k _ _ (fun _ z=>by cases z) (fun _ z=>by cases z) els)) ?_ ?_
  ·rintro i v σ H12 hv ⟨o11,bs',rfl,kd,lb,d7,ra,mem⟩;have il:=(E2.mp hv).1;rw[E3] at il;have hY:=E1 il;rw[cD hY] at hv;cases hv;generalize ys[i]=z at hY;have zb:z∈bs:=py.mem_iff.mp (E6 hY);refine io lb.at_ fun dx s0 b0 fs _hi=>?_
   refine iU _hi fun dk _hj=>?_
   refine iW _hj fun ex es0 eb bd hb fm sF bF pb=>?_
   refine (xr rfl (cO x _ dx (xr rfl ⟨ex,B.Fm,B.Hu,fm _ (by decide),xr rfl (fR x z F1 rows m g (bO bs' ns' ⟨rfl,lb,nz _ (s7.d7.binn z zb),fun H13 k13 lb13=>(bO _ (kZ bs' z) ⟨rfl,kd.trans (KD.kf lb k13),lb13,BL d7 lb s7.dbF k13,ra.keep fun a xs z=>k13 _ _ (lb.not z (fun _ z=>nomatch z)) z,fun b hb=>?_⟩)⟩))⟩)))
   obtain ⟨h1,h2⟩:=v4.mp hb;refine ⟨(mem b h1).1,fun w=>?_⟩
   rw[List.take_add_one,hY,Option.toList_some] at w;rcases EK.mp w with w|w
   ·exact (mem b h1).2 w
   ·rw[E9] at w;exact h2 w
  ·rintro σ H12 ⟨o11,bs',rfl,kd,lb,d7,ra,mem⟩;have:bs'= []:=by
    cases bs' with
    |nil=>rfl
    |cons b r=>
     obtain ⟨h1,h2⟩:=mem b (by simp)
     rw[E3,Ey (E4 _)] at h2;exact absurd (py.mem_iff.mpr h1) h2
   subst this;exact hN o11 _ ((KD.of gs).trans kd) lb d7 ra
 intro o11 H11 kd lb d7 ra;replace rc:=rc.kd kd;replace tks:=tks.kd kd;replace da:=da.kd kd;replace elu:=kd _ _ (fun _ z=>by cases z) (fun _ z=>by cases z) elu
 try dsimp only[aM,aR]
 refine cH (fun Nq=>∀H':Hp,ax H11 H'->Nq [some (.ref a),some (.ref ln),some (.ref dp),some (.ref ds),some (.ref db),some (.ref x),some (.ref lr),some (.ref lt),o8,some (.ref ld),some (.ref lu),o11] H') (fun N hN=>?_) ?_
 ·refine (gn rfl rfl rfl (xr rfl (fun d2 n2=>?_)))
  have g2:=aj n2 (.dK []);have s9:S7 K mt (ay H11 d2 (.dK [])) x dp ds d2 zs n F1 rows m g [] ns' ps es vw:=⟨⟨g2 _ _ d7.ep,g2 _ _ d7.ee,ac,(d7.same g2).val,d7.inn,FO,fun b hb=>(by simp at hb),d7.few,d7.ne⟩,lb.same g2,s7.ok,s7.st,ra.keep fun a xs z=>g2 _ _ z,s7.nn,s7.nsm,lb.free n2,s7.cnt⟩
  generalize ay H11 d2 (.dK [])=H12 at g2 s9⊢;exact (eG ld x dp ds d2 zs n F1 rows (fR m g [] ns' ps es (bO vw dd ⟨rfl,da.same g2,nz,s9,by lia,tw,fun H13 g13=>(xr rfl (b4 (hN _ (g2.trans g13))))⟩)))
 intro H12 g12;replace rc:=rc.kd (KD.of g12);replace tks:=tks.kd (KD.of g12);replace da:=da.same g12;replace elu:=g12 _ _ elu;try dsimp only[aM,aR]
 refine (xr rfl ⟨lr,rfl,⟨_,aQ.of rc.at_⟩,kj (K:=K) (fun H6 v y H7=>∃(r l:Addr) (pl:Int) (ks:HI) (dr lt:Addr) (fs:List (Str×V)) (ts:HP),v= .ref r/\y= .ref l/\H12 r=some (.ins Ev dr fs)/\fs.lookup ("takes" :Str)=some (.ref lt)/\H12 lt=some (.lst (ts.map V.ref))/\H7 l=some (.lst (ts.map V.ref))/\H6 l=none) (aQ.of rc.at_) (by rw[E3];lia) (fun v hv H6 g6 Q' hQ=>?_) (fun lv ys H13 nlv ly each g13 elv=>?_)⟩)
 ·obtain ⟨r,hr,rfl⟩:=EF.mp hv;obtain ⟨dr,lt,fs,er,ft,fp,⟨ts,el,tl,_⟩⟩:=(rc.each r hr).1.ex;exact (xr rfl (bG r.r _ dr _ (xr rfl ⟨g6 _ _ er,B.Ft,B.Fq,ft,lt,xr rfl ⟨.inl (aQ.of (g6 _ _ el)),fun l nl=>hQ _ _ (fR r.r l r.pl r.ks dr lt (bO fs ts ⟨rfl,rfl,er,ft,el,ac,nl⟩)) (aj nl _)⟩⟩)))
 have tks2:pP H13 lv rcs:=wk rc g13 elv ly (fun i r y hr hy=>by
  obtain ⟨H7,H8,s7',n7,⟨r',l,pl,ks,dr,lt',fs,ts,e1,e2,e3,e4,e5,e6,e7⟩,keep⟩:=each i (.ref r.r) y (cD hr) hy;cases e1;exact (bG l dr lt' fs ⟨ts,⟨e2,e3,e4,e5,keep l _ (fun w=>by rw[w] at e7;exact n7 e7) e6⟩⟩))
 obtain ⟨xs1,ys1,f1,f2,al⟩:=yj (K:=K) tks2 (tks.kd (KD.of g13));refine (xr rfl (bO lv lt (xo rfl rfl ⟨aQ.of f1,aQ.of f2,al,xr rfl (cU ?_)⟩)));refine (bY rfl rfl ⟨ld,xr rfl ⟨aQ.of (g13 _ _ da.at_),fun l9 n9=>?_⟩⟩)
 refine (cO lu l9 ((dd.map fun d=>d.t).reverse) ⟨rfl,rfl,?_,?_,q _⟩)
 ·rw[List.map_reverse,Eh];exact aQ.of (aj n9 _ _ _ (g13 _ _ elu))
 ·rw[List.map_reverse,Eh];exact aQ.of ac
end
theorem AH {l:PySem.W.OpenLaw} {w:World} {K:D9} {h:Heap} {mg:HG} {fa gc gd ed dp ge gf gg gi gk ee ef eg ei ej ek el em en eo ep eq er es et eu ev ew dr ex ey ez e0 e1 e2 dt Fu Fp mt Fv Gd Fl Gk Fo Gc Gb Gj Fs on Ga Ev Fn Fy Fw Gi GN GA GG GF GE GD Gw Gz GM Gr GH:Addr} (X:K.In h) (G:h.Ns mainGlobals mg) (hfa:mg "law" =some (.ref fa))
  {a4 a5 bB bC d9 dg:HR} {a6 bD dH:HM} {aF aG aL aO ia aR bF bN bT bV a3 bX dK di dk dl cy dn:Value}
  {bq:Tok}
  {am:Tok}
  {az:Tok}
  {fI:Addr} {e3:Value} {e4:HR} {e5:Nat} {e6:HM} {dx:Tok}
  {dL:Addr} {dU:Value} {dV:HR} {ea:Nat} {eb:HM}
  (fN:cW K gc "is_whole" Dr .none)
  (gl:cW K gd "divisor" Ds .none)
  (gm:EI K mainGlobals "fraction" =some (some (.ref ed)))
  (go:FnAt K ed "fraction" "fraction" CL (.ref fI))
  (d0:cW K dp "is_fraction" qW .none)
  (gr:cW K ge "plus" Dt .none)
  (gs:cW K gf "product" Du .none)
  (gt:cW K gg "factor_of" Dv .none)
  (gv:cW K gi "is_name" Dw .none)
  (gx:cW K gk "names_ahead" Dy .none)
  (e7:cW K ee "chain_to" Ac .none)
  (e8:cW K ef "chain_down" Ad .none)
  (e9:cW K eg "ways_out" Ae .none)
  (eA:cW K ei "refuse_no_names" Af .none)
  (eC:cW K ej "chosen" An .none)
  (eF:cW K ek "needs_of" Ao .none)
  (eH:cW K el "_law_cell_at" Aq .none)
  (eL:cW K em "_law_names" Ar .none)
  (eN:cW K en "_law_divisor_of" As .none)
  (eO:cW K eo "_law_lowest" At .none)
  (cz:cW K ep "_law_alike" BS .none)
  (eR:cW K eq "_law_led_to" Au .none)
  (eS:cW K er "_law_ratio" Av .none)
  (eX:cW K es "_law_larder" Aw .none)
  (fb:cW K et "_law_recipe" Ax .none)
  (fe:cW K eu "_law_dishes" Ay .none)
  (fg:cW K ev "_law_free" Az .none)
  (fk:cW K ew "_law_none_free" AA .none)
  (fl:EI K mainGlobals "_law_refused" =some (some (.ref dr)))
  (fm:FnAt K dr "_law_refused" "_law_refused" yr .none)
  (fp:cW K ex "_law_chosen" AB .none)
  (fq:cW K ey "_law_needed" AC .none)
  (fr:cW K ez "_law_walked" AD .none)
  (fs:cW K e0 "_law_chosen_right" AE .none)
  (ft:cW K e1 "_law_sums" AF .none)
  (fu:cW K e2 "_law_needs_right" AG .none)
  (fv:EI K mainGlobals "law" =some (some (.ref dt)))
  (fx:K.lookup dt=some ⟨dK,d9,.func (Es "law" "law" (dq nQ) (cG nQ) (au nQ) .none di dk dl dg cy dn),dH⟩) (fy:FF K cy "law" =true) (f0:En K (.ref dt)=true)
  (br:EI K mainGlobals "LETTERS" =some (some (.str "abcdefghijklmnopqrstuvwxyz" bq)))
  (an:EI K mainGlobals "MOST_LETTERS" =some (some (.int 12 am)))
  (a0:EI K mainGlobals "MOST_NAMES" =some (some (.int 80 az)))
  (d1:EI K mainGlobals "abs" =some none)
  (cI:EI K mainGlobals "bool" =some none)
  (d3:EI K mainGlobals "int" =some none)
  (a1:EI K mainGlobals "isinstance" =some none)
  (d4:EI K mainGlobals "len" =some none)
  (cN:EI K mainGlobals "list" =some none)
  (d5:EI K mainGlobals "max" =some none)
  (d6:EI K mainGlobals "min" =some none)
  (c0:EI K mainGlobals "range" =some none)
  (bi:EI K mainGlobals "reversed" =some none)
  (ca:EI K mainGlobals "sorted" =some none)
  (d7:EI K mainGlobals "str" =some none)
  (c1:EI K mainGlobals "tuple" =some none)
  (d8:EI K mainGlobals "zip" =some none)
  (aT:EI K mainGlobals "EmptyHeap" =some (some (.ref Fu)))
  (cb:EI K mainGlobals "InRing" =some (some (.ref Fp)))
  (cc:EI K mainGlobals "Larder" =some (some (.ref mt)))
  (bk:EI K mainGlobals "NoAmount" =some (some (.ref Fv)))
  (cd:EI K mainGlobals "NoDish" =some (some (.ref Gd)))
  (ch:EI K mainGlobals "NoName" =some (some (.ref Fl)))
  (c2:EI K mainGlobals "NoNet" =some (some (.ref Gk)))
  (bl:EI K mainGlobals "NoNumber" =some (some (.ref Fo)))
  (ci:EI K mainGlobals "NoPack" =some (some (.ref Gc)))
  (cj:EI K mainGlobals "NoPlan" =some (some (.ref Gb)))
  (c3:EI K mainGlobals "NoRow" =some (some (.ref Gj)))
  (bs:EI K mainGlobals "NoStand" =some (some (.ref Fs)))
  (aV:EI K mainGlobals "NoStandIn" =some (some (.ref on)))
  (ck:EI K mainGlobals "NoStep" =some (some (.ref Ga)))
  (cl:EI K mainGlobals "Recipe" =some (some (.ref Ev)))
  (a2:EI K mainGlobals "StoveError" =some (some (.ref Fn)))
  (cm:EI K mainGlobals "TooFew" =some (some (.ref Fy)))
  (bt:EI K mainGlobals "TooMany" =some (some (.ref Fw)))
  (c4:EI K mainGlobals "Twice" =some (some (.ref Gi)))
  (f1:nP K mt GN "__init__" "Larder.__init__" Ag .none)
  (f2:nP K mt GA "learn" "Larder.learn" Ah .none)
  (f3:nP K mt GG "part" "Larder.part" Ai .none)
  (f4:nP K mt GF "barred" "Larder.barred" Aj .none)
  (f5:nP K mt GE "bar" "Larder.bar" Ak .none)
  (f6:nP K mt GD "allow" "Larder.allow" Al .none)
  (atZ20:EV K (.ref mt) "stand" =some (some (.ref Gw)))
  (f7:FnAt K Gw "stand" "Larder.stand" yq (.ref dL))
  (fC:nP K mt Gz "stand_in" "Larder.stand_in" Am .none)
  (fF:nP K Ev GM "__init__" "Recipe.__init__" Ap .none)
  (ga:K.lookup fI=some ⟨e3,e4,.seq #[.int 1 dx] e5,e6⟩)
  (ec:K.lookup dL=some ⟨dU,dV,.seq #[.none] ea,eb⟩)
  (cn:FK K Fl ug "ValueError.__new__" =true)
  (co:XI K Fl)
  (b0:FK K Fs ug "ValueError.__new__" =true)
  (b1:XI K Fs)
  (bm:FK K Fo ug "ValueError.__new__" =true)
  (bn:XI K Fo)
  (aZ:XT K on)
  (h8:PySem.W.subIn K (.ref on) (.ref on)=some true)
  (h7:El K (.ref on) (.ref Fn)=some true)
  (ba:XA K on Fn)
  (bb:EV K (.ref on) "good" =some none)
  (cr:XA K Fp Fn)
  (cs:EV K (.ref Fp) "ring" =some none)
  (bd:XI K on)
  (ct:XI K Fp)
  (ao:PySem.W.kitAny K (.ref on) [.ref Fu,.ref Fp,.ref Fv,.ref Gd,.ref Fl,.ref Gk,.ref Fo,.ref Gc,.ref Gb,.ref Gj]=some false)
  (ap:PySem.W.kitAny K (.ref on) [.ref Fs,.ref Ga,.ref Fy,.ref Fw,.ref Gi]=some false)
  (b2:pQ K mt)
  (b3:Mk K mt GN)
  (cP:fj K mt "part" GG)
  (cS:fj K mt "stand" Gw)
  (da:fj K mt "bar" GE)
  (db:fj K mt "allow" GD)
  (dc:fj K mt "barred" GF)
  (dd:fj K mt "stand_in" Gz)
  (de:fj K mt "learn" GA)
  (b6:pQ K Ev)
  (b7:Mk K Ev GM)
  (ad:bw K mt "parts")
  (wr:bw K mt "stands")
  (aq:bw K mt "bars")
  (af:bw K mt "names")
  (aw:bw K Ev "name")
  (ab:bw K Ev "plates")
  (ah:bw K Ev "takes")
  (ai:bw K Ev "steps")
  (al:bw K Ev "links")
  (be:Bm K on Gr)
  (bo:K.lookup Gr=some ⟨aF,a4,.func (Es "__init__" "NoStandIn.__init__" (dq c9) (cG c9) (au c9) .none aG aL aO a5 ia aR),a6⟩) (bf:FF K ia "NoStandIn.__init__" =true) (bp:En K (.ref Gr)=true)
  (cw:Bm K Fp GH)
  (c6:K.lookup GH=some ⟨bF,bB,.func (Es "__init__" "InRing.__init__" (dq ff) (cG ff) (au ff) .none bN bT bV bC a3 bX),bD⟩) (cx:FF K a3 "InRing.__init__" =true) (c7:En K (.ref GH)=true)
  :∃fd:FuncData,(∀(s:Shared) (v:Value),BindsTo s fd ⟨[v],[]⟩ [("_law_script",v)])/\∀base:Heap,K.In base->base.Ns mainGlobals mg->a8 l.prog w K mg base bj 10 fa fd ["_law_script"] (rq K):=by
 have e:=hfa.symm.trans (EU X G fv);cases e;have B:Bn K mg Fu Fp mt Fv Gd Fl Gk Fo Gc Gb Gj Fs on Ga Ev Fn Fy Fw Gi GN GA GG GF GE GD Gw Gz GM:=⟨Exists.intro _<|EU X G br,Exists.intro _<|EU X G an,Exists.intro _<|EU X G a0,Ef X G d1,Ef X G cI,Ef X G d3,Ef X G a1,Ef X G d4,Ef X G cN,Ef X G d5,Ef X G d6,Ef X G c0,Ef X G bi,Ef X G ca,Ef X G d7,Ef X G c1,Ef X G d8,EU X G aT,EU X G cb,EU X G cc,EU X G bk,EU X G cd,EU X G ch,EU X G c2,EU X G bl,EU X G ci,EU X G cj,EU X G c3,EU X G bs,EU X G aV,EU X G ck,EU X G cl,EU X G a2,EU X G cm,EU X G bt,EU X G c4,cn,co,b0,b1,bm,bn,aZ,h8,h7,ba,bb,cr,cs,bd,ct,ao,ap,b2,b3,cP,cS,da,db,dc,dd,de,b6,b7,ad,wr,aq,af,aw,ab,ah,ai,al⟩;refine jy go fun _ _ _ _ _ _ _ _ _ _hi=>?_
 refine jz _hi fun lZ3 cZ3 kZ3=>?_
 refine jy fm fun _ _ _ _ _ _ _ _ _ _hi=>?_
 refine jz _hi fun lZ41 cZ41 kZ41=>?_
 refine jy f7 fun _ _ _ _ _ _ _ _ _ _hi=>?_
 refine jz _hi fun lZ20 cZ20 kZ20=>?_
 have FZ3:=fA (st:=CL) lZ3 cZ3 kZ3;have FZ20:=fA (st:=yq) lZ20 cZ20 kZ20;have FZ41:=fA (st:=yr) lZ41 cZ41 kZ41;have Flaw:=fA (st:=nQ) fx fy f0;have F_NoStandIn:=fA (st:=c9) bo bf bp;have F_InRing:=fA (st:=ff) c6 cx c7;refine ⟨Es "law" "law" (dq nQ) (cG nQ) (au nQ) .none di dk dl dg cy dn,?bind,fun base _ _=>?ok⟩
 case bind=>exact fun s v=> .of_eq rfl
 case ok=>
  have z9:Bx l.prog w base:=⟨⟩;have I_NoStandIn:Bs l.prog w K mg base 1 on ["self","good"] (gR on "good"):=⟨Gr,_,nR B F_NoStandIn,be,F_NoStandIn.binds0 (ps:= ["self","good"]) fun _ _ _ _ _ _ us hl=>match us,hl with| [_,_],_=>rfl⟩
  have I_InRing:Bs l.prog w K mg base 1 Fp ["self","ring"] (gR Fp "ring"):=⟨GH,_,ue B F_InRing,cw,F_InRing.binds0 (ps:= ["self","ring"]) fun _ _ _ _ _ _ us hl=>match us,hl with| [_,_],_=>rfl⟩
  have DZ0:=fP z9 X G fN (fun _ _ _ _ _ _=>gX fun _=>rfl) fun F=>DA B F
  have DZ1:=fP z9 X G fN (fun _ _ _ _ _ _=>gX fun _=>rfl) fun F=>DB B F
  have DZ2:=fP z9 X G gl (fun _ _ _ _ _ _=>bQ fun _ _=>rfl) fun F=>DC B F
  have XZ3:Dx l.prog w K mg base (dZ l.prog w) 2 "fraction" ["top","bottom"] [.int 1] (oE Fo):=⟨ed,_,DE B FZ3 DZ0 DZ2,EU X G gm,kZ3,FZ3.binds (ps:= ["top","bottom"]) (ds:= []) ga rfl fun _ _ _ _ _ _ us hl=>match us,hl with| [_,_],_=>⟨_,rfl,rfl⟩,⟨[.int 1 dx],FZ3.binds (ps:= ["top","bottom"]) (ds:= [.int 1 dx]) ga rfl fun _ _ _ _ _ _ us hl=>match us,hl with| [_],_=>⟨_,rfl,rfl⟩| [],h=>absurd h (by simp)|_::_::_,h=>absurd h (by simp),.cons ⟨_,rfl⟩ .nil⟩⟩
  have DZ3:Dx l.prog w K mg base bj 2 "fraction" ["top","bottom"] [.int 1] sS:=XZ3.calm zx;have Dis_Z3:=fP z9 X G d0 (fun _ _ _ _ _ _=>gX fun _=>rfl) fun F=>DF B F DZ1 DZ2
  have DZ5:=fP z9 X G gr (fun _ _ _ _ _ _=>bQ fun _ _=>rfl) fun F=>DG B F DZ3
  have DZ6:=fP z9 X G gs (fun _ _ _ _ _ _=>bQ fun _ _=>rfl) fun F=>DH B F DZ3
  have DZ7:=fP z9 X G gt (fun _ _ _ _ _ _=>bQ fun _ _=>rfl) fun F=>DI B F DZ3
  have DZ8:=fP z9 X G gv (fun _ _ _ _ _ _=>gX fun _=>rfl) fun F=>DJ B F
  have DZ9:=fP z9 X G gx (fun _ _ _ _ _ _=>bQ fun _ _=>rfl) fun F=>DK B F
  have DZ10:=fP z9 X G e7 (fun _ _ _ _ _ _=>bQ fun _ _=>rfl) fun F=>BU B F
  have DZ11:=fP z9 X G e8 (fun _ _ _ _ _ _=>jf fun _ _ _=>rfl) fun F=>BV B F DZ9 DZ10
  have DZ12:=fP z9 X G e9 (fun _ _ _ _ _ _=>bQ fun _ _=>rfl) fun F=>BW B F DZ3 DZ6
  have XZ13:=fP z9 X G eA (fun _ _ _ _ _ _=>gX fun _=>rfl) fun F=>BX B F DZ8
  have DZ13:Dx l.prog w K mg base bj 2 "refuse_no_names" ["things"] [] yH:=XZ13.calm (fun _ _ _ _=>zK)
  have DZ14:=yO z9 f1 (fun _ _ _ _ _ _=>gX fun _=>rfl) fun F=>BY B F
  have DZ15:=yO z9 f2 (fun _ _ _ _ _ _=>bQ fun _ _=>rfl) fun F=>BZ B F
  have XZ16:=yO z9 f3 (fun _ _ _ _ _ _=>jf fun _ _ _=>rfl) fun F=>B1 B F DZ11 DZ15 XZ13 I_InRing
  have DZ16:i8 l.prog w K mg base bj 3 GG ["self","good","other"] [] (nI mt):=XZ16.calm v3;have XZ17:=yO z9 f4 (fun _ _ _ _ _ _=>bQ fun _ _=>rfl) fun F=>B2 B F DZ11 XZ13
  have DZ17:i8 l.prog w K mg base bj 3 GF ["self","good"] [] (kB mt):=XZ17.calm qQ;have XZ18:=yO z9 f5 (fun _ _ _ _ _ _=>bQ fun _ _=>rfl) fun F=>B3 B F DZ15 XZ13
  have DZ18:i8 l.prog w K mg base bj 3 GE ["self","good"] [] (qO mt):=XZ18.calm xT;have XZ19:=yO z9 f6 (fun _ _ _ _ _ _=>bQ fun _ _=>rfl) fun F=>B4 B F XZ13
  have DZ19:i8 l.prog w K mg base bj 3 GD ["self","good"] [] (kr mt):=XZ19.calm tY;have XZ20:i8 l.prog w K mg base (dZ l.prog w) 3 Gw ["self","good","other","ratio"] [.non] (ko K mt Fl Fs):=⟨_,B5 B FZ20 Dis_Z3 DZ15 XZ3 XZ13,FZ20.binds (ps:= ["self","good","other","ratio"]) (ds:= []) ec rfl fun _ _ _ _ _ _ us hl=>match us,hl with| [_,_,_,_],_=>⟨_,rfl,rfl⟩,⟨[.none],FZ20.binds (ps:= ["self","good","other","ratio"]) (ds:= [.none]) ec rfl fun _ _ _ _ _ _ us hl=>match us,hl with| [_,_,_],_=>⟨_,rfl,rfl⟩| [],h=>absurd h (by simp)| [_],h=>absurd h (by simp)| [_,_],h=>absurd h (by simp)|_::_::_::_::_,h=>absurd h (by simp),.cons rfl .nil⟩⟩
  have DZ20:i8 l.prog w K mg base bj 3 Gw ["self","good","other","ratio"] [.non] (kA mt):=XZ20.calm t8;have XZ21:=yO z9 fC (fun _ _ _ _ _ _=>bQ fun _ _=>rfl) fun F=>B6 B F DZ12 XZ13 XZ17 I_NoStandIn
  have DZ21:i8 l.prog w K mg base bj 5 Gz ["self","good"] [] (wd K mt):=XZ21.calm z8;have XZ22:=fP z9 X G eC (fun _ _ _ _ _ _=>bQ fun _ _=>rfl) fun F=>B7 B F XZ21
  have DZ22:Dx l.prog w K mg base bj 6 "chosen" ["recipe","larder"] [] (jm K Ev mt):=XZ22.calm qV;have XZ23:=fP z9 X G eF (fun _ _ _ _ _ _=>bQ fun _ _=>rfl) fun F=>B8 B F DZ5 DZ6 DZ7 XZ3 XZ22
  have DZ23:Dx l.prog w K mg base bj 7 "needs_of" ["dishes","larder"] [] (kN K Ev mt):=XZ23.calm uc;have DZ24:=yO z9 fF (fun _ _ _ _ _ _=>wm fun _ _ _ _ _ _=>rfl) fun F=>B9 B F
  have DZ25:=fP z9 X G eH (fun _ _ _ _ _ _=>bQ fun _ _=>rfl) fun F=>Ca B F
  have DZ26:=fP z9 X G eL (fun _ _ _ _ _ _=>bQ fun _ _=>rfl) fun F=>Cb B F
  have DZ27:=fP z9 X G eN (fun _ _ _ _ _ _=>bQ fun _ _=>rfl) fun F=>Cc B F
  have DZ28:=fP z9 X G eO (fun _ _ _ _ _ _=>bQ fun _ _=>rfl) fun F=>Cd B F DZ27
  have DZ29:=fP z9 X G cz (fun _ _ _ _ _ _=>bQ fun _ _=>rfl) fun F=>Ce B F
  have DZ30:=fP z9 X G cz (fun _ _ _ _ _ _=>bQ fun _ _=>rfl) fun F=>Cf B F DZ29
  have DZ31:=fP z9 X G cz (fun _ _ _ _ _ _=>bQ fun _ _=>rfl) fun F=>wn B F DZ30
  have DZ32:=fP z9 X G cz (fun _ _ _ _ _ _=>bQ fun _ _=>rfl) fun F=>Cg B F DZ31
  have DZ33:=fP z9 X G cz (fun _ _ _ _ _ _=>bQ fun _ _=>rfl) fun F=>Ch B F DZ32
  have DZ34:=fP z9 X G eR (fun _ _ _ _ _ _=>bQ fun _ _=>rfl) fun F=>Ci B F
  have DZ35:=fP z9 X G eS (fun _ _ _ _ _ _=>gX fun _=>rfl) fun F=>Cj B F DZ28
  have DZ36:=fP z9 X G eX (fun _ _ _ _ _ _=>qK fun _ _ _ _ _=>rfl) fun F=>Ck B F DZ14 DZ16 DZ18 DZ20 DZ35
  have DZ37:=fP z9 X G fb (fun _ _ _ _ _ _=>jf fun _ _ _=>rfl) fun F=>Cl B F DZ24 DZ25 DZ28 DZ35
  have DZ38:=fP z9 X G fe (fun _ _ _ _ _ _=>bQ fun _ _=>rfl) fun F=>Cm B F DZ25
  have DZ39:=fP z9 X G fg (fun _ _ _ _ _ _=>jf fun _ _ _=>rfl) fun F=>Cn B F DZ34
  have DZ40:=fP z9 X G fk (fun _ _ _ _ _ _=>zW fun _ _ _ _=>rfl) fun F=>Co B F DZ34 DZ39
  have bZ41:=FZ41.binds0 (ps:= ["_law_e","_law_good"]) fun _ _ _ _ _ _=>bQ (fun _ _=>rfl)
  have HZ41:∀hd,AK hd l.prog w K mg base 1 "_law_refused" ["_law_e","_law_good"] (dG on):=fun hd=>⟨dr,_,Cp B FZ41,EU X G fl,kZ41,bZ41⟩
  have DZ41:Dx l.prog w K mg base bj 1 "_law_refused" ["_law_e","_law_good"] [] (dG on):=(HZ41 none).calm;have DZ42:=fP z9 X G fp (fun _ _ _ _ _ _=>jf fun _ _ _=>rfl) fun F=>Cq B F XZ22 HZ41
  have DZ43:=fP z9 X G fq (fun _ _ _ _ _ _=>jf fun _ _ _=>rfl) fun F=>Cr B F XZ23 HZ41
  have DZ44:=fP z9 X G fr (fun _ _ _ _ _ _=>wm fun _ _ _ _ _ _=>rfl) fun F=>Cs B F DZ21 DZ28 DZ33 DZ39
  have DZ45:=fP z9 X G fs (fun _ _ _ _ _ _=>qK fun _ _ _ _ _=>rfl) fun F=>Ct B F DZ40 DZ42 DZ44
  have DZ46:=fP z9 X G ft (fun _ _ _ _ _ _=>bQ fun _ _=>rfl) fun F=>Cu B F DZ22 DZ28
  have DZ47:=fP z9 X G fu (fun _ _ _ _ _ _=>qK fun _ _ _ _ _=>rfl) fun F=>Cv B F DZ33 DZ40 DZ43 DZ46
  exact Cw B Flaw DZ19 DZ23 DZ25 DZ26 DZ36 DZ37 DZ38 DZ45 DZ47
theorem walk {l:PySem.W.OpenLaw} {q:Program} {loose:HN} {XP:HG->Heap->Prop} {YP:World->Heap->Prop} {d:DefRec} {K:Params->D9} (hn:l.most=some 63) (hdf:d.params.defaults= [])
  (hY:∀(w:World) (h:Heap),YP w h->(K w.params).In h)
  (F:∀(w:World) (mg:HG) (fa:Addr) (h:Heap),(K w.params).In h->h.Ns mainGlobals mg->mg d.name=some (.ref fa)->
   ∃fd:FuncData,(∀(s:Shared) (u:Value),BindsTo s fd ⟨[u],[]⟩ [("_law_script",u)])/\∀base:Heap,(K w.params).In base->base.Ns mainGlobals mg->a8 l.prog w (K w.params) mg base bj 10 fa fd ["_law_script"] (rq (K w.params))):
  PySem.W.WalkO q loose XP YP l.row.toRowW d [] (fun f vs=>PySem.call f vs):=
 L2.wO (n:=63) (k:=10) (x:= "_law_script") (CX:=fun _=>bj) (sp:=fun w=>rq (K w.params)) hn (by decide) hdf ⟨rfl,by decide,by decide⟩ hY F (fun _ _ a ns hl _ hS=>(bO a ns ⟨rfl,hS,hl,fun _=>rfl⟩)) fun _ _ _ _ _ z=>z
end Lk44
open PySem PySem.W PyProof.Rows
set_option maxRecDepth 100000 in
set_option maxHeartbeats 0 in
theorem PySem.Challenge.cw_stovework_k44_needs_holds : PySem.Challenge.rw_stovework_k44_needs.Holds := by
 refine Lk44.hd ?_
 k_fill
 refine Lk44.walk (l:=PySem.Challenge.rw_stovework_k44_needs) rfl rfl (fun w h Y=>PySem.W.kIn_of Y) ?F
 case F=>
  intro w mg fa h KX G hmg
  refine' Lk44.AH KX G hmg ?a ?b ?c ?d ?e ?f ?g ?h ?i ?j ?k ?l ?m ?n ?o ?p ?q ?r ?s ?t ?u ?v ?w ?x ?y ?z ?A ?B ?C ?D ?E ?F ?G ?H ?I ?J ?K ?L ?M ?N ?O ?P ?Q ?R ?S ?T ?U ?V ?W ?X ?Y ?Z ?aa ?ab ?ac ?ad ?ae ?af ?ag ?ah ?ai ?aj ?ak ?al ?am ?an ?ao ?ap ?aq ?ar ?au ?av ?aw ?ax ?ay ?az ?aA ?aB ?aC ?aD ?aE ?aF ?aG ?aH ?aI ?aJ ?aK ?aL ?aM ?aN ?aO ?aP ?aQ ?aR ?aS ?aT ?aU ?aV ?aW ?aX ?aY ?aZ ?ba ?bb ?bc ?bd ?be ?bf ?bg ?bh ?bi ?bj ?bk ?bl ?bm ?bn ?bo ?bp ?bq ?br ?bs ?bt ?bu ?bv ?bw ?bx ?bz ?bA ?bB ?bC ?bD ?bE ?bF
  case a|b=>exact ⟨by k_is,_,_,_,_,_,_,_,_,_,by k_is,by k_is,by k_is⟩
  case c=>k_is
  case d=>exact ⟨_,_,_,_,_,_,_,_,_,by k_is,by k_is,by k_is⟩
  case e|f|g|h|i|j|k|l|m|n|o|p|q|r|s|t|u|v|w|x|y|z|A|B=>exact ⟨by k_is,_,_,_,_,_,_,_,_,_,by k_is,by k_is,by k_is⟩
  case C=>k_is
  case D=>exact ⟨_,_,_,_,_,_,_,_,_,by k_is,by k_is,by k_is⟩
  case E|F|G|H|I|J=>exact ⟨by k_is,_,_,_,_,_,_,_,_,_,by k_is,by k_is,by k_is⟩
  case K|L|M|N|O|P|Q|R|S|T|U|V|W|X|Y|Z|aa|ab|ac|ad|ae|af|ag|ah|ai|aj|ak|al|am|an|ao|ap|aq|ar|au|av|aw|ax|ay|az=>k_is
  case aA|aB|aC|aD|aE|aF=>exact ⟨by k_is,_,_,_,_,_,_,_,_,_,by k_is,by k_is,by k_is⟩
  case aG=>k_is
  case aH=>exact ⟨_,_,_,_,_,_,_,_,_,by k_is,by k_is,by k_is⟩
  case aI|aJ=>exact ⟨by k_is,_,_,_,_,_,_,_,_,_,by k_is,by k_is,by k_is⟩
  case aK|aL=>k_is
  case aM=>kernel_rfl
  case aN=>exact ⟨⟨by k_is,by k_is,by k_is⟩,by kernel_rfl,by k_is,by k_is,by k_is,by k_is⟩
  case aO=>kernel_rfl
  case aP=>exact ⟨⟨by k_is,by k_is,by k_is⟩,by kernel_rfl,by k_is,by k_is,by k_is,by k_is⟩
  case aQ=>kernel_rfl
  case aR=>exact ⟨⟨by k_is,by k_is,by k_is⟩,by kernel_rfl,by k_is,by k_is,by k_is,by k_is⟩
  case aS=>exact ⟨by k_is,by kernel_rfl,by k_is⟩
  case aT=>k_is
  case aU=>kernel_rfl
  case aV=>exact ⟨by k_is,by kernel_rfl,by kernel_rfl,by k_is⟩
  case aW=>k_is
  case aX=>exact ⟨by k_is,by kernel_rfl,by kernel_rfl,by k_is⟩
  case aY=>k_is
  case aZ|ba=>exact ⟨⟨by k_is,by k_is,by k_is⟩,by kernel_rfl,by k_is,by k_is,by k_is,by k_is⟩
  case bb|bc=>kernel_rfl
  case bd|be=>exact ⟨by k_is,by k_is,by k_is,by k_is⟩
  case bf|bg|bh|bi|bj|bk|bl=>exact ⟨by k_is,by k_is,by k_is⟩
  case bm|bn=>exact ⟨by k_is,by k_is,by k_is,by k_is⟩
  case bo|bp|bq|br|bs|bt|bu|bv|bw=>(unfold L2.bw;k_is)
  case bx=>exact ⟨⟨_,_,_,_,_,_,_,_,_,_,_,_,_,_,_,_,by k_is,by kernel_rfl,by k_is,by kernel_rfl⟩,by k_is,by k_is⟩
  case bz|bA|bB=>k_is
  case bC=>exact ⟨⟨_,_,_,_,_,_,_,_,_,_,_,_,_,_,_,_,by k_is,by kernel_rfl,by k_is,by kernel_rfl⟩,by k_is,by k_is⟩
  case bD|bE|bF=>k_is
