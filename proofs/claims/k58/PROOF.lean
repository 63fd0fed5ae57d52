import PyProof.Rows.All
import Wide.All
import OpenK.AllK
import Wide.FinOn
import Lean
import PyProof.EqAt
import PyProof.EqKinds
import PyProof.TupleCall
import PyProof.NeKinds
import PyProof.StationsW
import PyProof.RulesAs
import PyProof.ExcArgsOwn
import PyProof.CompFree
import PyProof.ExcInit
import PyProof.ConsumeWalk
import PyProof.Rows.SeqGen
import PyProof.StrWalks
import PyProof.SliceStr2
import PyProof.MeetsStr
import KE.KIntText
import PyProof.Rows.FStr
import PyProof.StrCalls6
import PyProof.StrBlockL
import PyProof.ToksMono
import PyProof.WalkInts
import PyProof.Rows.MinMaxN
import PyProof.StrLawsReplace
import PyProof.StrLawsTight
import PyProof.Rows.StrLawsPart
import PyProof.DictWalks
import KE.KEqDict
import KE.KDictLaws
import KE.KRevIter
import PyProof.ListCopy
import PyProof.CollectIter
import PyProof.Rows.SetFrom
import PyProof.Rows.SortShellK
import PyProof.Rows.SortStr
import PyProof.Rows.SortWalk
import KE.KDictSum
import KE.KSortTup
import PyProof.TupleOfSeq
import PyProof.Rows.SortRuns
import PyProof.FactsAll.tuple_2
import PyProof.WalksEnum
import PyProof.EnumMake
import PyProof.EnumFor
import PyProof.ZipIter
import KE.KDictOf
import PyProof.DictItems
import PyProof.FactsAll.dict_itemiterator_1
import PyProof.MeetsSeq3
import PyProof.FactsAll.list_2
import PyProof.Rows.StrRules
import PyProof.Rows.StrMul
import KE.KDictList
import PyProof.Rows.SumAny
import PySem.Challenge.RW_stovework_k58_roster_dealt
set_option maxHeartbeats 4000000
noncomputable section
abbrev GR:=PySem.Value->PySem.Shared->Prop
abbrev GS:=PySem.Str->Option PySem.Value
abbrev GT:=List (PySem.Addr×PySem.Obj)
abbrev GU:=Array (Option PySem.Value)
abbrev GV:=List PySem.Str
abbrev GW:=List PySem.Addr
abbrev GX:=List PySem.Value
abbrev GY:=Option PySem.Addr
abbrev GZ:=Option PySem.Value
open Array renaming toList_append → DS, length_toList → DW, getElem?_eq_getElem → DZ, getElem?_toList → E3, toList_extract → EU, getElem?_eq_some_iff → F1, toList_push → F9, toList_reverse → FL, toList_inj → FP, getElem?_eq_none → FT
open Bool renaming false_ne_true → DY, false_eq_true → EX, and_eq_true → Ey, not_true → FE, false_or → FF
open Int renaming toNat_natCast → E9, zero_add → FD
open List renaming getElem?_eq_getElem → D0, length_map → D3, getElem?_eq_some_iff → D4, mem_of_getElem? → D6, length_append → D7, getElem?_map → D9, getElem?_append_right → DH, mem_append_right → DJ, length_take → DK, pairwise_append → DL, mem_cons → DM, getD_eq_getElem?_getD → DN, mem_append → DO, mem_iff_getElem? → DP, getElem?_append_left → DQ, mem_singleton → DR, range → DT, append_assoc → DU, size_toArray → DX, length_range → E1, mem_cons_of_mem → E2, take_append_drop → E6, mem_cons_self → E7, take_add_one → E8, map_append → EA, pairwise_cons → EF, extract_eq_take_drop → EG, length_cons → EH, replicate → EK, getElem?_eq_none → EL, take_length → EM, mem_map → ES, take_of_length_le → ET, map_cons → EW, all_eq_true → EY, eq_nil_of_length_eq_zero → Eb, length_drop → Ec, getElem_mem → Ed, getElem?_take_of_lt → Ee, getElem?_range → Eg, not_mem_nil → Eh, drop_eq_getElem_cons → Ei, find?_cons → El, mem_reverse → Em, map_map → En, mem_range → Ep, length_reverse → Et, map_congr_left → F3, getElem?_drop → F6, mem_append_left → F7, ext_getElem? → FA, mem_map_of_mem → FC, pairwise_iff_getElem → FI, nodup_cons → FJ, append_nil → FK, nodup_append → FN, mem_of_mem_take → FO, replicate_succ → FQ, nodup_nil → FR, range_succ → FU, any_cons → FV, pairwise_map → FX, Perm → Ff, filterMap_cons → Fh, map_take → Fi, mem_filter → Fj
open List.Perm renaming append_left → EZ, append_right → Eo
open Nat renaming le_refl → D8, ne_of_lt → DI, lt_of_lt_of_le → EB, zero_le → EC, le_trans → ED, lt_succ_of_lt → EN, ne_of_gt → Ew, lt_or_ge → F2, add_sub_cancel_left → FB, min_eq_left → FM, lt_succ_self → FS, lt_irrefl → FW, le_succ → Fe, sub_self → Fg
open Option renaming map_eq_some_iff → DV, isSome_iff_exists → EI, toList_some → EV, map_some → Ek, bind_eq_some_iff → Ex
open Option.some renaming inj → Es
open PyProof renaming noPylong_small → Er
open PyProof.Rows renaming callWith_type1 → EE
open PySem renaming mem_of_lookup → ER
open PySem.F renaming plainAttrs_list → E4, type_list_append → EO, slot_list_append → EQ, type_list_extend → F4, slot_list_extend → F5, plain_list_iadd → F8
open PySem.W renaming Frag → D5, nsIn → E5, mg_none_of → EJ, mg_of → Ea, kitOne → Ef, kia_one → Ej, findIn → Eu, fnOf → Ez, emptyDict → F0, keepIn → FG, instObj → FH
open PySem.W.Fast renaming te14364793385576792824 → FY, te14289696077712309145 → FZ, te11892475500146522536 → Fa, te10274390034422433532 → Fb, te10156331382660048174 → Fc, te6613529449190102663 → Fd
theorem aA {A B:Type} {p:A->B->Prop} (a:A) (b:B) (h:p a b):∃a b,p a b:=⟨a,b,h⟩
theorem cC {A B C:Type} {p:A->B->C->Prop} (a:A) (b:B) (c:C) (h:p a b c):∃a b c,p a b c:=⟨a,b,c,h⟩
theorem aR {A B C D:Type} {p:A->B->C->D->Prop} (a:A) (b:B) (c:C) (d:D) (h:p a b c d):∃a b c d,p a b c d:=⟨a,b,c,d,h⟩
theorem jW {A B C D E F:Type} {p:A->B->C->D->E->F->Prop} (a:A) (b:B) (c:C) (d:D) (e:E) (f:F) (h:p a b c d e f):∃a b c d e f,p a b c d e f:=⟨a,b,c,d,e,f,h⟩
theorem AU {A B C D E F H I J:Type} {p:A->B->C->D->E->F->H->I->J->Prop} (a:A) (b:B) (c:C) (d:D) (e:E) (f:F) (g:H) (i:I) (j:J) (h:p a b c d e f g i j):∃a b c d e f g i j,p a b c d e f g i j:=⟨a,b,c,d,e,f,g,i,j,h⟩
theorem cG {A:Type} {p:A->Prop} {G:Prop}:(∃a,p a)->(∀a,p a->G)->G
 |⟨a,h⟩,k=>k a h
theorem cL {A B:Type} {p:A->B->Prop} {G:Prop}:(∃a b,p a b)->(∀a b,p a b->G)->G
 |⟨a,b,h⟩,k=>k a b h
theorem hW {A B C:Type} {p:A->B->C->Prop} {G:Prop}:(∃a b c,p a b c)->(∀a b c,p a b c->G)->G
 |⟨a,b,c,h⟩,k=>k a b c h
theorem oA {A B C D:Type} {p:A->B->C->D->Prop} {G:Prop}:(∃a b c d,p a b c d)->(∀a b c d,p a b c d->G)->G
 |⟨a,b,c,d,h⟩,k=>k a b c d h
theorem iM {A B C D E F:Type} {p:A->B->C->D->E->F->Prop} {G:Prop}:(∃a b c d e f,p a b c d e f)->(∀a b c d e f,p a b c d e f->G)->G
 |⟨a,b,c,d,e,f,h⟩,k=>k a b c d e f h
theorem AQ {A B C D E F H I J:Type} {p:A->B->C->D->E->F->H->I->J->Prop} {G:Prop}:(∃a b c d e f g i j,p a b c d e f g i j)->(∀a b c d e f g i j,p a b c d e f g i j->G)->G
 |⟨a,b,c,d,e,f,g,i,j,h⟩,k=>k a b c d e f g i j h
theorem bK {A B G:Prop} (h:A/\B) (k:A->B->G):G:=k h.1 h.2
theorem dA {A B C G:Prop} (h:A/\B/\C) (k:A->B->C->G):G:=k h.1 h.2.1 h.2.2
theorem cU {A B C D G:Prop} (h:A/\B/\C/\D) (k:A->B->C->D->G):G:=k h.1 h.2.1 h.2.2.1 h.2.2.2
theorem iN {A B C D E F G:Prop} (h:A/\B/\C/\D/\E/\F) (k:A->B->C->D->E->F->G):G:=k h.1 h.2.1 h.2.2.1 h.2.2.2.1 h.2.2.2.2.1 h.2.2.2.2.2
theorem qL {A B C D E F H I J G:Prop} (h:A/\B/\C/\D/\E/\F/\H/\I/\J) (k:A->B->C->D->E->F->H->I->J->G):G:=k h.1 h.2.1 h.2.2.1 h.2.2.2.1 h.2.2.2.2.1 h.2.2.2.2.2.1 h.2.2.2.2.2.2.1 h.2.2.2.2.2.2.2.1 h.2.2.2.2.2.2.2.2
namespace Ht
open PySem PySem.W PyProof.Rows
noncomputable def vJ (ok:Thread->Bool) (st:SharedT->Thread->Option (SharedT×Thread)) (n:Nat):SharedT->Thread->Option SharedT:=
 Nat.rec (motive:=fun _=>SharedT->Thread->Option SharedT) (fun _ _=>none) (fun _ ih s t=>
  Bool.rec (motive:=fun _=>Option SharedT)
   (Bool.rec (motive:=fun _=>Option SharedT) none (Option.rec (motive:=fun _=>Option SharedT) none (fun r=>Prod.rec (motive:=fun _=>Option SharedT) (fun s' t'=>ih s' t') r) (st s t)) (ok t))
   (some s) (through t)) n
theorem sJ {tb:String->Option Builtin} {p:Program} {w:World} {m:Nat} {ann:GZ}:∀{n:Nat} {s s':SharedT} {t:Thread},vJ (stepOk m ann) (stepT (denote tb) p w) n s t=some s'->topRun tb p w m ann n s.abs t=some s'.abs
 |0,_,_,_,h=>by cases h
 |n+1,s,s',t,h=>by
  unfold topRun;have h':Bool.rec (motive:=fun _=>Option SharedT)
   (Bool.rec (motive:=fun _=>Option SharedT) none (Option.rec (motive:=fun _=>Option SharedT) none (fun r=>Prod.rec (motive:=fun _=>Option SharedT) (fun s' t'=>vJ (stepOk m ann) (stepT (denote tb) p w) n s' t') r) (stepT (denote tb) p w s t)) (stepOk m ann t))
   (some s) (through t)=some s':=h
  cases ht:through t with
  |true=>rw[ht] at h';cases h';rfl
  |false=>
   rw[ht] at h';cases hk:stepOk m ann t with
   |false=>rw[hk] at h';cases h'
   |true=>
    rw[hk] at h';cases hs:stepT (denote tb) p w s t with
    |none=>rw[hs] at h';cases h'
    |some r=>
     obtain ⟨s₂,t₂⟩:=r;rw[hs] at h';dsimp only;rw[stepT_spec hs];exact sJ h'
noncomputable def grow (l:List Obj):Nat->BT->Option BT:=
 List.rec (motive:=fun _=>Nat->BT->Option BT) (fun _ t=>some t) (fun o _ ih n t=>
  Bool.rec (motive:=fun _=>Option BT) none (ih (n+1) (t.ins n o)) ((t.ins n o).get n).isSome) l
theorem sK {life:Life}:∀{l:List Obj} {n:Nat} {t t':BT},grow l n t=some t'->absHeap t' (n+l.length) life=⟨(absHeap t n life).objs++l.toArray,life⟩
 | [],n,t,t',h=>by
  cases h;simp[absHeap]
 |o::l,n,t,t',h=>by
  have h':Bool.rec (motive:=fun _=>Option BT) none (grow l (n+1) (t.ins n o)) ((t.ins n o).get n).isSome=some t':=h
  cases e:((t.ins n o).get n).isSome with
  |false=>rw[e] at h';cases h'
  |true=>
   rw[e] at h';have z:=sK (life:=life) h';rw[absHeap_ins e] at z;rw[show n+(o::l).length=n+1+l.length by rw[EH];lia,z]
   simp[Heap.push]
noncomputable def treeOf (s:Shared):Option SharedT:=
 Option.rec (motive:=fun _=>Option SharedT) none (fun t=>some ⟨t,s.heap.objs.size,s.heap.life,s.gens,s.drawn,s.toks,s.os⟩) (grow s.heap.objs.toList 0 .nil)
theorem qQ {s:Shared} {s':SharedT} (h:treeOf s=some s'):s'.abs=s:=by
 have h':Option.rec (motive:=fun _=>Option SharedT) none (fun t=>some ⟨t,s.heap.objs.size,s.heap.life,s.gens,s.drawn,s.toks,s.os⟩) (grow s.heap.objs.toList 0 .nil)=some s':=h
 cases e:grow s.heap.objs.toList 0 .nil with
 |none=>rw[e] at h';cases h'
 |some t=>
  rw[e] at h';cases h';have z:=sK (life:=s.heap.life) e;obtain ⟨⟨objs,life⟩,gens,drawn,toks,os⟩:=s;simp only[SharedT.abs];have z':absHeap t objs.size life=⟨objs,life⟩:=by
   simpa [absHeap,BT.list] using z
  rw[z']
noncomputable def vK (ok:Nat->GZ->Thread->Bool) (st:SharedT->Thread->Option (SharedT×Thread)) (p:Program) (N:Nat) (s₀:Shared):Option Shared:=
 Bool.rec (motive:=fun _=>Option Shared) none
  ((treeOf s₀).bind fun t₀=>(vJ (ok s₀.heap.objs.size (s₀.heap.nsMap mainGlobals "__annotations__")) st N t₀ (topStub p)).bind fun t₁=>
   (fun s₁=>Bool.rec (motive:=fun _=>Option Shared) none (some s₁) (staticsOk (importedModules p.main.body) s₀.heap s₁.heap&&namesBound p s₁.heap&&gensDone s₁&&laidKept s₀.heap s₁.heap)) t₁.abs)
  (s₀.heap.isNs mainGlobals&&s₀.gens.size==0)
theorem vL {tb:String->Option Builtin} {p:Program} {w:World} {N:Nat} {s₀ s:Shared} (h:vK stepOk (stepT (denote tb) p w) p N s₀=some s):topFrom tb p w N s₀=some s:=by
 unfold vK at h;unfold topFrom;cases e:s₀.heap.isNs mainGlobals&&s₀.gens.size==0 with
 |false=>rw[e] at h;cases h
 |true=>
  rw[e] at h;obtain ⟨t₀,e0,h⟩:=Ex.mp h;obtain ⟨t₁,e1,h⟩:=Ex.mp h;have r:=sJ e1;rw[qQ e0] at r;dsimp only;rw[r];dsimp only at h;show (match staticsOk (importedModules p.main.body) s₀.heap t₁.abs.heap&&namesBound p t₁.abs.heap&&gensDone t₁.abs&&laidKept s₀.heap t₁.abs.heap with|true=>some t₁.abs|false=>none)=some s
  cases q:staticsOk (importedModules p.main.body) s₀.heap t₁.abs.heap&&namesBound p t₁.abs.heap&&gensDone t₁.abs&&laidKept s₀.heap t₁.abs.heap with
  |false=>rw[q] at h;cases h
  |true=>rw[q] at h;exact h
noncomputable def ug (ok:Nat->GZ->Thread->Bool) (st:SharedT->Thread->Option (SharedT×Thread)) (p:Program) (N:Nat) (s₀:Shared):Option Shared:=
 (treeOf s₀).bind fun t₀=>(vJ (ok s₀.heap.objs.size (s₀.heap.nsMap mainGlobals "__annotations__")) st N t₀ (topStub p)).map fun t₁=>t₁.abs
def xQ (p:Program) (s₀ s₁:Shared):Bool:=(s₀.heap.isNs mainGlobals&&s₀.gens.size==0)&&(staticsOk (importedModules p.main.body) s₀.heap s₁.heap&&namesBound p s₁.heap&&gensDone s₁&&laidKept s₀.heap s₁.heap)
theorem vM {tb:String->Option Builtin} {p:Program} {w:World} {N:Nat} {s₀ s:Shared} (h:ug stepOk (stepT (denote tb) p w) p N s₀=some s) (c:xQ p s₀ s=true):topFrom tb p w N s₀=some s:=by
 apply vL;unfold ug at h;obtain ⟨t₀,e0,h⟩:=Ex.mp h;obtain ⟨t₁,e1,rfl⟩:=DV.mp h;unfold xQ at c;rw[Ey] at c;unfold vK;rw[c.1];show ((treeOf s₀).bind fun t₀=>_)=_
 rw[e0];show ((vJ _ _ N t₀ (topStub p)).bind fun t₁=>_)=_
 rw[e1];show (Bool.rec (motive:=fun _=>Option Shared) none (some t₁.abs) (staticsOk (importedModules p.main.body) s₀.heap t₁.abs.heap&&namesBound p t₁.abs.heap&&gensDone t₁.abs&&laidKept s₀.heap t₁.abs.heap):Option Shared)=_
 rw[c.2]
abbrev Look (p:Program) (N:Nat) {α:Type} (f:Shared->Shared->α) (v:World->α):Prop:=∀w:World,((importEnds treeTable (opening p) w N (start (opening p)).1 (start (opening p)).2).bind fun s=>(fenceModules? p s).bind fun s₀=>(ug stepOk (stepT (denote treeTable) p w) p N s₀).map fun s₁=>f s₀ s₁)=some (v w)
theorem Look.at_ {p:Program} {N:Nat} {α:Type} {f:Shared->Shared->α} {v:World->α} (h:Look p N f v) (w:World) {s s₀ s₁:Shared} (a:importEnds treeTable (opening p) w N (start (opening p)).1 (start (opening p)).2=some s) (b:fenceModules? p s=some s₀) (c:ug stepOk (stepT (denote treeTable) p w) p N s₀=some s₁):f s₀ s₁=v w:=by
 have:=h w;rw[a] at this;replace this:((fenceModules? p s).bind fun s₀=>(ug stepOk (stepT (denote treeTable) p w) p N s₀).map fun s₁=>f s₀ s₁)=some (v w):=this
 rw[b] at this;replace this:((ug stepOk (stepT (denote treeTable) p w) p N s₀).map fun s₁=>f s₀ s₁)=some (v w):=this
 rw[c] at this;injection this
theorem vN {p q:Program} {loose:GV} {Xt:Shared->Bool} {α:Type} {Yf:Shared->α} {Ya:World->α} {N:Nat} {g0:Bool} (hc:Look p N (fun s₀ s₁=>xQ p s₀ s₁) fun _=>true)
  (h1:Look p N (fun _ s=>openSeen q loose (importedModules p.main.body) Xt g0 s) fun _=>openGood q loose) (h2:Look p N (fun _ s=>Yf s) Ya):LeftO p q loose Xt Yf Ya N g0:=fun w=>by
 obtain ⟨s,a,e⟩:=Ex.mp (hc w);obtain ⟨s₀,b,e⟩:=Ex.mp e;obtain ⟨s₁,c,e⟩:=DV.mp e;have z:openEnds treeTable p w N=some s₁:=by
  unfold openEnds fencedOpening;rw[a];show (fenceModules? p s).bind _=_;rw[b];exact vM c e
 rw[z];show some (_,_)=some (_,_);rw[h1.at_ w a b c,h2.at_ w a b c]
end Ht
set_option Elab.async false
set_option linter.all false
set_option maxRecDepth 100000
namespace Lk58
open PySem PySem.W PyProof.Rows
def qv:Program:={PySem.Challenge.pw_stovework_k58_roster_dealt with main:={PySem.Challenge.pw_stovework_k58_roster_dealt.main with body:=([1,2,3,4,5,6,8,9,10,12,13,14,15,16,17,18,19,20,21,22,23,24,25,26,27,29,30,31,32,33,34,35,36,37,38,39,40,41,43,44,45,46,48,49,50,51,52,53,54,55,56,57,58,59]:List Nat).filterMap fun i=>PySem.Challenge.pw_stovework_k58_roster_dealt.main.body[i]?}}
def lo:GV:= []
theorem head {α:Type} {Yf:Shared->α} {Ya:World->α} {YP:World->Heap->Prop} {d:DefRec} {kwd:List (Str×Expr)} (left:LeftO PySem.Challenge.pw_stovework_k58_roster_dealt qv lo (fun s=>xlAt qv [] s&&recOk [] s) Yf Ya 5330)
  (hY:∀w s,Yf s=Ya w->YP w s.heap) (hYk:∀w h h',YP w h->(∀b o,h.get? b=some o->h'.get? b=some o)->YP w h') (hd:defOf qv PySem.Challenge.rw_stovework_k58_roster_dealt.row.name=some (d,kwd))
  (hp:PySem.Challenge.rw_stovework_k58_roster_dealt.row.prog.theDef PySem.Challenge.rw_stovework_k58_roster_dealt.row.name=some (d.params,d.body,d.scope)) (hk:kwWritten? d.params.kwonlyargs d.params.kw_defaults=some kwd)
  (said:PySem.Challenge.rw_stovework_k58_roster_dealt.row.wellSaid=true) (hw:PySem.Challenge.rw_stovework_k58_roster_dealt.row.toRowW.promised) (call:WalkO qv lo (XL qv []) YP PySem.Challenge.rw_stovework_k58_roster_dealt.row.toRowW d kwd fun f vs=>PySem.call f vs):PySem.Challenge.rw_stovework_k58_roster_dealt.row.Holds:=
 holds_open left hY hYk (fun s e=>xl_of s (Bool.and_eq_true_iff.mp e).1) XL.keeps hd hp hk (fun s e=>recFacts_of (Bool.and_eq_true_iff.mp e).2) rfl said (by decide+kernel) ⟨rfl,rfl,rfl,rfl,rfl,by decide+kernel⟩ hw call
set_option maxHeartbeats 0 in
theorem la:Ht.Look PySem.Challenge.pw_stovework_k58_roster_dealt 5330 (fun s₀ s₁=>Ht.xQ PySem.Challenge.pw_stovework_k58_roster_dealt s₀ s₁) (fun _=>true):=by
 intro w;rw[Fb,FZ,Fd,Fc,Fa,FY]
 kernel_rfl
set_option maxHeartbeats 0 in
theorem lb:Ht.Look PySem.Challenge.pw_stovework_k58_roster_dealt 5330 (fun _ s=>openSeen qv lo (importedModules PySem.Challenge.pw_stovework_k58_roster_dealt.main.body) (fun s=>xlAt qv [] s&&recOk [] s) true s) (fun _=>openGood qv lo):=by
 intro w;rw[Fb,FZ,Fd,Fc,Fa,FY,PySem.W.Fast.te4187177175401517315]
 kernel_rfl
end Lk58
local macro_rules| `(tactic|o_head $H)=> `(tactic|(refine Lk58.head (Yf:=PySem.W.Hook.obs $H) (Ya:=PySem.W.Hook.val $H) (YP:=PySem.W.Hook.says $H) ?hl (PySem.W.Hook.of $H) (PySem.W.Hook.keeps $H) (by rfl) (by rfl) (by rfl) (by assumption) ?hw ?hc;(case hl=>(refine Ht.vN Lk58.la Lk58.lb ?c;(case c=>(intro w;rw[Fb,FZ,Fd,Fc,Fa,FY];kernel_rfl))))))
namespace PySem.W.Fast
def tw10908042597006197258:PySem.Program:=PySem.Challenge.pw_stovework_k58_roster_dealt
theorem te10908042597006197258:PySem.Challenge.pw_stovework_k58_roster_dealt=tw10908042597006197258:=rfl
end PySem.W.Fast
set_option maxHeartbeats 0 in
open_top Lk58.hd for PySem.Challenge.rw_stovework_k58_roster_dealt
namespace L2
open PySem PySem.Spec PyProof.Rows
abbrev Key:=Sum Int Str
def lM:Key->Value->Bool
 | .inl k,v=>Value.isInt k v
 | .inr x,v=>Value.isStrOf x v
def Cm (w:World):Key->Int
 | .inl k=>hashInt k
 | .inr x=>hashStr w x
theorem bP:∀{k:Key} {v:Value},lM k v=true->(∃i t,k=Sum.inl i/\v=Value.int i t)∨(∃x t,k=Sum.inr x/\v=Value.str x t)
 | .inl i,v,h=>by
  obtain ⟨t,e⟩:=Value.isInt_shape (k:=i) (v:=v) h;exact .inl ⟨i,t,rfl,e⟩
 | .inr x,v,h=>by
  obtain ⟨t,e⟩:=Value.isStrOf_shape (x:=x) (v:=v) h;exact .inr ⟨x,t,rfl,e⟩
theorem uh (i:Int) (t:Tok):lM (.inl i) (.int i t)=true:=by simp[lM,Value.isInt]
theorem uq (x:Str) (t:Tok):lM (.inr x) (.str x t)=true:=by simp[lM,Value.isStrOf]
theorem zm (a b:Int):decide ((Sum.inl a:Key)=Sum.inl b)=(a==b):=by
 by_cases e:a=b
 ·subst e;simp
 ·have h:¬(Sum.inl a:Key)=Sum.inl b:=fun q=>e (Sum.inl.inj q)
  rw[decide_eq_false h];exact (beq_eq_false_iff_ne.mpr e).symm
theorem zn (a b:Str):decide ((Sum.inr a:Key)=Sum.inr b)=decide (a=b):=by
 by_cases e:a=b
 ·subst e;simp
 ·have h:¬(Sum.inr a:Key)=Sum.inr b:=fun q=>e (Sum.inr.inj q)
  rw[decide_eq_false h,decide_eq_false e]
theorem zo (a:Int) (b:Str):decide ((Sum.inl a:Key)=Sum.inr b)=false:=decide_eq_false (fun q=>nomatch q)
theorem zq (a:Str) (b:Int):decide ((Sum.inr a:Key)=Sum.inl b)=false:=decide_eq_false (fun q=>nomatch q)
def aF (prog:Program) (w:World):PySem.KeyKind prog w Key where
 is:=lM
 hash:=Cm w
 inj:=fun v a b ha hb=>by
  rcases bP ha with ⟨i,t,rfl,rfl⟩|⟨x,t,rfl,rfl⟩
  ·rcases bP hb with ⟨j,u,rfl,e⟩|⟨y,u,rfl,e⟩
   ·injection e with e1 _;rw[e1]
   ·exact nomatch e
  ·rcases bP hb with ⟨j,u,rfl,e⟩|⟨y,u,rfl,e⟩
   ·exact nomatch e
   ·injection e with e1 _;rw[e1]
 byValue:=fun k v h=>by
  rcases bP h with ⟨i,t,rfl,rfl⟩|⟨x,t,rfl,rfl⟩<;>rfl
 pyHash:=fun hv h=>by
  rcases bP hv with ⟨i,t,rfl,rfl⟩|⟨x,t,rfl,rfl⟩
  ·exact wpAny_pyHash_int h
  ·exact wpAny_pyHash_str h
 eqBool:=fun hu hv h=>by
  rcases bP hu with ⟨i,t,rfl,rfl⟩|⟨x,t,rfl,rfl⟩
  ·rcases bP hv with ⟨j,u,rfl,rfl⟩|⟨y,u,rfl,rfl⟩
   ·rw[zm] at h;exact wpAny_eqBool_int h
   ·rw[zo] at h;exact SeqAt.EqAt.int_str i t y u _ _ _ _ h
  ·rcases bP hv with ⟨j,u,rfl,rfl⟩|⟨y,u,rfl,rfl⟩
   ·rw[zq] at h;exact SeqAt.EqAt.str_int x t j u _ _ _ _ h
   ·rw[zn] at h;exact wpAny_eqBool_str h
 «strs» :=fun k x t v h=>by
  rcases bP h with ⟨i,u,rfl,e⟩|⟨y,u,rfl,e⟩
  ·exact nomatch e
  ·injection e with e1 _
   subst e1;cases v<;>rfl
theorem oB (prog:Program) (w:World) (i:Int) (t:Tok):(aF prog w).is (.inl i) (.int i t)=true:=uh i t
theorem oC (prog:Program) (w:World) (x:Str) (t:Tok):(aF prog w).is (.inr x) (.str x t)=true:=uq x t
inductive V where
 |non|bl (b:Bool)|int (i:Int)|str (x:Str)|byt (b:Array UInt8)|flt (b:UInt64)|ref (a:Addr)|ty (n:String)
 deriving DecidableEq
def RelV:V->Value->Prop
 | .non,u=>u=Value.none
 | .bl b,u=>u=Value.bool b
 | .int i,u=>∃t,u=Value.int i t
 | .str x,u=>∃t,u=Value.str x t
 | .byt b,u=>∃t,u=Value.bytes b t
 | .flt b,u=>∃t,u=Value.float b t
 | .ref a,u=>u=Value.ref a
 | .ty n,u=>u=Value.type n
abbrev aS:List V->GX->Prop:=Paired RelV
theorem aS.length {xs:List V} {us:GX} (r:aS xs us):xs.length=us.length:=Paired.length r
theorem aS.get:∀{xs:List V} {us:GX} {i:Nat} {x:V},aS xs us->xs[i]?=some x->∃u,us[i]?=some u/\RelV x u
 |_,_,_,_,.nil,e=>by simp at e
 |_,_,0,_,.cons r _,e=>by simp at e;subst e;exact ⟨_,rfl,r⟩
 |_,_,i+1,x,.cons _ t,e=>by
  obtain ⟨u,h1,h2⟩:=aS.get (i:=i) (x:=x) t (by simpa using e)
  exact ⟨u,by simpa using h1,h2⟩
theorem aS.set {x:V} {u:Value} (r:RelV x u):∀{xs:List V} {us:GX} (i:Nat),aS xs us->aS (xs.set i x) (us.set i u)
 |_,_,_,.nil=> .nil
 |_,_,0,.cons _ t=> .cons r t
 |_,_,i+1,.cons q t=> .cons q (aS.set r i t)
theorem aS.append:∀{xs ys:List V} {us ws:GX},aS xs us->aS ys ws->aS (xs++ys) (us++ws)
 |_,_,_,_,.nil,s=>s
 |_,_,_,_,.cons r t,s=> .cons r (aS.append t s)
theorem aS.take:∀{xs:List V} {us:GX} (n:Nat),aS xs us->aS (xs.take n) (us.take n)
 |_,_,0,_=> .nil
 |_,_,_+1,.nil=> .nil
 |_,_,n+1,.cons r t=> .cons r (aS.take n t)
theorem aS.drop:∀{xs:List V} {us:GX} (n:Nat),aS xs us->aS (xs.drop n) (us.drop n)
 |_,_,0,r=>r
 |_,_,_+1,.nil=> .nil
 |_,_,n+1,.cons _ t=>aS.drop n t
def ic:Option V->GZ->Prop
 |some v,some u=>RelV v u
 |none,none=>True
 |_,_=>False
def KV {κ:Type}:List (κ×V)->List (κ×Value)->Prop:=Paired fun (p:κ×V) (q:κ×Value)=>p.1=q.1/\RelV p.2 q.2
def kV:Key->V
 | .inl i=> .int i
 | .inr x=> .str x
inductive HO where
  |lst (xs:List V)
  |tup (xs:List V)
  |dK (kvs:List (Key×V))|dT (kvs:List (List Key×V))
  |set (S:Int->Bool) (n:Nat)
  |ins (C dx:Addr) (fs:List (Str×V))
  |own (x:Addr)
  |xd (fs:List (Str×V))
  |met (f x:Addr)
  |rng (lo hi:Int)
  |frz (o:Obj) (u:HO)
  |tbl (ps:Array Value)
  |ext (φ:Heap->Prop)
abbrev Hp:=Addr->Option HO
def av (H:Hp) (a:Addr) (o:HO):Hp:=fun b=>if b=a then some o else H b
theorem ag {H:Hp} {a:Addr} {o:HO}:av H a o a=some o:=by unfold av;rw[if_pos rfl]
theorem ar {H:Hp} {a b:Addr} {o:HO} (h:b≠a):av H a o b=H b:=by unfold av;rw[if_neg h]
theorem jp {H:Hp} {a b:Addr} {o u:HO} (h:H a=some o) (h':H b=some u) (d:o≠u):a≠b:=by
 intro e;subst e;rw[h] at h';exact d (Es h')
theorem bL {H:Hp} {a b:Addr} {o:HO} (h:H a=some o) (h':H b=none):a≠b:=by
 intro e;subst e;rw[h] at h';cases h'
section
variable (P:Program) (w:World)
def bn (H:Hp) (h:Heap) (a:Addr):HO->Prop
 | .lst xs=>xs.length<=sizeLine/\∃(its:GX) (n:Nat),aS xs its/\h.get? a=some {cls:= .type "list",data:= .seq its.toArray n}
 | .tup xs=>xs.length<=sizeLine/\∃its:GX,aS xs its/\IsTup h a its.toArray
 | .dK kvs=>kvs.length<=sizeLine/\(a==sysModules)=false/\∃vs,KV kvs vs/\h.DictOf (aF P w) a vs
 | .dT kvs=>kvs.length<=sizeLine/\(a==sysModules)=false/\∃xs:List (List Key×Addr×Value),
   Paired (fun (p:List Key×V) (q:List Key×Addr×Value)=>p.1=q.1/\H q.2.1=some (.tup (p.1.map kV))/\RelV p.2 q.2.2) kvs xs/\
   ∃o es ep,h.get? a=some o/\o.ExactDict/\o.data= .dict es ep/\es.toList=xs.map (entryOfKey (tupleKind (aF P w)))/\(xs.map (·.1)).Nodup
 | .set S n=>h.SetOf (intKind P w) a S n
 | .ins C dx fs=>H dx=some (.own a)/\fs.length<=1000/\dx≠a/\h.get? a=some (FH C dx)/\
   ∃mA,h.Ns1 dx mA/\(∀f,ic (fs.lookup f) (mA f))/\PySem.Within mA (fs.map (·.1))
 | .own _=>∃o,h.get? a=some o
 | .xd fs=>∃mA,h.Ns1 a mA/\∀f,ic (fs.lookup f) (mA f)
 | .rng lo hi=>∃t u v,h.get? a=some {cls:= .type "range",data:= .fields #[.int lo t,.int hi u,.int 1 v]}
 | .frz o u=>h.get? a=some o/\bn H h a u
 | .tbl ps=>h.get? a=some {cls:= .none,data:= .fields ps}
 | .met f x=>h.get? a=some (PySem.W.methodObj (.ref f) (.ref x))
 | .ext φ=>φ h/\(∃o,h.get? a=some o)/\∀h1 h2:Heap,φ h1->(∀o,h1.get? a=some o->h2.get? a=some o)->φ h2
def fG (H:Hp) (h:Heap):Prop:=∀a o,H a=some o->bn P w H h a o
end
section
variable {P:Program} {w:World} {H H':Hp} {h h':Heap} {a:Addr} {o:HO}
theorem bn.lt (x:bn P w H h a o):a<h.objs.size:=by
 cases o with
 |lst xs=>obtain ⟨_,_,_,_,e⟩:=x;exact Heap.lt_size e
 |tup xs=>obtain ⟨_,_,_,p⟩:=x;exact p.lt
 |dK kvs=>obtain ⟨_,_,_,_,o,_,_,e,_⟩:=x;exact Heap.lt_size e
 |dT kvs=>obtain ⟨_,_,_,_,o,_,_,e,_⟩:=x;exact Heap.lt_size e
 |set S n=>obtain ⟨o,_,_,_,e,_⟩:=x;exact Heap.lt_size e
 |ins C dx fs=>obtain ⟨_,_,_,e,_⟩:=x;exact Heap.lt_size e
 |own y=>obtain ⟨_,e⟩:=x;exact Heap.lt_size e
 |xd fs=>obtain ⟨_,⟨_,_,_,e,_⟩,_⟩:=x;exact Heap.lt_size e
 |rng lo hi=>obtain ⟨_,_,_,e⟩:=x;exact Heap.lt_size e
 |frz ob u=>obtain ⟨e,_⟩:=x;exact Heap.lt_size e
 |tbl ps=>exact Heap.lt_size (show h.get? a=some _ from x)
 |met f y=>exact Heap.lt_size (show h.get? a=some _ from x)
 |ext φ=>obtain ⟨_,⟨_,e⟩,_⟩:=x;exact Heap.lt_size e
theorem Paired.mapP {α β:Type} {F G:α->β->Prop}:∀{l₁:List α} {l₂:List β},Paired F l₁ l₂->(∀a b,F a b->G a b)->Paired G l₁ l₂
 |_,_,.nil,_=> .nil
 |_,_,.cons r t,f=> .cons (f _ _ r) (Paired.mapP t f)
theorem bn.stay (x:bn P w H h a o) (k:∀b u,(b=a∨H b=some (.own a))->h.get? b=some u->h'.get? b=some u)
  (ho:∀b,H b=some (.own a)->H' b=some (.own a)) (ht:∀b xs,H b=some (.tup xs)->H' b=some (.tup xs)):bn P w H' h' a o:=by
 induction o with
 |lst xs=>obtain ⟨z,its,n,r,e⟩:=x;exact ⟨z,its,n,r,k _ _ (.inl rfl) e⟩
 |tup xs=>obtain ⟨z,its,r,ob,e,c⟩:=x;exact ⟨z,its,r,ob,k _ _ (.inl rfl) e,c⟩
 |dK kvs=>obtain ⟨z,y,vs,r,ob,es,ep,e,c⟩:=x;exact ⟨z,y,vs,r,ob,es,ep,k _ _ (.inl rfl) e,c⟩
 |dT kvs=>
  obtain ⟨z,y,xs,r,ob,es,ep,e,c⟩:=x;exact ⟨z,y,xs,Paired.mapP r fun p q z=>⟨z.1,ht _ _ z.2.1,z.2.2⟩,ob,es,ep,k _ _ (.inl rfl) e,c⟩
 |set S n=>obtain ⟨ob,es,ep,t,e,c⟩:=x;exact ⟨ob,es,ep,t,k _ _ (.inl rfl) e,c⟩
 |ins C dx fs=>
  obtain ⟨d,z,ne,e,mA,⟨od,es,ep,e2,c⟩,r⟩:=x;exact ⟨ho _ d,z,ne,k _ _ (.inl rfl) e,mA,⟨od,es,ep,k _ _ (.inr d) e2,c⟩,r⟩
 |own y=>obtain ⟨ob,e⟩:=x;exact ⟨ob,k _ _ (.inl rfl) e⟩
 |xd fs=>obtain ⟨mA,⟨od,es,ep,e,c⟩,r⟩:=x;exact ⟨mA,⟨od,es,ep,k _ _ (.inl rfl) e,c⟩,r⟩
 |rng lo hi=>obtain ⟨t,u,v,e⟩:=x;exact ⟨t,u,v,k _ _ (.inl rfl) e⟩
 |frz ob u ih=>obtain ⟨e,q⟩:=x;exact ⟨k _ _ (.inl rfl) e,ih q⟩
 |tbl ps=>
  have e:h.get? a=some {cls:= .none,data:= .fields ps}:=x;show h'.get? a=some {cls:= .none,data:= .fields ps};exact k a _ (.inl rfl) e
 |met f y=>
  have e:h.get? a=some (PySem.W.methodObj (.ref f) (.ref y)):=x;show h'.get? a=some (PySem.W.methodObj (.ref f) (.ref y));exact k a _ (.inl rfl) e
 |ext φ=>obtain ⟨p,⟨o,e⟩,st⟩:=x;exact ⟨st _ _ p fun o q=>k _ _ (.inl rfl) q,⟨o,k _ _ (.inl rfl) e⟩,st⟩
theorem fG.lt (x:fG P w H h) (e:H a=some o):a<h.objs.size:=(x a o e).lt
theorem fG.fresh (x:fG P w H h) (e:h.objs.size<=a):H a=none:=by
 cases q:H a with
 |none=>rfl
 |some u=>exact absurd (EB (x.lt q) e) (FW _)
theorem fG.kept (x:fG P w H h) (k:∀b u,h.get? b=some u->h'.get? b=some u):fG P w H h':=fun a o e=>
 (x a o e).stay (fun b u _ q=>k b u q) (fun _ q=>q) fun _ _ q=>q
theorem fG.laid (x:fG P w H h) (k:∀b u,h.get? b=some u->h'.get? b=some u) (hp:h.objs.size<=a) (new:bn P w (av H a o) h' a o):fG P w (av H a o) h':=fun b u e=>by
 have hn:=x.fresh hp
 by_cases hb:b=a
 ·subst hb;rw[ag] at e;cases e;exact new
 ·rw[ar hb] at e;exact (x b u e).stay (fun c v _ q=>k c v q) (fun c q=>by rw[ar (bL q hn)];exact q) fun c xs q=>by rw[ar (bL q hn)];exact q
end
def Rd (H:Hp) (a:Addr) (u:HO):Prop:=H a=some u∨∃o,H a=some (.frz o u)
theorem Rd.ok {P:Program} {w:World} {H:Hp} {h:Heap} {a:Addr} {u:HO} (r:Rd H a u) (x:fG P w H h):bn P w H h a u:=by
 rcases r with r|⟨o,r⟩
 ·exact x a u r
 ·obtain ⟨_,q⟩:=x a _ r;exact q
def AV:Option HO->Prop
 |some (.lst _)=>True
 |some (.dK _)=>True
 |some (.dT _)=>True
 |some (.set _ _)=>True
 |some (.ins _ _ _)=>True
 |some (.ext _)=>True
 |_=>False
section
variable {P:Program} {w:World} {H:Hp} {h h':Heap} {x e:Addr} {o':HO}
theorem fG.write (ok:fG P w H h) (mu:AV (H x)) (he:e=x∨H e=some (.own x)) (k:∀b u,b≠e->h.get? b=some u->h'.get? b=some u) (heo:∃u,h'.get? e=some u)
  (new:bn P w (av H x o') h' x o'):fG P w (av H x o') h':=fun b u q=>by
 have nown:∀c y,H c=some (.own y)->c≠x:=fun c y r z=>by subst z;rw[r] at mu;exact mu
 have ntup:∀c xs,H c=some (.tup xs)->c≠x:=fun c xs r z=>by subst z;rw[r] at mu;exact mu
 by_cases hb:b=x
 ·subst hb;rw[ag] at q;cases q;exact new
 ·rw[ar hb] at q
  by_cases hbe:b=e
  ·have q':H b=some (.own x):=by
    rcases he with z|z
    ·exact absurd (hbe.trans z) hb
    ·rw[hbe];exact z
   rw[q] at q';cases q';obtain ⟨v,hv⟩:=heo;exact ⟨v,by rw[hbe];exact hv⟩
  ·refine (ok b u q).stay (fun c v hc r=>k c v ?_ r) (fun c r=>by rw[ar (nown c b r)];exact r) fun c xs r=>by rw[ar (ntup c xs r)];exact r
   rcases hc with rfl|hc
   ·exact hbe
   ·rintro rfl;rcases he with z|z
    ·exact nown c b hc z
    ·rw[hc] at z;cases z;exact hb rfl
end
structure Un (fs ex:GW) (H H':Hp) (h h':Heap):Prop where
 keep:∀b o,h.get? b=some o->H b=none->b∉fs->b∉ex->h'.get? b=some o
 slot:∀b o,h.get? b=some o->H b=none->b∈fs->b∉ex->∃sl,h'.get? b=some {o with slots:=sl}
 free:∀b o,h.get? b=some o->H b=none->b∉ex->H' b=none
 there:∀b o,h.get? b=some o->b∉ex->∃o',h'.get? b=some o'
 tups:∀b xs,H b=some (.tup xs)->H' b=some (.tup xs)
 frzs:∀b o u,H b=some (.frz o u)->H' b=some (.frz o u)
 tbls:∀b ps,H b=some (.tbl ps)->∃more,H' b=some (.tbl (ps++more))
section
variable {fs fs' ex ex':GW} {H H1 H2:Hp} {h h1 h2 h':Heap} {a x e:Addr} {o:HO}
theorem Un.any (u:Un fs ex H H1 h h1) {b:Addr} {ob:Obj} (q:h.get? b=some ob) (n:H b=none) (hx:b∉ex):∃sl,h1.get? b=some {ob with slots:=sl}:=by
 by_cases hb:b∈fs
 ·exact u.slot b ob q n hb hx
 ·exact ⟨ob.slots,u.keep b ob q n hb hx⟩
theorem Un.kept (k:∀b u,h.get? b=some u->h'.get? b=some u):Un fs ex H H h h':=
 ⟨fun b ob q _ _ _=>k b ob q,fun b ob q _ _ _=>⟨ob.slots,k b ob q⟩,fun _ _ _ n _=>n,fun b ob q _=>⟨ob,k b ob q⟩,fun _ _ q=>q,fun _ _ _ q=>q,fun _ ps q=>⟨#[],by rw[q];simp⟩⟩
theorem Un.refl:Un fs ex H H h h:=Un.kept fun _ _ q=>q
theorem Un.laid (k:∀b u,h.get? b=some u->h'.get? b=some u) (hp:h.objs.size<=a) (hn:H a=none):Un fs ex H (av H a o) h h' where
 keep:=fun b u q _ _ _=>k b u q
 slot:=fun b u q _ _ _=>⟨u.slots,k b u q⟩
 free:=fun b u q n _=>by rw[ar (DI (EB (Heap.lt_size q) hp))];exact n
 there:=fun b u q _=>⟨u,k b u q⟩
 tups:=fun b xs q=>by rw[ar (bL q hn)];exact q
 frzs:=fun b u xs q=>by rw[ar (bL q hn)];exact q
 tbls:=fun b ps q=>⟨#[],by rw[ar (bL q hn),q];simp⟩
theorem Un.write (mu:AV (H x)) (he:e=x∨H e=some (.own x)) (k:∀b u,b≠e->h.get? b=some u->h'.get? b=some u) (heo:∃u,h'.get? e=some u):Un fs ex H (av H x o) h h':=by
 have hx:∀b,H b=none->b≠x:=fun b n z=>by subst z;rw[n] at mu;exact mu
 have hb:∀b,H b=none->b≠e:=fun b n z=>by
  subst z;rcases he with r|r
  ·exact hx b n r
  ·rw[n] at r;cases r
 have hm:∀b u,H b=some u->¬AV (some u)->b≠x:=fun b u q nm z=>by subst z;rw[q] at mu;exact nm mu
 refine ⟨fun b u q n _ _=>k b u (hb b n) q,fun b u q n _ _=>⟨u.slots,k b u (hb b n) q⟩,fun b u q n _=>by rw[ar (hx b n)];exact n,fun b u q _=>?_,
  fun b xs q=>by rw[ar (hm b _ q fun z=>z)];exact q,fun b u xs q=>by rw[ar (hm b _ q fun z=>z)];exact q,fun b ps q=>⟨#[],by rw[ar (hm b _ q fun z=>z),q];simp⟩⟩
 by_cases hbe:b=e
 ·subst hbe;exact heo
 ·exact ⟨u,k b u hbe q⟩
end
def Ce (h:Heap) (H:Hp):GW:=(DT h.objs.size).filter fun a=>(H a).isSome
def mZ (h:Heap) (H:Hp):Heap:=PySem.W.hideAll h (Ce h H)
theorem ur (h:Heap) (H:Hp):(mZ h H).objs.size=h.objs.size:=PySem.W.hideAll_size _ _
theorem vO {h:Heap} {H:Hp} {b:Addr} {o:Obj} (e:h.get? b=some o) (n:H b=none):(mZ h H).get? b=some o:=
 PySem.W.hideAll_get _ e fun hm=>by
  have q:(H b).isSome=true:=(Fj.mp hm).2;rw[n] at q;simp at q
theorem xR {h:Heap} {H:Hp} {b:Addr} {o:Obj} (e:(mZ h H).get? b=some o):h.get? b=some o/\H b=none:=by
 have e':h.get? b=some o:=PySem.W.of_hideAll (Ce h H) e;refine ⟨e',?_⟩;cases q:H b with
 |none=>rfl
 |some x=>
  have hm:b∈Ce h H:=Fj.mpr ⟨Ep.mpr (Heap.lt_size e'),by simp[q]⟩
  have z:(mZ h H).get? b=none:=PySem.W.hideAll_none (Ce h H) hm;rw[z] at e;cases e
structure Mod (K:D5) (mg:GS) (base:Heap):Prop where
 kin:K.In base
 glob:base.Ns mainGlobals mg
 blt:∃mb,base.Ns builtinsNs mb/\∀x:Str,x≠ "__name__" ->mb x=bootBuiltins x
 nolimit:base.NoLimit
structure Cx where
 prog:Program
 w:World
 K:D5
 mg:Str->GZ
 base:Heap
 A:Around
 N:GV
 s₀:Shared
 H₀:Hp
 env:Env
 outer:List Env
 stack:List Env
 ex:GW
 fn:Str->Bool
 calm:Bool
 pn:GT
 xe:Value->Shared->Prop
def jH (l:List Env):GW:=l.filterMap (·.frame)
abbrev Cx.fs (X:Cx):GW:=jH X.outer
def AW (sc:Scope) (x:Str):Prop:=sc.names.lookup x=some .local∨sc.names.lookup x=some .cell∨sc.names.lookup x=some .free
def Loc (sc:Scope) (x:Str):Prop:=sc.names.lookup x=some .local∨sc.names.lookup x=some .cell
def Look (env:Env) (h:Heap) (m:GS) (x:Str) (u:Value):Prop:=
 (env.kindOf x=some .local/\m x=some u)∨((env.kindOf x=some .cell∨env.kindOf x=some .free)/\∃c,env.cells.lookup x=some c/\h.IsCell c (some u))
structure Cx.Ok (X:Cx):Prop where
 mod:Mod X.K X.mg X.base
 kind:X.env.scope.kind= .function
 glob:X.env.globals=mainGlobals
 blt:X.env.builtins=builtinsNs
 above:X.s₀.heap.objs.size<=X.env.locals
 inj:∀x y c,X.env.cells.lookup x=some c->X.env.cells.lookup y=some c->x=y
 has:∀x,(X.env.kindOf x=some .cell∨X.env.kindOf x=some .free)->∃c,X.env.cells.lookup x=some c
 cab:∀x c,X.fn x=true->X.env.cells.lookup x=some c->X.s₀.heap.objs.size<=c
 hd:X.calm=true->X.A.handled=none
 frames:X.A.frames=some X.stack
 stk:X.stack=X.outer∨(X.stack=X.env::X.outer/\X.env.frame=some X.env.locals)
 exf:∀b∈X.ex,b≠X.env.locals/\∀x c,X.env.cells.lookup x=some c->c≠b
 bs:∀b o,X.base.get? b=some o->X.s₀.heap.get? b=some o/\X.H₀ b=none
 bsz:X.base.objs.size<=X.s₀.heap.objs.size
 noex:∀b o,X.base.get? b=some o->b∉X.ex
 exfs:∀b∈X.ex,b∉X.fs
 funs:X.s₀.heap.FunFrames X.base X.outer
 frf:∀b∈X.fs,X.H₀ b=none
structure aE (X:Cx) (pins:GT) (σ:List (Option V)) (H:Hp) (s:Shared):Prop where
 ok:X.Ok
 os:s.os=X.s₀.os
 bare:AllBare s.gens
 base:Un X.fs X.ex X.H₀ H X.s₀.heap s.heap
 loc:∃m,s.heap.Ns X.env.locals m/\∀(i:Nat) (x:Str) (v:V),X.N[i]?=some x->σ[i]?=some (some v)->AW X.env.scope x->∃u,RelV v u/\Look X.env s.heap m x u
 cell:∀x c,X.env.cells.lookup x=some c->∃v,s.heap.IsCell c v
 free:H X.env.locals=none
 freeC:∀x c,X.env.cells.lookup x=some c->H c=none
 pin:∀p∈X.pn++pins,s.heap.get? p.1=some p.2/\H p.1=none/\p.1≠X.env.locals/\p.1∉X.fs/\∀v,p.2.data≠ .cell v
 hok:fG X.prog X.w H s.heap
 len:σ.length=X.N.length
variable {X:Cx} {pins:GT} {σ:List (Option V)} {H H':Hp} {s:Shared} {h':Heap}
theorem Cx.Ok.nofr (ok:X.Ok) {b:Addr} {o:Obj} (e:X.base.get? b=some o):b∉X.fs:=fun hb=>by
 have:=(ok.funs.mem hb).1;rw[e] at this;cases this
theorem aE.bs (I:aE X pins σ H s):∀b o,X.base.get? b=some o->s.heap.get? b=some o/\H b=none:=fun b o e=>
 ⟨I.base.keep b o (I.ok.bs b o e).1 (I.ok.bs b o e).2 (I.ok.nofr e) (I.ok.noex b o e),I.base.free b o (I.ok.bs b o e).1 (I.ok.bs b o e).2 (I.ok.noex b o e)⟩
theorem aE.bk (I:aE X pins σ H s):∀b o,X.base.get? b=some o->s.heap.get? b=some o:=fun b o e=>(I.bs b o e).1
theorem aE.mod (I:aE X pins σ H s):Mod X.K X.mg X.base:=I.ok.mod
theorem aE.kIn (I:aE X pins σ H s):X.K.In s.heap:=I.ok.mod.kin.keeps I.bk
theorem aE.lt (I:aE X pins σ H s):X.env.locals<s.heap.objs.size:=let ⟨_,hn,_⟩:=I.loc;hn.lt
theorem aE.sz (I:aE X pins σ H s):X.s₀.heap.objs.size<=s.heap.objs.size:=ED I.ok.above (Nat.le_of_lt I.lt)
theorem aE.nofs (I:aE X pins σ H s) {a:Addr} (h:s.heap.objs.size<=a):a∉X.fs:=fun hb=>by
 obtain ⟨_,o,ho,_⟩:=I.ok.funs.mem hb;exact absurd (EB (Heap.lt_size ho) (ED I.sz h)) (FW _)
theorem aE.cne (I:aE X pins σ H s):∀x c,X.env.cells.lookup x=some c->c≠X.env.locals:=fun x c e z=>by
 obtain ⟨v,o,ho,hd⟩:=I.cell x c e;obtain ⟨m,⟨o',es,ep,ho',hd',_⟩,_⟩:=I.loc;rw[z,ho'] at ho;cases ho;rw[hd'] at hd;cases hd
theorem aE.funs (I:aE X pins σ H s):s.heap.FunFrames X.base X.outer:=by
 have all:∀(l:List Env),(∀b∈jH l,b∈X.fs)->X.s₀.heap.FunFrames X.base l->s.heap.FunFrames X.base l:=by
  intro l
  induction l with
  |nil=>intro _ _;trivial
  |cons env r ih=>
   intro hs hl;obtain ⟨hk,⟨L,o,hf,hn,ho,hd⟩,hr⟩:=hl;have hL:L∈X.fs:=hs L (by unfold jH;rw[Fh,hf];exact E7)
   obtain ⟨sl,e⟩:=I.base.slot L o ho (I.ok.frf L hL) hL fun z=>I.ok.exfs L z hL
   exact ⟨hk,⟨L,_,hf,hn,e,hd⟩,ih (fun b hb=>hs b (by unfold jH;rw[Fh,hf];exact E2 _ hb)) hr⟩
 exact all X.outer (fun _ hb=>hb) I.ok.funs
theorem aE.stack (I:aE X pins σ H s):s.heap.FunFrames X.base X.stack:=by
 rcases I.ok.stk with e|⟨e,hf⟩
 ·rw[e];exact I.funs
 ·rw[e];obtain ⟨m,hn,_⟩:=I.loc;refine .cons (by rw[I.ok.kind];decide) hf hn ?_ I.funs
  exact Heap.get?_none_of_le (ED I.ok.bsz I.ok.above)
theorem aE.stkSub (I:aE X pins σ H s):∀b∈jH X.stack,b∈X.env.locals::X.fs:=fun b hb=>by
 rcases I.ok.stk with e|⟨e,hf⟩
 ·rw[e] at hb;exact E2 _ hb
 ·rw[e] at hb;unfold jH at hb;rw[Fh,hf] at hb;exact hb
theorem aE.stkFree (I:aE X pins σ H s):∀b∈jH X.stack,H b=none:=fun b hb=>by
 rcases DM.mp (I.stkSub b hb) with e|hb
 ·rw[e];exact I.free
 ·obtain ⟨_,o,ho,_⟩:=I.ok.funs.mem hb;exact I.base.free b o ho (I.ok.frf b hb) fun z=>I.ok.exfs b z hb
theorem aE.step {g':Array GenState} {t':Nat} {d':Drawn} {ch:GW} (I:aE X pins σ H s)
  (hch:∀b∈ch,(b∈X.ex∨X.s₀.heap.objs.size<=b)/\b≠X.env.locals/\(∀x c,X.env.cells.lookup x=some c->c≠b)/\∀p∈X.pn++pins,p.1≠b)
  (keep:∀b o,b≠X.env.locals->b∉X.fs->b∉ch->s.heap.get? b=some o->H b=none->h'.get? b=some o)
  (slot:∀b o,b≠X.env.locals->b∈X.fs->b∉ch->s.heap.get? b=some o->H b=none->∃sl,h'.get? b=some {o with slots:=sl}) (free:∀b o,b∉ch->s.heap.get? b=some o->H b=none->H' b=none)
  (there:∀b o,b∉ch->s.heap.get? b=some o->∃o',h'.get? b=some o')
  (tups:∀b xs,H b=some (.tup xs)->H' b=some (.tup xs)) (frzs:∀b o u,H b=some (.frz o u)->H' b=some (.frz o u)) (tbls:∀b ps,H b=some (.tbl ps)->∃more,H' b=some (.tbl (ps++more)))
  (ns:∀m,s.heap.Ns X.env.locals m->h'.Ns X.env.locals m) (hok:fG X.prog X.w H' h') (hg:AllBare g'):
  aE X pins σ H' {s with heap:=h',gens:=g',drawn:=d',toks:=t'}:=by
 have neL:∀b o,X.s₀.heap.get? b=some o->b≠X.env.locals:=fun b o e=>DI (EB (Heap.lt_size e) I.ok.above)
 have neC:∀b o,X.s₀.heap.get? b=some o->b∉X.ex->b∉ch:=fun b o e hx hb=>by
  rcases (hch b hb).1 with z|z
  ·exact hx z
  ·exact absurd (EB (Heap.lt_size e) z) (FW _)
 have cellK:∀x c,X.env.cells.lookup x=some c->∀v,s.heap.IsCell c v->h'.IsCell c v:=fun x c e v ⟨o,ho,hd⟩=>by
  have nch:c∉ch:=fun z=>(hch c z).2.2.1 x c e rfl
  by_cases hc:c∈X.fs
  ·obtain ⟨sl,q⟩:=slot c o (I.cne x c e) hc nch ho (I.freeC x c e);exact ⟨_,q,hd⟩
  ·exact ⟨o,keep c o (I.cne x c e) hc nch ho (I.freeC x c e),hd⟩
 refine ⟨I.ok,I.os,hg,⟨fun b o e n hb hx=>?_,fun b o e n hb hx=>?_,fun b o e n hx=>?_,fun b o e hx=>?_,fun b xs e=>tups b xs (I.base.tups b xs e),fun b o xs e=>frzs b o xs (I.base.frzs b o xs e),fun b ps e=>?_⟩,?_,fun x c e=>?_,?_,fun x c e=>?_,fun p hp=>?_,hok,I.len⟩
 ·exact keep b o (neL b o e) hb (neC b o e hx) (I.base.keep b o e n hb hx) (I.base.free b o e n hx)
 ·obtain ⟨sl,e1⟩:=I.base.slot b o e n hb hx;obtain ⟨sl',e2⟩:=slot b _ (neL b o e) hb (neC b o e hx) e1 (I.base.free b o e n hx);exact ⟨sl',e2⟩
 ·obtain ⟨o',e1⟩:=I.base.there b o e hx;exact free b o' (neC b o e hx) e1 (I.base.free b o e n hx)
 ·obtain ⟨o',e1⟩:=I.base.there b o e hx;exact there b o' (neC b o e hx) e1
 ·obtain ⟨m1,e1⟩:=I.base.tbls b ps e;obtain ⟨m2,e2⟩:=tbls b _ e1;exact ⟨m1++m2,by rw[e2,Array.append_assoc]⟩
 ·obtain ⟨m,hn,hl⟩:=I.loc;refine ⟨m,ns m hn,fun i x v e1 e2 e3=>?_⟩
  obtain ⟨u,r,l⟩:=hl i x v e1 e2 e3;refine ⟨u,r,?_⟩;rcases l with l|⟨k,c,e,z⟩
  ·exact .inl l
  ·exact .inr ⟨k,c,e,cellK x c e _ z⟩
 ·obtain ⟨v,z⟩:=I.cell x c e;exact ⟨v,cellK x c e v z⟩
 ·obtain ⟨m,⟨o,_,_,ho,_⟩,_⟩:=I.loc;exact free _ o (fun z=>(hch _ z).2.1 rfl) ho I.free
 ·obtain ⟨v,o,ho,hd⟩:=I.cell x c e;exact free c o (fun z=>(hch c z).2.2.1 x c e rfl) ho (I.freeC x c e)
 ·obtain ⟨e,n,ne,nf,d⟩:=I.pin p hp;have nch:p.1∉ch:=fun z=>(hch p.1 z).2.2.2 p hp rfl
  exact ⟨keep p.1 p.2 ne nf nch e n,free p.1 p.2 nch e n,ne,nf,d⟩
theorem aE.un {t':Nat} (I:aE X pins σ H s) (u:Un X.fs [] H H' s.heap h') (hok:fG X.prog X.w H' h'):aE X pins σ H' {s with heap:=h',toks:=t'}:=by
 obtain ⟨m,⟨o,es,ep,ho,r⟩,_⟩:=id I.loc;obtain ⟨sl,hL⟩:=u.any ho I.free (by simp)
 exact I.step (g':=s.gens) (d':=s.drawn) (ch:= []) (fun _ z=>nomatch z) (fun b o _ hb _ e n=>u.keep b o e n hb (by simp)) (fun b o _ hb _ e n=>u.slot b o e n hb (by simp)) (fun b o _ e n=>u.free b o e n (by simp)) (fun b o _ e=>u.there b o e (by simp)) u.tups u.frzs u.tbls (fun m' hm=>by
  obtain ⟨o',es',ep',ho',r'⟩:=hm;rw[ho] at ho';cases ho';exact ⟨_,es',ep',hL,r'⟩) hok I.bare
theorem aE.call {g':Array GenState} {t':Nat} {d':Drawn} {ch:GW} (I:aE X pins σ H s) (u:Un (jH X.stack) ch H H' s.heap h') (hok:fG X.prog X.w H' h') (hg:AllBare g')
  (hch:∀b∈ch,(b∈X.ex∨X.s₀.heap.objs.size<=b)/\b≠X.env.locals/\(∀x c,X.env.cells.lookup x=some c->c≠b)/\∀p∈X.pn++pins,p.1≠b):
  aE X pins σ H' {s with heap:=h',gens:=g',drawn:=d',toks:=t'}:=by
 obtain ⟨m,⟨o,es,ep,ho,r⟩,_⟩:=id I.loc;obtain ⟨sl,hL⟩:=u.any ho I.free fun z=>(hch _ z).2.1 rfl
 exact I.step (ch:=ch) hch (fun b o hL hb hc e n=>u.keep b o e n (fun z=>(DM.mp (I.stkSub b z)).elim hL hb) hc) (fun b o _ _ hc e n=>u.any e n hc) (fun b o hc e n=>u.free b o e n hc) (fun b o hc e=>u.there b o e hc) u.tups u.frzs u.tbls (fun m' hm=>by
  obtain ⟨o',es',ep',ho',r'⟩:=hm;rw[ho] at ho';cases ho';exact ⟨_,es',ep',hL,r'⟩) hok hg
theorem aE.turned {t':Nat} {it:Addr} (I:aE X pins σ H s) (k:∀b o,b≠it->s.heap.get? b=some o->h'.get? b=some o) (hn:H it=none) (hL:it≠X.env.locals)
  (h1:it∈X.ex∨X.s₀.heap.objs.size<=it) (h2:∀x c,X.env.cells.lookup x=some c->c≠it) (h3:∀p∈X.pn++pins,p.1≠it):aE X pins σ H {s with heap:=h',toks:=t'}:=by
 have nit:∀b u,H b=some u->b≠it:=fun b u e z=>by rw[z,hn] at e;cases e
 refine I.step (g':=s.gens) (d':=s.drawn) (ch:= [it]) (fun b hb=>?_) (fun b o _ _ hc e _=>k b o (fun z=>hc (by simp[z])) e) (fun b o _ _ hc e _=>⟨o.slots,k b o (fun z=>hc (by simp[z])) e⟩) (fun _ _ _ _ n=>n)
  (fun b o hc e=>⟨o,k b o (fun z=>hc (by simp[z])) e⟩) (fun _ _ e=>e) (fun _ _ _ e=>e) (fun b ps e=>⟨#[],by rw[e];simp⟩) (fun m hm=>?_) (fun b u e=>?_) I.bare
 ·have e:b=it:=by simpa using hb
  subst e;exact ⟨h1,hL,h2,h3⟩
 ·obtain ⟨o,es,ep,ho,r⟩:=hm;exact ⟨o,es,ep,k _ o (Ne.symm hL) ho,r⟩
 ·refine (I.hok b u e).stay (fun c v hc q=>k c v ?_ q) (fun _ q=>q) fun _ _ q=>q
  rcases hc with z|z
  ·rw[z];exact nit b u e
  ·exact nit c _ z
theorem aE.tok (I:aE X pins σ H s) (t:Nat):aE X pins σ H {s with toks:=t}:=I.un (h':=s.heap) (t':=t) Un.refl I.hok
theorem aE.kept {t':Nat} (I:aE X pins σ H s) (k:∀b u,s.heap.get? b=some u->h'.get? b=some u):aE X pins σ H {s with heap:=h',toks:=t'}:=I.un (Un.kept k) (I.hok.kept k)
theorem aE.laid {a:Addr} {o:HO} {t':Nat} (I:aE X pins σ H s) (k:∀b u,s.heap.get? b=some u->h'.get? b=some u) (hp:s.heap.objs.size<=a) (new:bn X.prog X.w (av H a o) h' a o):
  aE X pins σ (av H a o) {s with heap:=h',toks:=t'}:=I.un (Un.laid k hp (I.hok.fresh hp)) (I.hok.laid k hp new)
theorem aE.write {x e:Addr} {o:HO} {t':Nat} (I:aE X pins σ H s) (mu:AV (H x)) (he:e=x∨H e=some (.own x)) (k:∀b u,b≠e->s.heap.get? b=some u->h'.get? b=some u) (heo:∃u,h'.get? e=some u)
  (new:bn X.prog X.w (av H x o) h' x o):aE X pins σ (av H x o) {s with heap:=h',toks:=t'}:=I.un (Un.write mu he k heo) (I.hok.write mu he k heo new)
theorem aE.pins_of {pins':GT} (I:aE X pins σ H s) (h:∀p∈pins',s.heap.get? p.1=some p.2/\H p.1=none/\p.1≠X.env.locals/\p.1∉X.fs/\∀v,p.2.data≠ .cell v):aE X pins' σ H s:=
 ⟨I.ok,I.os,I.bare,I.base,I.loc,I.cell,I.free,I.freeC,fun p hp=>(DO.mp hp).elim (fun z=>I.pin p (F7 _ z)) (h p),I.hok,I.len⟩
theorem jX {N:GV} (hN:N.Nodup) {i j:Nat} {x:Str} (a:N[i]?=some x) (b:N[j]?=some x):i=j:=by
 obtain ⟨h1,e1⟩:=D4.mp a;obtain ⟨h2,e2⟩:=D4.mp b;exact (List.getElem_inj hN).mp (e1.trans e2.symm)
theorem iO {M:Model} {A:Around} {E:GR} {i:Nat} {x:Str} {v:V} {u:Value} {Q:Unit->Shared->Prop} (I:aE X pins σ H s) (hN:X.N.Nodup) (hi:X.N[i]?=some x) (hx:Loc X.env.scope x) (r:RelV v u)
  (h:∀s',aE X pins (σ.set i (some v)) H s'->(∃a,Heap.SameBut a s.heap s'.heap/\(a=X.env.locals∨X.env.cells.lookup x=some a))->Q () s') (hf:X.fn x=true∨X.env.scope.names.lookup x=some .local:=by first|exact .inl rfl|exact .inr rfl|assumption):wpAny M A (storeName X.env x u) Q E s:=by
 obtain ⟨m,hn,hl⟩:=id I.loc;have hcls:(X.env.scope.kind== .class||(X.env.scope.kind== .module&&X.env.locals !=X.env.globals))=false:=by rw[I.ok.kind];rfl
 have hiσ:i<σ.length:=by rw[I.len];exact (D4.mp hi).1
 have cne:=I.cne;have tracked:∀{a:Addr} {h':Heap},(∃o,s.heap.get? a=some o/\H a=none)->Heap.SameBut a s.heap h'->fG X.prog X.w H h':=fun {a h'} ha hs b ob e=>by
  obtain ⟨_,_,hfree⟩:=ha;refine (I.hok b ob e).stay (fun c w' hc q=>(hs.2 c ?_).trans q) (fun _ q=>q) fun _ _ q=>q
  rintro rfl;rcases hc with rfl|hc
  ·rw[hfree] at e;cases e
  ·rw[hfree] at hc;cases hc
 rcases hx with hk|hk
 ·refine wpAny_storeName_local hk hn (fun h' hn' hs=>?_) hcls
  obtain ⟨oL,_,_,hoL,_⟩:=id hn;refine h _ ⟨I.ok,I.os,I.bare,⟨fun b o e n hb hx=>?_,fun b o e n hb hx=>?_,I.base.free,fun b o e hx=>?_,I.base.tups,I.base.frzs,I.base.tbls⟩,⟨_,hn',fun j y v' e1 e2 e3=>?_⟩,fun y c e=>?_,I.free,I.freeC,fun p hp=>?_,tracked ⟨oL,hoL,I.free⟩ hs,by simpa using I.len⟩ ⟨_,hs,.inl rfl⟩
  ·exact (hs.2 b (DI (EB (Heap.lt_size e) I.ok.above))).trans (I.base.keep b o e n hb hx)
  ·obtain ⟨sl,e1⟩:=I.base.slot b o e n hb hx;exact ⟨sl,(hs.2 b (DI (EB (Heap.lt_size e) I.ok.above))).trans e1⟩
  ·obtain ⟨o',e1⟩:=I.base.there b o e hx;exact ⟨o',(hs.2 b (DI (EB (Heap.lt_size e) I.ok.above))).trans e1⟩
  ·by_cases hj:j=i
   ·subst hj;rw[hi] at e1;cases e1;rw[List.getElem?_set_self hiσ] at e2;cases e2;exact ⟨u,r,.inl ⟨hk,by simp⟩⟩
   ·rw[List.getElem?_set_ne (Ne.symm hj)] at e2;obtain ⟨u',r',q⟩:=hl j y v' e1 e2 e3;refine ⟨u',r',?_⟩;rcases q with ⟨k,e⟩|⟨k,c,e,z⟩
    ·refine .inl ⟨k,?_⟩;have:y≠x:=fun e=>hj (jX hN e1 (e▸hi))
     simp[this,e]
    ·exact .inr ⟨k,c,e,z.sameBut hs (cne y c e)⟩
  ·obtain ⟨w',z⟩:=I.cell y c e;exact ⟨w',z.sameBut hs (cne y c e)⟩
  ·obtain ⟨e,n,ne,nf,d⟩:=I.pin p hp;exact ⟨(hs.2 p.1 ne).trans e,n,ne,nf,d⟩
 ·have hfn:X.fn x=true:=by
   rcases hf with z|z
   ·exact z
   ·rw[z] at hk;cases hk
  obtain ⟨c,hc⟩:=I.ok.has x (.inl hk);obtain ⟨w',z⟩:=I.cell x c hc;refine wpAny_storeName_cell I.ok.kind hk hc z (fun h' hc' hs=>?_)
  obtain ⟨oc,hoc,hocd⟩:=id z;refine h {s with heap:=h'} ⟨I.ok,I.os,I.bare,⟨fun b o e n hb hx=>?_,fun b o e n hb hx=>?_,I.base.free,fun b o e hx=>?_,I.base.tups,I.base.frzs,I.base.tbls⟩,⟨m,hn.sameBut hs (Ne.symm (cne x c hc)),fun j y v' e1 e2 e3=>?_⟩,fun y c' e=>?_,I.free,I.freeC,fun p hp=>?_,tracked ⟨oc,hoc,I.freeC x c hc⟩ hs,by simpa using I.len⟩ ⟨c,hs,.inr hc⟩
  ·exact (hs.2 b (DI (EB (Heap.lt_size e) (I.ok.cab x c hfn hc)))).trans (I.base.keep b o e n hb hx)
  ·obtain ⟨sl,e1⟩:=I.base.slot b o e n hb hx;exact ⟨sl,(hs.2 b (DI (EB (Heap.lt_size e) (I.ok.cab x c hfn hc)))).trans e1⟩
  ·obtain ⟨o',e1⟩:=I.base.there b o e hx;exact ⟨o',(hs.2 b (DI (EB (Heap.lt_size e) (I.ok.cab x c hfn hc)))).trans e1⟩
  ·by_cases hj:j=i
   ·subst hj;rw[hi] at e1;cases e1;rw[List.getElem?_set_self hiσ] at e2;cases e2;exact ⟨u,r,.inr ⟨.inl hk,c,hc,hc'⟩⟩
   ·rw[List.getElem?_set_ne (Ne.symm hj)] at e2;obtain ⟨u',r',q⟩:=hl j y v' e1 e2 e3;refine ⟨u',r',?_⟩;rcases q with q|⟨k,c',e,z'⟩
    ·exact .inl q
    ·refine .inr ⟨k,c',e,z'.sameBut hs ?_⟩;rintro rfl;exact hj (jX hN e1 (I.ok.inj _ _ _ e hc▸hi))
  ·by_cases hcc:c'=c
   ·subst hcc;exact ⟨_,hc'⟩
   ·obtain ⟨w2,z2⟩:=I.cell y c' e;exact ⟨w2,z2.sameBut hs hcc⟩
  ·obtain ⟨e,n,ne,nf,d⟩:=I.pin p hp;refine ⟨(hs.2 p.1 ?_).trans e,n,ne,nf,d⟩;intro q;rw[q,hoc] at e;have q':oc=p.2:=Es e;exact d w' (by rw[<-q'];exact hocd)
theorem ig {M:Model} {A:Around} {E:GR} {i:Nat} {x:Str} {v:V} {u:Value} {Q:Unit->Shared->Prop} (I:aE X pins σ H s) (hN:X.N.Nodup) (hi:X.N[i]?=some x) (hx:Loc X.env.scope x) (r:RelV v u)
  (h:∀s',aE X pins (σ.set i (some v)) H s'->Q () s') (hf:X.fn x=true∨X.env.scope.names.lookup x=some .local:=by first|exact .inl rfl|exact .inr rfl|assumption):wpAny M A (storeName X.env x u) Q E s:=
 iO I hN hi hx r (fun s' I' _=>h s' I') hf
theorem aE.call' {s':Shared} {ch:GW} (I:aE X pins σ H s) (ho:s'.os=s.os) (u:Un (jH X.stack) ch H H' s.heap s'.heap) (hok:fG X.prog X.w H' s'.heap) (hg:AllBare s'.gens)
  (hch:∀b∈ch,(b∈X.ex∨X.s₀.heap.objs.size<=b)/\b≠X.env.locals/\(∀x c,X.env.cells.lookup x=some c->c≠b)/\∀p∈X.pn++pins,p.1≠b):aE X pins σ H' s':=by
 obtain ⟨h',g',d',t',o'⟩:=s';have e:o'=s.os:=ho;subst e;exact I.call (g':=g') (t':=t') (d':=d') u hok hg hch
abbrev XK:=Value->GY->Hp->Prop
abbrev St:=List (Option V)
abbrev VK:=V->Hp->Prop
abbrev TE:=St->Hp->VK->Prop
abbrev TT:=St->Hp->(Bool->Hp->Prop)->Prop
abbrev TA:=St->Hp->(List V->Hp->Prop)->Prop
structure Ends where
 nx:St->Hp->Prop
 rt:VK
 bk:St->Hp->Prop:=fun _ _=>False
 ct:St->Hp->Prop:=fun _ _=>False
abbrev TS:=Ends->St->Hp->Prop
def EP (X:Cx) (pins:GT) (σ:St) (Q:VK) (u:Value) (s':Shared):Prop:=∃v H',aE X pins σ H' s'/\RelV v u/\Q v H'
def TP (X:Cx) (pins:GT) (σ:St) (Q:Bool->Hp->Prop) (b:Bool) (s':Shared):Prop:=∃H',aE X pins σ H' s'/\Q b H'
def AP (X:Cx) (pins:GT) (σ:St) (Q:List V->Hp->Prop) (us:GX) (s':Shared):Prop:=∃vs H',aE X pins σ H' s'/\aS vs us/\Q vs H'
def SP (X:Cx) (pins:GT) (D:Ends) (f:Flow) (s':Shared):Prop:=
 match f with
 | .next=>∃σ' H',aE X pins σ' H' s'/\D.nx σ' H'
 | .brk=>∃σ' H',aE X pins σ' H' s'/\D.bk σ' H'
 | .cont=>∃σ' H',aE X pins σ' H' s'/\D.ct σ' H'
 | .ret u=>∃v σ' H',aE X pins σ' H' s'/\RelV v u/\D.rt v H'
def PE (X:Cx) (e:Expr) (t:TE):Prop:=
 ∀(pins:GT) (s:Shared) (σ:St) (H:Hp) (Q:VK),aE X pins σ H s->t σ H Q->wpAny (model X.prog X.w) X.A (eval e X.env) (EP X pins σ Q) X.xe s
def PT (X:Cx) (e:Expr) (t:TT):Prop:=
 ∀(pins:GT) (s:Shared) (σ:St) (H:Hp) (Q:Bool->Hp->Prop),aE X pins σ H s->t σ H Q->wpAny (model X.prog X.w) X.A (isTrue e X.env (eval e X.env)) (TP X pins σ Q) X.xe s
def PW (X:Cx) (e:Expr) (t:TT):Prop:=
 ∀(whole:Sem Value) (pins:GT) (s:Shared) (σ:St) (H:Hp) (Q:Bool->Hp->Prop),aE X pins σ H s->t σ H Q->wpAny (model X.prog X.w) X.A (isTrue e X.env whole) (TP X pins σ Q) X.xe s
theorem PW.pt {X:Cx} {e:Expr} {t:TT} (h:PW X e t):PT X e t:=h _
def PA (X:Cx) (es:List Expr) (t:TA):Prop:=
 ∀(pos:Pos) (pins:GT) (s:Shared) (σ:St) (H:Hp) (Q:List V->Hp->Prop),aE X pins σ H s->t σ H Q->wpAny (model X.prog X.w) X.A (spliced (backTo pos (starEach es X.env))) (AP X pins σ Q) X.xe s
def PS (X:Cx) (st:Stmt) (t:TS):Prop:=
 ∀(pins:GT) (s:Shared) (σ:St) (H:Hp) (D:Ends),aE X pins σ H s->t D σ H->wpAny (model X.prog X.w) X.A (exec st X.env) (SP X pins D) X.xe s
def lN (X:Cx) (st:List Stmt) (t:TS):Prop:=
 ∀(pins:GT) (s:Shared) (σ:St) (H:Hp) (D:Ends),aE X pins σ H s->t D σ H->wpAny (model X.prog X.w) X.A (execs st X.env) (SP X pins D) X.xe s
theorem a9 {α:Type} {t:Sem α} {Q Q':α->Shared->Prop} {M:Model} {A:Around} {E:GR} {s:Shared} (h:wpAny M A t Q E s) (hQ:∀a s,Q a s->Q' a s):wpAny M A t Q' E s:=wpAny_mono h hQ fun _ _ x=>x
section
def AX (i:Nat):TE:=fun σ H Q=>∃v,σ[i]?=some (some v)/\Q v H
def tC (v:V):TE:=fun _ H Q=>Q v H
theorem zr {i:Nat} {x:Str} {pos:Pos} (hN:X.N[i]?=some x) (hv:AW X.env.scope x) (hd:(x==("__debug__" :Str))=false:=by decide) (hcd:(x==("__classdict__" :Str))=false:=by decide):PE X (.Name x pos) (AX i):=by
 intro pins s σ H Q I h;obtain ⟨v,e,h⟩:=h;obtain ⟨m,hn,hl⟩:=I.loc;obtain ⟨u,r,l⟩:=hl i x v hN e hv;have fin:EP X pins σ Q u s:=⟨v,H,I,r,h⟩;rcases l with ⟨hk,hm⟩|⟨hk,c,hc,hcell⟩
 ·exact wpAny_Name (wpAny_loadName_local I.ok.kind hk hn hm fin) hd
 ·rcases hk with hk|hk
  ·exact wpAny_Name (wpAny_loadName_cell I.ok.kind hk hc hcell fin) hd
  ·exact wpAny_Name (wpAny_loadName_free I.ok.kind hk hc hcell fin hcd) hd
theorem aj {i j pos}:PE X (.Constant (.int i) j pos) (tC (.int i)):=fun _ _ _ H _ I h=>wpAny_Constant_int ⟨.int i,H,I.tok _,⟨_,rfl⟩,h⟩
theorem dG {b j pos}:PE X (.Constant (.bool b) j pos) (tC (.bl b)):=fun _ _ _ H _ I h=>Constant_bool ⟨.bl b,H,I,rfl,h⟩
theorem jY {j pos}:PE X (.Constant .none j pos) (tC .non):=fun _ _ _ H _ I h=>Constant_none ⟨.non,H,I,rfl,h⟩
theorem fH {x j pos}:PE X (.Constant (.str x) j pos) (tC (.str x)):=fun _ _ _ H _ I h=>Calls.Constant_str ⟨.str x,H,I.tok _,⟨_,rfl⟩,h⟩
def Gl (X:Cx) (x:Str):Prop:=X.env.kindOf x=some .globalImplicit
theorem gy {E:GR} {pins:GT} {s:Shared} {σ:St} {H:Hp} {x:Str} {u:Value} {pos:Pos} {Q:GR} (I:aE X pins σ H s) (hg:Gl X x) (hm:X.mg x=some u) (h:Q u s)
  (hd:(x==("__debug__" :Str))=false:=by decide):wpAny (model X.prog X.w) X.A (eval (.Name x pos) X.env) Q E s:=
 Calls.Name_function_global I.ok.kind hg (Calls.loadGlobal_global (by rw[I.ok.glob];exact I.mod.glob.keeps I.bk) hm h) hd
theorem cW {E:GR} {pins:GT} {s:Shared} {σ:St} {H:Hp} {x:Str} {u:Value} {pos:Pos} {Q:GR} (I:aE X pins σ H s) (hg:Gl X x) (hm:X.mg x=none) (hv:bootBuiltins x=some u) (h:Q u s)
  (hn:x≠ "__name__" :=by decide) (hd:(x==("__debug__" :Str))=false:=by decide):wpAny (model X.prog X.w) X.A (eval (.Name x pos) X.env) Q E s:=by
 obtain ⟨mb,h1,h2⟩:=I.mod.blt;exact Calls.Name_function_global I.ok.kind hg (Calls.loadGlobal_builtin (by rw[I.ok.glob];exact I.mod.glob.keeps I.bk) hm (by rw[I.ok.blt];exact h1.keeps I.bk) ((h2 x hn).trans hv) h) hd
theorem gz {x:Str} {v:V} {u:Value} {pos:Pos} (hg:Gl X x) (hm:X.mg x=some u) (r:RelV v u) (hd:(x==("__debug__" :Str))=false:=by decide):PE X (.Name x pos) (tC v):=
 fun _ _ _ H _ I h=>gy I hg hm ⟨v,H,I,r,h⟩ hd
theorem fJ {x:Str} {v:V} {u:Value} {pos:Pos} (hg:Gl X x) (hm:X.mg x=none) (hv:bootBuiltins x=some u) (r:RelV v u) (hn:x≠ "__name__" :=by decide) (hd:(x==("__debug__" :Str))=false:=by decide):PE X (.Name x pos) (tC v):=
 fun _ _ _ H _ I h=>cW I hg hm hv ⟨v,H,I,r,h⟩ hn hd
variable {a b:Expr} {ta tb:TE} {pos:Pos}
def PC (X:Cx) (op:CmpOp) (a b:Expr) (t:TE):Prop:=
 ∀(pins:GT) (s:Shared) (σ:St) (H:Hp) (Q:VK),aE X pins σ H s->t σ H Q->
  wpAny (model X.prog X.w) X.A (eval a X.env) (fun v s₁=>wpAny (model X.prog X.w) X.A (eval b X.env) (fun u s₂=>wpAny (model X.prog X.w) X.A (compareOp op v u) (EP X pins σ Q) X.xe s₂) X.xe s₁) X.xe s
def tB (t:TE):TT:=fun σ H Q=>t σ H fun x H1=>∃c,x= .bl c/\Q c H1
theorem qR {op:CmpOp} {t:TE} (h:PC X op a b t) (h1:behindInMarks op b=false:=by first|exact nobehind _ (by decide) (by decide)|rfl):PT X (.Compare a [op] [b] pos) (tB t):=by
 intro pins s σ H Q I hw;refine wpAny_isTrue_Compare1 (a9 (h pins s σ H _ I hw) fun v s1 h1=>a9 h1 fun u s2 h2=>a9 h2 fun c s3 ⟨x,H1,I1,r1,q1⟩=>?_) h1
 obtain ⟨d,rfl,q⟩:=q1;cases r1;exact wpAny_truthy_bool ⟨H1,I1,q⟩
theorem cw {e:Expr} {t:TE} (h:PE X e t) (he:∀whole,isTrue e X.env whole=(do let v<-whole;standAt e.pos;holding [v] (truthy v)):=by intro _;rfl):PT X e (tB t):=by
 intro pins s σ H Q I hw;refine isTrue_plain (a9 (h pins s σ H _ I hw) fun v s1 ⟨x,H1,I1,r1,q1⟩=>?_) (he _)
 obtain ⟨d,rfl,q⟩:=q1;cases r1;exact wpAny_truthy_bool ⟨H1,I1,q⟩
variable {tA tB':TT} {rest:List Expr}
def Cn (t u:TT):TT:=fun σ H Q=>t σ H fun c H1=>if c=true then u σ H1 Q else Q false H1
def Dr (t u:TT):TT:=fun σ H Q=>t σ H fun c H1=>if c=true then Q true H1 else u σ H1 Q
def Co (t:TT):TT:=fun σ H Q=>t σ H fun c H1=>Q (!c) H1
theorem jN (ha:PT X a tA):PW X (.BoolOp .And [a] pos) tA:=by
 intro wh pins s σ H Q I h;refine isTrue_and (a9 (ha pins s σ H Q I h) fun c s1 e=>?_)
 cases c with
 |true=>exact isTrue_and_nil e
 |false=>exact e
theorem fK (ha:PT X a tA):PW X (.BoolOp .Or [a] pos) tA:=by
 intro wh pins s σ H Q I h;refine isTrue_or (a9 (ha pins s σ H Q I h) fun c s1 e=>?_)
 cases c with
 |false=>exact isTrue_or_nil e
 |true=>exact e
theorem m3 (ha:PT X a tA) (hb:PW X (.BoolOp .And (b::rest) pos) tB'):PW X (.BoolOp .And (a::b::rest) pos) (Cn tA tB'):=by
 intro wh pins s σ H Q I h;refine isTrue_and (a9 (ha pins s σ H _ I h) fun c s1 ⟨H1,I1,q1⟩=>?_)
 cases c with
 |true=>exact hb wh pins s1 σ H1 Q I1 q1
 |false=>exact ⟨H1,I1,q1⟩
theorem fT (ha:PT X a tA) (hb:PW X (.BoolOp .Or (b::rest) pos) tB'):PW X (.BoolOp .Or (a::b::rest) pos) (Dr tA tB'):=by
 intro wh pins s σ H Q I h;refine isTrue_or (a9 (ha pins s σ H _ I h) fun c s1 ⟨H1,I1,q1⟩=>?_)
 cases c with
 |true=>exact ⟨H1,I1,q1⟩
 |false=>exact hb wh pins s1 σ H1 Q I1 q1
theorem bU (ha:PT X a tA):PT X (.UnaryOp .Not a pos) (Co tA):=by
 intro pins s σ H Q I h;exact isTrue_not (ha pins s σ H (fun c H1=>Q (!c) H1) I h)
def AY (ta tb:TE):TE:=fun σ H Q=>ta σ H fun x H1=>∃c,x= .bl c/\if c=true then tb σ H1 Q else Q (.bl false) H1
def AZ (ta:TE):TE:=fun σ H Q=>ta σ H fun x H1=>∃c,x= .bl c/\Q (.bl (!c)) H1
theorem qS {op} {t:TE} (h:PE X a t):PE X (.BoolOp op [a] pos) t:=fun pins s σ H Q I hw=>BoolOp_one (h pins s σ H Q I hw)
theorem qT (ha:PE X a ta) (hb:PE X (.BoolOp .And (b::rest) pos) tb):PE X (.BoolOp .And (a::b::rest) pos) (AY ta tb):=by
 intro pins s σ H Q I h;refine BoolOp_and (a9 (ha pins s σ H _ I h) fun v s1 ⟨x,H1,I1,r1,q1⟩=>?_)
 obtain ⟨c,rfl,q1⟩:=q1;cases r1;refine wpAny_truthy_bool ?_;cases c with
 |true=>exact hb pins s1 σ H1 Q I1 q1
 |false=>exact ⟨.bl false,H1,I1,rfl,q1⟩
theorem zt (ha:PE X a ta):PE X (.UnaryOp .Not a pos) (AZ ta):=by
 intro pins s σ H Q I h;refine UnaryOp_ (a9 (ha pins s σ H _ I h) fun v s1 ⟨x,H1,I1,r1,q1⟩=>?_)
 obtain ⟨c,rfl,q1⟩:=q1;cases r1;exact not_of (wpAny_truthy_bool ⟨.bl (!c),H1,I1,rfl,q1⟩)
def Ds (t:TT) (ta tb:TE):TE:=fun σ H Q=>t σ H fun c H1=>if c=true then ta σ H1 Q else tb σ H1 Q
theorem vP {c:Expr} (hc:PT X c tA) (ha:PE X a ta) (hb:PE X b tb):PE X (.IfExp c a b pos) (Ds tA ta tb):=by
 intro pins s σ H Q I h;refine wpAny_IfExp (a9 (hc pins s σ H _ I h) fun d s1 ⟨H1,I1,q1⟩=>?_)
 cases d with
 |true=>exact ha pins s1 σ H1 Q I1 q1
 |false=>exact hb pins s1 σ H1 Q I1 q1
end
def aK (K:D5) (H:Hp) (a:Addr) (xs:List V):Prop:=
 Rd H a (.lst xs)∨
  ∃(o:Obj) (its:Array Value) (n:Nat),K.lookup a=some o/\o.cls= .type "list" /\o.dict=none/\o.data= .seq its n/\its.size<=sizeLine/\aS xs its.toList
def bH (K:D5) (H:Hp) (a:Addr) (xs:List V):Prop:=
 Rd H a (.tup xs)∨
  ∃(o:Obj) (its:Array Value) (n:Nat),K.lookup a=some o/\o.cls= .type "tuple" /\o.data= .seq its n/\its.size<=sizeLine/\aS xs its.toList
def Cp:Value->Option V
 | .none=>some .non
 | .bool b=>some (.bl b)
 | .int i _=>some (.int i)
 | .str x _=>some (.str x)
 | .bytes b _=>some (.byt b)
 | .float b _=>some (.flt b)
 | .ref a=>some (.ref a)
 | .type n=>some (.ty n)
 |_=>none
theorem RelV.abs {x:V} {u:Value} (r:RelV x u):Cp u=some x:=by
 cases x with
 |non=>cases r;rfl
 |bl _=>cases r;rfl
 |int _=>obtain ⟨t,rfl⟩:=r;rfl
 |str _=>obtain ⟨t,rfl⟩:=r;rfl
 |byt _=>obtain ⟨t,rfl⟩:=r;rfl
 |flt _=>obtain ⟨t,rfl⟩:=r;rfl
 |ref _=>cases r;rfl
 |ty _=>cases r;rfl
theorem RelV.inj {x y:V} {u:Value} (r:RelV x u) (q:RelV y u):x=y:=Es (r.abs.symm.trans q.abs)
theorem aS.inj:∀{xs ys:List V} {us:GX},aS xs us->aS ys us->xs=ys
 |_,_,_,.nil,.nil=>rfl
 |_,_,_,.cons r t,.cons r' t'=>by rw[r.inj r',aS.inj t t']
variable {σ:St} {a:Addr} {xs ys:List V}
theorem aK.of {K:D5} (h:H a=some (.lst xs)):aK K H a xs:= .inl (.inl h)
theorem bH.of {K:D5} (h:H a=some (.tup xs)):bH K H a xs:= .inl (.inl h)
theorem aE.list (I:aE X pins σ H s) (h:aK X.K H a xs):∃its:GX,aS xs its/\PlainL s.heap a its.toArray/\xs.length<=sizeLine:=by
 rcases h with h|⟨o,its,n,hk,hc,hd,hs,hz,r⟩
 ·obtain ⟨z,its,n,r,e⟩:=h.ok I.hok;exact ⟨its,r,⟨_,n,e,rfl,rfl,rfl⟩,z⟩
 ·refine ⟨its.toList,r,⟨o,n,I.kIn a o hk,hc,hd,by simpa using hs⟩,?_⟩
  have e:=r.length;simp only[DW] at e
  lia
theorem aE.tuple (I:aE X pins σ H s) (h:bH X.K H a xs):∃its:GX,aS xs its/\IsTup s.heap a its.toArray/\xs.length<=sizeLine:=by
 rcases h with h|⟨o,its,n,hk,hc,hs,hz,r⟩
 ·obtain ⟨z,its,r,p⟩:=h.ok I.hok;exact ⟨its,r,p,z⟩
 ·refine ⟨its.toList,r,⟨o,I.kIn a o hk,hc,n,by simpa using hs⟩,?_⟩
  have e:=r.length;simp only[DW] at e
  lia
theorem aE.list_inj (I:aE X pins σ H s) (h:aK X.K H a xs) (h':aK X.K H a ys):xs=ys:=by
 obtain ⟨its,r,⟨o,n,e,_,_,d⟩,_⟩:=I.list h;obtain ⟨its',r',⟨o',n',e',_,_,d'⟩,_⟩:=I.list h';rw[e] at e';cases e';rw[d] at d';injection d' with d1 _
 have:its=its':=by simpa using congrArg Array.toList d1
 subst this;exact r.inj r'
abbrev Cx.wish (X:Cx) (E:GR):Cx:={X with xe:=E}
abbrev Cx.nox (X:Cx):Cx:=X.wish fun _ _=>False
theorem Cx.Ok.wish {X:Cx} (ok:X.Ok) (E:GR):(X.wish E).Ok:=
 ⟨ok.mod,ok.kind,ok.glob,ok.blt,ok.above,ok.inj,ok.has,ok.cab,ok.hd,ok.frames,ok.stk,ok.exf,ok.bs,ok.bsz,ok.noex,ok.exfs,ok.funs,ok.frf⟩
theorem Cx.Ok.unwish {X:Cx} {E:GR} (ok:(X.wish E).Ok):X.Ok:=
 ⟨ok.mod,ok.kind,ok.glob,ok.blt,ok.above,ok.inj,ok.has,ok.cab,ok.hd,ok.frames,ok.stk,ok.exf,ok.bs,ok.bsz,ok.noex,ok.exfs,ok.funs,ok.frf⟩
variable {E:GR}
theorem aE.wish (I:aE X pins σ H s) (E:GR):aE (X.wish E) pins σ H s:=⟨I.ok.wish E,I.os,I.bare,I.base,I.loc,I.cell,I.free,I.freeC,I.pin,I.hok,I.len⟩
theorem aE.unwish (I:aE (X.wish E) pins σ H s):aE X pins σ H s:=⟨I.ok.unwish,I.os,I.bare,I.base,I.loc,I.cell,I.free,I.freeC,I.pin,I.hok,I.len⟩
theorem SP.unwish {D:Ends} {f:Flow} {s':Shared} (h:SP (X.wish E) pins D f s'):SP X pins D f s':=by
 cases f with
 |next=>obtain ⟨σ',H',I,q⟩:=h;exact ⟨σ',H',I.unwish,q⟩
 |brk=>obtain ⟨σ',H',I,q⟩:=h;exact ⟨σ',H',I.unwish,q⟩
 |cont=>obtain ⟨σ',H',I,q⟩:=h;exact ⟨σ',H',I.unwish,q⟩
 |ret u=>obtain ⟨v,σ',H',I,r,q⟩:=h;exact ⟨v,σ',H',I.unwish,r,q⟩
theorem lN.nox {st:List Stmt} {t:TS} (h:lN X.nox st t):lN X st t:=fun pins s σ H D I hw=>
 wpAny_mono (h pins s σ H D (I.wish _) hw) (fun _ _ q=>q.unwish) fun _ _ z=>False.elim z
section
variable {st:Stmt} {rest:List Stmt} {t u:TS} {e:Expr} {te:TE} {pos:Pos}
def aZ:TS:=fun D σ H=>D.nx σ H
def zu (t u:TS):TS:=fun D σ H=>t {D with nx:=u D} σ H
theorem aG:lN X [] aZ:=fun _ _ σ H _ I h=>wpAny_execs_nil ⟨σ,H,I,h⟩
theorem ae (h1:PS X st t) (h2:lN X rest u):lN X (st::rest) (zu t u):=by
 intro pins s σ H D I h;refine wpAny_execs_cons (a9 (h1 pins s σ H {D with nx:=u D} I h) fun f s1 q=>?_)
 cases f with
 |next=>
  obtain ⟨σ',H',I',q⟩:=q;exact h2 pins s1 σ' H' D I' q
 |ret v=>exact q
 |brk=>exact q
 |cont=>exact q
theorem ao (h1:PS X st t):lN X [st] t:=by
 intro pins s σ H D I h;refine wpAny_execs_cons (a9 (h1 pins s σ H D I h) fun f s1 q=>?_)
 cases f with
 |next=>exact wpAny_execs_nil q
 |ret v=>exact q
 |brk=>exact q
 |cont=>exact q
theorem aE.quiet {pins:GT} {σ:St} {H:Hp} {s:Shared} (I:aE X pins σ H s):interactive X.env=false:=by simp[interactive,I.ok.kind]
def A0 (te:TE):TS:=fun D σ H=>te σ H fun _ H1=>D.nx σ H1
theorem bt (he:PE X e te) (hs:swapsWith e none pos.line X.env=pure false:=by rfl):PS X (.Expr e pos) (A0 te):=by
 intro pins s σ H D I h;exact wpAny_Expr_any (a9 (he pins s σ H _ I h) fun v s1 ⟨x,H1,I1,r1,q1⟩=>⟨σ,H1,I1,q1⟩) I.quiet hs
def Cq (te:TE):TS:=fun D σ H=>te σ H D.rt
theorem aN (he:PE X e te):PS X (.Return (some e) pos) (Cq te):=by
 intro pins s σ H D I h;exact wpAny_Return_some (a9 (he pins s σ H _ I h) fun v s1 ⟨x,H1,I1,r1,q1⟩=>⟨x,σ,H1,I1,r1,q1⟩)
def Cr (c:TT) (t u:TS):TS:=fun D σ H=>c σ H fun b H1=>if b=true then t D σ H1 else u D σ H1
theorem a7 {c:Expr} {a b:List Stmt} {tc:TT} (hc:PT X c tc) (ha:lN X a t) (hb:lN X b u):PS X (.If c a b pos) (Cr tc t u):=by
 intro pins s σ H D I h;refine wpAny_If (a9 (hc pins s σ H _ I h) fun d s1 ⟨H1,I1,q1⟩=>?_)
 cases d with
 |true=>exact ha pins s1 σ H1 D I1 q1
 |false=>exact hb pins s1 σ H1 D I1 q1
def zw:TS:=fun _ _ _=>False
theorem bG:PS X st zw:=fun _ _ _ _ _ _ h=>h.elim
end
abbrev TG:=V->St->Hp->(St->Hp->Prop)->Prop
abbrev y4:=List V->St->Hp->(St->Hp->Prop)->Prop
def PG (X:Cx) (target:Expr) (t:TG):Prop:=
 ∀(pins:GT) (s:Shared) (σ:St) (H:Hp) (v:V) (u:Value) (Q:St->Hp->Prop),aE X pins σ H s->RelV v u->t v σ H Q->
  wpAny (model X.prog X.w) X.A (assign target X.env u) (fun _ s'=>∃σ' H',aE X pins σ' H' s'/\Q σ' H') X.xe s
def A1 (X:Cx) (ts:List Expr) (t:y4):Prop:=
 ∀(pins:GT) (s:Shared) (σ:St) (H:Hp) (vs:List V) (us:GX) (Q:St->Hp->Prop),aE X pins σ H s->aS vs us->t vs σ H Q->
  wpAny (model X.prog X.w) X.A (assignInOrder ((assignEach ts X.env).map (·.2)) us) (fun _ s'=>∃σ' H',aE X pins σ' H' s'/\Q σ' H') X.xe s
abbrev zz:=V->V->V->Hp->(Hp->Prop)->Prop
def A3 (X:Cx) (t:zz):Prop:=
 ∀(pins:GT) (s:Shared) (σ:St) (H:Hp) (o i v:V) (ov iv u:Value) (Q:Hp->Prop),aE X pins σ H s->RelV o ov->RelV i iv->RelV v u->t o i v H Q->
  wpAny (model X.prog X.w) X.A (setItem ov iv u) (fun _ s'=>∃H',aE X pins σ H' s'/\Q H') X.xe s
abbrev Cf:=V->V->Hp->VK->Prop
def Dl (X:Cx) (op:Operator) (t:Cf):Prop:=
 ∀(pins:GT) (s:Shared) (σ:St) (H:Hp) (x y:V) (v u:Value) (Q:VK),aE X pins σ H s->RelV x v->RelV y u->t x y H Q->
  wpAny (model X.prog X.w) X.A (inplaceOp op v u) (EP X pins σ Q) X.xe s
variable {pos:Pos}
def aT (i:Nat):TG:=fun v σ H Q=>Q (σ.set i (some v)) H
theorem fL {i:Nat} {x:Str} (hN:X.N.Nodup) (hi:X.N[i]?=some x) (hx:Loc X.env.scope x) (hf:X.fn x=true∨X.env.scope.names.lookup x=some .local:=by first|exact .inl rfl|exact .inr rfl|assumption):PG X (.Name x pos) (aT i):=by
 intro pins s σ H v u Q I r h;exact wpAny_assign_Name (ig I hN hi hx r (fun s' I'=>⟨_,H,I',h⟩) hf)
def Cs:y4:=fun vs σ H Q=>vs= []/\Q σ H
def A4 (t:TG) (u:y4):y4:=fun vs σ H Q=>∃v r,vs=v::r/\t v σ H fun σ' H'=>u r σ' H' Q
theorem cD:A1 X [] Cs:=by
 intro pins s σ H vs us Q I r h;obtain ⟨e,h⟩:=h;subst e;cases r;exact assignInOrder_nil ⟨σ,H,I,h⟩
theorem aQ {e:Expr} {es:List Expr} {t:TG} {u:y4} (h1:PG X e t) (h2:A1 X es u)
  (hs:(assignEach (e::es) X.env).map (·.2)=assign e X.env::(assignEach es X.env).map (·.2):=by rfl):A1 X (e::es) (A4 t u):=by
 intro pins s σ H vs us Q I r h;obtain ⟨v,vr,e1,h⟩:=h;subst e1;cases r with
 |cons r rr=>
  rw[hs];refine assignInOrder_cons (a9 (h1 pins s σ H _ _ _ I r h) fun _ s1 ⟨σ1,H1,I1,q1⟩=>?_)
  exact h2 pins s1 σ1 H1 _ _ Q I1 rr q1
def A5 (K:D5) (n:Nat) (t:y4):TG:=fun v σ H Q=>∃a xs,v= .ref a/\bH K H a xs/\xs.length=n/\t xs σ H Q
theorem c5 {es:List Expr} {k:Nat} {t:y4} {n:Nat} (hc:X.calm=true) (h:A1 X es t)
  (hn:(assignEach es X.env).length=n:=by rfl) (hst:(assignEach es X.env).findIdx? (·.1)=none:=by rfl):PG X (.Tuple es k pos) (A5 X.K n t):=by
 intro pins s σ H v u Q I r hw;obtain ⟨a,xs,e1,hq,hl,hw⟩:=hw;subst e1;cases r;obtain ⟨its,rv,ht,hz⟩:=I.tuple hq;refine assign_Tuple_tuple (I.ok.hd hc) ht (by simp[hn,<-hl,rv.length]) hst fun h' hx=>?_
 have I1:aE X pins σ H {s with heap:=h'}:=I.kept (t':=s.toks) fun b o e=>hx b o (DI (Heap.lt_size e)) e
 exact h pins _ σ H xs _ Q I1 (by simpa using rv) hw
def Ct (to ti:TE) (t:zz):TG:=fun v σ H Q=>to σ H fun o H1=>ti σ H1 fun i H2=>t o i v H2 fun H3=>Q σ H3
theorem m9 {o i:Expr} {to ti:TE} {t:zz} (ho:PE X o to) (hi:PE X i ti) (hs:A3 X t)
  (ha:∀v,assign (.Subscript o i pos) X.env v=(do
   let ov<-holding [v] (eval o X.env)
   let iv<-holding [v,ov] (eval i X.env)
   standAt pos
   holding [v,ov,iv] (setItem ov iv v)
   release [v,ov,iv] []):=by intro _;rfl):PG X (.Subscript o i pos) (Ct to ti t):=by
 intro pins s σ H v u Q I r h;rw[ha];refine wpAny_bind (wpAny_holding (a9 (ho pins s σ H _ I h) fun ov s1 ⟨x,H1,I1,r1,q1⟩=>?_))
 refine wpAny_bind (wpAny_holding (a9 (hi pins s1 σ H1 _ I1 q1) fun iv s2 ⟨y,H2,I2,r2,q2⟩=>?_))
 refine wpAny_bind (wpAny_standAt (wpAny_bind (wpAny_holding (a9 (hs pins s2 σ H2 x y v ov iv u _ I2 r1 r2 r q2) fun _ s3 ⟨H3,I3,q3⟩=>?_))))
 exact wpAny_release ⟨σ,H3,I3,q3⟩
def vQ (te:TE) (g:TG):TS:=fun D σ H=>te σ H fun x H1=>g x σ H1 D.nx
theorem ng {tg e:Expr} {te:TE} {g:TG} (he:PE X e te) (hg:PG X tg g) (hs:swapsWithSole [tg] e pos.line X.env=pure false:=by rfl) (hw:swappedStores [tg] e X.env=pure none:=by rfl)
  (h1:(assignEach [tg] X.env).map (·.2)= [assign tg X.env]:=by rfl):PS X (.Assign [tg] e pos) (vQ te g):=by
 intro pins s σ H D I h;refine wpAny_Assign_stores (a9 (he pins s σ H _ I h) fun v s1 ⟨x,H1,I1,r1,q1⟩=>?_) hs hw
 rw[h1];exact a9 (hg pins s1 σ H1 x v _ I1 r1 q1) fun _ s2 q=>q
theorem iP {i:Nat} {x:Str} {e:Expr} {te:TE} {pos':Pos} (hN:X.N.Nodup) (hi:X.N[i]?=some x) (hx:Loc X.env.scope x) (he:PE X e te) (hs:swapsWith e (some (.Name x pos')) pos.line X.env=pure false:=by rfl) (hf:X.fn x=true∨X.env.scope.names.lookup x=some .local:=by first|exact .inl rfl|exact .inr rfl|assumption):
  PS X (.Assign [.Name x pos'] e pos) (vQ te (aT i)):=by
 intro pins s σ H D I h;refine wpAny_Assign_Name (a9 (he pins s σ H _ I h) fun v s1 ⟨y,H1,I1,r1,q1⟩=>?_) hs
 exact ig I1 hN hi hx r1 (fun s2 I2=>⟨_,H1,I2,q1⟩) hf
def Cu (i:Nat) (te:TE) (ti:Cf):TS:=fun D σ H=>∃x,σ[i]?=some (some x)/\te σ H fun y H1=>ti x y H1 fun z H2=>D.nx (σ.set i (some z)) H2
theorem vR {i:Nat} {x:Str} {e:Expr} {te:TE} {op:Operator} {ti:Cf} {pos':Pos} (hN:X.N.Nodup) (hi:X.N[i]?=some x) (hx:Loc X.env.scope x) (he:PE X e te) (ho:Dl X op ti) (hf:X.fn x=true∨X.env.scope.names.lookup x=some .local:=by first|exact .inl rfl|exact .inr rfl|assumption):
  PS X (.AugAssign (.Name x pos') op e pos) (Cu i te ti):=by
 intro pins s σ H D I h;obtain ⟨v,e1,h⟩:=h;obtain ⟨m,hn,hl⟩:=I.loc;have vis:AW X.env.scope x:=by rcases hx with k|k;exact .inl k;exact .inr (.inl k)
 obtain ⟨u,r,l⟩:=hl i x v hi e1 vis;refine wpAny_AugAssign_Name ?_;have go:wpAny (model X.prog X.w) X.A (eval e X.env) (fun w s₂=>wpAny (model X.prog X.w) X.A (inplaceOp op u w) (fun r s₃=>wpAny (model X.prog X.w) X.A (storeName X.env x r) (fun _=>SP X pins D .next) X.xe s₃) X.xe s₂) X.xe s:=by
  refine a9 (he pins s σ H _ I h) fun w s1 ⟨y,H1,I1,r1,q1⟩=>?_
  refine a9 (ho pins s1 σ H1 v y u w _ I1 r r1 q1) fun z s2 ⟨zv,H2,I2,r2,q2⟩=>?_
  exact ig I2 hN hi hx r2 (fun s3 I3=>⟨_,H2,I3,q2⟩) hf
 rcases l with ⟨hk,hm⟩|⟨hk,c,hc,hcell⟩
 ·exact wpAny_loadName_local I.ok.kind hk hn hm go
 ·rcases hk with hk|hk
  ·exact wpAny_loadName_cell I.ok.kind hk hc hcell go
  ·rcases hx with k|k
   ·have:X.env.scope.names.lookup x=some .free:=hk;rw[k] at this;cases this
   ·have:X.env.scope.names.lookup x=some .free:=hk;rw[k] at this;cases this
def Dt (f:Int->Int->Int):Cf:=fun x y H Q=>∃i j,x= .int i/\y= .int j/\Q (.int (f i j)) H
theorem vS:Dl X .Add (Dt fun i j=>i+j):=by
 intro pins s σ H x y v u Q I r1 r2 h;obtain ⟨i,j,e1,e2,q⟩:=h;subst e1;subst e2;obtain ⟨t,rfl⟩:=r1;obtain ⟨t',rfl⟩:=r2;exact iadd_int ⟨.int _,H,I.tok _,⟨_,rfl⟩,q⟩
def vT (c:TT) (tb:TS):TS:=fun D σ H=>∃W:Nat->St->Hp->Prop,(∃m,W m σ H)/\∀m σ H,W m σ H->
 c σ H fun b H1=>if b=true then ∃N:St->Hp->Prop,(∀σ' H',N σ' H'->∃m',m'<m/\W m' σ' H')/\tb {D with nx:=N,ct:=N,bk:=D.nx} σ H1 else D.nx σ H1
theorem vU {c:Expr} {body:List Stmt} {tc:TT} {tb:TS} (hp:PassesOwn (model X.prog X.w) X.A X.env X.xe) (hc:PT X c tc) (hb:lN X body tb):PS X (.While c body [] pos) (vT tc tb):=by
 intro pins s σ H D I h;obtain ⟨W,⟨m0,w0⟩,turn⟩:=h;refine wpAny_While (codeAny_whileLoop (fun n s'=>∃σ' H',aE X pins σ' H' s'/\W n σ' H') ?_ m0 ⟨σ,H,I,w0⟩)
 rintro n s1 ⟨σ1,H1,I1,w1⟩;refine wpAny_passesOwn hp (a9 (hc pins s1 σ1 H1 _ I1 (turn n σ1 H1 w1)) fun b s2 ⟨H2,I2,q2⟩=>?_)
 cases b with
 |true=>
  obtain ⟨N,hN,q2⟩:=q2;rw[if_pos rfl];refine wpAny_passesOwn hp (a9 (hb pins s2 σ1 H2 _ I2 q2) fun f s3 q3=>?_)
  cases f with
  |next=>
   obtain ⟨σ3,H3,I3,n3⟩:=q3;obtain ⟨m',hm,w3⟩:=hN σ3 H3 n3;exact ⟨m',hm,σ3,H3,I3,w3⟩
  |cont=>
   obtain ⟨σ3,H3,I3,n3⟩:=q3;obtain ⟨m',hm,w3⟩:=hN σ3 H3 n3;exact ⟨m',hm,σ3,H3,I3,w3⟩
  |brk=>exact q3
  |ret v=>exact q3
 |false=>
  rw[if_neg DY];exact wpAny_execs_nil ⟨σ1,H2,I2,q2⟩
structure It where
 go:Nat->Hp->Prop
 yld:Nat->Hp->V->Hp->Prop
 stop:Nat->Hp->Prop
def df (X:Cx) (pins:GT) (H:Hp) (b:Addr):Prop:=
 H b=none/\b≠X.env.locals/\b∉X.fs/\(b∈X.ex∨X.s₀.heap.objs.size<=b)/\(∀x c,X.env.cells.lookup x=some c->c≠b)/\∀p∈X.pn++pins,p.1≠b
theorem aE.fpOk {X:Cx} {pins:GT} {σ:St} {H H':Hp} {s:Shared} {b:Addr} (I:aE X pins σ H s) (hb:s.heap.objs.size<=b) (hn:H' b=none):df X pins H' b:=by
 refine ⟨hn,Ew (EB I.lt hb),I.nofs hb,.inr (ED I.sz hb),fun x c e z=>?_,fun p hp z=>?_⟩
 ·obtain ⟨v,q⟩:=I.cell x c e;exact absurd (EB q.lt (by rw[z];exact hb)) (FW _)
 ·exact absurd (EB (Heap.lt_size (I.pin p hp).1) (by rw[z];exact hb)) (FW _)
structure Turn (P:Program) (w:World) (K:D5) (tg:Expr) (J:It) (fp:GW) (it:Addr) (tn:Nat->Heap->Prop):Prop where
 mem:it∈fp
 obj:∀i h,tn i h->∀b∈fp,∃o,h.get? b=some o/\∀v,o.data≠ .cell v
 keep:∀i h h',tn i h->(∀b∈fp,∀o,h.get? b=some o->h'.get? b=some o)->tn i h'
 item:∀(X:Cx),X.prog=P->X.w=w->X.K=K->X.calm=true->∀(i:Nat) (pins:GT) (s:Shared) (σ:St) (H:Hp) (E:GR),aE X pins σ H s->(∀b∈fp,df X pins H b)->tn i s.heap->J.go i H->
  wpAny (model P w) X.A (pyNext (.ref it)) (fun r s1=>∃u,r=some u/\
   wpAny (model P w) X.A (letOwnedTupleGo tg (.ref it) u) (fun _ s2=>∃x H',aE X pins σ H' s2/\RelV x u/\J.yld i H x H'/\tn (i+1) s2.heap/\∀b∈fp,H' b=none) E s1) E s
 done:∀(X:Cx),X.prog=P->X.w=w->X.K=K->X.calm=true->∀(i:Nat) (pins:GT) (s:Shared) (σ:St) (H:Hp) (E:GR),aE X pins σ H s->(∀b∈fp,df X pins H b)->tn i s.heap->J.stop i H->
  wpAny (model P w) X.A (pyNext (.ref it)) (fun r s1=>r=none/\aE X pins σ H s1) E s
 self:∀(A:Around) (i:Nat) (s:Shared) (Q:GR) (E:GR),tn i s.heap->Q (.ref it) s->wpAny (model P w) A (pyIter (.ref it)) Q E s
abbrev TI:=St->Hp->(It->Hp->Prop)->Prop
def Cg (X:Cx) (pins:GT) (σ:St) (tg:Expr) (R:It->Hp->Prop) (itv:Value) (s2:Shared):Prop:=
 ∃(it:Addr) (fp:GW) (tn:Nat->Heap->Prop) (J:It) (H':Hp),itv= .ref it/\aE X pins σ H' s2/\Turn X.prog X.w X.K tg J fp it tn/\tn 0 s2.heap/\(∀b∈fp,df X pins H' b)/\R J H'
def PI (X:Cx) (tg iter:Expr) (wi:TI):Prop:=
 ∀(pins:GT) (s:Shared) (σ:St) (H:Hp) (R:It->Hp->Prop),aE X pins σ H s->wi σ H R->
  wpAny (model X.prog X.w) X.A (eval iter X.env) (fun v s1=>wpAny (model X.prog X.w) X.A (pyIter v) (Cg X pins σ tg R) X.xe s1) X.xe s
theorem lO {M:Model} {A:Around} {E:GR} {s:Shared} {tg:Expr} {it:Addr} {u:Value} {o:Obj} {n:String} {vs:Array Value} {Q:Unit->Shared->Prop} (ho:s.heap.get? it=some o) (hc:o.cls= .type n) (hd:o.data= .fields vs)
    (hn: ["enumerate","zip","dict_itemiterator","dict_reverseitemiterator","odict_iterator","itertools.zip_longest","itertools.pairwise"].contains n=false) (hQ:Q () s):wpAny M A (letOwnedTupleGo tg (.ref it) u) Q E s:=by
  unfold letOwnedTupleGo;cases tg<;>first
    |exact wpAny_pure hQ
    | (cases u<;>first
        |exact wpAny_pure hQ
        | (refine wpAny_bind (wpAny_load ho ?_)
           rw[hc,hd];show wpAny M A (if (["enumerate","zip","dict_itemiterator","dict_reverseitemiterator","odict_iterator","itertools.zip_longest","itertools.pairwise"].contains n&&vs[0]?==some (rawInt _))=true then _ else _) Q E s
           rw[if_neg (by intro h;rw[hn,Bool.false_and] at h;cases h)]
           exact wpAny_pure hQ))
def zA (K:D5) (a:Addr):It:=
 ⟨fun i H=>∃xs x,aK K H a xs/\xs[i]?=some x,fun i H x H'=>H'=H/\∀xs,aK K H a xs->xs[i]?=some x,fun i H=>∃xs,aK K H a xs/\xs.length<=i⟩
def y6 (lo:Int) (n:Nat):It:=⟨fun i _=>i<n,fun i H x H'=>H'=H/\x= .int (lo+i),fun i _=>n<=i⟩
theorem ut {P:Program} {w:World} {K:D5} {tg:Expr} (a it:Addr):Turn P w K tg (zA K a) [it] it (fun i h=>h.IsListIter it a i) where
 mem:=by simp
 obj:=fun i h st b hb=>by
  have e:b=it:=by simpa using hb
  subst e;obtain ⟨o,e,c,d⟩:=st;exact ⟨o,e,fun v z=>by rw[d] at z;cases z⟩
 keep:=fun i h h' st k=>st.at fun o e=>k it (by simp) o e
 item:=by
  intro X hP hw hK hc i pins s σ H E I hf st hg;subst hP hw hK;obtain ⟨xs,x,hq,hx⟩:=hg;obtain ⟨its,rv,p,hz⟩:=I.list hq;obtain ⟨u,hu,ru⟩:=rv.get hx;obtain ⟨f0,f1,f2,f3,f4,f5⟩:=hf it (by simp)
  refine wpAny_pyNext_list_item st p.isList (x:=u) (by simpa using hu) fun h' st' sb=>?_
  have I1:aE X pins σ H {s with heap:=h'}:=I.turned (t':=s.toks) (fun b o hb e=>(sb.2 b hb).trans e) f0 f1 f3 f4 f5
  obtain ⟨o,e,c,d⟩:=id st';exact ⟨u,rfl,lO (s:={s with heap:=h'}) e c d (by decide) ⟨x,H,I1,ru,⟨rfl,fun ys hy=>by rw[I.list_inj hy hq];exact hx⟩,st',fun b hb=>(hf b hb).1⟩⟩
 done:=by
  intro X hP hw hK hc i pins s σ H E I hf st hg;subst hP hw hK;obtain ⟨xs,hq,hx⟩:=hg;obtain ⟨its,rv,p,hz⟩:=I.list hq;obtain ⟨f0,f1,f2,f3,f4,f5⟩:=hf it (by simp)
  have hl:=rv.length;exact wpAny_pyNext_list_end (I.ok.hd hc) st p.isList (by simp;lia) fun h' eb=>⟨rfl,I.turned (t':=s.toks) (fun b o hb e=>eb b o hb e) f0 f1 f3 f4 f5⟩
 self:=fun _ _ _ _ _ st h=>wpAny_pyIter_listiter st h
theorem qU {P:Program} {w:World} {K:D5} {tg:Expr} (it:Addr) (lo:Int) (n:Nat):Turn P w K tg (y6 lo n) [it] it (fun i h=>IsRangeIter h it (lo+(i:Nat)*1) ((n:Int)-(i:Nat)) 1) where
 mem:=by simp
 obj:=fun i h st b hb=>by
  have e:b=it:=by simpa using hb
  subst e;exact ⟨_,st,fun v z=>by
   have z':Data.fields _=Data.cell v:=z;cases z'⟩
 keep:=fun i h h' st k=>k it (by simp) _ st
 item:=by
  intro X hP hw hK hc i pins s σ H E I hf st hg;subst hP hw hK;obtain ⟨f0,f1,f2,f3,f4,f5⟩:=hf it (by simp)
  have W:=Walks.range (prog:=X.prog) (w:=X.w) (I.ok.hd hc) it lo 1 n;refine W.item i s _ _ hg st fun v h' tk hv st' kk=>?_
  obtain ⟨t,rfl⟩:=hv;have I1:aE X pins σ H {s with heap:=h',toks:=tk}:=I.turned (fun b o hb e=>kk b o (by simpa using hb) e) f0 f1 f3 f4 f5
  refine ⟨_,rfl,lO (s:={s with heap:=h',toks:=tk}) (n:= "range_iterator") st' rfl rfl (by decide) ⟨.int (lo+i),H,I1,⟨t,?_⟩,⟨rfl,rfl⟩,st',fun b hb=>(hf b hb).1⟩⟩
  rw[Int.mul_one]
 done:=by
  intro X hP hw hK hc i pins s σ H E I hf st hg;subst hP hw hK;obtain ⟨f0,f1,f2,f3,f4,f5⟩:=hf it (by simp)
  exact wpAny_pyNext_range_end (I.ok.hd hc) st (by have:n<=i:=hg;lia) fun h' eb=>⟨rfl,I.turned (t':=s.toks) (fun b o hb e=>eb b o hb e) f0 f1 f3 f4 f5⟩
 self:=fun _ _ _ _ _ st h=>wpAny_pyIter_rangeiter st h
variable {tg:Expr}
def A6 (K:D5) (tl:TE):TI:=fun σ H R=>tl σ H fun x H1=>∃a,x= .ref a/\(∃xs,aK K H1 a xs)/\R (zA K a) H1
theorem ba {l:Expr} {tl:TE} (hl:PE X l tl):PI X tg l (A6 X.K tl):=by
 intro pins s σ H R I h;refine a9 (hl pins s σ H _ I h) fun v s1 ⟨x,H1,I1,r1,q1⟩=>?_
 obtain ⟨a,e,⟨xs,hq⟩,q⟩:=q1;subst e;cases r1;obtain ⟨its,rv,p,hz⟩:=I1.list hq;refine wpAny_pyIter_list p.isList ?_;refine ⟨s1.heap.objs.size,[s1.heap.objs.size],_,_,H1,rfl,I1.kept (t':=s1.toks) fun b o e=>Heap.get?_push_of_some _ e,ut a _,⟨_,Heap.get?_push_size _ rfl,rfl,rfl⟩,fun b hb=>?_,q⟩
 have e:b=s1.heap.objs.size:=by simpa using hb
 subst e;exact I1.fpOk (D8 _) (I1.hok.fresh (D8 _))
theorem oE {pins:GT} {σ:St} {H:Hp} {s:Shared} {R:It->Hp->Prop} {E:GR} {lo hi:Int} {t u v:Tok} {tk:Nat} (I:aE X pins σ H s) (h1: -(2^62)<=lo) (h2:lo<2^62) (h3: -(2^62)<=hi) (h4:hi<2^62)
  (q:R (y6 lo (hi-lo).toNat) H):wpAny (model X.prog X.w) X.A (pyIter (.ref s.heap.objs.size)) (Cg X pins σ tg R) E {s with heap:=s.heap.push {cls:= .type "range",data:= .fields #[.int lo t,.int hi u,.int 1 v]},toks:=tk}:=by
 refine wpAny_pyIter_range (IsRange.new ..) (small_one h1 h2 h3 h4) ?_;have I1:aE X pins σ H {s with heap:=s.heap.push {cls:= .type "range",data:= .fields #[.int lo t,.int hi u,.int 1 v]},toks:=tk}:=I.kept fun b o e=>Heap.get?_push_of_some _ e
 refine ⟨(s.heap.push {cls:= .type "range",data:= .fields #[.int lo t,.int hi u,.int 1 v]}).objs.size,[(s.heap.push {cls:= .type "range",data:= .fields #[.int lo t,.int hi u,.int 1 v]}).objs.size],_,_,H,rfl,
  I1.kept (t':=tk) fun b o e=>Heap.get?_push_of_some _ e,qU _ lo (hi-lo).toNat,?_,fun b hb=>?_,q⟩
 ·have e1:lo+((0:Nat):Int)*1=lo:=by simp
  have e2:(((hi-lo).toNat:Nat):Int)-((0:Nat):Int)=Builtin.Range.rangeSize lo hi 1:=by rw[rangeSize_one];split<;>lia
  show IsRangeIter _ _ (lo+((0:Nat):Int)*1) ((((hi-lo).toNat:Nat):Int)-((0:Nat):Int)) 1;rw[e1,e2];exact Heap.get?_push_size _ rfl
 ·have e:b=(s.heap.push {cls:= .type "range",data:= .fields #[.int lo t,.int hi u,.int 1 v]}).objs.size:=by simpa using hb
  subst e;exact I1.fpOk (D8 _) (I1.hok.fresh (D8 _))
def A7 (ta:TA):TI:=fun σ H R=>ta σ H fun vs H1=>∃j:Int,vs= [.int j]/\ -(2^62)<=j/\j<2^62/\R (y6 0 j.toNat) H1
def A8 (ta:TA):TI:=fun σ H R=>ta σ H fun vs H1=>∃i j:Int,vs= [.int i,.int j]/\(-(2^62)<=i/\i<2^62/\ -(2^62)<=j/\j<2^62)/\R (y6 i (j-i).toNat) H1
theorem cZ {a:Expr} {ta:TA} {p pos:Pos} (hg:Gl X "range") (hm:X.mg "range" =none) (ha:PA X [a] ta) (hs:starEach [a] X.env= [(false,eval a X.env)]:=by rfl):PI X tg (.Call (.Name "range" p) [a] [] pos) (A7 ta):=by
 intro pins s σ H R I h;refine Call_ (cW I hg hm boot_range (EE (a9 (ha pos pins s σ H _ I h) fun us s1 ⟨vs,H1,I1,r1,q1⟩=>?_) hs rfl))
 obtain ⟨j,e,q1,q2,q⟩:=q1;subst e;cases r1 with
 |cons r rr=>
  cases rr;obtain ⟨t,rfl⟩:=r;exact call_range_1 (oE I1 (by lia) (by lia) q1 q2 (by simpa using q))
theorem lP {a b:Expr} {ta:TA} {p pos:Pos} (hg:Gl X "range") (hm:X.mg "range" =none) (ha:PA X [a,b] ta) (hs:starEach [a,b] X.env= [(false,eval a X.env),(false,eval b X.env)]:=by rfl) (hs2:starEach [b] X.env= [(false,eval b X.env)]:=by rfl):
  PI X tg (.Call (.Name "range" p) [a,b] [] pos) (A8 ta):=by
 intro pins s σ H R I h;refine Call_ (cW I hg hm boot_range (EE (a9 (ha pos pins s σ H _ I h) fun us s1 ⟨vs,H1,I1,r1,q1⟩=>?_) (by rw[hs,hs2]) (by rw[hs2];rfl)))
 obtain ⟨i,j,e,⟨q1,q2,q3,q4⟩,q⟩:=q1;subst e;cases r1 with
 |cons r rr=>
  cases rr with
  |cons r' rr=>
   cases rr;obtain ⟨t,rfl⟩:=r;obtain ⟨t',rfl⟩:=r';exact call_range_2 (oE I1 q1 q2 q3 q4 q)
def Cv (wi:TI) (g:TG) (tb:TS):TS:=fun D σ H=>wi σ H fun J H1=>∃W:Nat->Nat->St->Hp->Prop,(∃m,W 0 m σ H1)/\∀i m σ H,W i m σ H->
 (J.stop i H/\D.nx σ H)∨(J.go i H/\∃N:St->Hp->Prop,(∀σ' H',N σ' H'->∃m',m'<m/\W (i+1) m' σ' H')/\∀x H',J.yld i H x H'->g x σ H' fun σ2 H2=>tb {D with nx:=N,ct:=N,bk:=D.nx} σ2 H2)
def iQ (fp:GW) (h:Heap):GT:=fp.filterMap fun b=>(h.get? b).map fun o=>(b,o)
theorem bu {fp:GW} {h:Heap} {b:Addr} {o:Obj} (hb:b∈fp) (e:h.get? b=some o):(b,o)∈iQ fp h:=List.mem_filterMap.mpr ⟨b,hb,by rw[e];rfl⟩
theorem uu {fp:GW} {h:Heap} {p:Addr×Obj} (hp:p∈iQ fp h):p.1∈fp/\h.get? p.1=some p.2:=by
 obtain ⟨b,hb,e⟩:=List.mem_filterMap.mp hp;cases q:h.get? b with
 |none=>rw[q] at e;cases e
 |some o=>
  rw[q] at e;have e':(b,o)=p:=Es e;subst e';exact ⟨hb,q⟩
theorem aE.pinned {pins:GT} {σ:St} {H:Hp} {s:Shared} {fp:GW} (I:aE X pins σ H s) (hf:∀b∈fp,df X pins H b) (ho:∀b∈fp,∃o,s.heap.get? b=some o/\∀v,o.data≠ .cell v):aE X (pins++iQ fp s.heap) σ H s:=
 I.pins_of fun p hp=>(DO.mp hp).elim (fun z=>I.pin p (DJ _ z)) fun z=>by
  obtain ⟨hb,e⟩:=uu z;obtain ⟨f0,f1,f2,_⟩:=hf p.1 hb;obtain ⟨o,e',d⟩:=ho p.1 hb;rw[e] at e';cases e';exact ⟨e,f0,f1,f2,d⟩
theorem aE.unpinned {pins pl:GT} {σ:St} {H:Hp} {s:Shared} (I:aE X (pins++pl) σ H s):aE X pins σ H s:=I.pins_of fun p hp=>I.pin p (DJ _ (F7 _ hp))
theorem aY {iter:Expr} {body:List Stmt} {wi:TI} {g:TG} {tb:TS} {pos:Pos} (hp:PassesOwn (model X.prog X.w) X.A X.env X.xe) (hc:X.calm=true) (hi:PI X tg iter wi) (hg:PG X tg g) (hb:lN X body tb)
  (hs:∀x,foldedSetIterable iter X.env x=pure x:=by intro _;rfl):PS X (.For tg iter body [] pos) (Cv wi g tb):=by
 intro pins s σ H D I h;refine wpAny_For (a9 (hi pins s σ H _ I h) fun v s1 h1=>a9 h1 fun itv s2 h2=>?_) hs
 obtain ⟨it,fp,tn,J,H2,e,I2,T,st2,f2,W,⟨m0,w0⟩,turn⟩:=h2;subst e;have stat:∀{H':Hp},(∀b∈fp,H' b=none)->∀b∈fp,df X pins H' b:=fun hn b hb=>⟨hn b hb,(f2 b hb).2⟩
 refine codeAny_forLoop_any (fun n s'=>∃i σ' H',aE X pins σ' H' s'/\tn i s'.heap/\(∀b∈fp,H' b=none)/\W i n σ' H') ?_ m0 ⟨0,σ,H2,I2,st2,fun b hb=>(f2 b hb).1,w0⟩
 rintro n s3 ⟨i,σ3,H3,I3,st3,fr3,w3⟩;rcases turn i n σ3 H3 w3 with ⟨stop,qn⟩|⟨go,N,hN,step⟩
 ·refine wpAny_passesOwn hp (a9 (T.done X rfl rfl rfl hc i pins s3 σ3 H3 X.xe I3 (stat fr3) st3 stop) fun r s4 ⟨hr,I4⟩=>?_)
  subst hr;exact wpAny_execs_nil ⟨σ3,H3,I4,qn⟩
 ·refine wpAny_passesOwn hp (a9 (T.item X rfl rfl rfl hc i pins s3 σ3 H3 X.xe I3 (stat fr3) st3 go) fun r s4 ⟨u,hr,h4⟩=>?_)
  subst hr;refine wpAny_passesOwn hp (a9 h4 fun _ s5 ⟨x,H5,I5,r5,y5,st5,fr5⟩=>?_)
  have I5':=I5.pinned (stat fr5) (T.obj _ _ st5);refine wpAny_passesOwn hp (a9 (hg _ s5 σ3 H5 x u _ I5' r5 (step x H5 y5)) fun _ s6 ⟨σ6,H6,I6,q6⟩=>?_)
  refine wpAny_passesOwn hp (a9 (hb _ s6 σ6 H6 _ I6 q6) fun f s7 q7=>?_)
  have again:∀{σ7:St} {H7:Hp},aE X (pins++iQ fp s5.heap) σ7 H7 s7->N σ7 H7->∃m,m<n/\∃i σ' H',aE X pins σ' H' s7/\tn i s7.heap/\(∀b∈fp,H' b=none)/\W i m σ' H':=fun {σ7 H7} I7 n7=>by
   obtain ⟨m',hm,w7⟩:=hN σ7 H7 n7;refine ⟨m',hm,i+1,σ7,H7,I7.unpinned,T.keep _ _ _ st5 fun b hb o e=>(I7.pin (b,o) (DJ _ (DJ _ (bu hb e)))).1,fun b hb=>?_,w7⟩
   obtain ⟨o,e,d⟩:=T.obj _ _ st5 b hb;exact (I7.pin (b,o) (DJ _ (DJ _ (bu hb e)))).2.1
  cases f with
  |next=>obtain ⟨σ7,H7,I7,n7⟩:=q7;exact again I7 n7
  |cont=>obtain ⟨σ7,H7,I7,n7⟩:=q7;exact again I7 n7
  |brk=>obtain ⟨σ7,H7,I7,q7⟩:=q7;exact ⟨σ7,H7,I7.unpinned,q7⟩
  |ret v=>obtain ⟨x7,σ7,H7,I7,r7,q7⟩:=q7;exact ⟨x7,σ7,H7,I7.unpinned,r7,q7⟩
theorem bI {K:D5} {a:Addr} {xs:List V} {g:TG} {tb:TS} {D:Ends} {σ:St} {H:Hp} (Pv:Nat->St->Hp->Prop) (h0:Pv 0 σ H) (hl:∀i σ H,i<=xs.length->Pv i σ H->aK K H a xs)
  (hs:∀i x σ H,xs[i]?=some x->Pv i σ H->g x σ H fun σ2 H2=>tb {D with nx:=Pv (i+1),ct:=Pv (i+1),bk:=D.nx} σ2 H2) (hd:∀σ H,Pv xs.length σ H->D.nx σ H):
  ∃W:Nat->Nat->St->Hp->Prop,(∃m,W 0 m σ H)/\∀i m σ H,W i m σ H->
   ((zA K a).stop i H/\D.nx σ H)∨((zA K a).go i H/\∃N:St->Hp->Prop,(∀σ' H',N σ' H'->∃m',m'<m/\W (i+1) m' σ' H')/\∀x H',(zA K a).yld i H x H'->g x σ H' fun σ2 H2=>tb {D with nx:=N,ct:=N,bk:=D.nx} σ2 H2):=by
 refine ⟨fun i m σ H=>m=xs.length-i/\i<=xs.length/\Pv i σ H,⟨xs.length,by simp,EC _,h0⟩,?_⟩
 rintro i m σ H ⟨rfl,hi,p⟩;have q:=hl i σ H hi p
 by_cases hlt:i<xs.length
 ·refine .inr ⟨⟨xs,xs[i],q,by simp[hlt]⟩,Pv (i+1),fun σ' H' p'=>⟨xs.length-(i+1),by lia,rfl,hlt,p'⟩,fun x H' y=>?_⟩
  obtain ⟨e,y⟩:=y;subst e;exact hs i x σ _ (y xs q) p
 ·have e:i=xs.length:=by lia
  subst e;exact .inl ⟨⟨xs,q,D8 _⟩,hd σ H p⟩
theorem dj {lo:Int} {n:Nat} {g:TG} {tb:TS} {D:Ends} {σ:St} {H:Hp} (Pv:Nat->St->Hp->Prop) (h0:Pv 0 σ H)
  (hs:∀i σ H,i<n->Pv i σ H->g (.int (lo+i)) σ H fun σ2 H2=>tb {D with nx:=Pv (i+1),ct:=Pv (i+1),bk:=D.nx} σ2 H2) (hd:∀σ H,Pv n σ H->D.nx σ H):
  ∃W:Nat->Nat->St->Hp->Prop,(∃m,W 0 m σ H)/\∀i m σ H,W i m σ H->
   ((y6 lo n).stop i H/\D.nx σ H)∨((y6 lo n).go i H/\∃N:St->Hp->Prop,(∀σ' H',N σ' H'->∃m',m'<m/\W (i+1) m' σ' H')/\∀x H',(y6 lo n).yld i H x H'->g x σ H' fun σ2 H2=>tb {D with nx:=N,ct:=N,bk:=D.nx} σ2 H2):=by
 refine ⟨fun i m σ H=>m=n-i/\i<=n/\Pv i σ H,⟨n,by simp,EC _,h0⟩,?_⟩
 rintro i m σ H ⟨rfl,hi,p⟩
 by_cases hlt:i<n
 ·refine .inr ⟨hlt,Pv (i+1),fun σ' H' p'=>⟨n-(i+1),by lia,rfl,hlt,p'⟩,fun x H' y=>?_⟩
  obtain ⟨e,y⟩:=y;subst e y;exact hs i σ _ hlt p
 ·have e:i=n:=by lia
  subst e;exact .inl ⟨D8 _,hd σ H p⟩
theorem vV {c:TT} {tb:TS} {D:Ends} {σ:St} {H:Hp} (Pv:St->Hp->Prop) (μ:St->Hp->Nat) (h0:Pv σ H)
  (hs:∀σ H,Pv σ H->c σ H fun b H1=>if b=true then tb {D with nx:=fun σ' H'=>Pv σ' H'/\μ σ' H'<μ σ H,ct:=fun σ' H'=>Pv σ' H'/\μ σ' H'<μ σ H,bk:=D.nx} σ H1 else D.nx σ H1)
  (mono:∀σ H Q Q',(∀b H1,Q b H1->Q' b H1)->c σ H Q->c σ H Q'):vT c tb D σ H:=by
 refine ⟨fun m σ H=>m=μ σ H/\Pv σ H,⟨_,rfl,h0⟩,?_⟩
 rintro m σ H ⟨rfl,p⟩;refine mono σ H _ _ (fun b H1 q=>?_) (hs σ H p)
 cases b with
 |true=>exact ⟨_,fun σ' H' ⟨p',l⟩=>⟨_,l,rfl,p'⟩,q⟩
 |false=>exact q
abbrev R2:=V->V->Hp->VK->Prop
def fY (X:Cx) (f:Value->Value->Sem Value) (r:R2):Prop:=
 ∀(pins:GT) (s:Shared) (σ:St) (H:Hp) (x y:V) (v u:Value) (Q:VK),aE X pins σ H s->RelV x v->RelV y u->r x y H Q->
  wpAny (model X.prog X.w) X.A (f v u) (EP X pins σ Q) X.xe s
def Cw (X:Cx) (f:Value->Sem Value) (r:V->Hp->VK->Prop):Prop:=
 ∀(pins:GT) (s:Shared) (σ:St) (H:Hp) (x:V) (v:Value) (Q:VK),aE X pins σ H s->RelV x v->r x H Q->
  wpAny (model X.prog X.w) X.A (f v) (EP X pins σ Q) X.xe s
def c4 (X:Cx) (f:Value) (r:List V->Hp->VK->Prop):Prop:=
 ∀(pins:GT) (s:Shared) (σ:St) (H:Hp) (xs:List V) (us:GX) (Q:VK),aE X pins σ H s->aS xs us->r xs H Q->
  wpAny (model X.prog X.w) X.A (call f us) (EP X pins σ Q) X.xe s
def Ch (r:R2) (ta tb:TE):TE:=fun σ H Q=>ta σ H fun x H1=>tb σ H1 fun y H2=>r x y H2 Q
def Du (r:V->Hp->VK->Prop) (ta:TE):TE:=fun σ H Q=>ta σ H fun x H1=>r x H1 Q
def rI (C:Int->Int->Prop) (g:Int->Int->V):R2:=fun x y H Q=>∃i j,x= .int i/\y= .int j/\C i j/\Q (g i j) H
def y8 (g:Int->Int->V):R2:=fun x y H Q=>∃i j,x= .int i/\y= .int j/\Q (g i j) H
def rU (g:Int->V):V->Hp->VK->Prop:=fun x H Q=>∃i,x= .int i/\Q (g i) H
section
variable {a b c:Expr} {ta tb tc:TE}
theorem zB (ha:PE X a ta) (hb:PE X b tb) {pins:GT} {s:Shared} {σ:St} {H:Hp} {R:V->V->Hp->Prop} (I:aE X pins σ H s)
  (h:ta σ H fun x H1=>tb σ H1 fun y H2=>R x y H2) {Q:GR} {f:Value->Value->Sem Value}
  (hf:∀v u s2 x y H2,aE X pins σ H2 s2->RelV x v->RelV y u->R x y H2->wpAny (model X.prog X.w) X.A (f v u) Q X.xe s2):
  wpAny (model X.prog X.w) X.A (eval a X.env) (fun v s₁=>wpAny (model X.prog X.w) X.A (eval b X.env) (fun u s₂=>wpAny (model X.prog X.w) X.A (f v u) Q X.xe s₂) X.xe s₁) X.xe s:=by
 refine a9 (ha pins s σ H _ I h) fun v s1 ⟨x,H1,I1,r1,q1⟩=>?_
 refine a9 (hb pins s1 σ H1 _ I1 q1) fun u s2 ⟨y,H2,I2,r2,q2⟩=>?_
 exact hf v u s2 x y H2 I2 r1 r2 q2
theorem aH {op:Operator} {r:R2} (ho:fY X (binaryOp op) r) (ha:PE X a ta) (hb:PE X b tb):PE X (.BinOp a op b pos) (Ch r ta tb):=by
 intro pins s σ H Q I h;exact wpAny_BinOp (zB ha hb I h fun v u s2 x y H2 I2 rx ry q=>ho pins s2 σ H2 x y v u Q I2 rx ry q)
theorem y9 {op:UnaryOp} {r:V->Hp->VK->Prop} (ho:Cw X (unaryOp op) r) (ha:PE X a ta):PE X (.UnaryOp op a pos) (Du r ta):=by
 intro pins s σ H Q I h;exact UnaryOp_ (a9 (ha pins s σ H _ I h) fun v s1 ⟨x,H1,I1,r1,q1⟩=>ho pins s1 σ H1 x v Q I1 r1 q1)
theorem Ci {f:Value->Value->Sem Value} {C:Int->Int->Prop} {g:Int->Int->Int}
  (rule:∀(i j:Int) (t u:Tok) (s:Shared) (Q:GR) (E:GR),C i j->Q (.int (g i j) s.toks) {s with toks:=s.toks+1}->wpAny (model X.prog X.w) X.A (f (.int i t) (.int j u)) Q E s):
  fY X f (rI C fun i j=> .int (g i j)):=by
 intro pins s σ H x y v u Q I rx ry h;obtain ⟨i,j,rfl,rfl,hc,q⟩:=h;obtain ⟨t,rfl⟩:=rx;obtain ⟨t',rfl⟩:=ry;exact rule i j t t' s _ _ hc ⟨.int (g i j),H,I.tok _,⟨_,rfl⟩,q⟩
theorem A9 {f:Value->Value->Sem Value} {g:Int->Int->Int}
  (rule:∀(i j:Int) (t u:Tok) (s:Shared) (Q:GR) (E:GR),Q (.int (g i j) s.toks) {s with toks:=s.toks+1}->wpAny (model X.prog X.w) X.A (f (.int i t) (.int j u)) Q E s):
  fY X f (y8 fun i j=> .int (g i j)):=by
 intro pins s σ H x y v u Q I rx ry h;obtain ⟨i,j,rfl,rfl,q⟩:=h;obtain ⟨t,rfl⟩:=rx;obtain ⟨t',rfl⟩:=ry;exact rule i j t t' s _ _ ⟨.int (g i j),H,I.tok _,⟨_,rfl⟩,q⟩
theorem xS {f:Value->Value->Sem Value} {g:Int->Int->Bool}
  (rule:∀(i j:Int) (t u:Tok) (s:Shared) (Q:GR) (E:GR),Q (.bool (g i j)) s->wpAny (model X.prog X.w) X.A (f (.int i t) (.int j u)) Q E s):
  fY X f (y8 fun i j=> .bl (g i j)):=by
 intro pins s σ H x y v u Q I rx ry h;obtain ⟨i,j,rfl,rfl,q⟩:=h;obtain ⟨t,rfl⟩:=rx;obtain ⟨t',rfl⟩:=ry;exact rule i j t t' s _ _ ⟨.bl (g i j),H,I,rfl,q⟩
theorem bz:fY X (binaryOp .Add) (y8 fun i j=> .int (i+j)):=A9 fun _ _ _ _ _ _ _ q=>add_int q
theorem jZ:fY X (binaryOp .Sub) (y8 fun i j=> .int (i-j)):=A9 fun _ _ _ _ _ _ _ q=>sub_int q
theorem bO:fY X (binaryOp .Mod) (rI (fun _ j=>j≠0) fun i j=> .int (i.fmod j)):=Ci fun _ _ _ _ _ _ _ hc q=>mod_int' hc q
theorem Dv {f:Value->Sem Value} {g:Int->Int}
  (rule:∀(i:Int) (t:Tok) (s:Shared) (Q:GR) (E:GR),Q (.int (g i) s.toks) {s with toks:=s.toks+1}->wpAny (model X.prog X.w) X.A (f (.int i t)) Q E s):
  Cw X f (rU fun i=> .int (g i)):=by
 intro pins s σ H x v Q I rx h;obtain ⟨i,rfl,q⟩:=h;obtain ⟨t,rfl⟩:=rx;exact rule i t s _ _ ⟨.int (g i),H,I.tok _,⟨_,rfl⟩,q⟩
theorem vW:Cw X (unaryOp .USub) (rU fun i=> .int (-i)):=Dv fun _ _ _ _ _ q=>neg_int q
end
def Ba:V->V->Bool
 | .non,.non=>true| .non,.int _=>true| .int _,.non=>true| .non,.bl _=>true| .bl _,.non=>true| .non,.str _=>true| .str _,.non=>true
 | .int _,.int _=>true| .bl _,.bl _=>true| .str _,.str _=>true| .byt _,.byt _=>true
 | .int _,.str _=>true| .str _,.int _=>true| .bl _,.str _=>true| .str _,.bl _=>true
 |_,_=>false
def Dw:R2:=fun x y H Q=>Ba x y=true/\Q (.bl (decide (x=y))) H
def Dy:R2:=fun x y H Q=>Ba x y=true/\Q (.bl (!decide (x=y))) H
theorem sM {i j:Int}:decide (V.int i=V.int j)=(i==j):=by
 rw[Bool.eq_iff_iff];simp
theorem vX {i j:Bool}:decide (V.bl i=V.bl j)=(i==j):=by
 rw[Bool.eq_iff_iff];simp
theorem sN {i j:Str}:decide (V.str i=V.str j)=(i==j):=by
 rw[Bool.eq_iff_iff];simp
theorem sO {i j:Array UInt8}:decide (V.byt i=V.byt j)=(i.toList==j.toList):=by
 rw[Bool.eq_iff_iff];cases i;cases j;simp
section
variable {a b c:Expr} {ta tb tc:TE}
theorem bh {pins:GT} {σ:St} {H:Hp} {s:Shared} {Q:VK} {k k':Bool} (I:aE X pins σ H s) (q:Q (.bl k) H) (e:k=k'):EP X pins σ Q (.bool k') s:=by
 subst e;exact ⟨.bl k,H,I,rfl,q⟩
theorem j0:fY X (compareOp .Eq) Dw:=by
 intro pins s σ H x y v u Q I rx ry h;obtain ⟨hs,q⟩:=h;cases x with
 |non=>
  cases rx;cases y with
  |non=>cases ry;exact PySem.EqNone.eq_none_none (bh I q (by simp))
  |bl j=>cases ry;exact PySem.EqNone.eq_none_bool (bh I q (by simp))
  |int j=>obtain ⟨t',rfl⟩:=ry;exact PySem.EqNone.eq_none_int (bh I q (by simp))
  |str j=>obtain ⟨t',rfl⟩:=ry;exact PySem.EqNone.eq_none_str (bh I q (by simp))
  |_=>exact absurd (show false=true from hs) DY
 |bl i=>
  cases rx;cases y with
  |non=>cases ry;exact PySem.EqNone.eq_bool_none (bh I q (by simp))
  |bl j=>cases ry;exact eq_bool (bh I q vX)
  |str j=>obtain ⟨t',rfl⟩:=ry;exact PySem.EqMixed.eq_bool_str (bh I q (by simp))
  |_=>exact absurd (show false=true from hs) DY
 |int i=>
  obtain ⟨t,rfl⟩:=rx;cases y with
  |non=>cases ry;exact PySem.EqNone.eq_int_none (bh I q (by simp))
  |int j=>obtain ⟨t',rfl⟩:=ry;exact eq_int (bh I q sM)
  |str j=>obtain ⟨t',rfl⟩:=ry;exact PySem.EqMixed.eq_int_str (bh I q (by simp))
  |_=>exact absurd (show false=true from hs) DY
 |str i=>
  obtain ⟨t,rfl⟩:=rx;cases y with
  |non=>cases ry;exact PySem.EqNone.eq_str_none (bh I q (by simp))
  |bl j=>cases ry;exact PySem.EqMixed.eq_str_bool (bh I q (by simp))
  |int j=>obtain ⟨t',rfl⟩:=ry;exact PySem.EqMixed.eq_str_int (bh I q (by simp))
  |str j=>obtain ⟨t',rfl⟩:=ry;exact eq_str (bh I q sN)
  |_=>exact absurd (show false=true from hs) DY
 |byt i=>
  obtain ⟨t,rfl⟩:=rx;cases y with
  |byt j=>obtain ⟨t',rfl⟩:=ry;exact PySem.W.eq_bytes (bh I q sO)
  |_=>exact absurd (show false=true from hs) DY
 |_=>cases y<;>exact absurd (show false=true from hs) DY
theorem lQ:fY X (compareOp .NotEq) Dy:=by
 intro pins s σ H x y v u Q I rx ry h;obtain ⟨hs,q⟩:=h;cases x with
 |non=>
  cases rx;cases y with
  |non=>cases ry;exact PySem.EqNone.ne_none_none (bh I q (by simp))
  |bl j=>cases ry;exact PySem.EqNone.ne_none_bool (bh I q (by simp))
  |int j=>obtain ⟨t',rfl⟩:=ry;exact PySem.EqNone.ne_none_int (bh I q (by simp))
  |str j=>obtain ⟨t',rfl⟩:=ry;exact PySem.EqNone.ne_none_str (bh I q (by simp))
  |_=>exact absurd (show false=true from hs) DY
 |bl i=>
  cases rx;cases y with
  |non=>cases ry;exact PySem.EqNone.ne_bool_none (bh I q (by simp))
  |bl j=>cases ry;exact ne_bool (bh I q (congrArg not vX))
  |str j=>obtain ⟨t',rfl⟩:=ry;exact PySem.EqMixed.ne_bool_str (bh I q (by simp))
  |_=>exact absurd (show false=true from hs) DY
 |int i=>
  obtain ⟨t,rfl⟩:=rx;cases y with
  |non=>cases ry;exact PySem.EqNone.ne_int_none (bh I q (by simp))
  |int j=>obtain ⟨t',rfl⟩:=ry;exact ne_int (bh I q (congrArg not sM))
  |str j=>obtain ⟨t',rfl⟩:=ry;exact PySem.EqMixed.ne_int_str (bh I q (by simp))
  |_=>exact absurd (show false=true from hs) DY
 |str i=>
  obtain ⟨t,rfl⟩:=rx;cases y with
  |non=>cases ry;exact PySem.EqNone.ne_str_none (bh I q (by simp))
  |bl j=>cases ry;exact PySem.EqMixed.ne_str_bool (bh I q (by simp))
  |int j=>obtain ⟨t',rfl⟩:=ry;exact PySem.EqMixed.ne_str_int (bh I q (by simp))
  |str j=>obtain ⟨t',rfl⟩:=ry;exact ne_str (bh I q (congrArg not sN))
  |_=>exact absurd (show false=true from hs) DY
 |byt i=>
  obtain ⟨t,rfl⟩:=rx;cases y with
  |byt j=>obtain ⟨t',rfl⟩:=ry;exact PySem.W.ne_bytes (bh I q (congrArg not sO))
  |_=>exact absurd (show false=true from hs) DY
 |_=>cases y<;>exact absurd (show false=true from hs) DY
theorem eZ:fY X (compareOp .Lt) (y8 fun i j=> .bl (decide (i<j))):=xS fun _ _ _ _ _ _ _ q=>lt_int q
theorem cR:fY X (compareOp .LtE) (y8 fun i j=> .bl (decide (i<=j))):=xS fun _ _ _ _ _ _ _ q=>le_int q
theorem im:fY X (compareOp .Gt) (y8 fun i j=> .bl (decide (j<i))):=xS fun _ _ _ _ _ _ _ q=>gt_int q
theorem Bb:fY X (compareOp .GtE) (y8 fun i j=> .bl (decide (j<=i))):=xS fun _ _ _ _ _ _ _ q=>ge_int q
theorem zC:fY X (compareOp .Is) (fun x y H Q=>y= .non/\Q (.bl (decide (x= .non))) H):=by
 intro pins s σ H x y v u Q I rx ry h;obtain ⟨rfl,q⟩:=h;cases ry;refine is_none_gen (bh I q ?_);cases x<;>first
  |(cases rx;rfl)
  |(obtain ⟨t,rfl⟩:=rx;rfl)
theorem nj:fY X (compareOp .IsNot) (fun x y H Q=>y= .non/\Q (.bl (!decide (x= .non))) H):=by
 intro pins s σ H x y v u Q I rx ry h;obtain ⟨rfl,q⟩:=h;cases ry;refine isnot_none_gen (bh I q ?_);cases x<;>first
  |(cases rx;rfl)
  |(obtain ⟨t,rfl⟩:=rx;rfl)
theorem aV (b:Expr) {op:CmpOp} (h:op≠ .In:=by decide) (h2:op≠ .NotIn:=by decide):behindInMarks op b=false:=by
 have e1:(op==CmpOp.In)=false:=by cases op<;>first|rfl|exact absurd rfl h
 have e2:(op==CmpOp.NotIn)=false:=by cases op<;>first|rfl|exact absurd rfl h2
 cases b<;>simp[behindInMarks,e1,e2]
theorem jO {op:CmpOp} {r:R2} (ho:fY X (compareOp op) r) (ha:PE X a ta) (hb:PE X b tb) (hm:behindInMarks op b=false):PE X (.Compare a [op] [b] pos) (Ch r ta tb):=by
 intro pins s σ H Q I h;exact wpAny_Compare1 (zB ha hb I h fun v u s2 x y H2 I2 rx ry q=>ho pins s2 σ H2 x y v u Q I2 rx ry q) hm
def vY (t:TE):TT:=fun σ H Q=>t σ H fun x H'=>∃k,x= .bl k/\Q k H'
theorem aP {op:CmpOp} {r:R2} (ho:fY X (compareOp op) r) (ha:PE X a ta) (hb:PE X b tb) (hm:behindInMarks op b=false):PT X (.Compare a [op] [b] pos) (vY (Ch r ta tb)):=by
 intro pins s σ H Q I h;refine wpAny_isTrue_Compare1 (a9 (ha pins s σ H _ I h) fun v s1 ⟨x,H1,I1,r1,q1⟩=>a9 (hb pins s1 σ H1 _ I1 q1) fun u s2 ⟨y,H2,I2,r2,q2⟩=>
  a9 (ho pins s2 σ H2 x y v u _ I2 r1 r2 q2) fun c s3 ⟨z,H3,I3,r3,k,e,q3⟩=>?_) hm
 subst e;cases r3;exact wpAny_truthy_bool ⟨H3,I3,q3⟩
def vZ (r r':R2) (ta tb tc:TE):TE:=fun σ H Q=>ta σ H fun x H1=>tb σ H1 fun y H2=>r x y H2 fun z H3=>∃k,z= .bl k/\
 (if k=true then tc σ H3 fun w' H4=>r' y w' H4 Q else Q (.bl false) H3)
theorem v0 {op op':CmpOp} {r r':R2} (ho:fY X (compareOp op) r) (ho':fY X (compareOp op') r') (ha:PE X a ta) (hb:PE X b tb) (hc:PE X c tc)
  (hm:lastMarks [op,op'] [b,c]=false:=by with_unfolding_all rfl):PE X (.Compare a [op,op'] [b,c] pos) (vZ r r' ta tb tc):=by
 intro pins s σ H Q I h;refine Compare_chain (a9 (ha pins s σ H _ I h) fun v s1 ⟨x,H1,I1,r1,q1⟩=>chain_link (a9 (hb pins s1 σ H1 _ I1 q1) fun u s2 ⟨y,H2,I2,r2,q2⟩=>
  a9 (ho pins s2 σ H2 x y v u _ I2 r1 r2 q2) fun d s3 ⟨z,H3,I3,r3,k,e,q3⟩=>?_)) hm
 subst e;cases r3;refine wpAny_truthy_bool ?_;cases k with
 |false=>exact ite_ff ⟨.bl false,H3,I3,rfl,q3⟩
 |true=>exact ite_tt (chain_last (a9 (hc pins s3 σ H3 _ I3 q3) fun w' s4 ⟨z',H4,I4,r4,q4⟩=>ho' pins s4 σ H4 y z' u w' Q I4 r2 r4 q4))
theorem cH {op op':CmpOp} {r r':R2} (ho:fY X (compareOp op) r) (ho':fY X (compareOp op') r') (ha:PE X a ta) (hb:PE X b tb) (hc:PE X c tc)
  (hm:lastMarks [op,op'] [b,c]=false:=by with_unfolding_all rfl):PT X (.Compare a [op,op'] [b,c] pos) (vY (vZ r r' ta tb tc)):=by
 intro pins s σ H Q I h;refine isTrue_chain (a9 (ha pins s σ H _ I h) fun v s1 ⟨x,H1,I1,r1,q1⟩=>test_link (a9 (hb pins s1 σ H1 _ I1 q1) fun u s2 ⟨y,H2,I2,r2,q2⟩=>
  a9 (ho pins s2 σ H2 x y v u _ I2 r1 r2 q2) fun d s3 ⟨z,H3,I3,r3,k,e,q3⟩=>?_)) hm
 subst e;cases r3;refine wpAny_truthy_bool ?_;cases k with
 |false=>
  obtain ⟨k',e',q'⟩:=q3;cases e';exact ite_ff ⟨H3,I3,q'⟩
 |true=>
  refine ite_tt (test_last (a9 (hc pins s3 σ H3 _ I3 q3) fun w' s4 ⟨z',H4,I4,r4,q4⟩=>a9 (ho' pins s4 σ H4 y z' u w' _ I4 r2 r4 q4) fun d' s5 ⟨z2,H5,I5,r5,k2,e2,q5⟩=>?_))
  subst e2;cases r5;exact wpAny_truthy_bool ⟨H5,I5,q5⟩
theorem iR:(sizeLine:Nat)<2^63:=by rw[sizeLine_eq];decide
theorem j2:fY X (binaryOp .Add) (fun x y H Q=>∃i j,x= .str i/\y= .str j/\i.length+j.length<=sizeLine/\Q (.str (i++j)) H):=by
 intro pins s σ H x y v u Q I rx ry h;obtain ⟨i,j,rfl,rfl,hz,q⟩:=h;obtain ⟨t,rfl⟩:=rx;obtain ⟨t',rfl⟩:=ry;exact add_str (fun t' tk=>⟨.str (i++j),H,I.tok _,⟨_,rfl⟩,q⟩) hz
theorem vals1 {x:V} {us:GX} (r:aS [x] us):∃u,us= [u]/\RelV x u:=by
 cases r with
 |cons r1 r2=>cases r2;exact ⟨_,rfl,r1⟩
theorem vals2 {x y:V} {us:GX} (r:aS [x,y] us):∃u w',us= [u,w']/\RelV x u/\RelV y w':=by
 cases r with
 |cons r1 r2=>
  cases r2 with
  |cons r3 r4=>cases r4;exact ⟨_,_,rfl,r1,r3⟩
theorem v3:c4 X (.builtin "abs") (fun xs H Q=>∃i,xs= [.int i]/\Q (.int (if i<0 then-i else i)) H):=by
 intro pins s σ H xs us Q I r h;obtain ⟨i,rfl,q⟩:=h;obtain ⟨u,rfl,t,rfl⟩:=vals1 r;exact call_abs_int fun u tk=>⟨.int (if i<0 then-i else i),H,I.tok _,⟨_,rfl⟩,q⟩
theorem uv (hc:X.calm=true):c4 X (.builtin "max") (fun xs H Q=>∃i j,xs= [.int i,.int j]/\Q (.int (if j>i then j else i)) H):=by
 intro pins s σ H xs us Q I r h;obtain ⟨i,j,rfl,q⟩:=h;obtain ⟨u,w',rfl,⟨t,rfl⟩,⟨t',rfl⟩⟩:=vals2 r;refine max_two_ints (I.ok.hd hc) fun h' tk k=>⟨_,H,I.kept k,?_,q⟩
 by_cases hj:j>i
 ·rw[if_pos hj,if_pos hj];exact ⟨_,rfl⟩
 ·rw[if_neg hj,if_neg hj];exact ⟨_,rfl⟩
end
structure ux (h:Heap) (x dx C:Addr) (mA:GS):Prop where
 obj:h.get? x=some (FH C dx)
 ns:h.Ns1 dx mA
 ne:dx≠x
theorem uy {h:Heap} {dx:Addr} {mA:GS} (n:h.Ns1 dx mA):∃od,h.get? dx=some od/\∀name,PySem.W.lookIn name od=some (mA name):=by
 obtain ⟨o,es,ep,ho,hd,hk,_,hm⟩:=n;refine ⟨o,ho,fun name=>?_⟩
 have e:=hm name;unfold nsFind findBy at e;rw[<-Array.find?_toList] at e;unfold PySem.W.lookIn;rw[hd];dsimp only
 split
 ·rename_i y q;rw[q] at e;exact congrArg some e
 ·rename_i q;rw[q] at e;have a:es.toList.any (·.refKey)=false:=by
   rw[List.any_eq_false];intro y hy;obtain ⟨z,t,hkey⟩:=hk y (Array.mem_toList_iff.mp hy);simp[DictEntry.refKey,hkey]
  have a':¬es.toList.any (·.refKey)=true:=by rw[a];exact DY
  rw[if_neg a'];exact congrArg some e
theorem ux.look {h:Heap} {x dx C:Addr} {mA:GS} (I:ux h x dx C mA):∃od,PySem.W.InstAt h x (FH C dx) C (some od)/\∀name,PySem.W.lookIn name od=some (mA name):=
 let ⟨od,ho,hl⟩:=uy I.ns
 ⟨od,⟨I.obj,rfl,rfl,ho⟩,hl⟩
section
variable {prog:Program} {w:World} {A:Around} {K:D5} {x dx C f:Addr} {mA:GS} {name:Str} {v:Value}
theorem xT {expr:Bool} {Q:GR} (X:K.In s.heap) (I:ux s.heap x dx C mA) (hg:PySem.W.plainGet K C name=true) (hh:PySem.W.hasDictIn K C=true)
  (ha:Eu K (.ref C) name=some none) (hv:mA name=some v) (hv':PySem.W.handedIn v=true) (h:Q v {s with toks:=s.toks+1}):
  wpAny (model prog w) A (getAttr (.ref x) name expr) Q E s:=by
 obtain ⟨od,J,hl⟩:=I.look;exact PySem.W.get_value X J (PySem.W.plainGet_of hg).1 (PySem.W.findObj_own hh ha rfl (by rw[hl,hv])) hv' h
theorem xU {ns:GV} {Q:Unit->Shared->Prop} (X:K.In s.heap) (I:ux s.heap x dx C mA)
  (hs:Eu K (.ref C) "__setattr__" =some (some (.builtin "object.__setattr__"))) (hp:PySem.W.plainOver K C=true) (ht:PySem.W.takerIn K C name=some none) (hh:PySem.W.hasDictIn K C=true)
  (hw:PySem.Within mA ns) (hsz:ns.length<=sizeLine)
  (h:∀h',ux h' x dx C (fun y=>if y=name then some v else mA y)->Heap.SameBut dx s.heap h'->Q () {s with heap:=h',toks:=s.toks+2}):
  wpAny (model prog w) A (setAttr (.ref x) name v) Q E s:=by
 obtain ⟨od,J,hl⟩:=I.look;refine PySem.W.set_plain X J hs (PySem.W.osa_open (s:={s with toks:=s.toks+1}) (r:=none) X J hp ht fun b=>?_)
 obtain ⟨cd,hc,hd'⟩:=PySem.W.any_some hh;have hx:s.heap.get? x=some ⟨.ref C,some dx,.plain,#[]⟩:=I.obj;refine wpAny_bind (wpAny_pure (wpAny_bind (wpAny_bind (wpAny_loadPart hx (wpAny_bind (PySem.W.Looks.here (s:={s with toks:=s.toks+1}) (PySem.W.looks_clsIn X hc) ?_))))))
 rw[hd'];refine wpAny_pure (a:=some dx) (wpAny_bind (wpAny_pure (wpAny_bind ?_)));refine wpAny_nsSet1 (s:={s with toks:=s.toks+1}) I.ns fun h' hn2 hs2=>?_
 obtain ⟨oD,esD,epD,hoD,hdD,hcD⟩:=hn2.count (PySem.Within.cons name v hw);refine wpAny_bind (wpAny_lookBehind hoD (by rw[hdD];exact pastItsLine_dict (ED hcD (by rw[EH];lia))) ?_)
 exact wpAny_pure (h _ ⟨(hs2.2 _ (Ne.symm I.ne)).trans I.obj,hn2,I.ne⟩ hs2)
theorem v6 {R:Result->Shared->Prop} {vs:GX} {kw:List (Str×Value)} (X:K.In s.heap) (hm:PySem.W.makesIn K C=true)
  (hi:Eu K (.ref C) "__init__" =some (some (.ref f))) (hf:PySem.W.typeIn K (.ref f)=some (.type "function"))
  (h:codeAny (model prog w) (A.under (.builtin "type.__call__" ⟨.ref C::vs,kw⟩)) (.call (.ref f) ⟨.ref (s.heap.objs.size+1)::vs,kw⟩) (PySem.W.InitBack (s.heap.objs.size+1) R)
   {s with heap:=(s.heap.push F0).push (FH C s.heap.objs.size)}):
  codeAny (model prog w) A (.call (.ref C) ⟨vs,kw⟩) R s:=by
 obtain ⟨hh,g,d,t,os⟩:=s;exact PySem.W.make_core (PySem.W.makes_of X hm) (PySem.W.looks_findIn X hi) (fun self=>PySem.W.bind_fn X self hf) (.inl rfl) h
end
def aW (f:Str) (v:V):List (Str×V)->List (Str×V)
 | []=> [(f,v)]
 |(g,x)::r=>if g=f then (g,v)::r else (g,x)::aW f v r
theorem aX (f g:Str) (v:V):∀fs:List (Str×V),(aW f v fs).lookup g=if g=f then some v else fs.lookup g
 | []=>by
  show List.lookup g [(f,v)]=_
  by_cases h:g=f
  ·have hb:(g==f)=true:=beq_iff_eq.mpr h;simp only[List.lookup,hb,if_pos h]
  ·have hb:(g==f)=false:=beq_eq_false_iff_ne.mpr h;simp only[List.lookup,hb,if_neg h]
 |(k,x)::r=>by
  have ih:=aX f g v r;rw[show aW f v ((k,x)::r)=(if k=f then (k,v)::r else (k,x)::aW f v r) from rfl]
  by_cases hk:k=f
  ·rw[if_pos hk]
   by_cases h:g=k
   ·have hb:(g==k)=true:=beq_iff_eq.mpr h;simp only[List.lookup,hb,if_pos (h.trans hk)]
   ·have hb:(g==k)=false:=beq_eq_false_iff_ne.mpr h;simp only[List.lookup,hb,if_neg (fun e:g=f=>h (e.trans hk.symm))]
  ·rw[if_neg hk]
   by_cases h:g=k
   ·have hb:(g==k)=true:=beq_iff_eq.mpr h;simp only[List.lookup,hb,if_neg (fun e:g=f=>hk (h.symm.trans e))]
   ·have hb:(g==k)=false:=beq_eq_false_iff_ne.mpr h;simp only[List.lookup,hb];exact ih
theorem iS (f:Str) (v:V):∀fs:List (Str×V),f∈(aW f v fs).map (·.1)/\∀g,g∈fs.map (·.1)->g∈(aW f v fs).map (·.1)
 | []=>⟨by simp[aW],fun g h=>by simp at h⟩
 |(k,x)::r=>by
  obtain ⟨i1,i2⟩:=iS f v r;rw[show aW f v ((k,x)::r)=(if k=f then (k,v)::r else (k,x)::aW f v r) from rfl]
  by_cases hk:k=f
  ·rw[if_pos hk];subst hk;exact ⟨by simp,fun g h=>by simpa using h⟩
  ·rw[if_neg hk];refine ⟨?_,fun g h=>?_⟩
   ·rw[EW];exact E2 _ i1
   ·rw[EW] at h⊢;rcases DM.mp h with e|e
    ·exact DM.mpr (.inl e)
    ·exact E2 _ (i2 g e)
theorem bf (f:Str) (v:V):∀fs:List (Str×V),(aW f v fs).length<=fs.length+1
 | []=>by simp[aW]
 |(k,x)::r=>by
  have ih:=bf f v r;rw[show aW f v ((k,x)::r)=(if k=f then (k,v)::r else (k,x)::aW f v r) from rfl]
  by_cases hk:k=f
  ·rw[if_pos hk,EH,EH];lia
  ·rw[if_neg hk,EH,EH];lia
theorem ic.some_of {v:V} {o:GZ} (r:ic (some v) o):∃u,o=some u/\RelV v u:=by
 cases o with
 |none=>exact (show False from r).elim
 |some u=>exact ⟨u,rfl,r⟩
theorem uz {v:V} {u:Value} (r:RelV v u):PySem.W.handedIn u=true:=by
 cases v with
 |non=>cases (show u=Value.none from r);rfl
 |bl b=>cases (show u=Value.bool b from r);rfl
 |int i=>obtain ⟨t,e⟩:=(show ∃t,u=Value.int i t from r);cases e;rfl
 |str x=>obtain ⟨t,e⟩:=(show ∃t,u=Value.str x t from r);cases e;rfl
 |byt b=>obtain ⟨t,e⟩:=(show ∃t,u=Value.bytes b t from r);cases e;rfl
 |flt b=>obtain ⟨t,e⟩:=(show ∃t,u=Value.float b t from r);cases e;rfl
 |ref a=>cases (show u=Value.ref a from r);rfl
 |ty n=>cases (show u=Value.type n from r);rfl
section
variable {P:Program} {w:World} {h:Heap} {C dx:Addr} {fs fs':List (Str×V)}
theorem nk (hok:fG P w H h) (e:H a=some (.ins C dx fs)):∃mA,ux h a dx C mA/\(∀f,ic (fs.lookup f) (mA f))/\PySem.Within mA (fs.map (·.1))/\fs.length<=1000/\H dx=some (.own a):=by
 obtain ⟨d,z,ne,ob,mA,n,r,q⟩:=(show bn P w H h a (.ins C dx fs) from hok a _ e)
 exact ⟨mA,⟨ob,n,ne⟩,r,q,z,d⟩
end
structure xV (K:D5) (C:Addr):Prop where
 pg:PySem.W.plainGet K C Str.empty=true
 hd:PySem.W.hasDictIn K C=true
 po:PySem.W.plainOver K C=true
 sa:Eu K (.ref C) "__setattr__" =some (some (.builtin "object.__setattr__"))
theorem xV.get {K:D5} {C:Addr} (c:xV K C) (f:Str):PySem.W.plainGet K C f=true:=c.pg
def bX (K:D5) (C:Addr) (f:Str):Prop:=Eu K (.ref C) f=some none
theorem bX.taker {K:D5} {C:Addr} {f:Str} (n:bX K C f):PySem.W.takerIn K C f=some none:=by
 unfold PySem.W.takerIn;rw[show Eu K (.ref C) f=some none from n]
 rfl
section
variable {C dx:Addr} {fs:List (Str×V)} {f:Str} {v:V} {A:Around}
theorem qV {b:Bool} {Q:GR} (I:aE X pins σ H s) (e:H a=some (.ins C dx fs)) (c:xV X.K C) (n:bX X.K C f) (l:fs.lookup f=some v)
  (h:∀u s',aE X pins σ H s'->RelV v u->Q u s'):wpAny (model X.prog X.w) A (getAttr (.ref a) f b) Q E s:=by
 obtain ⟨mA,O,r,_,_,_⟩:=nk I.hok e;obtain ⟨u,hu,ru⟩:=ic.some_of (v:=v) (o:=mA f) (by rw[<-l];exact r f)
 exact xT I.kIn O (c.get f) c.hd n hu (uz ru) (h u _ (I.tok _) ru)
theorem qW {y:V} {u:Value} {Q:Unit->Shared->Prop} (I:aE X pins σ H s) (e:H a=some (.ins C dx fs)) (c:xV X.K C) (n:bX X.K C f) (hl:fs.length<1000) (ry:RelV y u)
  (h:∀s',aE X pins σ (av H a (.ins C dx (aW f y fs))) s'->Q () s'):wpAny (model X.prog X.w) A (setAttr (.ref a) f u) Q E s:=by
 obtain ⟨mA,O,r,wi,_,ho⟩:=nk I.hok e;have hz:(fs.map (·.1)).length<=sizeLine:=by rw[D3,sizeLine_eq];lia
 refine xU I.kIn O c.sa c.po n.taker c.hd wi hz fun h' O' sb=>h _ ?_
 have hd:∃o,h'.get? dx=some o:=let ⟨o,_,_,e',_⟩:=O'.ns;⟨o,e'⟩;refine I.write (x:=a) (e:=dx) (by rw[e];exact True.intro) (.inr ho) (fun b q hb z=>(sb.2 b hb).trans z) hd ?_
 refine ⟨by rw[ar O.ne];exact ho,?_,O.ne,O'.obj,_,O'.ns,fun g=>?_,fun g hg=>?_⟩
 ·have:=bf f y fs;lia
 ·show ic ((aW f y fs).lookup g) (if g=f then some u else mA g)
  rw[aX]
  by_cases q:g=f
  ·rw[if_pos q,if_pos q];exact ry
  ·rw[if_neg q,if_neg q];exact r g
 ·by_cases q:g=f
  ·rw[q];exact (iS f y fs).1
  ·refine (iS f y fs).2 g (wi g fun z=>hg ?_)
   show (if g=f then some u else mA g)=none
   rw[if_neg q];exact z
theorem aE.made (I:aE X pins σ H s):aE X pins σ (av (av H s.heap.objs.size (.own (s.heap.objs.size+1))) (s.heap.objs.size+1) (.ins C s.heap.objs.size []))
  {s with heap:=(s.heap.push F0).push (FH C s.heap.objs.size)}:=by
 have e1:(s.heap.push F0).get? s.heap.objs.size=some F0:=Heap.get?_push_size s.heap rfl;have e2:((s.heap.push F0).push (FH C s.heap.objs.size)).get? (s.heap.objs.size+1)=some (FH C s.heap.objs.size):=by
  have:=Heap.get?_push_size (s.heap.push F0) (o:=FH C s.heap.objs.size) rfl
  rwa [Heap.size_push] at this
 have e3:(s.heap.push F0).Ns s.heap.objs.size (fun _=>none):=⟨F0,#[],_,e1,rfl,(fun e he=>absurd he (by simp)),fun _=>rfl⟩
 have I1:=I.laid (a:=s.heap.objs.size) (o:= .own (s.heap.objs.size+1)) (h':=s.heap.push F0) (t':=s.toks) (fun b u q=>Heap.get?_push_of_some _ q) (D8 _) ⟨_,e1⟩
 refine I1.laid (a:=s.heap.objs.size+1) (o:= .ins C s.heap.objs.size []) (t':=s.toks) (fun b u q=>Heap.get?_push_of_some _ q) (Nat.le_of_eq (Heap.size_push _ _)) ?_
 have ne:s.heap.objs.size≠s.heap.objs.size+1:=DI (FS _);refine ⟨by rw[ar ne,ag],EC _,ne,e2,fun _=>none,(Heap.Ns1.of_empty e3).at fun o q=>Heap.get?_push_of_some _ q,fun _=>True.intro,fun y hy=>absurd rfl hy⟩
theorem xW {prog:Program} {w:World} {env:Env} {e:Expr} {f:Str} {pos:Pos} {s:Shared} {Q:GR} (hb:attributeBase e f env (eval e env)=eval e env)
  (h:wpAny (model prog w) A (eval e env) (fun o s₁=>wpAny (model prog w) A (getAttr o f true) Q E s₁) E s):wpAny (model prog w) A (eval (.Attribute e f pos) env) Q E s:=
 Attribute_any_ h (by rw[arm_eval_Attribute,hb])
end
def Cy (K:D5) (ta:TE) (f:Str):TE:=fun σ H Q=>ta σ H fun x H1=>∃a C dx fs v,x= .ref a/\H1 a=some (.ins C dx fs)/\xV K C/\bX K C f/\fs.lookup f=some v/\Q v H1
def Cz (K:D5) (ta tv:TE) (f:Str):TS:=fun D σ H=>tv σ H fun y H1=>ta σ H1 fun x H2=>∃a C dx fs,x= .ref a/\H2 a=some (.ins C dx fs)/\xV K C/\bX K C f/\fs.length<1000/\
 D.nx σ (av H2 a (.ins C dx (aW f y fs)))
section
variable {o e value:Expr} {f:Str} {pos' tpos:Pos} {ta tv:TE}
theorem ce (he:PE X e ta) (hb:attributeBase e f X.env (eval e X.env)=eval e X.env):PE X (.Attribute e f pos) (Cy X.K ta f):=by
 intro pins s σ H Q I h;refine xW hb (a9 (he pins s σ H _ I h) fun u s1 ⟨x,H1,I1,rx,a,C,dx,fs,v,ex,ea,c,n,l,q⟩=>?_)
 subst ex;obtain rfl:u=Value.ref a:=rx;exact qV I1 ea c n l fun u' s2 I2 ru=>⟨v,H1,I2,ru,q⟩
theorem j3 (ha:PE X o ta) (hv:PE X value tv) (hs:swapsWith value (some (.Attribute o f pos')) pos.line X.env=pure false):PS X (.Assign [.Attribute o f pos'] value pos) (Cz X.K ta tv f):=by
 intro pins s σ H D I h;refine plainObj_wpAny_Assign_Attribute (a9 (hv pins s σ H _ I h) fun u s1 ⟨y,H1,I1,ry,q⟩=>a9 (ha pins s1 σ H1 _ I1 q) fun ov s2 ⟨x,H2,I2,rx,a,C,dx,fs,ex,ea,c,n,l,q2⟩=>?_) hs
 subst ex;obtain rfl:ov=Value.ref a:=rx;exact qW I2 ea c n l ry fun s3 I3=>⟨σ,_,I3,q2⟩
end
section
variable {A:Around} {Q:GR} {c:Value} {b:Bool}
inductive io (K:D5) (H:Hp):V->Value->Prop where
 |non:io K H .non (.type "NoneType")
 |bl (x:Bool):io K H (.bl x) (.type "bool")
 |int (i:Int):io K H (.int i) (.type "int")
 |str (x:Str):io K H (.str x) (.type "str")
 |flt (x:UInt64):io K H (.flt x) (.type "float")
 |lst {a:Addr} {xs:List V} (e:H a=some (.lst xs)):io K H (.ref a) (.type "list")
 |frz {a:Addr} {o:Obj} {xs:List V} (e:H a=some (.frz o (.lst xs))):io K H (.ref a) (.type "list")
 |tup {a:Addr} {xs:List V} (e:H a=some (.tup xs)):io K H (.ref a) (.type "tuple")
 |dK {a:Addr} {kvs:List (Key×V)} (e:H a=some (.dK kvs)):io K H (.ref a) (.type "dict")
 |dT {a:Addr} {kvs:List (List Key×V)} (e:H a=some (.dT kvs)):io K H (.ref a) (.type "dict")
 |ins {a C dx:Addr} {fs:List (Str×V)} (e:H a=some (.ins C dx fs)) (cl:xV K C) (ha:Eu K (.ref C) "__class__" =some (some (.builtin "object.__class__")))
   (hn:PySem.W.specialIn K (.builtin "object.__class__") "__get__" =some (some (.builtin "getset_descriptor.__get__"))) (htk:PySem.W.takesIn K (.builtin "object.__class__")=some true)
   (hm:PySem.W.mroIn K C (.type "object")=some true):io K H (.ref a) (.ref C)
theorem uA {x:V} {u t:Value} (I:aE X pins σ H s) (rx:RelV x u) (ty:io X.K H x t) (e:Ef X.K t c=some b) (h:∀tk,Q (.bool b) {s with toks:=tk}):
  wpAny (model X.prog X.w) A (call (.builtin "isinstance") [u,c]) Q E s:=by
 cases ty with
 |non=>cases (show u=Value.none from rx);exact Ej PySem.W.kitx_none I.kIn True.intro e (fun z=>nomatch z) h
 |bl y=>cases (show u=Value.bool y from rx);exact Ej PySem.W.kitx_bool I.kIn True.intro e (fun z=>nomatch z) h
 |int i=>obtain ⟨t,q⟩:=(show ∃t,u=Value.int i t from rx);cases q;exact Ej PySem.W.kitx_int I.kIn True.intro e (fun z=>nomatch z) h
 |str y=>obtain ⟨t,q⟩:=(show ∃t,u=Value.str y t from rx);cases q;exact Ej PySem.W.kitx_str I.kIn True.intro e (fun z=>nomatch z) h
 |flt y=>obtain ⟨t,q⟩:=(show ∃t,u=Value.float y t from rx);cases q;exact Ej PySem.W.kitx_float I.kIn True.intro e (fun z=>nomatch z) h
 | @lst a xs ea=>
  cases (show u=Value.ref a from rx)
  obtain ⟨_,_,n,_,h1⟩:=(show bn X.prog X.w H s.heap a (.lst xs) from I.hok a _ ea)
  exact Ej PySem.W.kitx_list I.kIn ⟨_,h1,rfl⟩ e (fun z=>nomatch z) h
 | @frz a ob xs ea=>
  cases (show u=Value.ref a from rx)
  obtain ⟨_,_,_,n,_,h1⟩:=(show bn X.prog X.w H s.heap a (.frz ob (.lst xs)) from I.hok a _ ea)
  exact Ej PySem.W.kitx_list I.kIn ⟨_,h1,rfl⟩ e (fun z=>nomatch z) h
 | @tup a xs ea=>
  cases (show u=Value.ref a from rx)
  obtain ⟨_,_,_,p⟩:=(show bn X.prog X.w H s.heap a (.tup xs) from I.hok a _ ea)
  obtain ⟨o,h1,h2,_⟩:=p;exact Ej PySem.W.kitx_tuple I.kIn ⟨o,h1,h2⟩ e (fun z=>nomatch z) h
 | @dK a kvs ea=>
  cases (show u=Value.ref a from rx)
  obtain ⟨_,_,vs,_,p⟩:=(show bn X.prog X.w H s.heap a (.dK kvs) from I.hok a _ ea)
  obtain ⟨o,es,ep,h1,h2,_⟩:=p;exact Ej PySem.W.kitx_dict I.kIn ⟨o,h1,h2.1⟩ e (fun z=>nomatch z) h
 | @dT a kvs ea=>
  cases (show u=Value.ref a from rx)
  obtain ⟨_,_,xs,_,o,es,ep,h1,h2,_⟩:=(show bn X.prog X.w H s.heap a (.dT kvs) from I.hok a _ ea)
  exact Ej PySem.W.kitx_dict I.kIn ⟨o,h1,h2.1⟩ e (fun z=>nomatch z) h
 | @ins a C dx fs ea cl ha hn htk hm=>
  cases (show u=Value.ref a from rx)
  obtain ⟨mA,O,_⟩:=nk I.hok ea;obtain ⟨od,J,_⟩:=O.look;exact Ej (PySem.W.kitx_own (cl.get _) cl.hd ha hn htk hm) I.kIn J e (fun z=>nomatch z) h
end
structure cQ (k:Nat) (A:Around):Prop where
 hd:A.handled=none
 dp:A.depth+3*k+5<recursionLimit
 un:A.units+16*k+200<cLine
theorem cQ.mono {j k:Nat} {A:Around} (r:cQ k A) (h:j<=k):cQ j A:=⟨r.hd,by have:=r.dp;lia,by have:=r.un;lia⟩
theorem cQ.deeper {k:Nat} {A:Around} (r:cQ (k+1) A) (env:Env):cQ k (A.deeper env):=
 ⟨r.hd,by have:=r.dp;show A.depth+1+3*k+5<_;lia,by have:=r.un;show A.units+3+16*k+200<_;lia⟩
theorem qX {A:Around} {C:Addr} {us:GX} {kw:List (Str×Value)}:(A.under (.builtin "type.__call__" ⟨.ref C::us,kw⟩)).depth=A.depth+1:=by
 first|rfl|simp[Around.under,Code.weight,Code.isCreation,Code.isGuard,Code.isCaller,Code.frames,Code.isFrame,guardIds]
theorem qY {A:Around} {C:Addr} {us:GX} {kw:List (Str×Value)}:(A.under (.builtin "type.__call__" ⟨.ref C::us,kw⟩)).units=A.units+1:=by
 first|rfl|simp[Around.under,Code.cUnits,Code.frames,Code.isFrame]
theorem cQ.make {k:Nat} {A:Around} (r:cQ (k+1) A) (C:Addr) (us:GX) (kw:List (Str×Value)):cQ k (A.under (.builtin "type.__call__" ⟨.ref C::us,kw⟩)):=
 ⟨r.hd,by have:=r.dp;rw[qX];lia,by have:=r.un;rw[qY];lia⟩
theorem cQ.depth {k:Nat} {A:Around} (r:cQ k A):A.depth<recursionLimit:=by have:=r.dp;lia
theorem cQ.units {k:Nat} {A:Around} (r:cQ k A):A.units+64<cLine:=by have:=r.un;lia
theorem cQ.units0 {k:Nat} {A:Around} (r:cQ k A):A.units<cLine:=by have:=r.un;lia
def CA:TA:=fun _ H Q=>Q [] H
def Bc (ta:TE) (tr:TA):TA:=fun σ H Q=>ta σ H fun x H1=>tr σ H1 fun xs H2=>Q (x::xs) H2
section
variable {e:Expr} {es:List Expr} {te:TE} {t:TA}
theorem af:PA X [] CA:=fun _ _ _ _ H Q I h=>Calls.spliced_nil ⟨[],H,I,.nil,h⟩
theorem aa (ha:PE X e te) (hr:PA X es t) (hs:starEach (e::es) X.env=(false,eval e X.env)::starEach es X.env:=by rfl):PA X (e::es) (Bc te t):=by
 intro pos pins s σ H Q I h;rw[hs];show wpAny _ _ (spliced ((false,eval e X.env)::backTo pos (starEach es X.env))) _ _ s;refine Calls.spliced_cons (a9 (ha pins s σ H _ I h) fun u s1 ⟨x,H1,I1,r1,q1⟩=>?_)
 exact a9 (hr pos pins s1 σ H1 _ I1 q1) fun us s2 ⟨xs,H2,I2,r2,q2⟩=>⟨x::xs,H2,I2,.cons r1 r2,q2⟩
def CB (t:TA):TE:=fun σ H Q=>t σ H fun xs H1=>xs.length<=sizeLine/\∀p,H1 p=none->Q (.ref p) (av H1 p (.tup xs))
def CC (t:TA):TE:=fun σ H Q=>t σ H fun xs H1=>xs.length<=sizeLine/\∀p,H1 p=none->Q (.ref p) (av H1 p (.lst xs))
theorem cf {x1} (h:PA X es t):PE X (.Tuple es x1 pos) (CB t):=by
 intro pins s σ H Q I hq;refine wpAny_Tuple_spliced (a9 (h pos pins s σ H _ I hq) fun us s1 ⟨xs,H1,I1,r,z,q⟩=>⟨by rw[<-r.length];exact z,?_⟩)
 have hf:H1 s1.heap.objs.size=none:=I1.hok.fresh (D8 _);refine ⟨.ref s1.heap.objs.size,av H1 s1.heap.objs.size (.tup xs),I1.laid (t':=s1.toks) (fun b u e=>Heap.get?_push_of_some _ e) (D8 _) ?_,rfl,q _ hf⟩
 exact ⟨z,us,r,⟨_,Heap.get?_push_size _ rfl,rfl,_,rfl⟩⟩
theorem bM (h:PA X es t):PE X (.List es pos) (CC t):=by
 intro pins s σ H Q I hq;refine wpAny_List_spliced (a9 (h pos pins s σ H _ I hq) fun us s1 ⟨xs,H1,I1,r,z,q⟩=>⟨by rw[<-r.length];exact z,?_⟩)
 have hf:H1 s1.heap.objs.size=none:=I1.hok.fresh (D8 _);refine ⟨.ref s1.heap.objs.size,av H1 s1.heap.objs.size (.lst xs),I1.laid (t':=s1.toks) (fun b u e=>Heap.get?_push_of_some _ e) (D8 _) ?_,rfl,q _ hf⟩
 exact ⟨z,us,0,r,Heap.get?_push_size _ rfl⟩
end
abbrev Sp:=List V->Hp->VK->XK->Prop
abbrev qZ:=List Env->Hp->Shared->XK->Value->Shared->Prop
structure q8 (P:Program) (w:World) (K:D5) (mg:GS) (base:Heap) (A:Around) (outer:List Env) (s:Shared) (H:Hp):Prop where
 frames:A.frames=some outer
 mod:Mod K mg base
 bs:∀b o,base.get? b=some o->s.heap.get? b=some o/\H b=none
 bsz:base.objs.size<=s.heap.objs.size
 funs:s.heap.FunFrames base outer
 frf:∀b∈jH outer,H b=none
 hok:fG P w H s.heap
 bare:AllBare s.gens
def CE (outer:List Env) (P:Program) (w:World) (H:Hp) (s:Shared) (Q:VK) (u:Value) (s':Shared):Prop:=
 ∃v H',s'.os=s.os/\AllBare s'.gens/\Un (jH outer) [] H H' s.heap s'.heap/\fG P w H' s'.heap/\RelV v u/\Q v H'
def CR (CX:qZ) (outer:List Env) (P:Program) (w:World) (H:Hp) (s:Shared) (Q:VK) (E:XK) (r:Result) (s':Shared):Prop:=
 match r with
 | .ok (.ret u)=>CE outer P w H s Q u s'
 | .ok _=>False
 | .error e=>CX outer H s E e s'
structure bv (P:Program) (w:World) (K:D5) (mg:GS) (base:Heap) (CX:qZ) (k:Nat) (f:Addr) (fd:FuncData) (ps:GV) (sp:Sp):Prop where
 len:∀vs H Q E,sp vs H Q E->vs.length=ps.length
 run:∀(A:Around) (outer:List Env) (s:Shared) (H:Hp) (args:Args) (us:GX) (vs:List V) (Q:VK) (E:XK),cQ k A->q8 P w K mg base A outer s H->BindsTo s fd args (ps.zip us)->aS vs us->sp vs H Q E->
  codeAny (model P w) A (.call (.ref f) args) (CR CX outer P w H s Q E) s
theorem q8.make {P:Program} {w:World} {K:D5} {mg:GS} {base:Heap} {A:Around} {outer:List Env} {s:Shared} {H:Hp} (e:q8 P w K mg base A outer s H) (C:Addr) (us:GX) (kw:List (Str×Value)):
  q8 P w K mg base (A.under (.builtin "type.__call__" ⟨.ref C::us,kw⟩)) outer s H:=⟨by first|exact e.frames|(simpa [Around.under,Code.envs,Code.isFrame,pushEnvs] using e.frames),e.mod,e.bs,e.bsz,e.funs,e.frf,e.hok,e.bare⟩
variable {s':Shared}
theorem aE.env0 (I:aE X pins σ H s):q8 X.prog X.w X.K X.mg X.base X.A X.stack s H:=
 ⟨I.ok.frames,I.ok.mod,I.bs,ED I.ok.bsz I.sz,I.stack,I.stkFree,I.hok,I.bare⟩
theorem aE.after {Q:VK} {u:Value} (I:aE X pins σ H s) (h:CE X.stack X.prog X.w H s Q u s'):EP X pins σ Q u s':=by
 obtain ⟨v,H',os,bare,un,hok,r,q⟩:=h;obtain ⟨hh,g,d,t,os'⟩:=s';obtain rfl:os'=s.os:=os;exact ⟨v,H',I.call (h':=hh) (g':=g) (d':=d) (t':=t) (ch:= []) un hok bare (fun b z=>absurd z (by simp)),r,q⟩
def v7 (sp:Sp) (dvs:List V) (E:XK) (t:TA):TE:=fun σ H Q=>t σ H fun vs H1=>sp (vs++dvs) H1 Q E
def za (C:Addr) (sp:Sp) (dvs:List V) (E:XK) (t:TA):TE:=fun σ H Q=>t σ H fun vs H1=>∀x dx,H1 x=none->H1 dx=none->dx≠x->
 sp (.ref x::(vs++dvs)) (av (av H1 dx (.own x)) x (.ins C dx [])) (fun v H2=>v= .non/\Q (.ref x) H2) E
def Binds (K:D5) (fd:FuncData) (ps:GV) (ds:GX):Prop:=
 ∀(s:Shared) (us:GX),K.In s.heap->(us++ds).length=ps.length->BindsTo s fd ⟨us,[]⟩ (ps.zip (us++ds))
theorem Binds.all {K:D5} {fd:FuncData} {ps:GV} (h:∀us:GX,us.length=ps.length->bindArgs fd ⟨us,[]⟩=pure (ps.zip us)):Binds K fd ps []:=fun s us _ hl=>by
 rw[FK] at hl⊢;exact .of_eq (h us hl)
def j4 (CX:qZ) (X:Cx) (E:XK):Prop:=∀(pins:GT) (σ:St) (H:Hp) (s:Shared) (e:Value) (s':Shared),aE X pins σ H s->CX X.stack H s E e s'->X.xe e s'
section
variable {CX:qZ} {k:Nat} {f C:Addr} {fd:FuncData} {ps:GV} {sp:Sp} {dvs:List V} {ds:GX} {E:XK} {x m:Str} {p apos:Pos} {e o:Expr} {es:List Expr} {ta:TE} {t:TA}
theorem zE {pins:GT} {σ:St} {H:Hp} {s:Shared} {Q:VK} {us:GX} {vs:List V} (F:bv X.prog X.w X.K X.mg X.base CX k f fd ps sp) (hr:cQ k X.A) (hb:Binds X.K fd ps ds) (hd:aS dvs ds) (hx:j4 CX X E)
  (I:aE X pins σ H s) (r:aS vs us) (h:sp (vs++dvs) H Q E):wpAny (model X.prog X.w) X.A (call (.ref f) us) (EP X pins σ Q) X.xe s:=by
 have r2:aS (vs++dvs) (us++ds):=r.append hd;have hl:(us++ds).length=ps.length:=by rw[<-r2.length];exact F.len _ _ _ _ h
 refine wpAny_call (codeAny_mono (F.run X.A X.stack s H ⟨us,[]⟩ (us++ds) (vs++dvs) Q E hr I.env0 (hb s us I.kIn hl) r2 h) fun r s' hq=>?_)
 cases r with
 |error e=>exact hx pins σ H s e s' I hq
 |ok fl=>
  cases fl with
  |ret u=>exact I.after hq
  |next=>exact False.elim hq
  |brk=>exact False.elim hq
  |cont=>exact False.elim hq
theorem xX (F:bv X.prog X.w X.K X.mg X.base CX k f fd ps sp) (hr:cQ k X.A) (hg:Gl X x) (hm:X.mg x=some (.ref f)) (hk:FG X.K (.ref f)=true) (hb:Binds X.K fd ps ds) (hd:aS dvs ds) (hx:j4 CX X E)
  (ha:PA X (e::es) t) (hdb:(x==("__debug__" :Str))=false:=by decide) (he:starEach (e::es) X.env=(false,eval e X.env)::starEach es X.env:=by rfl) (hpl:(backTo pos (starEach es X.env)).any (·.1)=false:=by rfl):
  PE X (.Call (.Name x p) (e::es) [] pos) (v7 sp dvs E t):=by
 intro pins s σ H Q I h;refine wpAny_Call_Name_kw (gy I hg hm ?_ hdb);refine PySem.W.callWith_K (h₀:=X.base) I.ok.mod.kin hk (a9 (ha pos pins s σ H _ I h) fun us s1 ⟨vs,H1,I1,r,q⟩=>⟨I1.kIn,?_⟩) he hpl
 exact zE F hr hb hd hx I1 r q
structure Mk (K:D5) (C f:Addr):Prop where
 makes:PySem.W.makesIn K C=true
 init:Eu K (.ref C) "__init__" =some (some (.ref f))
 fn:PySem.W.isFn K (.ref f)=true
 kp:FG K (.ref C)=true
theorem v8 {pins:GT} {σ:St} {H:Hp} {s:Shared} {Q:VK} {us:GX} {vs:List V} (M:Mk X.K C f) (F:bv X.prog X.w X.K X.mg X.base CX k f fd ps sp) (hr:cQ (k+1) X.A) (hb:Binds X.K fd ps ds) (hd:aS dvs ds)
  (hx:j4 CX X E) (I:aE X pins σ H s) (r:aS vs us)
  (h:∀x dx,H x=none->H dx=none->dx≠x->sp (.ref x::(vs++dvs)) (av (av H dx (.own x)) x (.ins C dx [])) (fun v H2=>v= .non/\Q (.ref x) H2) E):
  wpAny (model X.prog X.w) X.A (call (.ref C) us) (EP X pins σ Q) X.xe s:=by
 have hq:=h (s.heap.objs.size+1) s.heap.objs.size (I.hok.fresh (Fe _)) (I.hok.fresh (D8 _)) (DI (FS _));have I2:=aE.made (C:=C) I;have r2:aS (V.ref (s.heap.objs.size+1)::(vs++dvs)) (Value.ref (s.heap.objs.size+1)::(us++ds)):= .cons rfl (r.append hd);have hl:(Value.ref (s.heap.objs.size+1)::us++ds).length=ps.length:=by
  have e:=r2.length;rw[F.len _ _ _ _ hq] at e;exact e.symm
 refine wpAny_call (v6 (f:=f) I.kIn M.makes M.init (beq_iff_eq.mp M.fn) (codeAny_mono (F.run _ X.stack _ _ ⟨Value.ref (s.heap.objs.size+1)::us,[]⟩ (Value.ref (s.heap.objs.size+1)::(us++ds)) _ _ E (hr.make C us [])
  (I2.env0.make C us []) (hb _ (Value.ref (s.heap.objs.size+1)::us) I2.kIn hl) r2 hq) fun r s' hq'=>?_))
 cases r with
 |error e=>exact hx pins σ _ _ e s' I2 hq'
 |ok fl=>
  cases fl with
  |ret u=>
   obtain ⟨v,H',I3,rv,ev,q3⟩:=I2.after hq';subst ev;exact ⟨rv,⟨V.ref (s.heap.objs.size+1),H',I3,rfl,q3⟩⟩
  |next=>exact False.elim hq'
  |brk=>exact False.elim hq'
  |cont=>exact False.elim hq'
theorem xY (M:Mk X.K C f) (F:bv X.prog X.w X.K X.mg X.base CX k f fd ps sp) (hr:cQ (k+1) X.A) (hg:Gl X x) (hm:X.mg x=some (.ref C)) (hb:Binds X.K fd ps ds) (hd:aS dvs ds) (hx:j4 CX X E)
  (ha:PA X (e::es) t) (hdb:(x==("__debug__" :Str))=false:=by decide) (he:starEach (e::es) X.env=(false,eval e X.env)::starEach es X.env:=by rfl) (hpl:(backTo pos (starEach es X.env)).any (·.1)=false:=by rfl):
  PE X (.Call (.Name x p) (e::es) [] pos) (za C sp dvs E t):=by
 intro pins s σ H Q I h;refine wpAny_Call_Name_kw (gy I hg hm ?_ hdb);refine PySem.W.callWith_K (h₀:=X.base) I.ok.mod.kin M.kp (a9 (ha pos pins s σ H _ I h) fun us s1 ⟨vs,H1,I1,r,q⟩=>⟨I1.kIn,?_⟩) he hpl
 exact v8 M F hr hb hd hx I1 r q
end
structure aI (N P:GV) (sc:Scope):Prop where
 kind:sc.kind= .function
 co:sc.isCoroutine=false
 gen:sc.isGenerator=false
 nd:N.Nodup
 pre:N.take P.length=P
 par:∀x∈P,sc.names.lookup x=some .local∨sc.names.lookup x=some .cell
 nofree:∀y∈sc.names,y.2≠ .free
theorem lS {kindOf:Str->Option NameKind} {x:Str}:∀{binds:List (Str×Value)} {m:GS},(∀v,(x,v)∉binds)->bindL kindOf binds m x=m x
 | [],_,_=>rfl
 |(n,v)::r,m,h=>by
  unfold bindL;rw[lS fun w hw=>h w (E2 _ hw)]
  split
  ·have:x≠n:=by rintro rfl;exact h v E7
   simp[this]
  ·rfl
theorem lT {kindOf:Str->Option NameKind} {x:Str}:∀{binds:List (Str×Value)} {m:GS},(∀v,(x,v)∉binds)->bindC kindOf binds m x=m x
 | [],_,_=>rfl
 |(n,v)::r,m,h=>by
  unfold bindC;rw[lT fun w hw=>h w (E2 _ hw)]
  split
  ·rfl
  ·have:x≠n:=by rintro rfl;exact h v E7
   simp[this]
theorem lU {kindOf:Str->Option NameKind} {x:Str} {v:Value}:∀{P:GV} {vs:GX} {i:Nat} {m:GS},P.Nodup->P[i]?=some x->vs[i]?=some v->kindOf x=some .local->
  bindL kindOf (P.zip vs) m x=some v
 | [],_,_,_,_,h,_,_=>by simp at h
 |_::_,[],_,_,_,_,h,_=>by simp at h
 |p::P,w::vs,0,m,nd,h1,h2,hk=>by
  simp at h1 h2;subst h1;subst h2;show bindL kindOf ((p,w)::P.zip vs) m p=_;unfold bindL;rw[lS fun v hv=>(FJ.mp nd).1 (List.of_mem_zip hv).1,if_pos hk]
  simp
 |p::P,w::vs,i+1,m,nd,h1,h2,hk=>by
  show bindL kindOf ((p,w)::P.zip vs) m x=_;unfold bindL;exact lU (i:=i) (FJ.mp nd).2 (by simpa using h1) (by simpa using h2) hk
theorem lV {kindOf:Str->Option NameKind} {x:Str} {v:Value}:∀{P:GV} {vs:GX} {i:Nat} {m:GS},P.Nodup->P[i]?=some x->vs[i]?=some v->kindOf x≠some .local->
  bindC kindOf (P.zip vs) m x=some v
 | [],_,_,_,_,h,_,_=>by simp at h
 |_::_,[],_,_,_,_,h,_=>by simp at h
 |p::P,w::vs,0,m,nd,h1,h2,hk=>by
  simp at h1 h2;subst h1;subst h2;show bindC kindOf ((p,w)::P.zip vs) m p=_;unfold bindC;rw[lT fun v hv=>(FJ.mp nd).1 (List.of_mem_zip hv).1,if_neg hk]
  simp
 |p::P,w::vs,i+1,m,nd,h1,h2,hk=>by
  show bindC kindOf ((p,w)::P.zip vs) m x=_;unfold bindC;exact lV (i:=i) (FJ.mp nd).2 (by simpa using h1) (by simpa using h2) hk
def start (N:GV) (vs:List V):St:=vs.map some++EK (N.length-vs.length) none
def jI (CX:qZ) (P:Program) (w:World) (K:D5) (mg:GS) (base:Heap) (N:GV) (qual:Str) (scope:Scope) (f:Addr) (cd:Value) (A:Around) (outer:List Env) (s:Shared) (H:Hp) (E:XK):Cx where
 prog:=P
 w:=w
 K:=K
 mg:=mg
 base:=base
 A:=A.deeper (envOfC qual scope s.heap.objs.size f cd)
 N:=N
 s₀:=s
 H₀:=H
 env:=envOfC qual scope s.heap.objs.size f cd
 outer:=outer
 stack:=envOfC qual scope s.heap.objs.size f cd::outer
 ex:= []
 calm:=true
 fn:=fun _=>true
 pn:= []
 xe:=fun e s'=>wpAny (model P w) (A.deeper (envOfC qual scope s.heap.objs.size f cd)) (leaving (envOfC qual scope s.heap.objs.size f cd) e) (fun _ s''=>CX outer H s E e s'') (fun e' s''=>CX outer H s E e' s'') s'
theorem oF {sc:Scope} {n:Nat} {x:Str} (h:sc.names.lookup x=some .cell):∃c,(cellsFrom n sc.names []).lookup x=some c:=by
 have q:=PySem.W.cellsFrom_some sc.names n [] (.inl h);exact EI.mp q
theorem uB {CX:qZ} {P:Program} {w:World} {K:D5} {mg:GS} {base:Heap} {N ps:GV} {qual:Str} {scope:Scope} {f:Addr} {cd:Value} {A:Around} {outer:List Env} {s s1:Shared} {H:Hp} {E:XK} {us:GX} {vs:List V}
  (S:aI N ps scope) (hd:A.handled=none) (e0:q8 P w K mg base A outer s H) (hl:vs.length=ps.length) (r:aS vs us)
  (x:InCallC s s.heap.objs.size (bindL (envOfC qual scope s.heap.objs.size f cd).kindOf (ps.zip us) fun _=>none) (cellsFrom (s.heap.objs.size+1) scope.names []) (bindC (envOfC qual scope s.heap.objs.size f cd).kindOf (ps.zip us) fun _=>none) s1):
  aE (jI CX P w K mg base N qual scope f cd A outer s H E) [] (start N vs) H s1:=by
 have hpl:ps.length<=N.length:=by have:=congrArg List.length S.pre;rw[DK] at this;lia
 obtain ⟨h1,tk,rfl,hk⟩:=x.done;have noA:∀b:Addr,b∉(jI CX P w K mg base N qual scope f cd A outer s H E).ex:=fun b z=>absurd (show b∈([]:GW) from z) (by simp)
 refine ⟨⟨e0.mod,S.kind,rfl,rfl,D8 _,fun y z c h1 h2=>?_,fun y hy=>?_,fun y c _ h=>?_,fun _=>hd,Around.frames_deeper e0.frames,.inr ⟨rfl,rfl⟩,fun b z=>absurd z (noA b),e0.bs,e0.bsz,fun b _ _=>noA b,fun b z=>absurd z (noA b),e0.funs,e0.frf⟩,
  rfl,e0.bare,Un.kept hk,⟨_,x.toInCall.ns,fun i y v h1 h2 h3=>?_⟩,fun y c h=>⟨_,x.cell y c h⟩,e0.hok.fresh (D8 _),fun y c h=>?_,fun p hp=>absurd (show p∈([]:GT) from hp) (by simp),e0.hok.kept hk,?_⟩
 ·exact name_of_addr x.apart (ER h1) (ER h2)
 ·have hy:scope.names.lookup y=some .cell∨scope.names.lookup y=some .free:=hy;rcases hy with hy|hy
  ·exact oF hy
  ·exact absurd rfl (S.nofree _ (ER hy))
 ·exact Nat.le_of_lt (x.above y c (ER h))
 ·have hi:i<vs.length:=by
   unfold start at h2
   by_cases hi:i<vs.length
   ·exact hi
   ·rw[DH (by simpa using hi)] at h2
    rw[List.getElem?_replicate] at h2
    split at h2<;>cases h2
  have ha:vs[i]?=some v:=by
   unfold start at h2;rw[DQ (by simpa using hi),D9] at h2
   cases e:vs[i]? with
   |none=>rw[e] at h2;cases h2
   |some a=>rw[e] at h2;cases h2;rfl
  obtain ⟨u,hu,rv⟩:=r.get ha;have hp:ps[i]?=some y:=by
   rw[<-S.pre,Ee (by lia)];exact h1
  have ndP:ps.Nodup:=by rw[<-S.pre];exact S.nd.sublist (List.take_sublist _ _)
  refine ⟨u,rv,?_⟩;rcases S.par y (D6 hp) with k|k
  ·exact .inl ⟨k,lU ndP hp hu k⟩
  ·obtain ⟨c,e⟩:=oF (n:=s.heap.objs.size+1) k;refine .inr ⟨.inl k,c,e,?_⟩;have q:=x.cell y c e;rw[lV ndP hp hu (by show scope.names.lookup y≠_;rw[k];decide)] at q
   exact q
 ·exact e0.hok.fresh (Nat.le_of_lt (x.above y c (ER h)))
 ·unfold start;show _=N.length;rw[D7,D3,List.length_replicate]
  lia
theorem zb {CX:qZ} {P:Program} {w:World} {K:D5} {mg:GS} {base:Heap} {k:Nat} {f:Addr} {name qual:Str} {params:Arguments} {body:List Stmt} {scope:Scope} {dV kV doc pm cdv ct oc:Value} {an od:GY}
  {osl:GU} {N ps:GV} {sp:Sp} (lk:K.lookup f=some ⟨oc,od,.func (Ez name qual params body scope dV kV doc pm an cdv ct),osl⟩) (hcd:PySem.W.codeIn K cdv qual=true) (S:aI N ps scope)
  (len:∀vs H Q E,sp vs H Q E->vs.length=ps.length)
  (hbody:∀(A:Around) (outer:List Env) (s:Shared) (H:Hp) (vs:List V) (Q:VK) (E:XK),cQ k (A.deeper (envOfC qual scope s.heap.objs.size f cdv))->sp vs H Q E->
   ∃t,lN (jI CX P w K mg base N qual scope f cdv A outer s H E) body t/\t {nx:=fun _ H'=>Q .non H',rt:=Q} (start N vs) H):
  bv P w K mg base CX (k+1) f (Ez name qual params body scope dV kV doc pm an cdv ct) ps sp:=by
 refine ⟨len,fun A outer s H args us vs Q E hr e0 hb r hsp=>?_⟩
 have hl:=len _ _ _ _ hsp;have KX:K.In s.heap:=e0.mod.kin.keeps fun b o e=>(e0.bs b o e).1
 have lim:s.heap.NoLimit:=e0.mod.nolimit.keeps fun b o e=>(e0.bs b o e).1
 have hkind:∀y∈ps.zip us,scope.names.lookup y.1=some .local∨(scope.names.lookup y.1=some .cell/\((cellsFrom (s.heap.objs.size+1) scope.names []).lookup y.1).isSome=true):=fun ⟨n,v⟩ hy=>by
  rcases S.par n (List.of_mem_zip hy).1 with q|q
  ·exact .inl q
  ·exact .inr ⟨q,PySem.W.cellsFrom_some _ _ _ (.inl q)⟩
 refine codeAny_call_function hr.depth (KX _ _ lk) rfl S.co S.gen rfl (PySem.W.codeRec_of KX hcd) (hb _ _ _ _ ?_);refine wpAny_newFunctionEnv_cells S.kind hkind fun env he s1 x=>?_
 subst he;refine ⟨lim.keeps x.toInCall.keep,codeAny_func ?_⟩;obtain ⟨t,ht,hq⟩:=hbody A outer s H vs Q E (hr.deeper _) hsp;have I:aE (jI CX P w K mg base N qual scope f cdv A outer s H E) [] (start N vs) H s1:=uB S hr.hd e0 hl r x;refine wpAny_mono (ht [] s1 (start N vs) H _ I hq) (fun fl s' hs=>?_) fun e s' hs=>hs
 have fin:∀{σ':St} {H':Hp} {v:V} {u:Value},aE (jI CX P w K mg base N qual scope f cdv A outer s H E) [] σ' H' s'->RelV v u->Q v H'->CE outer P w H s Q u s':=
  fun {σ' H' v u} J rv q=>⟨v,H',J.os,J.bare,J.base,J.hok,rv,q⟩
 cases fl with
 |ret u=>
  obtain ⟨v,σ',H',J,rv,q⟩:=hs;exact fin J rv q
 |next=>
  obtain ⟨σ',H',J,q⟩:=hs;exact fin (v:=V.non) (u:=Value.none) J rfl q
 |brk=>
  obtain ⟨_,_,_,q⟩:=hs;exact False.elim q
 |cont=>
  obtain ⟨_,_,_,q⟩:=hs;exact False.elim q
section
variable {x:Str} {p:Pos} {e:Expr} {es:List Expr} {t:TA} {id T:String} {r:List V->Hp->VK->Prop}
def Dm (r:List V->Hp->VK->Prop) (t:TA):TE:=fun σ H Q=>t σ H fun vs H1=>r vs H1 Q
theorem aB (hc:c4 X (.builtin id) r) (hg:Gl X x) (hm:X.mg x=none) (hv:bootBuiltins x=some (.builtin id)) (ha:PA X (e::es) t) (hn:x≠ "__name__" :=by decide) (hdb:(x==("__debug__" :Str))=false:=by decide)
  (he:starEach (e::es) X.env=(false,eval e X.env)::starEach es X.env:=by rfl) (hpl:(backTo pos (starEach es X.env)).any (·.1)=false:=by rfl):PE X (.Call (.Name x p) (e::es) [] pos) (Dm r t):=by
 intro pins s σ H Q I h;refine wpAny_Call_Name_kw (cW I hg hm hv ?_ hn hdb);exact PyProof.Rows.callWith_builtin1 (a9 (ha pos pins s σ H _ I h) fun us s1 ⟨vs,H1,I1,r1,q1⟩=>hc pins s1 σ H1 vs us Q I1 r1 q1) he hpl
theorem dk (hc:c4 X (.type T) r) (hg:Gl X x) (hm:X.mg x=none) (hv:bootBuiltins x=some (.type T)) (ha:PA X (e::es) t) (hn:x≠ "__name__" :=by decide) (hdb:(x==("__debug__" :Str))=false:=by decide)
  (he:starEach (e::es) X.env=(false,eval e X.env)::starEach es X.env:=by rfl) (hpl:(backTo pos (starEach es X.env)).any (·.1)=false:=by rfl):PE X (.Call (.Name x p) (e::es) [] pos) (Dm r t):=by
 intro pins s σ H Q I h;refine wpAny_Call_Name_kw (cW I hg hm hv ?_ hn hdb);exact EE (a9 (ha pos pins s σ H _ I h) fun us s1 ⟨vs,H1,I1,r1,q1⟩=>hc pins s1 σ H1 vs us Q I1 r1 q1) he hpl
end
end L2
namespace HT
open PySem PyProof.Rows
section
variable {prog:Program} {w:World} {A:Around} {E:GR} {s:Shared}
def eV (n d:Nat):Option Int->Nat
 |none=>d
 |some v=>if v<0 then (v+(n:Int)).toNat else min v.toNat n
end
end HT
namespace L2
open PySem PySem.Spec PyProof.Rows
abbrev TO:=St->Hp->(Option Int->Hp->Prop)->Prop
def PO (X:Cx) (e:Option Expr) (t:TO):Prop:=
 ∀(pins:GT) (s:Shared) (σ:St) (H:Hp) (Q:Option Int->Hp->Prop),aE X pins σ H s->t σ H Q->
  wpAny (model X.prog X.w) X.A (evalPart e X.env) (fun u s'=>∃o H',aE X pins σ H' s'/\IsPart u o/\Q o H') X.xe s
def xZ:TO:=fun _ H Q=>Q none H
def Be (t:TE):TO:=fun σ H Q=>t σ H fun x H1=>∃i,x= .int i/\Q (some i) H1
section
variable {X:Cx} {e:Expr} {te:TE} {lo hi:Option Expr} {tl th:TO} {pos p2:Pos}
theorem gC:PO X none xZ:=by
 intro pins s σ H Q I h;rw[evalPart_none];exact wpAny_pure ⟨none,H,I,.none,h⟩
theorem gD (h:PE X e te):PO X (some e) (Be te):=by
 intro pins s σ H Q I hw;rw[evalPart_some];refine a9 (h pins s σ H _ I hw) fun u s1 ⟨x,H1,I1,r1,q1⟩=>?_
 obtain ⟨i,rfl,q⟩:=q1;obtain ⟨t,rfl⟩:=r1;exact ⟨some i,H1,I1,.int i t,q⟩
def CD (X:Cx) (r:V->Option Int->Option Int->Hp->VK->Prop):Prop:=
 ∀(pins:GT) (s:Shared) (σ:St) (H:Hp) (x:V) (v vl vu:Value) (lo hi:Option Int) (sl:Addr) (Q:VK),aE X pins σ H s->RelV x v->s.heap.IsSliceOf sl vl vu .none->IsPart vl lo->IsPart vu hi->r x lo hi H Q->
  ∃T id,typeLookup (.type T) "__getitem__" =pure (some (.builtin id))/\s.TypeIs v T/\wpAny (model X.prog X.w) X.A (getItem v (.ref sl)) (EP X pins σ Q) X.xe s
def Dz (r:V->Option Int->Option Int->Hp->VK->Prop) (te:TE) (tl th:TO):TE:=fun σ H Q=>te σ H fun x H1=>tl σ H1 fun l H2=>th σ H2 fun u H3=>r x l u H3 Q
theorem fi {r:V->Option Int->Option Int->Hp->VK->Prop} (hr:CD X r) (he:PE X e te) (hl:PO X lo tl) (hu:PO X hi th):PE X (.Subscript e (.Slice lo hi none p2) pos) (Dz r te tl th):=by
 intro pins s σ H Q I h;refine Subscript_ (a9 (he pins s σ H _ I h) fun v s1 ⟨x,H1,I1,r1,q1⟩=>?_)
 refine wpAny_Slice (a9 (hl pins s1 σ H1 _ I1 q1) fun vl s2 ⟨l,H2,I2,pl,q2⟩=>a9 (hu pins s2 σ H2 _ I2 q2) fun vu s3 ⟨u,H3,I3,pu,q3⟩=>?_)
 rw[evalPart_none];refine wpAny_pure ?_;have I4:aE X pins σ H3 {s3 with heap:=s3.heap.push {cls:= .type "slice",data:= .fields #[vl,vu,.none]}}:=I3.kept (t':=s3.toks) fun b ob q=>Heap.get?_push_of_some _ q
 obtain ⟨T,id,hT,ht,hg⟩:=hr pins {s3 with heap:=s3.heap.push {cls:= .type "slice",data:= .fields #[vl,vu,.none]}} σ H3 x v vl vu l u s3.heap.objs.size Q I4 r1 (Heap.IsSliceOf.new ..) pl pu q3
 show wpAny (model X.prog X.w) X.A (subscriptTail e (.Slice lo hi none p2) v (.ref s3.heap.objs.size)) (EP X pins σ Q) X.xe {s3 with heap:=s3.heap.push {cls:= .type "slice",data:= .fields #[vl,vu,.none]}}
 exact tail_any (ops:= [.ref s3.heap.objs.size,v]) ht hT hg (by with_unfolding_all rfl)
def ip (xs:List V) (lo hi:Option Int):List V:=(xs.drop (HT.eV xs.length 0 lo)).take (HT.eV xs.length xs.length hi-HT.eV xs.length 0 lo)
theorem oG (xs:List V) (lo hi:Option Int):(ip xs lo hi).length<=xs.length:=by
 unfold ip;rw[DK,Ec]
 lia
end
def xO (n:Nat) (i:Int):Option Nat:=if 0<=i then (if i<n then some i.toNat else none) else if-(n:Int)<=i then some (i+n).toNat else none
def iU {α:Type} (xs:List α) (i:Int):Option α:=(xO xs.length i).bind fun j=>xs[j]?
theorem sP {n:Nat} {i:Int} {j:Nat} (h:xO n i=some j):seqIndex? i n=some j/\j<n/\ -(n:Int)<=i/\i<n:=by
 unfold xO at h
 by_cases h0:0<=i
 ·rw[if_pos h0] at h
  by_cases h1:i<n
  ·rw[if_pos h1] at h;have e:i.toNat=j:=Es h;exact ⟨by rw[seqIndex_of h0 h1,e],by lia,by lia,h1⟩
  ·rw[if_neg h1] at h;cases h
 ·rw[if_neg h0] at h
  by_cases h1: -(n:Int)<=i
  ·rw[if_pos h1] at h;have e:(i+n).toNat=j:=Es h;exact ⟨by rw[seqIndex_neg (by lia) h1,e],by lia,h1,by lia⟩
  ·rw[if_neg h1] at h;cases h
theorem nq {α:Type} {xs:List α} {i:Int} {v:α} (h:iU xs i=some v):∃j,seqIndex? i xs.length=some j/\xs[j]?=some v/\j<xs.length/\ -(xs.length:Int)<=i/\i<xs.length:=by
 unfold iU at h;cases e:xO xs.length i with
 |none=>rw[e] at h;cases h
 |some j=>
  rw[e] at h;obtain ⟨h1,h2,h3,h4⟩:=sP e;exact ⟨j,h1,h,h2,h3,h4⟩
theorem aU {α:Type} {xs:List α} {j:Nat} {v:α} (h:xs[j]?=some v):iU xs (j:Int)=some v:=by
 have hj:j<xs.length:=(D4.mp h).1;have e:xO xs.length (j:Int)=some j:=by
  unfold xO;rw[if_pos (by lia),if_pos (by lia)];simp
 unfold iU;rw[e];exact h
def x3 (b:Expr):Prop:=∀o i,subscripted b false o i=operate [o,i] (getItem o i)
def AR (X:Cx) (r:R2):Prop:=
 ∀(value slice:Expr) (pins:GT) (s:Shared) (σ:St) (H:Hp) (x y:V) (v u:Value) (Q:VK),aE X pins σ H s->RelV x v->RelV y u->r x y H Q->
  subscripted slice false v u=operate [v,u] (getItem v u)->wpAny (model X.prog X.w) X.A (subscriptTail value slice v u) (EP X pins σ Q) X.xe s
def Dn (X:Cx) (id:String) (r:V->List V->Hp->VK->Prop):Prop:=
 ∀(pins:GT) (s:Shared) (σ:St) (H:Hp) (x:V) (xs:List V) (v:Value) (us:GX) (Q:VK),aE X pins σ H s->RelV x v->aS xs us->r x xs H Q->
  wpAny (model X.prog X.w) X.A (call (.builtin id) (v::us)) (EP X pins σ Q) X.xe s
section
variable {X:Cx} {a b:Expr} {ta tb:TE} {pos:Pos}
theorem au {r:R2} (hr:AR X r) (ha:PE X a ta) (hb:PE X b tb) (hs:x3 b):PE X (.Subscript a b pos) (Ch r ta tb):=by
 intro pins s σ H Q I h;exact Subscript_ (zB ha hb I h fun v u s2 x y H2 I2 rx ry q=>hr a b pins s2 σ H2 x y v u Q I2 rx ry q (hs _ _))
def Bf (K:D5):R2:=fun x y H Q=>∃p xs i v,x= .ref p/\y= .int i/\aK K H p xs/\iU xs i=some v/\Q v H
def Bg (K:D5):R2:=fun x y H Q=>∃p xs i v,x= .ref p/\y= .int i/\bH K H p xs/\iU xs i=some v/\Q v H
def CF:R2:=fun x y H Q=>∃z i c,x= .str z/\y= .int i/\z.length<=sizeLine/\iU z.cps.toList i=some c/\Q (.str ⟨#[c]⟩) H
theorem aO:AR X (Bf X.K):=by
 intro value slice pins s σ H x y v u Q I rx ry h hs;obtain ⟨p,xs,i,z,rfl,rfl,hq,he,q⟩:=h;cases rx;obtain ⟨t,rfl⟩:=ry;obtain ⟨its,r,pl,hz⟩:=I.list hq;obtain ⟨j,h1,h2,h3,h4,h5⟩:=nq he;obtain ⟨w,ew,rw'⟩:=r.get h2;have hl:=r.length;have hn:=iR;have fin:EP X pins σ Q w s:=⟨z,H,I,rw',q⟩
 by_cases h0:0<=i
 ·have hj:i.toNat=j:=by
   rw[seqIndex_of h0 h5] at h1;exact Es h1
  exact item_listR pl.isList h0 (by lia) (by rw[hj];simpa using ew) fin hs
 ·have hj:(i+(its.toArray.size:Int)).toNat=j:=by
   rw[seqIndex_neg (by lia) h4] at h1
   rw[DX,<-hl];exact Es h1
  exact subscriptTail_builtinR (x:=w) pl.isList.typeIs slot_list_getitem.lookup
   (wpAny_getItem_list_neg (Q:=fun r s'=>r=w/\EP X pins σ Q r s') pl.isList (by lia) (by rw[DX]<;>lia) (by lia) (by rw[hj];simpa using ew) ⟨rfl,fin⟩) hs
theorem aD:AR X (Bg X.K):=by
 intro value slice pins s σ H x y v u Q I rx ry h hs;obtain ⟨p,xs,i,z,rfl,rfl,hq,he,q⟩:=h;cases rx;obtain ⟨t,rfl⟩:=ry;obtain ⟨its,r,pl,hz⟩:=I.tuple hq;obtain ⟨j,h1,h2,h3,h4,h5⟩:=nq he;obtain ⟨w,ew,rw'⟩:=r.get h2;have hl:=r.length;have hn:=iR;have fin:EP X pins σ Q w s:=⟨z,H,I,rw',q⟩;exact subscriptTail_builtinR (x:=w) pl.typeIs slot_tuple_getitem.lookup
  (getItem_tuple (j:=j) (Q:=fun r s'=>r=w/\EP X pins σ Q r s') pl (by lia) (by lia) (by rw[DX,<-hl];exact h1) (by simpa using ew) ⟨rfl,fin⟩) hs
theorem v9:AR X CF:=by
 intro value slice pins s σ H x y v u Q I rx ry h hs;obtain ⟨z,i,c,rfl,rfl,hz,he,q⟩:=h;obtain ⟨t,rfl⟩:=rx;obtain ⟨t',rfl⟩:=ry;obtain ⟨j,h1,h2,h3,h4,h5⟩:=nq he;have hl:z.cps.toList.length=z.length:=by simp[Str.length]
 rw[hl] at h1 h4 h5;have hn:=iR;exact tail_any (typeIs_str s z t) slot_str_getitem.lookup (getItem_str (c:=c) (by
  have e1:decide (i< -(2^63:Int))=false:=decide_eq_false (by lia)
  have e2:decide (i≥2^63)=false:=decide_eq_false (by lia)
  rw[e1,e2,Bool.or_false]) (by rw[h1];simpa using h2) ⟨.str ⟨#[c]⟩,H,I.tok _,⟨_,rfl⟩,q⟩) hs
theorem q9 (its:GX) (n j:Nat) (u:Value):Obj.mapSeq (·.setIfInBounds j u) {cls:= .type "list",data:= .seq its.toArray n}={cls:= .type "list",data:= .seq (its.set j u).toArray n}:=by
 simp[Obj.mapSeq]
theorem aE.lst {pins:GT} {σ:St} {H:Hp} {s:Shared} {p:Addr} {xs:List V} (I:aE X pins σ H s) (h:H p=some (.lst xs)):
  ∃(its:GX) (n:Nat),aS xs its/\s.heap.get? p=some {cls:= .type "list",data:= .seq its.toArray n}/\xs.length<=sizeLine:=by
 obtain ⟨z,its,n,r,e⟩:=I.hok p _ h;exact ⟨its,n,r,e,z⟩
theorem aE.lstUpd {pins:GT} {σ:St} {H:Hp} {s:Shared} {p:Addr} {xs ys:List V} {its its':GX} {n n':Nat} {f:Obj->Obj} (I:aE X pins σ H s) (h:H p=some (.lst xs))
  (ho:s.heap.get? p=some {cls:= .type "list",data:= .seq its.toArray n}) (hf:f {cls:= .type "list",data:= .seq its.toArray n}={cls:= .type "list",data:= .seq its'.toArray n'}) (r:aS ys its') (hz:ys.length<=sizeLine) (t:Nat):
  aE X pins σ (av H p (.lst ys)) {s with heap:=s.heap.update p f,toks:=t}:=by
 have e:(s.heap.update p f).get? p=some {cls:= .type "list",data:= .seq its'.toArray n'}:=by
  rw[Heap.get?_update_self f ho (by rw[hf]<;>rfl),hf]
 refine I.write (x:=p) (e:=p) (by rw[h];trivial) (.inl rfl) (fun b u hb q=>(Heap.get?_update_other _ _ (Ne.symm hb)).trans q) ⟨_,e⟩ ?_
 exact ⟨hz,its',n',r,e⟩
def Bh:V->V->V->Hp->(Hp->Prop)->Prop:=fun o i v H Q=>∃p xs k j,o= .ref p/\i= .int k/\H p=some (.lst xs)/\xO xs.length k=some j/\Q (av H p (.lst (xs.set j v)))
theorem set_list:A3 X Bh:=by
 intro pins s σ H o i v ov iv u Q I ro ri rv h;obtain ⟨p,xs,k,j,rfl,rfl,hp,hj,q⟩:=h;cases ro;obtain ⟨t,rfl⟩:=ri;obtain ⟨its,n,r,ho,hz⟩:=I.lst hp;obtain ⟨h1,h2,h3,h4⟩:=sP hj;have hl:=r.length;have hn:=iR;have I':aE X pins σ (av H p (.lst (xs.set j v))) {s with heap:=s.heap.update p (Obj.mapSeq (·.setIfInBounds j u))}:=
  I.lstUpd hp ho (q9 its n j u) (r.set rv j) (by rw[List.length_set];exact hz) s.toks
 by_cases h0:0<=k
 ·have hk:k.toNat=j:=by
   rw[seqIndex_of h0 h4] at h1;exact Es h1
  exact PySem.W.ki_setAt ho h0 (by lia) (by rw[DX,<-hl];exact h4) (by rw[hk];exact ⟨_,I',q⟩)
 ·have hk:(k+(its.toArray.size:Int)).toNat=j:=by
   rw[seqIndex_neg (by lia) h3] at h1
   rw[DX,<-hl];exact Es h1
  exact PySem.W.ki_setBack ho (by lia) (by rw[DX,<-hl];exact h3) (by lia) (by rw[hk];exact ⟨_,I',q⟩)
theorem nA (lo hi:Option Int) (n:Nat):(sliceBounds lo hi none n).1=((HT.eV n 0 lo:Nat):Int)/\(sliceBounds lo hi none n).2.1=((HT.eV n n hi:Nat):Int)/\(sliceBounds lo hi none n).2.2=1:=by
 refine ⟨?_,?_,rfl⟩
 ·cases lo with
  |none=>simp[sliceBounds,HT.eV]
  |some i=>
   simp only[sliceBounds,HT.eV,Option.getD_none,show (1:Int)>0 by decide,if_true]
   by_cases h:i<0
   ·simp only[h,if_true]<;>lia
   ·simp only[h,if_false]<;>lia
 ·cases hi with
  |none=>simp[sliceBounds,HT.eV]
  |some i=>
   simp only[sliceBounds,HT.eV,Option.getD_none,show (1:Int)>0 by decide,if_true]
   by_cases h:i<0
   ·simp only[h,if_true]<;>lia
   ·simp only[h,if_false]<;>lia
theorem li (its:GX) (lo hi:Option Int):slicePick its.toArray lo hi none=((its.drop (HT.eV its.length 0 lo)).take (HT.eV its.length its.length hi-HT.eV its.length 0 lo)).toArray:=by
 obtain ⟨h1,h2,h3⟩:=nA lo hi its.toArray.size;unfold slicePick;rw[h1,h2,h3];simp only[sliceRange_one,pick_run,DX]<;>rfl
def CG (K:D5):V->Option Int->Option Int->Hp->VK->Prop:=fun x lo hi H Q=>∃a xs,x= .ref a/\aK K H a xs/\∀p,H p=none->Q (.ref p) (av H p (.lst (ip xs lo hi)))
theorem jP:CD X (CG X.K):=by
 intro pins s σ H x v vl vu lo hi sl Q I rx hs pl pu h;obtain ⟨a,xs,rfl,hx,q⟩:=h;cases rx;obtain ⟨its,r,ht,hz⟩:=I.list hx;have hlen:=r.length;refine ⟨"list",_,slot_list_getitem.lookup,ht.isList.typeIs,?_⟩;refine wpAny_getItem_list_slice ht.isList hs pl pu .none (by simp) ?_ (by rw[DX]<;>lia)
 rw[li,<-hlen];refine ⟨.ref s.heap.objs.size,_,I.laid (t':=s.toks) (o:= .lst (ip xs lo hi)) (fun b ob q=>Heap.get?_push_of_some _ q) (D8 _) ?_,rfl,q _ (I.hok.fresh (D8 _))⟩
 exact ⟨ED (oG xs lo hi) hz,_,0,(r.drop (HT.eV xs.length 0 lo)).take (HT.eV xs.length xs.length hi-HT.eV xs.length 0 lo),Heap.get?_push_size _ rfl⟩
def iq:V->Bool
 | .non=>true
 | .bl _=>true
 | .int _=>true
 | .str _=>true
 |_=>false
def x6:V->V->Bool
 | .non,.non=>true
 | .bl a,.bl b=>a==b
 | .bl a,.int b=>(if a then 1 else 0)==b
 | .int a,.bl b=>a==(if b then 1 else 0)
 | .int a,.int b=>a==b
 | .str a,.str b=>a==b
 |_,_=>false
theorem zF {A:Around} {s:Shared} {y x:V} {u v:Value} (ry:RelV y u) (rx:RelV x v) (fy:iq y=true) (fx:iq x=true):SeqAt.EqAt A s u v (x6 y x):=by
 cases y with
 |non=>
  cases ry;cases x with
  |non=>cases rx;exact SeqAt.EqAt.same _
  |bl b=>cases rx;exact SeqAt.EqAt.none_bool b
  |int b=>obtain ⟨t,rfl⟩:=rx;exact SeqAt.EqAt.none_int b t
  |str b=>obtain ⟨t,rfl⟩:=rx;exact SeqAt.EqAt.none_str b t
  |_=>exact absurd (show false=true from fx) DY
 |bl a=>
  cases ry;cases x with
  |non=>cases rx;exact SeqAt.EqAt.bool_none a
  |bl b=>cases rx;exact SeqAt.EqAt.bool_bool a b
  |int b=>obtain ⟨t,rfl⟩:=rx;exact SeqAt.EqAt.bool_int a b t
  |str b=>obtain ⟨t,rfl⟩:=rx;exact SeqAt.EqAt.bool_str a b t
  |_=>exact absurd (show false=true from fx) DY
 |int a=>
  obtain ⟨t',rfl⟩:=ry;cases x with
  |non=>cases rx;exact SeqAt.EqAt.int_none a t'
  |bl b=>cases rx;exact SeqAt.EqAt.int_bool a t' b
  |int b=>obtain ⟨t,rfl⟩:=rx;exact SeqAt.EqAt.int_int a t' b t
  |str b=>obtain ⟨t,rfl⟩:=rx;exact SeqAt.EqAt.int_str a t' b t
  |_=>exact absurd (show false=true from fx) DY
 |str a=>
  obtain ⟨t',rfl⟩:=ry;cases x with
  |non=>cases rx;exact SeqAt.EqAt.str_none a t'
  |bl b=>cases rx;exact SeqAt.EqAt.str_bool a t' b
  |int b=>obtain ⟨t,rfl⟩:=rx;exact SeqAt.EqAt.str_int a t' b t
  |str b=>obtain ⟨t,rfl⟩:=rx;exact SeqAt.EqAt.str_str a t' b t
  |_=>exact absurd (show false=true from fx) DY
 |_=>exact absurd (show false=true from fy) DY
def x8 (x:V) (u:Value):Bool:=match u with
 | .none=>x6 .non x
 | .bool b=>x6 (.bl b) x
 | .int i _=>x6 (.int i) x
 | .str z _=>x6 (.str z) x
 |_=>false
theorem wa {x y:V} {u:Value} (r:RelV y u) (f:iq y=true):x8 x u=x6 y x:=by
 cases y with
 |non=>cases r;rfl
 |bl b=>cases r;rfl
 |int i=>obtain ⟨t,rfl⟩:=r;rfl
 |str z=>obtain ⟨t,rfl⟩:=r;rfl
 |_=>exact absurd (show false=true from f) DY
theorem nB {x:V}:∀{xs:List V} {us:GX},aS xs us->xs.all iq=true->us.any (x8 x)=xs.any fun y=>x6 y x
 |_,_,.nil,_=>rfl
 |y::xs,u::us,.cons r t,f=>by
  rw[List.all_cons,Ey] at f;rw[FV,FV,wa r f.1,nB t f.2]
theorem j5 {A:Around} {s:Shared} {x:V} {v:Value} (rx:RelV x v) (fx:iq x=true):∀{xs:List V} {us:GX},aS xs us->xs.all iq=true->∀u∈us,SeqAt.EqAt A s u v (x8 x u)
 |_,_,.nil,_=>fun u hu=>by cases hu
 |y::xs,u::us,.cons r t,f=>fun u' hu=>by
  rw[List.all_cons,Ey] at f;rcases DM.mp hu with rfl|hu
  ·rw[wa r f.1];exact zF r rx f.1 fx
  ·exact j5 rx fx t f.2 u' hu
def Cj (x:V) (xs:List V):Bool:=xs.any fun y=>x6 y x
def DA (K:D5) (neg:Bool):R2:=fun x y H Q=>∃p xs,y= .ref p/\(aK K H p xs∨bH K H p xs)/\iq x=true/\xs.all iq=true/\Q (.bl (if neg then !Cj x xs else Cj x xs)) H
theorem nC:fY X (compareOp .NotIn) (DA X.K true):=by
 intro pins s σ H x y v u Q I rx ry h;obtain ⟨p,xs,rfl,hq,fx,fs,q⟩:=h;cases ry;rcases hq with hq|hq
 ·obtain ⟨its,r,pl,hz⟩:=I.list hq;refine SeqAt.notIn_listAt (x8 x) pl.isList (fun w hw=>j5 rx fx r fs w (by simpa using hw)) ⟨.bl _,H,I,rfl,?_⟩
  rw[show its.toArray.any (x8 x)=its.any (x8 x) by simp,nB r fs]
  exact q
 ·obtain ⟨its,r,pl,hz⟩:=I.tuple hq;refine SeqAt.notIn_tupleAt (x8 x) pl (fun w hw=>j5 rx fx r fs w (by simpa using hw)) ⟨.bl _,H,I,rfl,?_⟩
  rw[show its.toArray.any (x8 x)=its.any (x8 x) by simp,nB r fs]
  exact q
theorem nE:fY X (compareOp .NotIn) (fun x y H Q=>∃i j,x= .str i/\y= .str j/\Q (.bl (!(!(Builtin.Str.occurrences j i 0 j.length 1).isEmpty))) H):=by
 intro pins s σ H x y v u Q I rx ry h;obtain ⟨i,j,rfl,rfl,q⟩:=h;obtain ⟨t,rfl⟩:=rx;obtain ⟨t',rfl⟩:=ry;exact notIn_str ⟨.bl _,H,I,rfl,q⟩
theorem aJ:c4 X (.builtin "len") (fun xs H Q=>∃p ys,xs= [.ref p]/\(aK X.K H p ys∨bH X.K H p ys)/\Q (.int ys.length) H):=by
 intro pins s σ H xs us Q I r h;obtain ⟨p,ys,rfl,hq,q⟩:=h;obtain ⟨u,rfl,rx⟩:=vals1 r;cases rx;have hn:=iR;rcases hq with hq|hq
 ·obtain ⟨its,r',pl,hz⟩:=I.list hq;have hlen:=r'.length;exact Calls.call_len_list pl.isList (by simp only[DX]<;>lia) ⟨.int ys.length,H,I.tok _,⟨s.toks+1,by rw[DX,hlen]⟩,q⟩
 ·obtain ⟨its,r',pl,hz⟩:=I.tuple hq;have hlen:=r'.length;exact len_tuple pl (by simp only[DX]<;>lia) ⟨.int ys.length,H,I.tok _,⟨s.toks+1,by rw[DX,hlen]⟩,q⟩
theorem fM:c4 X (.builtin "len") (fun xs H Q=>∃z,xs= [.str z]/\z.length<=sizeLine/\Q (.int z.length) H):=by
 intro pins s σ H xs us Q I r h;obtain ⟨z,rfl,hz,q⟩:=h;obtain ⟨u,rfl,t,rfl⟩:=vals1 r;have hn:=iR;exact len_str (by lia) ⟨.int z.length,H,I.tok _,⟨_,rfl⟩,q⟩
theorem c6:c4 X (.type "list") (fun xs H Q=>∃p ys,xs= [.ref p]/\(aK X.K H p ys∨bH X.K H p ys)/\∀l,H l=none->Q (.ref l) (av H l (.lst ys))):=by
 intro pins s σ H xs us Q I r h;obtain ⟨p,ys,rfl,hq,q⟩:=h;obtain ⟨u,rfl,rx⟩:=vals1 r;cases rx;have fin:∀(its:GX),aS ys its->ys.length<=sizeLine->∀(h':Heap) (c':Nat),(∀b o',s.heap.get? b=some o'->h'.get? b=some o')->
   h'.get? s.heap.objs.size=some {cls:= .type "list",dict:=none,data:= .seq its.toArray c',slots:= #[]}->EP X pins σ Q (.ref s.heap.objs.size) {s with heap:=h'}:=fun its r' hz h' c' kp e=>
  ⟨.ref s.heap.objs.size,_,I.laid (t':=s.toks) kp (D8 _) (show bn X.prog X.w _ h' _ (.lst ys) from ⟨hz,its,c',r',e⟩),rfl,q _ (I.hok.fresh (D8 _))⟩
 rcases hq with hq|hq
 ·obtain ⟨its,r',pl,hz⟩:=I.list hq;have hlen:=r'.length;obtain ⟨o,ho,hc,n,hd⟩:=pl.isList;exact call_list_seq p (.inl rfl) ho hc hd (fun h' c' kp e=>fin its r' hz h' c' kp e) (by simp only[DX]<;>lia)
 ·obtain ⟨its,r',pl,hz⟩:=I.tuple hq;have hlen:=r'.length;obtain ⟨o,ho,hc,n,hd⟩:=pl;exact call_list_seq p (.inr rfl) ho hc hd (fun h' c' kp e=>fin its r' hz h' c' kp e) (by simp only[DX]<;>lia)
def CH (K:D5) (T:String) (x:V) (H:Hp):Prop:=match x with
 | .str _=>T= "str"
 | .int _=>T= "int"
 | .ref p=>(T= "list" /\∃xs,aK K H p xs)∨(T= "tuple" /\∃o,K.lookup p=some o/\o.cls= .type "tuple" /\o.dict=none)∨
   (T= "dict" /\((∃kvs,H p=some (.dK kvs))∨∃kvs,H p=some (.dT kvs)))∨(T= "set" /\∃S n,H p=some (.set S n))
 |_=>False
theorem wb {pins:GT} {σ:St} {H:Hp} {s:Shared} {T:String} {x:V} {v:Value} (I:aE X pins σ H s) (r:RelV x v) (ty:CH X.K T x H):
  s.TypeIs v T/\∀a,v= .ref a->∃ob,s.heap.get? a=some ob/\ob.dict=none:=by
 cases x with
 |str z=>
  obtain ⟨t,rfl⟩:=r;cases (show T= "str" from ty)
  exact ⟨typeIs_str s z t,fun _ e=>nomatch e⟩
 |int i=>
  obtain ⟨t,rfl⟩:=r;cases (show T= "int" from ty)
  exact ⟨typeIs_int s i t,fun _ e=>nomatch e⟩
 |ref p=>
  cases r;rcases ty with ⟨rfl,xs,hq⟩|⟨rfl,o,hk,hc,hd⟩|⟨rfl,hk⟩|⟨rfl,S,n,hk⟩
  ·obtain ⟨its,_,pl,_⟩:=I.list hq;refine ⟨pl.isList.typeIs,fun a e=>?_⟩
   cases e;obtain ⟨o,n,e,c,hd,_⟩:=pl;exact ⟨o,e,hd⟩
  ·refine ⟨⟨o,I.kIn p o hk,hc⟩,fun a e=>?_⟩
   cases e;exact ⟨o,I.kIn _ o hk,hd⟩
  ·have z:∃o,s.heap.get? p=some o/\o.ExactDict:=by
    rcases hk with ⟨kvs,hk⟩|⟨kvs,hk⟩
    ·obtain ⟨_,_,_,_,o,_,_,e,ex,_⟩:=I.hok p _ hk;exact ⟨o,e,ex⟩
    ·obtain ⟨_,_,_,_,o,_,_,e,ex,_⟩:=I.hok p _ hk;exact ⟨o,e,ex⟩
   obtain ⟨o,e,ex⟩:=z;refine ⟨⟨o,e,ex.1⟩,fun a e2=>?_⟩
   cases e2;exact ⟨o,e,ex.2.1⟩
  ·obtain ⟨o,_,_,_,e,ex,_⟩:=I.hok p _ hk;refine ⟨⟨o,e,ex.1⟩,fun a e2=>?_⟩
   cases e2;exact ⟨o,e,ex.2.1⟩
 |_=>exact False.elim ty
def CI (K:D5) (T:String) (r:V->List V->Hp->VK->Prop) (to:TE):TE:=fun σ H Q=>to σ H fun x H1=>CH K T x H1/\r x [] H1 Q
def DB (K:D5) (T:String) (r:V->List V->Hp->VK->Prop) (to:TE) (t:TA):TE:=fun σ H Q=>to σ H fun x H1=>CH K T x H1/\t σ H1 fun xs H2=>r x xs H2 Q
variable {o e:Expr} {es:List Expr} {to:TE} {t:TA} {name:Str} {apos cpos:Pos} {T id:String} {r:V->List V->Hp->VK->Prop}
theorem zG (pa:PlainAttrs T) (slot:Slot T name id) (hty:typeOf (.builtin id)=pure (.type "method_descriptor")) (hm:Dn X id r) (ho:PE X o to)
  (hbase:attributeBase o name X.env (eval o X.env)=eval o X.env:=by rfl) (hline:(apos.endLine==cpos.line)=true:=by rfl):PE X (.Call (.Attribute o name apos) [] [] cpos) (CI X.K T r to):=by
 intro pins s σ H Q I h;refine wpAny_Call_method0_late hbase hline (a9 (ho pins s σ H _ I h) fun v s1 ⟨x,H1,I1,r1,ty,q1⟩=>?_)
 obtain ⟨h1,h2⟩:=wb I1 r1 ty;exact ⟨T,id,pa,slot,hty,h1,h2,Calls.callWith_builtin rfl (PySem.evalArgs_none (hm pins s1 σ H1 x [] v [] Q I1 r1 .nil q1))⟩
theorem dH (pa:PlainAttrs T) (slot:Slot T name id) (hty:typeOf (.builtin id)=pure (.type "method_descriptor")) (hm:Dn X id r) (ho:PE X o to) (ha:PA X (e::es) t)
  (hbase:attributeBase o name X.env (eval o X.env)=eval o X.env:=by rfl)
  (hfew:((backTo cpos (starEach (e::es) X.env)).all (fun x=> !x.1)&&(backToKw cpos (keywordEach [] X.env)).all (fun x=>x.1.isSome)
   &&decide ((e::es).length+([]:List Keyword).length+(if ([]:List Keyword).isEmpty then 0 else 1)<30))=true:=by rfl)
  (hline:(apos.endLine==cpos.line)=true:=by rfl) (hs:starEach (e::es) X.env=(false,eval e X.env)::starEach es X.env:=by rfl) (hplain:(backTo cpos (starEach es X.env)).any (·.1)=false:=by rfl):
  PE X (.Call (.Attribute o name apos) (e::es) [] cpos) (DB X.K T r to t):=by
 intro pins s σ H Q I h;refine wpAny_Call_method_late hbase hfew hline rfl (a9 (ho pins s σ H _ I h) fun v s1 ⟨x,H1,I1,r1,ty,q1⟩=>?_)
 obtain ⟨h1,h2⟩:=wb I1 r1 ty;refine ⟨T,id,pa,slot,hty,h1,h2,?_⟩;have hA:=ha cpos pins s1 σ H1 _ I1 q1;rw[hs] at hA⊢;refine Calls.callWith_builtin (by show (false||(backTo cpos (starEach es X.env)).any (·.1))=false;rw[hplain]<;>rfl) (Calls.evalArgs_plain ?_)
 exact a9 hA fun us s2 ⟨vs,H2,I2,r2,q2⟩=>hm pins s2 σ H2 x vs v us Q I2 r1 r2 q2
end
def CJ (X:Cx) (id:String) (r:V->List V->Hp->VK->Prop):Prop:=
 ∀(pins:GT) (s:Shared) (σ:St) (H:Hp) (x:V) (xs:List V) (v:Value) (us:GX) (Q:VK),aE X pins σ H s->RelV x v->aS xs us->r x xs H Q->
  wpAny (model X.prog X.w) X.A (call (.builtin id) (v::us)) (EP X pins σ Q) X.xe s
theorem aS.one:∀{x:V} {us:GX},aS [x] us->∃u,us= [u]/\RelV x u
 |_,_,.cons r .nil=>⟨_,rfl,r⟩
theorem aS.zero:∀{us:GX},aS [] us->us= []
 |_,.nil=>rfl
theorem aS.rep {xs:List V} {us:GX} (h:aS xs us):∀k:Nat,aS (EK k xs).flatten (EK k us).flatten
 |0=> .nil
 |k+1=>by
  rw[FQ,FQ,List.flatten_cons,List.flatten_cons];exact aS.append h (aS.rep h k)
theorem foldl_rep (its:GX):∀(k:Nat) (acc:GX),
  List.foldl (fun x1 x2=>x1++x2) acc.toArray (EK k its.toArray)=(acc++(EK k its).flatten).toArray
 |0,acc=>by simp
 |k+1,acc=>by
  have e:acc.toArray++its.toArray=(acc++its).toArray:=by simp
  have e2:(acc++its)++(EK k its).flatten=acc++(EK (k+1) its).flatten:=by
   rw[FQ,List.flatten_cons,DU]
  rw[<-e2,<-foldl_rep its k (acc++its),<-e,FQ,List.foldl_cons]
section
variable {X:Cx} {pins:GT} {σ:St} {H:Hp} {s:Shared} {l b:Addr} {xs ys zs:List V}
theorem aE.lset {its its':GX} {n:Nat} {f:Array Value->Array Value} {t':Nat} (I:aE X pins σ H s) (hH:H l=some (.lst xs))
  (e:s.heap.get? l=some {cls:= .type "list",data:= .seq its.toArray n}) (hf:f its.toArray=its'.toArray) (hv:aS ys its') (hz:ys.length<=sizeLine):
  aE X pins σ (av H l (.lst ys)) {s with heap:=s.heap.update l (Obj.mapSeq f),toks:=t'}:=by
 have q:=PySem.IsL.update e f;rw[hf] at q;refine I.write (x:=l) (e:=l) (by rw[hH];exact trivial) (.inl rfl) (fun b' u hb hu=>(Heap.get?_update_other s.heap (Obj.mapSeq f) (Ne.symm hb)).trans hu) ⟨_,q⟩ ?_
 exact ⟨hz,its',_,hv,q⟩
theorem aE.lnew {its:GX} {t':Nat} (I:aE X pins σ H s) (hv:aS ys its) (hz:ys.length<=sizeLine):
  aE X pins σ (av H s.heap.objs.size (.lst ys)) {s with heap:=s.heap.push {cls:= .type "list",data:= .seq its.toArray},toks:=t'}:=
 I.laid (fun _ _ q=>Heap.get?_push_of_some _ q) (D8 _) ⟨hz,its,0,hv,Heap.get?_push_size _ rfl⟩
theorem aE.fresh (I:aE X pins σ H s):H s.heap.objs.size=none:=I.hok.fresh (D8 _)
theorem aE.lstM (I:aE X pins σ H s) (hH:H l=some (.lst xs)):xs.length<=sizeLine/\∃(its:GX) (n:Nat),aS xs its/\xs.length=its.length/\s.heap.get? l=some {cls:= .type "list",data:= .seq its.toArray n}:=by
 obtain ⟨z,its,n,r,e⟩:=I.hok l _ hH;exact ⟨z,its,n,r,r.length,e⟩
theorem oH {n:Nat} (h:n<=sizeLine):Builtin.List.listTooLong n=false:=by
 unfold Builtin.List.listTooLong;exact decide_eq_false (by lia)
end
variable {X:Cx}
def x9:V->List V->Hp->VK->Prop:=fun x vs H Q=>∃l xs y,x= .ref l/\vs= [y]/\H l=some (.lst xs)/\xs.length<sizeLine/\Q .non (av H l (.lst (xs++ [y])))
theorem bo:CJ X "list.append" x9:=by
 intro pins s σ H x vs v us Q I rx rv h;obtain ⟨l,xs,y,rfl,rfl,hH,hz,q⟩:=h;cases rx;obtain ⟨u,rfl,ru⟩:=rv.one;obtain ⟨z,its,n,r,hl,e⟩:=I.lstM hH;refine call_meets F.slot_list_append ⟨_,e,rfl⟩ F.entry_list_append (F.args_list_append_2 _ _) (PySem.list_append l its.toArray n u (by rw[DX];lia)) ⟨e,?_⟩
 refine ⟨.non,_,I.lset (its':=its++ [u]) hH e (by simp) (r.append (.cons ru .nil)) ?_,rfl,q⟩
 rw[D7,List.length_singleton]
 lia
def ya:V->List V->Hp->VK->Prop:=fun x vs H Q=>∃l b xs zs,x= .ref l/\vs= [.ref b]/\H l=some (.lst xs)/\H b=some (.lst zs)/\xs.length+zs.length<=sizeLine/\Q .non (av H l (.lst (xs++zs)))
theorem eJ:CJ X "list.extend" ya:=by
 intro pins s σ H x vs v us Q I rx rv h;obtain ⟨l,b,xs,zs,rfl,rfl,hH,hB,hz,q⟩:=h;cases rx;obtain ⟨u,rfl,ru⟩:=rv.one;cases ru;obtain ⟨z,its,n,r,hl,e⟩:=I.lstM hH;obtain ⟨z2,its2,n2,r2,hl2,e2⟩:=I.lstM hB;have hsz:its.toArray.size+its2.toArray.size<=sizeLine:=by rw[DX,DX];lia
 have hlong:¬(!its.toArray.isEmpty&&Builtin.List.listTooLong (its.toArray.size+its2.toArray.size))=true:=by
  rw[oH hsz,Bool.and_false];exact DY
 refine call_meets F.slot_list_extend ⟨_,e,rfl⟩ F.entry_list_extend (F.args_list_extend_2 _ _)
  (AutoSeq1.list_extend_list_list_0 l its.toArray n b its2.toArray n2 hlong (by rw[DX];lia) (by lia)) ⟨e,e2,?_⟩
 refine ⟨.non,_,I.lset (its':=its++its2) hH e (by simp) (r.append r2) ?_,rfl,q⟩
 rw[D7]
 lia
def CK:R2:=fun x y H Q=>∃l b xs zs,x= .ref l/\y= .ref b/\H l=some (.lst xs)/\H b=some (.lst zs)/\xs.length+zs.length<=sizeLine/\∀p,H p=none->Q (.ref p) (av H p (.lst (xs++zs)))
theorem wc:fY X (binaryOp .Add) CK:=by
 intro pins s σ H x y v u Q I rx ry h;obtain ⟨l,b,xs,zs,rfl,rfl,hH,hB,hz,q⟩:=h;cases rx;cases ry;obtain ⟨z,its,n,r,hl,e⟩:=I.lstM hH;obtain ⟨z2,its2,n2,r2,hl2,e2⟩:=I.lstM hB;refine PySem.P.add_list e e2 ?_ (by rw[DX,DX];lia)
 have ea:its.toArray++its2.toArray=(its++its2).toArray:=by simp
 rw[ea];exact ⟨.ref _,_,I.lnew (t':=s.toks) (r.append r2) (by rw[D7];lia),rfl,q _ I.fresh⟩
def CL:R2:=fun x y H Q=>∃l k xs,x= .ref l/\y= .int k/\H l=some (.lst xs)/\ -(2^63)<=k/\k<2^63/\xs.length*k.toNat<=sizeLine/\
 ∀p,H p=none->Q (.ref p) (av H p (.lst (EK k.toNat xs).flatten))
theorem len_rep {α:Type} (xs:List α) (k:Nat):(EK k xs).flatten.length=k*xs.length:=by
 induction k with
 |zero=>simp
 |succ k ih=>rw[FQ,List.flatten_cons,D7,ih,Nat.succ_mul,Nat.add_comm]
theorem zH:fY X (binaryOp .Mult) CL:=by
 intro pins s σ H x y v u Q I rx ry h;obtain ⟨l,k,xs,rfl,rfl,hH,h1,h2,hz,q⟩:=h;cases rx;obtain ⟨t,rfl⟩:=ry;obtain ⟨z,its,n,r,hl,e⟩:=I.lstM hH;have hlen:its.toArray.size*k.toNat<=sizeLine:=by rw[DX,<-hl];exact hz
 have hcap:¬its.toArray.size*k.toNat>(2^63-1)/8:=by
  have:(sizeLine:Nat)<=(2^63-1)/8:=by decide
  lia
 have hfit:¬(!Builtin.List.listFitsIndex k)=true:=by
  rw[fitsIndex_both h1 h2];exact DY
 have hlong:¬Builtin.List.listTooLong (its.toArray.size*k.toNat)=true:=by
  rw[oH hlen];exact DY
 have hnew:List.foldl (fun x1 x2=>x1++x2) #[] (EK (if its.toArray.isEmpty=true then 0 else k.toNat) its.toArray)=(EK k.toNat its).flatten.toArray:=by
  have f0:∀m:Nat,List.foldl (fun x1 x2=>x1++x2) #[] (EK m its.toArray)=(EK m its).flatten.toArray:=fun m=>by
   have:=foldl_rep its m [];rw[List.nil_append] at this;exact this
  rw[f0];cases its with
  |nil=>simp
  |cons a r'=>rw[if_neg (by simp)]
 refine wpAny_binaryOp_repeat_ref (T:= "list") (U:= "int") (by decide) ⟨_,e,rfl⟩ (fun s'=>typeIs_int s' k t) noFill_list_mul F.fills_int_mul F.slot_int_rmul repeat_list F.slot_int_index.lookup
  (call_meets F.slot_int_rmul (typeIs_int s k t) F.entry_int_rmul (F.args_int_rmul_2 _ _) (int___rmul___int_list k t l its.toArray n)
   ⟨e,rfl,⟨_,e,rfl⟩,call_meets F.slot_list_mul ⟨_,e,rfl⟩ F.entry_list_mul (F.args_list_mul_2 _ _) (AutoListH.list___mul___list_int_3 l its.toArray n k t hfit hcap hlong) ⟨e,?_⟩⟩)
 rw[hnew];exact ⟨.ref _,_,I.lnew (t':=s.toks) (r.rep k.toNat) (by rw[len_rep,Nat.mul_comm];exact hz),rfl,q _ I.fresh⟩
section
variable {κ:Type} [DecidableEq κ]
def dI (kvs:List (κ×V)) (k:κ):Option V:=(kvs.find? fun kv=>decide (kv.1=k)).map (·.2)
def putK (kvs:List (κ×V)) (k:κ) (v:V):List (κ×V):=
 if (kvs.any fun kv=>decide (kv.1=k))=true then kvs.map (fun kv=>if kv.1=k then (kv.1,v) else kv) else kvs++ [(k,v)]
theorem cj {p:κ×V} {r:List (κ×V)} {k:κ} (e:p.1=k):dI (p::r) k=some p.2:=by simp[dI,El,e]
theorem cr {p:κ×V} {r:List (κ×V)} {k:κ} (e:¬p.1=k):dI (p::r) k=dI r k:=by simp[dI,El,e]
theorem ir (k:κ):∀kvs:List (κ×V),(kvs.any fun kv=>decide (kv.1=k))=(dI kvs k).isSome
 | []=>rfl
 |p::r=>by
  rw[FV]
  by_cases e:p.1=k
  ·simp only[cj e,decide_eq_true e,Bool.true_or,Option.isSome_some]
  ·rw[cr e,decide_eq_false e,FF];exact ir k r
theorem oI (k j:κ) (y:V):∀kvs:List (κ×V),dI (kvs.map fun kv=>if kv.1=k then (kv.1,y) else kv) j=(dI kvs j).map fun x=>if j=k then y else x
 | []=>rfl
 |p::r=>by
  have ih:=oI k j y r;rw[EW]
  by_cases h:p.1=k
  ·rw[if_pos h]
   by_cases e:p.1=j
   ·rw[cj (p:=(p.1,y)) e,cj e,Ek,if_pos (e.symm.trans h)]
   ·rw[cr (p:=(p.1,y)) e,cr e,ih]
  ·rw[if_neg h]
   by_cases e:p.1=j
   ·rw[cj (p:=p) e,cj e,Ek,if_neg (fun z=>h (e.trans z))]
   ·rw[cr (p:=p) e,cr e,ih]
theorem lW (k j:κ) (y:V):∀kvs:List (κ×V),dI kvs k=none->dI (kvs++ [(k,y)]) j=if j=k then some y else dI kvs j
 | [],_=>by
  by_cases e:k=j
  ·rw[if_pos e.symm];exact cj (p:=(k,y)) e
  ·rw[if_neg (fun z=>e z.symm)];exact cr (p:=(k,y)) e
 |p::r,hn=>by
  rw[List.cons_append];have hk:¬p.1=k:=fun z=>by rw[cj z] at hn;cases hn
  rw[cr hk] at hn;have ih:=lW k j y r hn
  by_cases e:p.1=j
  ·rw[cj e,cj e,if_neg (fun z=>hk (e.trans z))]
  ·rw[cr e,cr e,ih]
theorem we (kvs:List (κ×V)) (k j:κ) (y:V):dI (putK kvs k y) j=if j=k then some y else dI kvs j:=by
 unfold putK
 by_cases a:(kvs.any fun kv=>decide (kv.1=k))=true
 ·rw[if_pos a,oI];rw[ir] at a
  by_cases e:j=k
  ·obtain ⟨x,hx⟩:=EI.mp a;rw[if_pos e,e,hx,Ek,if_pos rfl]
  ·rw[if_neg e];cases dI kvs j with
   |none=>rfl
   |some x=>rw[Ek,if_neg e]
 ·rw[if_neg a];refine lW k j y kvs ?_;rw[ir] at a;cases q:dI kvs k with
  |none=>rfl
  |some x=>rw[q] at a;exact (a rfl).elim
theorem jq (kvs:List (κ×V)) (k:κ) (v:V):(putK kvs k v).length<=kvs.length+1:=by
 unfold putK
 split
 ·rw[D3];lia
 ·rw[D7,EH,List.length_nil];lia
theorem ic.isSome_eq {o:Option V} {u:GZ} (r:ic o u):o.isSome=u.isSome:=by
 cases o with
 |none=>cases u with
  |none=>rfl
  |some _=>exact (show False from r).elim
 |some _=>cases u with
  |none=>exact (show False from r).elim
  |some _=>rfl
theorem KV.val {kvs:List (κ×V)} {vs:List (κ×Value)} (r:KV kvs vs) (k:κ):ic (dI kvs k) (valueAt vs k):=by
 unfold KV at r
 induction r with
 |nil=>exact True.intro
 | @cons p q ps qs h t ih=>
  obtain ⟨h1,h2⟩:=h
  by_cases e:p.1=k
  ·have e':q.1=k:=h1.symm.trans e;have b:valueAt (q::qs) k=some q.2:=by simp[valueAt,El,e']
   rw[cj e,b];exact h2
  ·have e':¬q.1=k:=fun z=>e (h1.trans z)
   have b:valueAt (q::qs) k=valueAt qs k:=by simp[valueAt,El,e']
   rw[cr e,b];exact ih
theorem KV.any {kvs:List (κ×V)} {vs:List (κ×Value)} (r:KV kvs vs) (k:κ):(kvs.any fun kv=>decide (kv.1=k))=vs.any fun kv=>decide (kv.1=k):=by
 unfold KV at r
 induction r with
 |nil=>rfl
 |cons h t ih=>rw[FV,FV,ih,h.1]
theorem KV.repl {kvs:List (κ×V)} {vs:List (κ×Value)} (r:KV kvs vs) (k:κ) {y:V} {u:Value} (ry:RelV y u):
  KV (kvs.map fun kv=>if kv.1=k then (kv.1,y) else kv) (vs.map fun kv=>if kv.1=k then (kv.1,u) else kv):=by
 unfold KV at r⊢
 induction r with
 |nil=>exact .nil
 | @cons p q ps qs h t ih=>
  rw[EW,EW];refine .cons ?_ ih;obtain ⟨h1,h2⟩:=h
  by_cases e:p.1=k
  ·rw[if_pos e,if_pos (h1.symm.trans e)];exact ⟨h1,ry⟩
  ·rw[if_neg e,if_neg (fun z=>e (h1.trans z))];exact ⟨h1,h2⟩
theorem KV.put {kvs:List (κ×V)} {vs:List (κ×Value)} (r:KV kvs vs) (k:κ) {y:V} {u:Value} (ry:RelV y u):KV (putK kvs k y) (stored vs k u):=by
 unfold putK stored;rw[r.any k]
 by_cases e:(vs.any fun kv=>decide (kv.1=k))=true
 ·rw[if_pos e,if_pos e];exact r.repl k ry
 ·rw[if_neg e,if_neg e];exact Paired.snoc r ⟨rfl,ry⟩
theorem KV.length {kvs:List (κ×V)} {vs:List (κ×Value)} (r:KV kvs vs):kvs.length=vs.length:=Paired.length r
end
theorem lY {P:Program} {w:World} {k:Key} {u:Value} (r:RelV (kV k) u):(aF P w).is k u=true:=by
 cases k with
 |inl i=>obtain ⟨t,e⟩:=(show ∃t,u=Value.int i t from r);subst e;exact oB P w i t
 |inr x=>obtain ⟨t,e⟩:=(show ∃t,u=Value.str x t from r);subst e;exact oC P w x t
theorem lZ {P:Program} {w:World}:∀{ks:List Key} {us:GX},aS (ks.map kV) us->ItemsAre (aF P w) ks us
 | [],_,r=>by rw[List.map_nil] at r;cases r;exact .nil
 |k::ks,_,r=>by
  rw[EW] at r;cases r with
  |cons h t=>exact .cons (lY h) (lZ t)
abbrev KT (H:Hp):List (List Key×V)->List (List Key×Addr×Value)->Prop:=Paired fun p q=>p.1=q.1/\H q.2.1=some (.tup (p.1.map kV))/\RelV p.2 q.2.2
theorem KT.val {H:Hp} {kvs:List (List Key×V)} {xs:List (List Key×Addr×Value)} (r:KT H kvs xs) (k:List Key):ic (dI kvs k) ((atKey xs k).map (·.2)):=by
 induction r with
 |nil=>exact True.intro
 | @cons p q ps qs h t ih=>
  obtain ⟨h1,_,h2⟩:=h
  by_cases e:p.1=k
  ·have e':q.1=k:=h1.symm.trans e;have b:atKey (q::qs) k=some q.2:=by simp[atKey,El,e']
   rw[cj e,b];exact h2
  ·have e':¬q.1=k:=fun z=>e (h1.trans z)
   have b:atKey (q::qs) k=atKey qs k:=by simp[atKey,El,e']
   rw[cr e,b];exact ih
theorem KT.repl {H:Hp} {kvs:List (List Key×V)} {xs:List (List Key×Addr×Value)} (r:KT H kvs xs) (k:List Key) {y:V} {u:Value} (ry:RelV y u):
  KT H (kvs.map fun kv=>if kv.1=k then (kv.1,y) else kv) (xs.map (putAt k u)):=by
 induction r with
 |nil=>exact .nil
 | @cons p q ps qs h t ih=>
  rw[EW,EW];refine .cons ?_ ih;obtain ⟨h1,h2,h3⟩:=h;unfold putAt
  by_cases e:p.1=k
  ·rw[if_pos e,if_pos (h1.symm.trans e)];exact ⟨h1,h2,ry⟩
  ·rw[if_neg e,if_neg (fun z=>e (h1.trans z))];exact ⟨h1,h2,h3⟩
theorem KT.put {H:Hp} {kvs:List (List Key×V)} {xs:List (List Key×Addr×Value)} (r:KT H kvs xs) (k:List Key) {b:Addr} {y:V} {u:Value} (hb:H b=some (.tup (k.map kV))) (ry:RelV y u):
  KT H (putK kvs k y) (storedH xs k b u):=by
 have e:(kvs.any fun kv=>decide (kv.1=k))=(atKey xs k).isSome:=by
  rw[ir,(r.val k).isSome_eq,Option.isSome_map]
 unfold putK storedH;rw[e]
 by_cases q:(atKey xs k).isSome=true
 ·rw[if_pos q,if_pos q];exact r.repl k ry
 ·rw[if_neg q,if_neg q];exact Paired.snoc r ⟨rfl,hb,ry⟩
theorem KT.keeps {H H':Hp} {kvs:List (List Key×V)} {xs:List (List Key×Addr×Value)} (r:KT H kvs xs) (ht:∀b ys,H b=some (.tup ys)->H' b=some (.tup ys)):KT H' kvs xs:=
 Paired.mapP r fun _ _ z=>⟨z.1,ht _ _ z.2.1,z.2.2⟩
section
variable {P:Program} {w:World} {H:Hp} {h:Heap} {a:Addr}
theorem zc {u:HO} (ok:fG P w H h) (e:Rd H a u):bn P w H h a u:=e.ok ok
theorem oJ {kvs:List (Key×V)} (ok:fG P w H h) (e:Rd H a (.dK kvs)):kvs.length<=sizeLine/\(a==sysModules)=false/\∃vs,KV kvs vs/\h.DictOf (aF P w) a vs:=
 show bn P w H h a (.dK kvs) from zc ok e
theorem j6 {kvs:List (Key×V)} (ok:fG P w H h) (e:H a=some (.dK kvs)):kvs.length<=sizeLine/\(a==sysModules)=false/\∃vs,KV kvs vs/\h.DictOf (aF P w) a vs:=oJ ok (.inl e)
theorem nH {ks:List Key} (ok:fG P w H h) (e:H a=some (.tup (ks.map kV))):(tupleKind (aF P w)).is h ks a:=by
 obtain ⟨_,its,r,o,h1,h2,n,h3⟩:=(show bn P w H h a (.tup (ks.map kV)) from ok a _ e)
 exact ⟨o,its.toArray,n,h1,h2,h3,by simpa using lZ r⟩
theorem sQ {kvs:List (List Key×V)} (ok:fG P w H h) (e:Rd H a (.dT kvs)):kvs.length<=sizeLine/\(a==sysModules)=false/\
  ∃xs,KT H kvs xs/\h.DictOfH (tupleKind (aF P w)) a xs:=by
 obtain ⟨z,y,xs,r,o,es,ep,h1,h2,h3,h4,h5⟩:=(show bn P w H h a (.dT kvs) from zc ok e)
 refine ⟨z,y,xs,r,o,es,ep,h1,h2,h3,h4,fun x hx=>?_,h5⟩
 have all:∀{l:List (List Key×V)} {m:List (List Key×Addr×Value)},KT H l m->∀x∈m,(tupleKind (aF P w)).is h x.1 x.2.1:=by
  intro l m q
  induction q with
  |nil=>intro x hx;exact nomatch hx
  | @cons p q ps qs hq t ih=>
   intro x hx;rcases DM.mp hx with e|hx
   ·subst e;exact nH ok (by rw[<-hq.1];exact hq.2.1)
   ·exact ih x hx
 exact all r x hx
theorem Bi {kvs:List (List Key×V)} (ok:fG P w H h) (e:H a=some (.dT kvs)):kvs.length<=sizeLine/\(a==sysModules)=false/\
  ∃xs,KT H kvs xs/\h.DictOfH (tupleKind (aF P w)) a xs:=sQ ok (.inl e)
end
def gN (H:Hp) (a:Addr) (y:V) (r:Option V):Prop:=
 (∃kvs k,Rd H a (.dK kvs)/\y=kV k/\r=dI kvs k)∨∃kvs k b,Rd H a (.dT kvs)/\y= .ref b/\H b=some (.tup (k.map kV))/\r=dI kvs k
def lm (H:Hp) (a:Addr) (y v:V) (H':Hp):Prop:=
 (∃kvs k,H a=some (.dK kvs)/\y=kV k/\kvs.length<sizeLine/\H'=av H a (.dK (putK kvs k v)))∨
 ∃kvs k b,H a=some (.dT kvs)/\y= .ref b/\H b=some (.tup (k.map kV))/\kvs.length<sizeLine/\H'=av H a (.dT (putK kvs k v))
theorem gN.k {H:Hp} {a:Addr} {kvs:List (Key×V)} {k:Key} (e:H a=some (.dK kvs)):gN H a (kV k) (dI kvs k):= .inl ⟨kvs,k,.inl e,rfl,rfl⟩
theorem lm.k {H:Hp} {a:Addr} {kvs:List (Key×V)} {k:Key} {v:V} (e:H a=some (.dK kvs)) (hl:kvs.length<sizeLine):lm H a (kV k) v (av H a (.dK (putK kvs k v))):= .inl ⟨kvs,k,e,rfl,hl,rfl⟩
section
variable {pins:GT} {σ:St} {H:Hp} {s:Shared} {a:Addr} {y v:V} {u r:Value} {o:Option V} {A:Around} {E:GR}
theorem aE.big (I:aE X pins σ H s):sysModules<s.heap.objs.size:=by
 have h:mainGlobals<s.heap.objs.size:=(I.mod.glob.keeps I.bk).lt;exact Nat.lt_trans (by decide) h
theorem uC {Q:GR} (hu:A.units+1<cLine) (I:aE X pins σ H s) (g:gN H a y (some v)) (ry:RelV y u) (h:∀w' s',aE X pins σ H s'->RelV v w'->Q w' s'):
  wpAny (model X.prog X.w) A (getItem (.ref a) u) Q E s:=by
 rcases g with ⟨kvs,k,e,ey,l⟩|⟨kvs,k,b,e,ey,eb,l⟩
 ·subst ey;obtain ⟨z,hd,vs,rel,dd⟩:=oJ I.hok e;obtain ⟨w',hw,rw'⟩:=ic.some_of (v:=v) (o:=valueAt vs k) (by rw[l];exact rel.val k)
  exact wpAny_getItem_of (lY ry) dd.mapOf hw (h w' _ (I.tok _) rw')
 ·subst ey;cases (show u=Value.ref b from ry)
  obtain ⟨z,hd,xs,rel,dd⟩:=sQ I.hok e;obtain ⟨w',hw,rw'⟩:=ic.some_of (v:=v) (o:=(atKey xs k).map (·.2)) (by rw[l];exact rel.val k)
  obtain ⟨p,hp,hp2⟩:=DV.mp hw;refine wpAny_getItem_heap (tupleKind_room_in1 hu) (nH I.hok eb) dd hp ?_;rw[hp2];exact h w' _ (I.tok _) rw'
theorem yc {Q:GR} (hu:A.units+1<cLine) (I:aE X pins σ H s) (g:gN H a y o) (ry:RelV y u) (h:∀s',aE X pins σ H s'->Q (.bool (!o.isSome)) s'):
  wpAny (model X.prog X.w) A (compareOp .NotIn u (.ref a)) Q E s:=by
 rcases g with ⟨kvs,k,e,ey,l⟩|⟨kvs,k,b,e,ey,eb,l⟩
 ·subst ey;obtain ⟨z,hd,vs,rel,dd⟩:=oJ I.hok e;refine wpAny_notIn_of (lY ry) hd dd.mapOf ?_;rw[<-(rel.val k).isSome_eq,<-l];exact h _ (I.tok _)
 ·subst ey;cases (show u=Value.ref b from ry)
  obtain ⟨z,hd,xs,rel,dd⟩:=sQ I.hok e;refine wpAny_notIn_heap (tupleKind_room_in1 hu) (nH I.hok eb) hd dd ?_;have q:=(rel.val k).isSome_eq;rw[Option.isSome_map] at q;rw[<-q,<-l];exact h _ (I.tok _)
theorem sR {h':Heap} {t':Nat} {ob:HO} (I:aE X pins σ H s) (mu:AV (H a)) (hs:Heap.SameBut a s.heap h') (he:∃q,h'.get? a=some q) (new:bn X.prog X.w (av H a ob) h' a ob):
  aE X pins σ (av H a ob) {s with heap:=h',toks:=t'}:=
 I.write (x:=a) (e:=a) mu (.inl rfl) (fun b q hb z=>(hs.2 b hb).trans z) he new
theorem zI {P:Program} {w:World} {H':Hp} {h':Heap} {kvs:List (Key×V)} {vs:List (Key×Value)} (z:kvs.length<=sizeLine) (hd:(a==sysModules)=false) (rel:KV kvs vs) (dd:h'.DictOf (aF P w) a vs):
  bn P w H' h' a (.dK kvs):=⟨z,hd,vs,rel,dd⟩
theorem uD {H':Hp} {Q:Unit->Shared->Prop} (hu:A.units+1<cLine) (I:aE X pins σ H s) (g:lm H a y v H') (ry:RelV y u) (rv:RelV v r) (h:∀s',aE X pins σ H' s'->Q () s'):
  wpAny (model X.prog X.w) A (setItem (.ref a) u r) Q E s:=by
 rcases g with ⟨kvs,k,e,ey,l,eH⟩|⟨kvs,k,b,e,ey,eb,l,eH⟩
 ·subst ey eH;obtain ⟨z,hd,vs,rel,dd⟩:=j6 I.hok e;have hz:vs.length<=sizeLine:=by rw[<-rel.length];exact z
  have hl:(putK kvs k v).length<=sizeLine:=by have:=jq kvs k v;lia
  refine wpAny_setItem_pairs (hsz:=hz) (lY ry) dd fun h' dd' hs=>h _ ?_
  have he:∃q,h'.get? a=some q:=let ⟨q,_,_,hq,_⟩:=dd';⟨q,hq⟩;exact sR I (by rw[e];exact True.intro) hs he (zI hl hd (rel.put k rv) dd')
 ·subst ey eH;cases (show u=Value.ref b from ry)
  obtain ⟨z,hd,xs,rel,dd⟩:=Bi I.hok e;have hz:xs.length<=sizeLine:=by rw[<-Paired.length rel];exact z
  have hl:(putK kvs k v).length<=sizeLine:=by have:=jq kvs k v;lia
  refine wpAny_setItem_heap (hsz:=hz) (tupleKind_room_in1 hu) (nH I.hok eb) dd fun h' dd' hs=>h _ ?_
  obtain ⟨q,es,ep,hq,h2,h3,h4,_,h5⟩:=dd';refine sR I (by rw[e];exact True.intro) hs ⟨q,hq⟩ ⟨hl,hd,_,(rel.put k eb rv).keeps fun c ys ec=>?_,q,es,ep,hq,h2,h3,h4,h5⟩
  rw[ar (jp ec e (fun z=>nomatch z))]
  exact ec
end
section
variable {pins:GT} {σ:St} {H:Hp} {s:Shared} {a:Addr} {kvs:List (Key×V)} {k:Key} {u:Value} {A:Around} {E:GR}
theorem Bj {Q:GR} (I:aE X pins σ H s) (e:Rd H a (.dK kvs)) (h:∀t s',aE X pins σ H s'->Q (.int kvs.length t) s'):wpAny (model X.prog X.w) A (call (.builtin "len") [.ref a]) Q E s:=by
 obtain ⟨z,hd,vs,rel,dd⟩:=oJ I.hok e;refine call_len_dict hd dd (by rw[<-rel.length];rw[sizeLine_eq] at z;lia) ?_
 rw[<-rel.length];exact h _ _ (I.tok _)
end
def Bk (i:Expr):Prop:=∀ov iv,subscripted i false ov iv=operate [ov,iv] (getItem ov iv)
theorem yd {prog:Program} {w:World} {A:Around} {E:GR} {s:Shared} {env:Env} {value slice:Expr} {pos:Pos} {T id:String} {Q:GR}
  (hl:typeLookup (.type T) "__getitem__" =pure (some (.builtin id))) (hs:Bk slice)
  (h:wpAny (model prog w) A (eval value env) (fun o s₁=>wpAny (model prog w) A (eval slice env) (fun i s₂=>s₂.TypeIs o T/\wpAny (model prog w) A (getItem o i) Q E s₂) E s₁) E s):
  wpAny (model prog w) A (eval (.Subscript value slice pos) env) Q E s:=by
 refine Subscript_ (wpAny_mono h (fun o s₁ h₁=>wpAny_mono h₁ (fun i s₂ h₂=>?_) fun _ _ x=>x) fun _ _ x=>x)
 obtain ⟨hT,h₂⟩:=h₂;unfold subscriptTail;refine wpAny_bind ?_;rw[getitemInPython_of_ne hT.not_modules];refine wpAny_bind (wpAny_specialOf hT hl ?_);have fin:wpAny (model prog w) A (subscripted slice false o i) (fun r s₃=>wpAny (model prog w) A (letTemporaryGo value o r>>=fun _=>pure r) Q E s₃) E s₂:=by
  rw[hs o i];exact wpAny_operating (wpAny_mono h₂ (fun r s₃ h₃=>wpAny_bind (wpAny_letTemporaryGo (wpAny_pure h₃))) fun _ _ x=>x)
 first
  |exact wpAny_pure (wpAny_bind fin)
  |exact wpAny_bind (wpAny_pure (wpAny_bind fin))
  |exact wpAny_bind fin
theorem oK {X:Cx} {pins:GT} {σ:St} {H:Hp} {s:Shared} {a:Addr} {y:V} {o:Option V} (I:aE X pins σ H s) (g:gN H a y o):s.TypeIs (.ref a) "dict" :=by
 rcases g with ⟨kvs,k,e,_,_⟩|⟨kvs,k,b,e,_,_,_⟩
 ·obtain ⟨_,_,vs,_,dd⟩:=oJ I.hok e;exact dd.typeIs
 ·obtain ⟨_,_,xs,_,dd⟩:=sQ I.hok e;exact dd.typeIs
def Bl (td ty:TE):TE:=fun σ H Q=>td σ H fun x H1=>ty σ H1 fun y H2=>∃a v,x= .ref a/\gN H2 a y (some v)/\Q v H2
def ye (ty td:TE):TE:=fun σ H Q=>ty σ H fun y H1=>td σ H1 fun x H2=>∃a o,x= .ref a/\gN H2 a y o/\Q (.bl (!o.isSome)) H2
def Bm (td ty tv:TE):TS:=fun D σ H=>tv σ H fun v H1=>td σ H1 fun x H2=>ty σ H2 fun y H3=>∃a H4,x= .ref a/\lm H3 a y v H4/\D.nx σ H4
section
variable {o i e value:Expr} {pos pos' tpos:Pos} {td ty tv:TE}
theorem cb (hu:X.A.units+1<cLine) (ho:PE X o td) (hi:PE X i ty) (hs:Bk i):PE X (.Subscript o i pos) (Bl td ty):=by
 intro pins s σ H Q I h;refine yd PySem.F.slot_dict_getitem.lookup hs (a9 (ho pins s σ H _ I h) fun u s1 ⟨x,H1,I1,rx,q1⟩=>a9 (hi pins s1 σ H1 _ I1 q1) fun iv s2 ⟨y,H2,I2,ry,a,v,ex,g,q2⟩=>?_)
 subst ex;obtain rfl:u=Value.ref a:=rx;exact ⟨oK I2 g,uC hu I2 g ry fun w' s3 I3 rw'=>⟨v,H2,I3,rw',q2⟩⟩
theorem iV (hu:X.A.units+1<cLine) (hi:PE X i ty) (ho:PE X o td):PC X .NotIn i o (ye ty td):=by
 intro pins s σ H Q I h;refine a9 (hi pins s σ H _ I h) fun iv s1 ⟨y,H1,I1,ry,q1⟩=>a9 (ho pins s1 σ H1 _ I1 q1) fun u s2 ⟨x,H2,I2,rx,a,ov,ex,g,q2⟩=>?_
 subst ex;obtain rfl:u=Value.ref a:=rx;exact yc hu I2 g ry fun s3 I3=>⟨.bl (!ov.isSome),H2,I3,rfl,q2⟩
theorem gG (hu:X.A.units+1<cLine) (ho:PE X o td) (hi:PE X i ty) (hv:PE X value tv) (hs:swapsWith value (some (.Subscript o i pos')) pos.line X.env=pure false):
  PS X (.Assign [.Subscript o i pos'] value pos) (Bm td ty tv):=by
 intro pins s σ H D I h;refine wpAny_Assign_Subscript (a9 (hv pins s σ H _ I h) fun r s1 ⟨v,H1,I1,rv,q1⟩=>a9 (ho pins s1 σ H1 _ I1 q1) fun u s2 ⟨x,H2,I2,rx,q2⟩=>a9 (hi pins s2 σ H2 _ I2 q2) fun iv s3 ⟨y,H3,I3,ry,a,H4,ex,g,q3⟩=>?_) hs
 subst ex;obtain rfl:u=Value.ref a:=rx;exact uD hu I3 g ry rv fun s4 I4=>⟨σ,H4,I4,q3⟩
end
theorem wg {P:Program} {w:World} {H:Hp} (h:Heap) (hb:sysModules<h.objs.size):bn P w H (h.push {cls:= .type "dict",data:= .dict #[]}) h.objs.size (.dK []):=
 ⟨EC _,beq_eq_false_iff_ne.mpr (Ne.symm (DI hb)),[],.nil,Heap.DictOf.new h⟩
def zJ:TE:=fun _ H Q=>∀p,H p=none->Q (.ref p) (av H p (.dK []))
variable {pos:Pos}
theorem fj:PE X (.Dict [] [] pos) zJ:=fun pins s σ H Q I h=>
 wpAny_Dict_empty ⟨.ref s.heap.objs.size,_,I.laid (a:=s.heap.objs.size) (o:= .dK []) (t':=s.toks) (fun _ _ q=>Heap.get?_push_of_some _ q) (D8 _) (wg s.heap I.big),rfl,h _ (I.hok.fresh (D8 _))⟩
end L2
namespace Att
open PySem PySem.W PySem.Calls PyProof.Rows
theorem jJ {P:Params} {h:Heap}:∀(ns:List Int) (vs:GX),WellAll P h vs (ns.map WData.int)->IntsAre vs ns:=by
 intro ns
 induction ns with
 |nil=>
  intro vs w;rw[List.map_nil] at w;cases w;exact .nil
 |cons n ns ih=>
  intro vs w;rw[EW] at w;cases w with
  |cons a b=>
   cases a;exact .cons _ _ (ih _ b)
theorem uE {l:OpenLaw} {n:Nat} (hn:l.most=some n) {P:Params} {h:Heap} {args:List WData} {vals:GX}
  (hpre:l.row.toRowW.claim.pre args=true) (hwl:WellAll P h vals args):
  ∃a vs ns,vals= [Value.ref a]/\args= [WData.list (ns.map WData.int)]/\h.get? a=some {cls:= .type "list",data:= .seq vs.toArray}/\IntsAre vs ns/\ns.length<=n:=by
 have hsh:WShape.hasAll [] args [.list .int]=true:=(pre_splitW hpre).1;have hc:l.pre.holds [] {args:=args}=true:=(pre_splitW hpre).2;obtain ⟨d,r,rfl,h1,h2⟩:=hasAllW_cons hsh;obtain rfl:=hasAllW_nil h2;obtain ⟨xs,rfl,h3⟩:=hasW_list h1;obtain ⟨ns,rfl⟩:=items_int h3;have hlen:ns.length<=n:=by
  unfold OpenLaw.pre at hc;have h4:(WTm.not (.lt (.lit (.int (n:Int))) (.len (.arg 0)))).holds [] {args:= [.list (ns.map .int)]}=true:=by
   have h4:=(holds_andW hc).1;rw[hn] at h4;exact h4
  have h5:=condW_of h4 (w_not (w_lt w_lit (w_len_list (w_arg rfl))));rw[D3] at h5;refine Nat.le_of_not_lt fun q=>?_
  have q':(n:Int)<((ns.length:Nat):Int):=by lia
  first
   |(rw[decide_eq_true q'] at h5;exact absurd h5 (by decide))
   |(simp at h5;lia)
 cases hwl with
 |cons w1 w2=>
  cases w2;cases w1 with
  |list ho hall=>exact ⟨_,_,ns,rfl,rfl,ho,jJ ns _ hall,hlen⟩
theorem uF (l:OpenLaw) (args:List WData):l.row.toRowW.claim.post args (.bool true) args=true:=
 postW_of (r:=l.row.toRowW) (X:=(true==true))
  (show WShape.has [] (.bool true) .bool=true by first|rfl|decide|simp[WShape.has,WShape.arms,WShape.armsAll])
  (show (WTm.eq .res (.lit (.bool true))).value [] {args:=args,res:=some (.bool true),after:=args}=some (.bool (true==true)) from w_eq_bool (w_res rfl) w_lit) rfl
theorem oM {l:OpenLaw} {n:Nat} {q:Program} {loose:GV} {XP:GS->Heap->Prop} {YP:World->Heap->Prop} {d:DefRec}
  (hn:l.most=some n) (hdf:d.params.defaults= [])
  (call:∀(w:World) (s₀ s₁:Shared) (mg mb:GS) (fa:Addr) (o:Obj) (pm cd doc:Value) (a:Addr) (vs:GX) (ns:List Int),
   Ground q loose [] XP w s₀ mg mb s₁.heap->YP w s₁.heap->
   s₁.heap.get? fa=some o->o.data= .func (docDef d.name d.params d.body d.scope pm cd doc)->s₁.heap.CodeRec cd d.name->mg d.name=some (.ref fa)->
   s₁.heap.get? a=some {cls:= .type "list",data:= .seq vs.toArray}->IntsAre vs ns->ns.length<=n->s₁.gens= #[]->
   codeAny (model l.prog w) callerA (.call (.ref fa) ⟨[.ref a],[]⟩) (fun r s'=>r= .ok (.ret (.bool true))/\OldK s₁.heap s'.heap/\s'.os=s₁.os/\AllBare s'.gens) s₁):
  WalkO q loose XP YP l.row.toRowW d [] (fun f vs=>PySem.call f vs):=by
 intro w s₀ s₁ mg mb G Y fa o pm cd doc dV kV ho hd hcd hD hmg hg args vals as hpre hlay hrd hwl hlo;obtain rfl:dV= .none:=Dflts.none hD hdf;obtain rfl:kV= .none:=Dflts.noKw hD;obtain ⟨a,vs,ns,rfl,rfl,hobj,hints,hlen⟩:=uE hn hpre hwl;refine enter_call (codeAny_mono (call w s₀ s₁ mg mb fa o pm cd doc a vs ns G Y ho (fd_plain hd) hcd hmg hobj hints hlen hg) fun r s' hq=>?_)
 obtain ⟨rfl,h2,h3,h4⟩:=hq;exact ⟨.inl ⟨.bool true,.bool true,[],rfl,fun _=>rfl,.bool true,uF l _,fun _=>⟨List.Pairwise.nil,fun _ hm=>(nomatch hm)⟩⟩,h2,h3,h4⟩
end Att
namespace L2
open PySem PySem.Spec PyProof.Rows
theorem iW:∀{vs:GX} {ns:List Int},IntsAre vs ns->aS (ns.map V.int) vs
 |_,_,.nil=> .nil
 |_,_,.cons n t h=> .cons ⟨t,rfl⟩ (iW h)
def zK (H:Hp):Prop:=∀b,H b=none∨∃o xs,H b=some (.frz o (.lst xs))
theorem wj {P:Program} {w:World} {K:D5} {mg mb:GS} {CX:qZ} {k:Nat} {fa a:Addr} {fd:FuncData} {x:Str} {sp:Sp} {s₁:Shared} {vs:GX} {ns:List Int}
  (KX:K.In s₁.heap) (hns:s₁.heap.Ns mainGlobals mg) (hb:s₁.heap.Ns builtinsNs mb) (hbb:∀x:Str,x≠ "__name__" ->mb x=bootBuiltins x) (hlim:s₁.heap.NoLimit) (hg:s₁.gens= #[])
  (ha:s₁.heap.get? a=some {cls:= .type "list",data:= .seq vs.toArray}) (hi:IntsAre vs ns) (hl:ns.length<=sizeLine) (hr:cQ k callerA)
  (F:∀base:Heap,K.In base->base.Ns mainGlobals mg->bv P w K mg base CX k fa fd [x] sp) (hbind:∀(s:Shared) (u:Value),BindsTo s fd ⟨[u],[]⟩ [(x,u)])
  (hsp:∀H:Hp,zK H->aK K H a (ns.map V.int)->sp [.ref a] H (fun v _=>v= .bl true) fun _ _ _=>False)
  (hCX:∀H e s',CX [] H s₁ (fun _ _ _=>False) e s'->False):
  codeAny (model P w) callerA (.call (.ref fa) ⟨[.ref a],[]⟩) (fun r s'=>r= .ok (.ret (.bool true))/\OldK s₁.heap s'.heap/\s'.os=s₁.os/\AllBare s'.gens) s₁:=by
 have rv:=iW hi;have lenV:=hi.length;have core:∀H:Hp,zK H->aK K H a (ns.map V.int)->fG P w H s₁.heap->(∀b,H b≠none->b=a)->(H a≠none->K.lookup a=none)->
   codeAny (model P w) callerA (.call (.ref fa) ⟨[.ref a],[]⟩) (fun r s'=>r= .ok (.ret (.bool true))/\OldK s₁.heap s'.heap/\s'.os=s₁.os/\AllBare s'.gens) s₁:=by
  intro H hO hS hok hA hK;have base_of:∀{b:Addr} {o:Obj},s₁.heap.get? b=some o->H b=none->(mZ s₁.heap H).get? b=some o:=fun e n=>vO e n
  have noA:∀{b:Addr} {o:Obj} {es:Array DictEntry} {ep:Nat},s₁.heap.get? b=some o->o.data= .dict es ep->H b=none:=fun {b o es ep} e d=>by
   cases q:H b with
   |none=>rfl
   |some u=>
    have e':b=a:=hA b (by rw[q];simp)
    subst e';rw[ha] at e;cases e;have d':Data.seq vs.toArray _=Data.dict es ep:=d;cases d'
  have nsK:∀{b:Addr} {m:GS},s₁.heap.Ns b m->(mZ s₁.heap H).Ns b m:=fun {b m} ⟨o,es,ep,e,d,r⟩=>⟨o,es,ep,base_of e (noA e d),d,r⟩
  have hKb:K.In (mZ s₁.heap H):=fun b o e=>base_of (KX b o e) (by
   cases q:H b with
   |none=>rfl
   |some u=>
    have e':b=a:=hA b (by rw[q];simp)
    subst e';rw[hK (by rw[q];simp)] at e;cases e)
  have hM:Mod K mg (mZ s₁.heap H):=⟨hKb,nsK hns,⟨mb,nsK hb,hbb⟩,let ⟨mc,h1,h2⟩:=hlim;⟨mc,nsK h1,h2⟩⟩;have e0:q8 P w K mg (mZ s₁.heap H) callerA [] s₁ H:=⟨rfl,hM,fun b o e=>xR e,Nat.le_of_eq (ur _ _),trivial,fun b hb=>absurd (show b∈([]:GW) from hb) (by simp),hok,.of_eq hg⟩
  refine codeAny_mono ((F _ hKb (nsK hns)).run callerA [] s₁ H ⟨[.ref a],[]⟩ [.ref a] [.ref a] _ _ hr e0 (hbind s₁ (.ref a)) (.cons rfl .nil) (hsp H hO hS)) fun r s' h=>?_
  cases r with
  |error e=>exact (hCX H e s' h).elim
  |ok fl=>
   cases fl with
   |next=>exact False.elim h
   |brk=>exact False.elim h
   |cont=>exact False.elim h
   |ret u=>
    obtain ⟨v,H',os,bare,un,hok',r',q⟩:=h;have q':v= .bl true:=q;subst q';obtain rfl:u=Value.bool true:=r';refine ⟨rfl,OldK.of_keep fun b o e=>?_,os,bare⟩
    cases q:H b with
    |none=>exact un.keep b o e q (by intro z;exact absurd (show b∈([]:GW) from z) (by simp)) (by simp)
    |some u=>
     rcases hO b with z|⟨ob,xs,z⟩
     ·rw[q] at z;cases z
     ·have z2:=un.frzs b ob _ z;obtain ⟨e1,_⟩:=hok b _ z;obtain ⟨e2,_⟩:=hok' b _ z2;rw[e] at e1;cases e1;exact e2
 cases hk:K.lookup a with
 |some o=>
  have e:=KX a o hk;rw[ha] at e;cases e;refine core (fun _=>none) (fun _=> .inl rfl) (.inr ⟨_,vs.toArray,_,hk,rfl,rfl,rfl,by rw[DX,lenV];exact hl,by simpa using rv⟩) (fun b u z=>by have z':(none:Option HO)=some u:=z;cases z') (fun b z=>absurd rfl z) fun z=>absurd rfl z
 |none=>
  refine core (fun b=>if b=a then some (.frz {cls:= .type "list",data:= .seq vs.toArray} (.lst (ns.map V.int))) else none) (fun b=>?_) (.inl (.inr ⟨{cls:= .type "list",data:= .seq vs.toArray},if_pos rfl⟩)) (fun b u z=>?_) (fun b z=>?_) fun _=>hk
  ·by_cases hb:b=a
   ·exact .inr ⟨_,_,if_pos hb⟩
   ·exact .inl (if_neg hb)
  ·by_cases hb:b=a
   ·have z':=(if_pos hb).symm.trans z;cases z';subst hb;exact ⟨ha,by rw[D3];exact hl,vs,_,rv,ha⟩
   ·have z':=(if_neg hb).symm.trans z;cases z'
  ·by_cases hb:b=a
   ·exact hb
   ·exact absurd (if_neg hb) z
theorem yf {l:PySem.W.OpenLaw} {n k:Nat} {q:Program} {loose:GV} {XP:GS->Heap->Prop} {YP:World->Heap->Prop} {d:DefRec} {K:Params->D5} {CX:World->qZ} {sp:World->Sp} {x:Str}
  (hn:l.most=some n) (hn2:n<=sizeLine) (hdf:d.params.defaults= []) (hr:cQ k callerA)
  (hY:∀(w:World) (h:Heap),YP w h->(K w.params).In h)
  (F:∀(w:World) (mg:GS) (fa:Addr) (h:Heap),(K w.params).In h->h.Ns mainGlobals mg->mg d.name=some (.ref fa)->
   ∃fd:FuncData,(∀(s:Shared) (u:Value),BindsTo s fd ⟨[u],[]⟩ [(x,u)])/\
    ∀base:Heap,(K w.params).In base->base.Ns mainGlobals mg->bv l.prog w (K w.params) mg base (CX w) k fa fd [x] (sp w))
  (hsp:∀(w:World) (H:Hp) (a:Addr) (ns:List Int),ns.length<=n->zK H->aK (K w.params) H a (ns.map V.int)->sp w [.ref a] H (fun v _=>v= .bl true) fun _ _ _=>False)
  (hCX:∀(w:World) (H:Hp) (s:Shared) (e:Value) (s':Shared),CX w [] H s (fun _ _ _=>False) e s'->False):
  PySem.W.WalkO q loose XP YP l.row.toRowW d [] (fun f vs=>PySem.call f vs):=by
 refine Att.oM hn hdf fun w s₀ s₁ mg mb fa o pm cd doc a vs ns G Y ho hd hcd hmg hobj hints hlen hg=>?_
 have KX:=hY w _ Y;obtain ⟨fd,hb,hF⟩:=F w mg fa _ KX G.T.g hmg;exact wj KX G.T.g G.T.b G.T.builtins G.T.nolimit hg hobj hints (ED hlen hn2) hr hF hb (fun H hO hS=>hsp w H a ns hlen hO hS) fun H e s'=>hCX w H s₁ e s'
def dX (s:Stmt):Arguments:=match s with
 | .FunctionDef _ a _ _ _ _ _ _ _ _=>a
 |_=>{posonlyargs:= [],args:= [],vararg:=none,kwonlyargs:= [],kw_defaults:= [],kwarg:=none,defaults:= []}
def c7 (s:Stmt):List Stmt:=match s with
 | .FunctionDef _ _ b _ _ _ _ _ _ _=>b
 |_=> []
def aw (s:Stmt):Scope:=match s with
 | .FunctionDef _ _ _ _ _ _ sc _ _ _=>sc
 |_=>{kind:= .function,names:= [],isGenerator:=false,isCoroutine:=false}
abbrev bQ:qZ:=fun _ _ _ _ _ _=>False
abbrev E0:XK:=fun _ _ _=>False
theorem zd {X:Cx}:j4 bQ X E0:=fun _ _ _ _ _ _ _ h=>h.elim
theorem cx {A:Around} {k:Nat} (hr:cQ k A):A.units+1<cLine:=Nat.lt_of_le_of_lt (Nat.add_le_add_left (by decide:1<=64) _) hr.units
variable {X:Cx}
theorem pv (i:Nat) {x:Str} {pos:Pos} (hN:X.N[i]?=some x:=by rfl) (hv:AW X.env.scope x:=by first|exact Or.inl rfl|exact Or.inr (Or.inl rfl)|exact Or.inr (Or.inr rfl)) (hd:(x==("__debug__" :Str))=false:=by decide)
  (hcd:(x==("__classdict__" :Str))=false:=by decide):PE X (.Name x pos) (AX i):=zr hN hv hd hcd
theorem dR {A B:Prop} (h:B):if false=true then A else B:=by
 rw[if_neg DY];exact h
theorem gS {A B:Prop} (h:A):if true=true then A else B:=by
 rw[if_pos rfl];exact h
def az (H H':Hp):Prop:=∀b o,H b=some o->H' b=some o
theorem az.refl (H:Hp):az H H:=fun _ _ h=>h
theorem az.trans {H H1 H2:Hp} (a:az H H1) (b:az H1 H2):az H H2:=fun c o h=>b c o (a c o h)
theorem az.free {H H':Hp} (e:az H H') {l:Addr} (h:H' l=Option.none):H l=Option.none:=by
 cases q:H l with
 |none=>rfl
 |some o=>
  rw[e l o q] at h;cases h
theorem az.seq {K:D5} {H H':Hp} {a:Addr} {xs:List V} (e:az H H') (h:aK K H a xs):aK K H' a xs:=by
 rcases h with (h|⟨o,h⟩)|h
 ·exact .inl (.inl (e _ _ h))
 ·exact .inl (.inr ⟨o,e _ _ h⟩)
 ·exact .inr h
theorem cV:fY X (binaryOp .Mult) (rI (fun i j=>IntMulOk i j) fun i j=> .int (i*j)):=Ci fun _ _ _ _ _ _ _ hc q=>mul_int q hc
theorem dJ:fY X (binaryOp .FloorDiv) (rI (fun i j=>j≠0/\Builtin.divisionGoesByPylong i j=false) fun i j=> .int (i.fdiv j)):=Ci fun _ _ _ _ _ _ _ hc q=>floordiv_int hc.1 q (.inl hc.2)
theorem sS:fY X (binaryOp .Pow) (rI (fun i j=>0<=j/\(Builtin.Int.intBits i:Int)*j<=2^27) fun i j=> .int (i^j.toNat)):=Ci fun _ _ _ _ _ _ _ hc q=>pow_int hc.1 hc.2 q
theorem oN:c4 X (.builtin "isinstance") (fun xs H Q=>∃i,xs= [.int i,.ty "int"]/\Q (.bl true) H):=by
 intro pins s σ H xs us Q I r h;obtain ⟨i,rfl,q⟩:=h;obtain ⟨u,w',rfl,⟨t,rfl⟩,e2⟩:=vals2 r;cases e2;exact PySem.call_isinstance (PySem.isinstance_true (Tx:= "int") PySem.F.isi_meta_int PySem.F.isi_self_int) ⟨rfl,⟨.bl true,H,I,rfl,q⟩⟩
theorem nJ:c4 X (.builtin "isinstance") (fun xs H Q=>∃i,xs= [.int i,.ty "bool"]/\Q (.bl false) H):=by
 intro pins s σ H xs us Q I r h;obtain ⟨i,rfl,q⟩:=h;obtain ⟨u,w',rfl,⟨t,rfl⟩,e2⟩:=vals2 r;cases e2;exact PySem.call_isinstance (PySem.isinstance_false_int (T:= "bool") (by decide) PySem.F.isi_meta_bool PySem.F.sub_int_bool) ⟨.bl false,H,I.tok _,rfl,q⟩
theorem oO:c4 X (.builtin "isinstance") (fun xs H Q=>∃i,xs= [.bl i,.ty "bool"]/\Q (.bl true) H):=by
 intro pins s σ H xs us Q I r h;obtain ⟨i,rfl,q⟩:=h;obtain ⟨u,w',rfl,e1,e2⟩:=vals2 r;cases e1;cases e2;exact PySem.call_isinstance (PySem.isinstance_true (Tx:= "bool") PySem.F.isi_meta_bool PySem.F.isi_self_bool) ⟨rfl,⟨.bl true,H,I,rfl,q⟩⟩
theorem oP:c4 X (.builtin "isinstance") (fun xs H Q=>∃a ys,xs= [.ref a,.ty "tuple"]/\bH X.K H a ys/\Q (.bl true) H):=by
 intro pins s σ H xs us Q I r h;obtain ⟨a,ys,rfl,hs,q⟩:=h;obtain ⟨u,w',rfl,e1,e2⟩:=vals2 r;cases e1;cases e2;obtain ⟨its,_,p1,_⟩:=I.tuple hs;exact PySem.call_isinstance (PySem.isinstance_true (Tx:= "tuple") PySem.F.isi_meta_tuple PySem.F.isi_self_tuple) ⟨p1.typeIs,⟨.bl true,H,I,rfl,q⟩⟩
end L2
namespace Sw
open PySem
def Bd (n:Nat) (x:Int):Prop:=x.natAbs<2^n
theorem Bd.ok {m n:Nat} {x y:Int} (h:Bd m x) (g:Bd n y) (e:m+n<=134217728:=by decide):IntMulOk x y:=
 IntMulOk.of_le (intBits_le_iff.mpr h) (intBits_le_iff.mpr g) e
end Sw
namespace L2
open PySem
inductive Bo (K:D5) (H:Hp):V->String->Bool->Prop where
 |ii (i:Int):Bo K H (.int i) "int" true
 |ib (i:Int):Bo K H (.int i) "bool" false
 |bb (b:Bool):Bo K H (.bl b) "bool" true
 |tt (a:Addr) (ys:List V) (h:bH K H a ys):Bo K H (.ref a) "tuple" true
theorem oQ {X:Cx}:c4 X (.builtin "isinstance") (fun xs H Q=>∃x T b,xs= [x,.ty T]/\Bo X.K H x T b/\Q (.bl b) H):=by
 intro pins s σ H xs us Q I r h;obtain ⟨x,T,b,rfl,i,q⟩:=h;cases i with
 |ii i=>exact oN pins s σ H _ us Q I r ⟨i,rfl,q⟩
 |ib i=>exact nJ pins s σ H _ us Q I r ⟨i,rfl,q⟩
 |bb i=>exact oO pins s σ H _ us Q I r ⟨i,rfl,q⟩
 |tt a ys h=>exact oP pins s σ H _ us Q I r ⟨a,ys,rfl,h,q⟩
end L2
namespace Sw
open PySem L2
theorem dT {p A B:Prop} [Decidable p] (h:p) (a:A):if decide p=true then A else B:=by rw[if_pos (decide_eq_true h)];exact a
theorem dF {p A B:Prop} [Decidable p] (h:¬p) (b:B):if decide p=true then A else B:=by rw[if_neg (by simp[h])];exact b
theorem d2 {p A B:Prop} [Decidable p] (h1:p->A) (h2:¬p->B):if decide p=true then A else B:=by
 by_cases h:p
 ·exact dT h (h1 h)
 ·exact dF h (h2 h)
theorem nT {p A B:Prop} [Decidable p] (h:¬p) (a:A):if (!decide p)=true then A else B:=by rw[if_pos (by simp[h])];exact a
theorem nF {p A B:Prop} [Decidable p] (h:p) (b:B):if (!decide p)=true then A else B:=by rw[if_neg (by simp[h])];exact b
theorem vi {a b:Int} (h:a=b):V.int a=V.int b:=by rw[h]
theorem vj {a b:Int} (h:V.int a=V.int b):a=b:=by cases h;rfl
theorem DC {a b:Int} {A B:Prop} (h1:a≠b->A) (h2:a=b->B):if (!decide (V.int a=V.int b))=true then A else B:=by
 by_cases h:a=b
 ·exact nF (vi h) (h2 h)
 ·exact nT (fun e=>h (vj e)) (h1 h)
theorem DD {a b:Int} {A B:Prop} (h:a≠b) (x:B):if decide (V.int a=V.int b)=true then A else B:=dF (fun e=>h (vj e)) x
theorem Bp {a b:Int} {A B:Prop} (h:a=b) (x:B):if (!decide (V.int a=V.int b))=true then A else B:=nF (vi h) x
def re (K:D5):Sp:=fun vs H Q _=>∃(a:Addr) (ns:List Int) (k:Int),vs= [.ref a,.int k]/\aK K H a (ns.map V.int)/\0<=k/\∀v:Int,Q (.int v) H
def sT:Sp:=fun vs H Q _=>∃v:Int,vs= [.int v]/\Q (.bl true) H
def sU (K:D5):Sp:=fun vs H Q _=>∃(a:Addr) (ns:List Int),vs= [.ref a]/\aK K H a (ns.map V.int)/\ns.length<=63/\∀H',Q (.bl true) H'
theorem yg {ns:List Int} {k:Int} (h0:0<=k) (h:k<(((ns.map V.int).length:Nat):Int)):∃v:Int,iU (ns.map V.int) k=some (.int v):=by
 rw[D3] at h;have hk:k.toNat<ns.length:=by lia
 have ek:k=((k.toNat:Nat):Int):=by lia
 have q:iU (ns.map V.int) ((k.toNat:Nat):Int)=some (.int ns[k.toNat]):=aU (by rw[D9,D0 hk]<;>rfl)
 rw[<-ek] at q;exact ⟨_,q⟩
theorem cut {t u:TS} {D:Ends} {σ:L2.St} {H:Hp} (I:L2.St->Hp->Prop) (h1:∀N:L2.St->Hp->Prop,(∀σ H,I σ H->N σ H)->t {D with nx:=N} σ H) (h2:∀σ H,I σ H->u D σ H):zu t u D σ H:=h1 _ h2
theorem ai {H:Hp} {p:Addr} (h:H p=none) (o:HO):az H (av H p o):=fun b u q=>by rw[ar (bL q h)];exact q
structure bN (K:D5) (x qual:Str) (st:Stmt) (dV:Value) (f:Addr) (fd:FuncData):Prop where
 ex:∃(oc:Value) (od:GY) (kV doc pm:Value) (an:GY) (cdv ct:Value) (osl:GU),
  fd=Ez x qual (dX st) (c7 st) (aw st) dV kV doc pm an cdv ct/\K.lookup f=some ⟨oc,od,.func fd,osl⟩/\PySem.W.codeIn K cdv qual=true
 kp:FG K (.ref f)=true
section
variable {P:Program} {w:World} {K:D5} {mg:GS} {base:Heap}
theorem bN.ok {x qual:Str} {st:Stmt} {dV:Value} {f:Addr} {fd:FuncData} {N ps:GV} {k:Nat} {sp:Sp} (F:bN K x qual st dV f fd) (S:aI N ps (aw st)) (len:∀vs H Q E,sp vs H Q E->vs.length=ps.length)
  (hbody:∀(cdv:Value) (A:Around) (outer:List Env) (s:Shared) (H:Hp) (vs:List V) (Q:VK) (E:XK),cQ k (A.deeper (PyProof.Rows.envOfC qual (aw st) s.heap.objs.size f cdv))->sp vs H Q E->
   ∃t,lN (jI bQ P w K mg base N qual (aw st) f cdv A outer s H E).nox (c7 st) t/\t {nx:=fun _ H'=>Q .non H',rt:=Q} (start N vs) H):bv P w K mg base bQ (k+1) f fd ps sp:=by
 obtain ⟨oc,od,kV,doc,pm,an,cdv,ct,osl,rfl,lk,hcd⟩:=F.ex;refine zb lk hcd S len fun A outer s H vs Q E hr hsp=>?_
 obtain ⟨t,h,q⟩:=hbody cdv A outer s H vs Q E hr hsp;exact ⟨t,h.nox,q⟩
theorem bN.binds {x qual:Str} {st:Stmt} {T:Addr} {f:Addr} {fd:FuncData} {ps:GV} {o:Obj} {items:Array Value} {n:Nat} {ds:GX} (F:bN K x qual st (.ref T) f fd) (ho:K.lookup T=some o) (hs:o.data= .seq items n)
  (h:∀(kV doc pm:Value) (an:GY) (cdv ct:Value) (us:GX),(us++ds).length=ps.length->∃k:Option (Array Value)->Sem (List (Str×Value)),bindArgs (Ez x qual (dX st) (c7 st) (aw st) (.ref T) kV doc pm an cdv ct) ⟨us,[]⟩=seqItems? (.ref T)>>=k/\k (some items)=pure (ps.zip (us++ds))):Binds K fd ps ds:=by
 obtain ⟨oc,od,kV,doc,pm,an,cdv,ct,osl,rfl,lk,hcd⟩:=F.ex;intro s us KX hl;obtain ⟨k,h1,h2⟩:=h kV doc pm an cdv ct us hl;exact PySem.W.binds_K KX rfl ho hs h1 h2
theorem bN.binds0 {x qual:Str} {st:Stmt} {dV:Value} {f:Addr} {fd:FuncData} {ps:GV} (F:bN K x qual st dV f fd)
  (h:∀(kV doc pm:Value) (an:GY) (cdv ct:Value) (us:GX),us.length=ps.length->bindArgs (Ez x qual (dX st) (c7 st) (aw st) dV kV doc pm an cdv ct) ⟨us,[]⟩=pure (ps.zip us)):Binds K fd ps []:=by
 obtain ⟨oc,od,kV,doc,pm,an,cdv,ct,osl,rfl,lk,hcd⟩:=F.ex;exact .all (h kV doc pm an cdv ct)
theorem nK {x qual:Str} {st:Stmt} {f:Addr} {oc dV:Value} {od an:GY} {osl:GU} {kV doc pm cdv ct:Value} (l:K.lookup f=some ⟨oc,od,.func (Ez x qual (dX st) (c7 st) (aw st) dV kV doc pm an cdv ct),osl⟩)
  (c:PySem.W.codeIn K cdv qual=true) (k:FG K (.ref f)=true):bN K x qual st dV f (Ez x qual (dX st) (c7 st) (aw st) dV kV doc pm an cdv ct):=⟨⟨oc,od,kV,doc,pm,an,cdv,ct,osl,rfl,l,c⟩,k⟩
end
end Sw
namespace XH
open PySem
structure Mv (fs ch:GW) (h h':Heap):Prop where
 keep:∀b o,b∉fs->b∉ch->h.get? b=some o->h'.get? b=some o
 slot:∀b o,b∈fs->b∉ch->h.get? b=some o->∃sl,h'.get? b=some {o with slots:=sl}
 there:∀b o,h.get? b=some o->∃o',h'.get? b=some o'
theorem Mv.refl (fs ch:GW) (h:Heap):Mv fs ch h h:=⟨fun _ _ _ _ q=>q,fun _ o _ _ q=>⟨o.slots,q⟩,fun _ o q=>⟨o,q⟩⟩
theorem Mv.trans {fs c1 c2 ch:GW} {h h1 h2:Heap} (x:Mv fs c1 h h1) (y:Mv fs c2 h1 h2) (k1:∀b,b∈c1->b∈ch) (k2:∀b,b∈c2->b∈ch):Mv fs ch h h2 where
 keep:=fun b o hf hc q=>y.keep b o hf (fun z=>hc (k2 b z)) (x.keep b o hf (fun z=>hc (k1 b z)) q)
 slot:=fun b o hf hc q=>by
  obtain ⟨sl,q1⟩:=x.slot b o hf (fun z=>hc (k1 b z)) q
  obtain ⟨sl2,q2⟩:=y.slot b _ hf (fun z=>hc (k2 b z)) q1
  exact ⟨sl2,q2⟩
 there:=fun b o q=>by
  obtain ⟨o1,q1⟩:=x.there b o q;exact y.there b o1 q1
inductive ze where
 |new
 |fl (v:Value)
def ze.Is (F:Addr->Prop) (h:Heap) (e:Addr) (vs:Array Value):ze->Prop
 | .new=>vs[1]?=some .none
 | .fl v=>∃T oT ts,vs[1]?=some (.ref T)/\F T/\T≠e/\h.get? T=some oT/\oT.data= .fields ts/\ts[3]?=some v
def Fz (vs:Array Value):Prop:=1<vs.size/\vs[2]?=some .none
theorem Fz.set {vs:Array Value} (h:Fz vs) (v:Value):Fz (vs.setIfInBounds 1 v):=⟨by simpa using h.1,by rw[Array.getElem?_setIfInBounds];simp[h.2]⟩
structure XO (F:Addr->Prop) (h:Heap) (e:Addr) (cls:Value) (dx:GY) (st:ze):Prop where
 ex:∃oe vs,h.get? e=some oe/\oe.cls=cls/\oe.dict=dx/\oe.data= .fields vs/\Fz vs/\st.Is F h e vs
 fr:F e
theorem XO.mono {F G:Addr->Prop} {h:Heap} {e:Addr} {cls:Value} {dx:GY} {st:ze} (x:XO F h e cls dx st) (k:∀b,F b->G b):XO G h e cls dx st:=by
 obtain ⟨⟨oe,vs,a,b,c,d,f,g⟩,fr⟩:=x;refine ⟨⟨oe,vs,a,b,c,d,f,?_⟩,k _ fr⟩;cases st with
 |new=>exact g
 |fl v=>
  obtain ⟨T,oT,ts,g1,g2,g3⟩:=g;exact ⟨T,oT,ts,g1,k _ g2,g3⟩
theorem l7 (o:Obj) (f:Array Value->Array Value):(o.mapFields f).dict=o.dict:=by
 obtain ⟨c,d,dt,sl⟩:=o;cases dt<;>rfl
section
variable {M:Model} {A:Around} {E:GR} {s:Shared}
theorem oR {base:Heap} {env:Env} {outer:List Env} {L e:Addr} {oe:Obj} {vs:Array Value} {head:Value} {had:Bool} {Q:Unit->Shared->Prop}
  (hfr:A.frames=some (env::outer)) (hl:s.heap.FunFrames base (env::outer)) (hf:env.frame=some L) (he:s.heap.get? e=some oe) (hd:oe.data= .fields vs) (hsz:1<vs.size)
  (h:∀h' T,Mv ((env::outer).filterMap (·.frame)) [e] s.heap h'->s.heap.get? T=none->T≠e->h'.get? e=some (oe.mapFields (·.setIfInBounds 1 (.ref T)))->
   (∃oT ts,h'.get? T=some oT/\oT.data= .fields ts/\ts[3]?=some (rawInt L))->Q () {s with heap:=h'}):
  wpAny M A (do let a<-frameOf env;let pl<-entryPlaceOf L had;let b<-EntryCells.newEntry head a .none (rawInt L) .none pl;setField (.ref e) 1 b) Q E s:=by
 have hne:e∉(env::outer).filterMap (·.frame):=by
  intro hm;obtain ⟨_,o,ho,hnf⟩:=hl.mem hm;rw[he] at ho;cases ho;exact hnf vs hd
 apply wpAny_bind;apply wpAny_frameOf_fun hfr hl hf;intro h1 hs;apply wpAny_bind;apply wpAny_entryPlaceOf;intro pl hpl;unfold EntryCells.newEntry newFields;apply wpAny_bind;refine wpAny_newObj_type ?_ (hpl.sizeOk5 ..);have e1:h1.get? e=some oe:=(hs.2.1 e hne).trans he;generalize hob:({cls:= .type "traceback",dict:=none,data:= .fields ([head,.ref L,.none,rawInt L,.none]++(if pl.isEmpty then EK 6 Value.none else pl)).toArray}:Obj)=ob
 have e2:=Heap.get?_push_of_some (h:=h1) ob e1;refine wpAny_setField e2 hd hsz ?_;have hTe:h1.objs.size≠e:=Ew (Heap.lt_size e1);have d3:=Obj.data_mapFields hd (·.setIfInBounds 1 (Value.ref h1.objs.size));have e3:=Heap.get?_update_self (Obj.mapFields (·.setIfInBounds 1 (Value.ref h1.objs.size))) e2 (Obj.isFreed_of_fields d3);have kp:∀b o,b≠e->h1.get? b=some o->((h1.push ob).update e (Obj.mapFields (·.setIfInBounds 1 (Value.ref h1.objs.size)))).get? b=some o:=by
  intro b o hb q;rw[Heap.get?_update_other _ _ (Ne.symm hb)];exact Heap.get?_push_of_some _ q
 have t3:((h1.push ob).update e (Obj.mapFields (·.setIfInBounds 1 (Value.ref h1.objs.size)))).get? h1.objs.size=some ob:=by
  rw[Heap.get?_update_other _ _ (Ne.symm hTe)];exact Heap.get?_push_size h1 (by rw[<-hob];rfl)
 refine h _ h1.objs.size ⟨?_,?_,?_⟩ ?_ hTe e3 ?_
 ·intro b o hb hc q;exact kp b o (fun z=>hc (by rw[z];exact DR.mpr rfl)) ((hs.2.1 b hb).trans q)
 ·intro b o hb hc q;obtain ⟨sl,q1⟩:=hs.2.2 b o q;exact ⟨sl,kp b _ (fun z=>hc (by rw[z];exact DR.mpr rfl)) q1⟩
 ·intro b o q
  by_cases hb:b=e
  ·subst hb;exact ⟨_,e3⟩
  ·obtain ⟨sl,q1⟩:=hs.2.2 b o q;exact ⟨_,kp b _ hb q1⟩
 ·exact Heap.get?_none_of_le (by rw[hs.1];exact D8 _)
 ·subst hob;refine ⟨_,_,t3,rfl,?_⟩;rcases hpl with rfl|⟨_,_,_,_,_,_,_,rfl⟩<;>simp
theorem uG {F:Addr->Prop} {e:Addr} {cls v:Value} {dx fl:GY} {Q:Unit->Shared->Prop} (x:XO F s.heap e cls dx (.fl v))
  (h:∀h' T,F T->Mv [] [T] s.heap h'->XO F h' e cls dx (.fl (fl.elim .none fun f=>rawInt f))->Q () {s with heap:=h'}):wpAny M A (setFlight (.ref e) fl) Q E s:=by
 obtain ⟨⟨oe,vs,he,hc,hdx,hd,hsz,T,oT,ts,h1,hF,hTe,hT,hdT,h3⟩,fr⟩:=x;have z3:3<ts.size:=(F1.mp h3).1;have oth:∀b,b≠T->(s.heap.update T (Obj.mapFields (·.setIfInBounds 3 (fl.elim Value.none fun f=>rawInt f)))).get? b=s.heap.get? b:=fun b hb=>Heap.get?_update_other _ _ (Ne.symm hb)
 have t4:=Heap.get?_update_self (Obj.mapFields (·.setIfInBounds 3 (fl.elim Value.none fun f=>rawInt f))) hT (Obj.isFreed_of_fields (Obj.data_mapFields hdT _))
 unfold setFlight;apply wpAny_bind;apply wpAny_field he hd h1;rw[if_pos (by simp)]
 apply wpAny_setField hT hdT z3;refine h _ T hF ⟨?_,fun b o hb=>absurd hb (by simp),?_⟩ ⟨⟨oe,vs,(oth e (Ne.symm hTe)).trans he,hc,hdx,hd,hsz,T,_,_,h1,hF,hTe,t4,Obj.data_mapFields hdT _,by simp[z3]⟩,fr⟩
 ·intro b o _ hb q;exact (oth b (fun z=>hb (by rw[z];exact DR.mpr rfl))).trans q
 ·intro b o q
  by_cases hb:b=T
  ·subst hb;exact ⟨_,t4⟩
  ·exact ⟨o,(oth b hb).trans q⟩
theorem yh {F:Addr->Prop} {base:Heap} {env:Env} {outer:List Env} {L e:Addr} {cls:Value} {dx:GY} {st:ze} {Q:Unit->Shared->Prop}
  (hfr:A.frames=some (env::outer)) (hl:s.heap.FunFrames base (env::outer)) (hf:env.frame=some L) (x:XO F s.heap e cls dx st)
  (h:∀h' ch,(∀b∈ch,F b)->Mv ((env::outer).filterMap (·.frame)) ch s.heap h'->XO (fun b=>F b∨s.heap.get? b=none) h' e cls dx (.fl (rawInt L))->Q () {s with heap:=h'}):wpAny M A (noteFrame (.ref e) env) Q E s:=by
 obtain ⟨⟨oe,vs,he,hc,hdx,hd,hsz,hst⟩,fr⟩:=x;unfold noteFrame;simp only[hf];cases st with
 |new=>
  apply wpAny_bind;apply wpAny_field he hd hst;rw[if_neg (by decide)]
  refine oR hfr hl hf he hd hsz.1 fun h' T mv tn tne he' ⟨oT,ts,hT,hdT,h3⟩=>?_
  refine h h' [e] (fun b hb=>by rw[DR.mp hb];exact fr) mv ⟨⟨_,_,he',?_,?_,Obj.data_mapFields hd _,hsz.set _,T,oT,ts,by simp[hsz.1],.inr tn,tne,hT,hdT,h3⟩,.inl fr⟩
  ·rw[Obj.cls_mapFields];exact hc
  ·rw[l7];exact hdx
 |fl v=>
  obtain ⟨T,oT,ts,h1,hF,hTe,hT,hdT,h3⟩:=hst;have z3:3<ts.size:=(F1.mp h3).1;apply wpAny_bind;apply wpAny_field he hd h1;rw[if_pos (by simp)]
  apply wpAny_bind;apply wpAny_field hT hdT h3
  by_cases hv:(v==rawInt L)=true
  ·rw[if_pos hv];have ev:v=rawInt L:=beq_iff_eq.mp hv;subst ev;refine wpAny_pure (h s.heap [] (fun b hb=>absurd hb (by simp)) (.refl ..) ⟨⟨oe,vs,he,hc,hdx,hd,hsz,T,oT,ts,h1,.inl hF,hTe,hT,hdT,h3⟩,.inl fr⟩)
  ·rw[if_neg hv];apply wpAny_bind;apply wpAny_setField hT hdT z3;have oth:∀b,b≠T->(s.heap.update T (Obj.mapFields (·.setIfInBounds 3 Value.none))).get? b=s.heap.get? b:=fun b hb=>Heap.get?_update_other _ _ (Ne.symm hb)
   have t4:=Heap.get?_update_self (Obj.mapFields (·.setIfInBounds 3 Value.none)) hT (Obj.isFreed_of_fields (Obj.data_mapFields hdT _));have nrec:∀b o,s.heap.get? b=some o->(∀vs,o.data≠ .fields vs)->b≠T:=by
    intro b o hb hn z;rw[z,hT] at hb;cases hb;exact hn ts hdT
   have mv1:Mv ((env::outer).filterMap (·.frame)) [T] s.heap (s.heap.update T (Obj.mapFields (·.setIfInBounds 3 Value.none))):=by
    refine ⟨fun b o _ hb q=>(oth b (fun z=>hb (by rw[z];exact DR.mpr rfl))).trans q,fun b o _ hb q=>⟨o.slots,(oth b (fun z=>hb (by rw[z];exact DR.mpr rfl))).trans q⟩,fun b o q=>?_⟩
    by_cases hb:b=T
    ·subst hb;exact ⟨_,t4⟩
    ·exact ⟨o,(oth b hb).trans q⟩
   refine oR (s:={s with heap:=s.heap.update T (Obj.mapFields (·.setIfInBounds 3 Value.none))}) hfr (hl.of_keeps fun b o hb hn=>⟨o,(oth b (nrec b o hb hn)).trans hb,rfl⟩) hf ((oth e (Ne.symm hTe)).trans he) hd hsz.1 fun h' T2 mv tn tne he' ⟨oT2,ts2,hT2,hdT2,h32⟩=>?_
   refine h h' [T,e] ?_ (mv1.trans mv (fun b hb=>by simp at hb;simp[hb]) (fun b hb=>by simp at hb;simp[hb])) ⟨⟨_,_,he',?_,?_,Obj.data_mapFields hd _,hsz.set _,T2,oT2,ts2,by simp[hsz.1],.inr ?_,tne,hT2,hdT2,h32⟩,.inl fr⟩
   ·intro b hb;simp at hb;rcases hb with rfl|rfl
    ·exact hF
    ·exact fr
   ·rw[Obj.cls_mapFields];exact hc
   ·rw[l7];exact hdx
   ·cases q:s.heap.get? T2 with
    |none=>rfl
    |some o=>
     obtain ⟨o',q'⟩:=mv1.there T2 o q;rw[q'] at tn;cases tn
end
end XH
namespace L2
open PySem PySem.Spec PyProof.Rows XH
structure gU (P:Program) (w:World) (outer:List Env) (H:Hp) (s:Shared) (a:Addr) (H':Hp) (cls:Value) (dx:GY) (st:ze) (s':Shared):Prop where
 os:s'.os=s.os
 bare:AllBare s'.gens
 un:Un (jH outer) [] H H' s.heap s'.heap
 hok:fG P w H' s'.heap
 xo:XO (fun b=>s.heap.get? b=none/\H' b=none) s'.heap a cls dx st
def nL (P:Program) (w:World):qZ:=fun outer H s E e s'=>∃a H' cls dx st,e= .ref a/\gU P w outer H s a H' cls dx st s'/\E cls dx H'
section
variable {P:Program} {w:World} {H H':Hp} {h h' h0:Heap} {fs ch:GW} {a:Addr} {o:HO}
theorem bn.there (x:bn P w H h a o):∃u,h.get? a=some u:=by
 cases o with
 |lst xs=>obtain ⟨_,_,_,_,e⟩:=x;exact ⟨_,e⟩
 |tup xs=>obtain ⟨_,_,_,_,e,_⟩:=x;exact ⟨_,e⟩
 |dK kvs=>obtain ⟨_,_,_,_,_,_,_,e,_⟩:=x;exact ⟨_,e⟩
 |dT kvs=>obtain ⟨_,_,_,_,_,_,_,e,_⟩:=x;exact ⟨_,e⟩
 |set S n=>obtain ⟨_,_,_,_,e,_⟩:=x;exact ⟨_,e⟩
 |ins C dx fs=>obtain ⟨_,_,_,e,_⟩:=x;exact ⟨_,e⟩
 |own y=>exact x
 |xd fs=>obtain ⟨_,⟨_,_,_,e,_⟩,_⟩:=x;exact ⟨_,e⟩
 |rng lo hi=>obtain ⟨_,_,_,e⟩:=x;exact ⟨_,e⟩
 |frz ob u=>obtain ⟨e,_⟩:=x;exact ⟨_,e⟩
 |tbl ps=>exact ⟨_,show h.get? a=some _ from x⟩
 |met f y=>exact ⟨_,show h.get? a=some _ from x⟩
 |ext φ=>obtain ⟨_,⟨_,e⟩,_⟩:=x;exact ⟨_,e⟩
theorem fG.none_of (k:fG P w H h) (q:h.get? a=none):H a=none:=by
 cases r:H a with
 |none=>rfl
 |some o=>
  obtain ⟨u,e⟩:=(k a o r).there;rw[q] at e;cases e
theorem zf (u:Un fs [] H H' h0 h) (m:Mv fs ch h h') (hc:∀b∈ch,h0.get? b=none):Un fs [] H H' h0 h' where
 keep:=fun b o q n hb hx=>m.keep b o hb (fun z=>by rw[hc b z] at q;cases q) (u.keep b o q n hb hx)
 slot:=fun b o q n hb hx=>by
  obtain ⟨sl,q1⟩:=u.slot b o q n hb hx;obtain ⟨sl2,q2⟩:=m.slot b _ hb (fun z=>by rw[hc b z] at q;cases q) q1
  exact ⟨sl2,q2⟩
 free:=u.free
 there:=fun b o q hx=>by
  obtain ⟨o1,q1⟩:=u.there b o q hx;exact m.there b o1 q1
 tups:=u.tups
 frzs:=u.frzs
 tbls:=u.tbls
theorem wk (k:fG P w H h) (m:Mv fs ch h h') (hc:∀b∈ch,H b=none) (hf:∀b∈fs,H b=none):fG P w H h':=fun a o e=>
 (k a o e).stay (fun b u hb q=>by
  have t:H b≠none:=by
   rcases hb with z|z
   ·rw[z,e];exact fun y=>nomatch y
   ·rw[z];exact fun y=>nomatch y
  exact m.keep b u (fun z=>t (hf b z)) (fun z=>t (hc b z)) q) (fun _ q=>q) fun _ _ q=>q
theorem _root_.XH.Mv.wider (m:Mv [] ch h h'):Mv fs ch h h':=⟨fun b o _ hc q=>m.keep b o (by simp) hc q,fun b o _ hc q=>⟨o.slots,m.keep b o (by simp) hc q⟩,m.there⟩
theorem sV {base:Heap} (u:Un fs [] H H' h h'):∀{l:List Env},h.FunFrames base l->(∀b∈jH l,b∈fs/\H b=none)->h'.FunFrames base l
 | [],_,_=>trivial
 |env::r,⟨hk,⟨L,o,hf,hn,ho,hd⟩,hr⟩,hs=>by
  have hL:L∈jH (env::r):=by unfold jH;rw[Fh,hf];exact E7
  obtain ⟨sl,e⟩:=u.slot L o ho (hs L hL).2 (hs L hL).1 (by simp)
  exact ⟨hk,⟨L,_,hf,hn,e,hd⟩,sV u hr fun b hb=>hs b (by unfold jH;rw[Fh,hf];exact E2 _ hb)⟩
end
section
variable {P:Program} {w:World} {H H':Hp} {s s':Shared} {a L:Addr} {cls v:Value} {dx:GY} {st:ze} {env:Env} {outer:List Env} {base:Heap} {M:Model} {A:Around} {Z:GR} {Q:Unit->Shared->Prop}
theorem gU.frees (c:gU P w outer H s a H' cls dx st s') (hl:s.heap.FunFrames base outer) (hH:∀b∈jH outer,H b=none):∀b∈jH outer,H' b=none:=fun b hb=>by
 obtain ⟨_,o,ho,_⟩:=hl.mem hb;exact c.un.free b o ho (hH b hb) (by simp)
theorem gU.note (c:gU P w (env::outer) H s a H' cls dx st s') (hfr:A.frames=some (env::outer)) (hf:env.frame=some L) (hl:s.heap.FunFrames base (env::outer)) (hH:∀b∈jH (env::outer),H b=none)
  (h:∀s'',gU P w (env::outer) H s a H' cls dx (.fl (rawInt L)) s''->Q () s''):wpAny M A (noteFrame (.ref a) env) Q Z s':=by
 refine yh hfr (sV c.un hl fun b hb=>⟨hb,hH b hb⟩) hf c.xo fun h' ch hch mv x=>h _ ?_
 refine ⟨c.os,c.bare,zf c.un mv fun b hb=>(hch b hb).1,wk c.hok mv (fun b hb=>(hch b hb).2) (c.frees hl hH),x.mono ?_⟩
 rintro b (q|q)
 ·exact q
 ·refine ⟨?_,c.hok.none_of q⟩;cases r:s.heap.get? b with
  |none=>rfl
  |some o=>
   obtain ⟨o',r'⟩:=c.un.there b o r (by simp)
   rw[r'] at q;cases q
theorem gU.flight {fl:GY} (c:gU P w outer H s a H' cls dx (.fl v) s') (hl:s.heap.FunFrames base outer) (hH:∀b∈jH outer,H b=none)
  (h:∀s'',gU P w outer H s a H' cls dx (.fl (fl.elim .none fun f=>rawInt f)) s''->Q () s''):wpAny M A (setFlight (.ref a) fl) Q Z s':=by
 refine uG c.xo fun h' T hT mv x=>h _ ⟨c.os,c.bare,zf c.un mv.wider fun b hb=>?_,wk c.hok (mv.wider (fs:=jH outer)) (fun b hb=>?_) (c.frees hl hH),x⟩
 ·rw[DR.mp hb];exact hT.1
 ·rw[DR.mp hb];exact hT.2
end
def XS (X:Cx) (E:St->XK):Value->Shared->Prop:=fun e s'=>∃σ H0 s0,aE X [] σ H0 s0/\nL X.prog X.w X.stack H0 s0 (E σ) e s'
def oS (X:Cx) (E:St->XK):Prop:=∀(pins:GT) (σ:St) (H:Hp) (s:Shared) (e:Value) (s':Shared),aE X pins σ H s->nL X.prog X.w X.stack H s (E σ) e s'->X.xe e s'
theorem zg {X:Cx} {E:St->XK}:oS (X.wish (XS X E)) E:=fun pins σ H s e s' I c=>⟨σ,H,s,I.unwish.pins_of (fun p hp=>absurd hp (by simp)),c⟩
def wm (sp:Sp) (dvs:List V) (E:St->XK) (t:TA):TE:=fun σ H Q=>t σ H fun vs H1=>sp (vs++dvs) H1 Q (E σ)
section
variable {X:Cx} {k:Nat} {f C:Addr} {fd:FuncData} {ps:GV} {sp:Sp} {dvs:List V} {ds:GX} {E:St->XK} {x m:Str} {p pos apos:Pos} {e o:Expr} {es:List Expr} {ta:TE} {t:TA}
theorem yi {pins:GT} {σ:St} {H:Hp} {s:Shared} {Q:VK} {us:GX} {vs:List V} (F:bv X.prog X.w X.K X.mg X.base (nL X.prog X.w) k f fd ps sp) (hr:cQ k X.A) (hb:Binds X.K fd ps ds) (hd:aS dvs ds) (hx:oS X E)
  (I:aE X pins σ H s) (r:aS vs us) (h:sp (vs++dvs) H Q (E σ)):wpAny (model X.prog X.w) X.A (call (.ref f) us) (EP X pins σ Q) X.xe s:=by
 have r2:aS (vs++dvs) (us++ds):=r.append hd;have hl:(us++ds).length=ps.length:=by rw[<-r2.length];exact F.len _ _ _ _ h
 refine wpAny_call (codeAny_mono (F.run X.A X.stack s H ⟨us,[]⟩ (us++ds) (vs++dvs) Q (E σ) hr I.env0 (hb s us I.kIn hl) r2 h) fun r s' hq=>?_)
 cases r with
 |error e=>exact hx pins σ H s e s' I hq
 |ok fl=>
  cases fl with
  |ret u=>exact I.after hq
  |next=>exact False.elim hq
  |brk=>exact False.elim hq
  |cont=>exact False.elim hq
theorem wn (F:bv X.prog X.w X.K X.mg X.base (nL X.prog X.w) k f fd ps sp) (hr:cQ k X.A) (hg:Gl X x) (hm:X.mg x=some (.ref f)) (hk:FG X.K (.ref f)=true) (hb:Binds X.K fd ps ds) (hd:aS dvs ds) (hx:oS X E)
  (ha:PA X (e::es) t) (hdb:(x==("__debug__" :Str))=false:=by decide) (he:starEach (e::es) X.env=(false,eval e X.env)::starEach es X.env:=by rfl) (hpl:(backTo pos (starEach es X.env)).any (·.1)=false:=by rfl):
  PE X (.Call (.Name x p) (e::es) [] pos) (wm sp dvs E t):=by
 intro pins s σ H Q I h;refine wpAny_Call_Name_kw (gy I hg hm ?_ hdb);refine PySem.W.callWith_K (h₀:=X.base) I.ok.mod.kin hk (a9 (ha pos pins s σ H _ I h) fun us s1 ⟨vs,H1,I1,r,q⟩=>⟨I1.kIn,?_⟩) he hpl
 exact yi F hr hb hd hx I1 r q
end
theorem lN.toX {X:Cx} {E':GR} {st:List Stmt} {t:TS} (h:lN (X.wish E') st t) (k:∀e s,E' e s->X.xe e s):lN X st t:=fun pins s σ H D I hw=>
 wpAny_mono (h pins s σ H D (I.wish _) hw) (fun _ _ q=>q.unwish) fun e s z=>k e s z
section
variable {P:Program} {w:World} {K:D5} {mg:GS} {base:Heap}
theorem wo {N:GV} {qual:Str} {scope:Scope} {f:Addr} {cd:Value} {A:Around} {outer:List Env} {s:Shared} {H:Hp} {E:XK} {e:Value} {s':Shared}
  (h:XS (jI (nL P w) P w K mg base N qual scope f cd A outer s H E) (fun _=>E) e s'):(jI (nL P w) P w K mg base N qual scope f cd A outer s H E).xe e s':=by
 obtain ⟨σ,H0,s0,I,a,H',cls,dx,st,rfl,c,hE⟩:=h;show wpAny (model P w) (A.deeper (envOfC qual scope s.heap.objs.size f cd)) (leaving (envOfC qual scope s.heap.objs.size f cd) (.ref a)) (fun _ s''=>nL P w outer H s E (.ref a) s'') (fun e' s''=>nL P w outer H s E e' s'') s'
 unfold leaving;apply wpAny_bind;refine c.note (L:=s.heap.objs.size) I.ok.frames rfl I.stack I.stkFree fun s1 c1=>?_
 refine c1.flight I.stack I.stkFree fun s2 c2=>?_
 have J:=I.call' c2.os c2.un c2.hok c2.bare (fun b z=>absurd z (by simp))
 refine ⟨a,H',cls,dx,_,rfl,⟨J.os,c2.bare,J.base,c2.hok,c2.xo.mono fun b q=>⟨?_,q.2⟩⟩,hE⟩
 cases r:s.heap.get? b with
 |none=>rfl
 |some o=>
  obtain ⟨o',r'⟩:=I.base.there b o r (fun z=>absurd (show b∈([]:GW) from z) (by simp))
  rw[q.1] at r';cases r'
theorem zL {k:Nat} {f:Addr} {name qual:Str} {params:Arguments} {body:List Stmt} {scope:Scope} {dV kV doc pm cdv ct oc:Value} {an od:GY}
  {osl:GU} {N ps:GV} {sp:Sp} (lk:K.lookup f=some ⟨oc,od,.func (Ez name qual params body scope dV kV doc pm an cdv ct),osl⟩) (hcd:PySem.W.codeIn K cdv qual=true) (S:aI N ps scope)
  (len:∀vs H Q E,sp vs H Q E->vs.length=ps.length)
  (hbody:∀(A:Around) (outer:List Env) (s:Shared) (H:Hp) (vs:List V) (Q:VK) (E:XK),cQ k (A.deeper (envOfC qual scope s.heap.objs.size f cdv))->sp vs H Q E->
   ∃t,lN ((jI (nL P w) P w K mg base N qual scope f cdv A outer s H E).wish (XS (jI (nL P w) P w K mg base N qual scope f cdv A outer s H E) fun _=>E)) body t/\t {nx:=fun _ H'=>Q .non H',rt:=Q} (start N vs) H):
  bv P w K mg base (nL P w) (k+1) f (Ez name qual params body scope dV kV doc pm an cdv ct) ps sp:=by
 refine zb lk hcd S len fun A outer s H vs Q E hr hsp=>?_
 obtain ⟨t,h,q⟩:=hbody A outer s H vs Q E hr hsp;exact ⟨t,h.toX fun e s' z=>wo z,q⟩
theorem bv.noraise {k:Nat} {f:Addr} {fd:FuncData} {ps:GV} {sp sp0:Sp} (F:bv P w K mg base (nL P w) k f fd ps sp) (h:∀vs H Q E,sp0 vs H Q E->sp vs H Q E0):bv P w K mg base bQ k f fd ps sp0:=
 ⟨fun vs H Q E q=>F.len vs H Q E0 (h _ _ _ _ q),fun A outer s H args us vs Q E hr he hb hv hs=>codeAny_mono (F.run A outer s H args us vs Q E0 hr he hb hv (h _ _ _ _ hs)) fun r s' hq=>by
  cases r with
  |error e=>obtain ⟨_,_,_,_,_,_,_,z⟩:=hq;exact z.elim
  |ok fl=>cases fl<;>exact hq⟩
end
abbrev Cx.tried (X:Cx) (pins:GT):Cx:={X with pn:=X.pn++pins}
abbrev Cx.suite (X:Cx) (pins:GT) (a:Addr):Cx:={X with A:=X.A.mark (some (.ref a)),calm:=false,pn:=X.pn++pins,xe:=fun _ _=>False}
def rf (n:Bool) (a:Addr) (cls:Value) (dx:GY):HO:= .ext fun h=>∃ox vs,h.get? a=some ox/\ox.cls=cls/\ox.dict=dx/\ox.data= .fields vs/\vs[2]?=some .none/\(n=true->1<vs.size/\vs[1]?=some .none)
abbrev Br:=rf false
theorem yj {P:Program} {w:World} {H:Hp} {h:Heap} {n:Bool} {a:Addr} {cls:Value} {dx:GY} {ox:Obj} {vs:Array Value} (h1:h.get? a=some ox) (h2:ox.cls=cls) (h3:ox.dict=dx) (h4:ox.data= .fields vs) (h6:vs[2]?=some .none) (h5:n=true->1<vs.size/\vs[1]?=some .none):bn P w H h a (rf n a cls dx):=
 ⟨⟨ox,vs,h1,h2,h3,h4,h6,h5⟩,⟨ox,h1⟩,fun _ _ ⟨oy,ws,q,r⟩ kp=>⟨oy,ws,kp _ q,r⟩⟩
abbrev TH:=Ends->St->Value->GY->Hp->Addr->Prop
def PH (X:Cx) (hs:List ExceptHandler) (th:TH):Prop:=
 ∀(pins:GT) (σ:St) (H0:Hp) (s0:Shared) (D:Ends) (a:Addr) (H':Hp) (cls v:Value) (dx:GY) (s':Shared),aE X pins σ H0 s0->gU X.prog X.w X.stack H0 s0 a H' cls dx (.fl v) s'->th D σ cls dx H' a->
  wpAny (model X.prog X.w) X.A (handleBy (.ref a) X.env hs) (SP X pins D) X.xe s'
variable {X:Cx} {pins:GT} {σ:St} {H H':Hp} {s s':Shared}
theorem aE.tried (I:aE X pins σ H s):aE (X.tried pins) [] σ H s:=
 ⟨⟨I.ok.mod,I.ok.kind,I.ok.glob,I.ok.blt,I.ok.above,I.ok.inj,I.ok.has,I.ok.cab,I.ok.hd,I.ok.frames,I.ok.stk,I.ok.exf,I.ok.bs,I.ok.bsz,I.ok.noex,I.ok.exfs,I.ok.funs,I.ok.frf⟩,
  I.os,I.bare,I.base,I.loc,I.cell,I.free,I.freeC,fun p hp=>I.pin p (by simpa using hp),I.hok,I.len⟩
theorem aE.untried (I:aE (X.tried pins) [] σ H s):aE X pins σ H s:=
 ⟨⟨I.ok.mod,I.ok.kind,I.ok.glob,I.ok.blt,I.ok.above,I.ok.inj,I.ok.has,I.ok.cab,I.ok.hd,I.ok.frames,I.ok.stk,I.ok.exf,I.ok.bs,I.ok.bsz,I.ok.noex,I.ok.exfs,I.ok.funs,I.ok.frf⟩,
  I.os,I.bare,I.base,I.loc,I.cell,I.free,I.freeC,fun p hp=>I.pin p (by simpa using hp),I.hok,I.len⟩
theorem aE.insuite (I:aE X pins σ H s) (a:Addr):aE (X.suite pins a) [] σ H s:=
 ⟨⟨I.ok.mod,I.ok.kind,I.ok.glob,I.ok.blt,I.ok.above,I.ok.inj,I.ok.has,I.ok.cab,fun z=>(Bool.noConfusion z),I.ok.frames,I.ok.stk,I.ok.exf,I.ok.bs,I.ok.bsz,I.ok.noex,I.ok.exfs,I.ok.funs,I.ok.frf⟩,
  I.os,I.bare,I.base,I.loc,I.cell,I.free,I.freeC,fun p hp=>I.pin p (by simpa using hp),I.hok,I.len⟩
theorem aE.outsuite {a:Addr} (ok:X.Ok) (I:aE (X.suite pins a) [] σ H s):aE X pins σ H s:=
 ⟨ok,I.os,I.bare,I.base,I.loc,I.cell,I.free,I.freeC,fun p hp=>I.pin p (by simpa using hp),I.hok,I.len⟩
theorem aE.unbound {n:Str} {i:Nat} {h':Heap} {m:GS} {v:GZ} {t':Nat} (I:aE X pins σ H s) (hi:X.N[i]?=some n) (hN:X.N.Nodup)
  (hm:∀(j:Nat) (x:Str) (v:V),X.N[j]?=some x->σ[j]?=some (some v)->AW X.env.scope x->∃u,RelV v u/\Look X.env s.heap m x u)
  (hn:h'.Ns X.env.locals (fun x=>if x=n then v else m x)) (hs:Heap.SameBut X.env.locals s.heap h'):aE X pins (σ.set i none) H {s with heap:=h',toks:=t'}:=by
 obtain ⟨m0,hn0,_⟩:=id I.loc;obtain ⟨oL,_,_,hoL,_⟩:=id hn0;have cne:=I.cne;have low:∀b o,X.s₀.heap.get? b=some o->b≠X.env.locals:=fun b o e=>DI (EB (Heap.lt_size e) I.ok.above)
 refine ⟨I.ok,I.os,I.bare,⟨fun b o e n hb hx=>?_,fun b o e n hb hx=>?_,I.base.free,fun b o e hx=>?_,I.base.tups,I.base.frzs,I.base.tbls⟩,⟨_,hn,fun j y v' e1 e2 e3=>?_⟩,fun y c e=>?_,I.free,I.freeC,fun p hp=>?_,fun b ob e=>?_,by simpa using I.len⟩
 ·exact (hs.2 b (low b o e)).trans (I.base.keep b o e n hb hx)
 ·obtain ⟨sl,e1⟩:=I.base.slot b o e n hb hx;exact ⟨sl,(hs.2 b (low b o e)).trans e1⟩
 ·obtain ⟨o',e1⟩:=I.base.there b o e hx;exact ⟨o',(hs.2 b (low b o e)).trans e1⟩
 ·by_cases hj:j=i
  ·subst hj;rw[List.getElem?_set] at e2;simp at e2
  ·rw[List.getElem?_set_ne (Ne.symm hj)] at e2;obtain ⟨u',r',q⟩:=hm j y v' e1 e2 e3;refine ⟨u',r',?_⟩;rcases q with ⟨k,e⟩|⟨k,c,e,z⟩
   ·refine .inl ⟨k,?_⟩;have:y≠n:=fun e=>hj (jX hN e1 (e▸hi))
    simp[this,e]
   ·exact .inr ⟨k,c,e,z.sameBut hs (cne y c e)⟩
 ·obtain ⟨w',z⟩:=I.cell y c e;exact ⟨w',z.sameBut hs (cne y c e)⟩
 ·obtain ⟨e,n,ne,nf,d⟩:=I.pin p hp;exact ⟨(hs.2 p.1 ne).trans e,n,ne,nf,d⟩
 ·refine (I.hok b ob e).stay (fun c w' hc q=>(hs.2 c ?_).trans q) (fun _ q=>q) fun _ _ q=>q
  rintro rfl;rcases hc with rfl|hc
  ·rw[I.free] at e;cases e
  ·rw[I.free] at hc;cases hc
theorem wp {fs:GW} {h0 h:Heap} {a:Addr} {o:HO} (u:Un fs [] H H' h0 h) (n0:h0.get? a=none) (na:H' a=none):Un fs [] H (av H' a o) h0 h where
 keep:=u.keep
 slot:=u.slot
 free:=fun b ob q n hx=>by
  have:b≠a:=fun z=>by rw[z,n0] at q;cases q
  rw[ar this];exact u.free b ob q n hx
 there:=u.there
 tups:=fun b xs e=>by
  have q:=u.tups b xs e;rw[ar (bL q na)];exact q
 frzs:=fun b o' w' e=>by
  have q:=u.frzs b o' w' e;rw[ar (bL q na)];exact q
 tbls:=fun b ps e=>by
  obtain ⟨mo,q⟩:=u.tbls b ps e;exact ⟨mo,by rw[ar (bL q na)];exact q⟩
theorem uH {P:Program} {w:World} {h:Heap} {a:Addr} {o:HO} (k:fG P w H h) (na:H a=none) (new:bn P w (av H a o) h a o):fG P w (av H a o) h:=fun b u e=>by
 by_cases hb:b=a
 ·subst hb;rw[ag] at e;cases e;exact new
 ·rw[ar hb] at e;exact (k b u e).stay (fun c v _ q=>q) (fun c q=>by rw[ar (bL q na)];exact q) fun c xs q=>by rw[ar (bL q na)];exact q
theorem gU.caught {a:Addr} {cls:Value} {dx:GY} {st:ze} (I:aE X pins σ H s) (c:gU X.prog X.w X.stack H s a H' cls dx st s'):aE X pins σ (av H' a (Br a cls dx)) s':=by
 obtain ⟨⟨oe,vs,he,hc,hd,hda,hz,_⟩,n0,na⟩:=c.xo;refine I.call' c.os (wp c.un n0 na) (uH c.hok na (yj he hc hd hda hz.2 fun z=>nomatch z)) c.bare fun b z=>absurd z (by simp)
variable {body:List Stmt} {h₀:ExceptHandler} {hs:List ExceptHandler} {pos:Pos} {th:TH}
def CM (tb:(St->XK)->TS) (th:TH):TS:=fun D σ H=>tb (fun σ' cls dx H'=>∀a,H' a=none->th D σ' cls dx H' a) D σ H
theorem SP.untried {pins:GT} {E:GR} {D:Ends} {f:Flow} {s':Shared} (h:SP ((X.tried pins).wish E) [] D f s'):SP X pins D f s':=by
 cases f with
 |next=>obtain ⟨σ',H',I,q⟩:=h;exact ⟨σ',H',I.unwish.untried,q⟩
 |brk=>obtain ⟨σ',H',I,q⟩:=h;exact ⟨σ',H',I.unwish.untried,q⟩
 |cont=>obtain ⟨σ',H',I,q⟩:=h;exact ⟨σ',H',I.unwish.untried,q⟩
 |ret u=>obtain ⟨v,σ',H',I,r,q⟩:=h;exact ⟨v,σ',H',I.unwish.untried,r,q⟩
theorem zM {tb:(St->XK)->TS} (hstk:X.stack=X.env::X.outer) (hfm:X.env.frame=some X.env.locals)
  (hb:∀(pins:GT) (E:St->XK),lN ((X.tried pins).wish (XS (X.tried pins) E)) body (tb E)) (hh:PH X (h₀::hs) th):PS X (.Try body (h₀::hs) [] [] pos) (CM tb th):=by
 intro pins s σ H D I h;refine wpAny_Try_except ?_;refine wpAny_mono (hb pins _ [] s σ H D (I.tried.wish _) h) (fun f s1 q=>?_) fun e s1 hx=>?_
 ·have q:=q.untried;cases f with
  |next=>exact wpAny_execs_nil q
  |brk=>exact q
  |cont=>exact q
  |ret u=>exact q
 ·obtain ⟨σ',H0,s0,I0,a,H',cls,dx,st,rfl,c,hE⟩:=hx;have c':gU X.prog X.w (X.env::X.outer) H0 s0 a H' cls dx st s1:=hstk▸c;have J:=I0.untried;have fr:X.A.frames=some (X.env::X.outer):=by rw[<-hstk];exact J.ok.frames
  have st1:s0.heap.FunFrames X.base (X.env::X.outer):=by rw[<-hstk];exact J.stack
  have sf:∀b∈jH (X.env::X.outer),H0 b=none:=by rw[<-hstk];exact J.stkFree
  refine c'.note fr hfm st1 sf fun s2 c2=>?_
  refine c2.flight st1 sf fun s3 c3=>?_
  exact hh pins σ' H0 s0 D a H' cls _ dx s3 J (hstk▸c3) (hE a c3.xo.fr.2)
theorem zN:PH X [] (fun _ _ _ _ _ _=>False):=fun _ _ _ _ _ _ _ _ _ _ _ _ _ h=>h.elim
structure XT (K:D5) (C:Addr):Prop where
 ty:PySem.W.typeIn K (.ref C)=some (.type "type")
 cl:(PySem.W.clsIn K C).isSome=true
 ex:PySem.W.subIn K (.ref C) (.type "BaseException")=some true
theorem iu {K:D5} {M:Model} {h:Heap} {C:Addr} (X:K.In h) (e:(PySem.W.clsIn K C).isSome=true):PySem.W.Looks M h (isType (.ref C)) true:=by
 unfold PySem.W.clsIn at e
 split at e
 ·rename_i ho;intro A' Q' E' s' k q;unfold isType loadHead;exact wpAny_bind (wpAny_loadPart (k _ _ (X _ _ ho)) (wpAny_pure q))
 ·cases e
structure XG (K:D5) (C:Addr):Prop where
 ga:Eu K (.ref C) "__getattribute__" =some (some (.builtin "BaseException.__getattribute__"))
 gt:Eu K (.ref C) "__getattr__" =some none
 be:PySem.W.mroIn K C (.type "BaseException")=some true
section
variable {prog:Program} {w:World} {A:Around} {E:GR} {K:D5} {h:Heap} {g:Array GenState} {d:Drawn} {t:Nat} {os:OsState} {x C:Addr} {ox:Obj} {od:Option Obj} {name:Str}
open PySem.W in
theorem uI {nameV:Value} {Q:Unit->Shared->Prop} (X:K.In h) (I:InstAt h x ox C od) (G:XG K C) (hq:Q () ⟨h,g,d,t,os⟩):
  wpAny (model prog w) A (checkBuiltinCall "BaseException.__getattribute__" ⟨[.ref x,nameV],[]⟩) Q E ⟨h,g,d,t,os⟩:=by
 have hk:builtinKind "BaseException.__getattribute__" =some .slot:=by decide+kernel
 have hs:splitId "BaseException.__getattribute__" =some ("BaseException","__getattribute__"):=by decide+kernel
 have l0:=I.type (M:=model prog w);have l1:=looks_mroIn (M:=model prog w) X G.be;have ha:=F.args_bexc_ga (.ref x) nameV;have l2:Looks (model prog w) h (isInstance (.ref x) (.type "BaseException")) true:=l0.andThen l1;simp only[checkBuiltinCall,hk,hs];refine wpAny_bind ?_;unfold isInstance;have hx:=I.at_;have hc:=I.cls
 repeat (first|(with_reducible refine wpAny_loadPart_at hx ?_;rw[hc])|with_reducible refine l1.at ?_|wp_step)
 exact hq
open PySem.W in
theorem j7 {tk:Tok} {gv a:Value} {Q:Fin->Shared->Prop} (X:K.In h) (I:InstAt h x ox C od) (hf:findObj K C od name=some (.bind gv a))
  (hq:wpAny (model prog w) A (call gv [a,.ref x,.ref C]) (fun v s'=>Q (.done (.ret v)) s') E ⟨h,g,d,t,os⟩):
  wpAny (model prog w) A (Builtin.«object.__getattribute__» ⟨[.ref x,.str name tk],[]⟩) Q E ⟨h,g,d,t,os⟩:=by
 have l0:=I.type (M:=model prog w);have l1:=looks_find (M:=model prog w) X I hf;unfold Builtin.«object.__getattribute__»;refine wpAny_bind (wpAny_pure (wpAny_bind (wpAny_pure (wpAny_bind (l0.at (wpAny_bind (l1.at ?_)))))));show wpAny _ _ (holding [a] (call gv [a,.ref x,.ref C])>>=ret) _ _ _;exact wpAny_bind (wpAny_holding (wpAny_mono hq (fun v s' z=>wpAny_pure z) fun _ _ z=>z))
open PySem.W in
theorem zO {tk:Tok} {fill expr:Bool} {Q:GR} (X:K.In h) (I:InstAt h x ox C od) (G:XG K C)
  (hq:∀A':Around,wpAny (model prog w) A' (Builtin.«object.__getattribute__» ⟨[.ref x,.str name tk],[]⟩) (fun fin s'=>match fin with| .done (.ret v)=>wpAny (model prog w) A (handedOut v) Q E s'|_=>False) (fun _ _=>False) ⟨h,g,d,t,os⟩):
  wpAny (model prog w) A (getAttrBy (.ref x) (.str name tk) fill expr) Q E ⟨h,g,d,t,os⟩:=by
 have l0:=I.type (M:=model prog w);have l1:=looks_findIn (M:=model prog w) X G.ga;have l2:=looks_findIn (M:=model prog w) X G.gt;have fb:=F.attrBase_ValueError;have f3:=fb.ga.bind (.ref x);unfold getAttrBy;refine wpAny_holding (wpAny_bind (l0.at (wpAny_bind (l1.at ?_))));have hx2:(Value.builtin "BaseException.__getattribute__" ==Value.builtin "object.__getattribute__")=false:=by decide+kernel
 simp only[hx2,Bool.and_false,EX,if_false];unfold getAttrByItsOwn hookBefore;refine wpAny_bind ?_;rw[if_pos (show onTheHeap (.ref C)=true from rfl)]
 refine l2.at ?_;refine wpAny_bind (wpAny_attempt (wpAny_holding ?_));unfold callGetattribute;rw[if_neg (by cases expr<;>exact DY)]
 unfold boundAndCalled;refine wpAny_bind (wpAny_of_eq f3 ?_);refine wpAny_call (codeAny_call_builtin fb.ga.plain F.entry_bexc_ga (uI X I G (wpAny_mono (hq _) (fun fin s' z=>?_) fun _ _ z=>z.elim)))
 rcases fin with (_|_|_|_)|_<;>first|exact z.elim|exact z
end
section
variable {prog:Program} {w:World} {A:Around} {E:GR} {K:D5}
theorem rg {h:Heap} {g:Array GenState} {d:Drawn} {t:Nat} {os:OsState} {e C C':Addr} {oe:Obj} {b:Bool} {Q:Bool->Shared->Prop} (KX:K.In h) (he:h.get? e=some oe) (hc:oe.cls= .ref C) (T:XT K C')
  (hsub:PySem.W.subIn K (.ref C) (.ref C')=some b) (hq:Q b ⟨h,g,d,t,os⟩):wpAny (model prog w) A (excMatches (.ref e) (.ref C')) Q E ⟨h,g,d,t,os⟩:=by
 have l1:=PySem.W.looks_typeIn (M:=model prog w) KX T.ty;have l2:=PySem.W.looks_subIn (M:=model prog w) KX T.ex;have l3:=PySem.W.looks_subIn (M:=model prog w) KX hsub;have l4:=iu (M:=model prog w) KX T.cl;have l5:PySem.W.Looks (model prog w) h (isInstance (.ref C') (.type "tuple")) false:=l1.andThen (PySem.W.Looks.of_pure tc_notTuple);have l6:PySem.W.Looks (model prog w) h (isExcClass (.ref C')) true:=by
  unfold isExcClass;refine l4.andThen ?_;exact l2
 unfold excMatches
 repeat (first|with_reducible refine wpAny_bind (l5.at ?_)|with_reducible refine wpAny_bind (l6.at ?_)|with_reducible refine wpAny_bind (l3.at ?_)|(with_reducible refine wpAny_loadPart_at he ?_;rw[hc])|wp_step)
 cases b<;>(wp_walk;exact hq)
end
def Bs (i:Nat) (D:Ends):Ends:={nx:=fun σ H=>D.nx (σ.set i none) H,rt:=D.rt,bk:=fun σ H=>D.bk (σ.set i none) H,ct:=fun σ H=>D.ct (σ.set i none) H}
section
variable {x n:Str} {np:Pos} {b0:Stmt} {suite:List Stmt} {rest:List ExceptHandler} {i:Nat} {C':Addr} {t:TS}
theorem yk {pins:GT} {a:Addr} {D:Ends} {f:Flow} {s:Shared} {M:Model} {A:Around} {E:GR} (ok:X.Ok) (hN:X.N.Nodup) (hi:X.N[i]?=some n) (hloc:X.env.scope.names.lookup n=some .local)
  (q:SP (X.suite pins a) [] (Bs i D) f s):wpAny M A (do bindName X.env n .none;unbindBehindTheSuite X.env n pos) (fun _ s'=>SP X pins D f s') E s:=by
 have hcls:(X.env.scope.kind== .class||(X.env.scope.kind== .module&&X.env.locals !=X.env.globals))=false:=by rw[ok.kind];rfl
 cases f with
 |next=>
  obtain ⟨σ,H,I,q⟩:=q;have J:=I.outsuite ok;obtain ⟨m,hn,hl⟩:=id J.loc;exact wpAny_nameGoes_keeps hloc hn hcls fun h' v hn' hs=>⟨_,H,J.unbound hi hN hl hn' hs,q⟩
 |brk=>
  obtain ⟨σ,H,I,q⟩:=q;have J:=I.outsuite ok;obtain ⟨m,hn,hl⟩:=id J.loc;exact wpAny_nameGoes_keeps hloc hn hcls fun h' v hn' hs=>⟨_,H,J.unbound hi hN hl hn' hs,q⟩
 |cont=>
  obtain ⟨σ,H,I,q⟩:=q;have J:=I.outsuite ok;obtain ⟨m,hn,hl⟩:=id J.loc;exact wpAny_nameGoes_keeps hloc hn hcls fun h' v hn' hs=>⟨_,H,J.unbound hi hN hl hn' hs,q⟩
 |ret u=>
  obtain ⟨v,σ,H,I,r,q⟩:=q;have J:=I.outsuite ok;obtain ⟨m,hn,hl⟩:=id J.loc;exact wpAny_nameGoes_keeps hloc hn hcls fun h' v' hn' hs=>⟨v,_,H,J.unbound hi hN hl hn' hs,r,q⟩
theorem zP {E:St->XK} (hstk:X.stack=X.env::X.outer) (hfm:X.env.frame=some X.env.locals):PassesOwn (model X.prog X.w) X.A X.env (XS X E):=by
 intro e s1 hx;obtain ⟨σ',H0,s0,J,a,H',cls,dx,st,rfl,c,hE⟩:=hx;have c':gU X.prog X.w (X.env::X.outer) H0 s0 a H' cls dx st s1:=hstk▸c;have fr:X.A.frames=some (X.env::X.outer):=by rw[<-hstk];exact J.ok.frames
 have st1:s0.heap.FunFrames X.base (X.env::X.outer):=by rw[<-hstk];exact J.stack
 have sf:∀b∈jH (X.env::X.outer),H0 b=none:=by rw[<-hstk];exact J.stkFree
 unfold notedBy;refine c'.note fr hfm st1 sf fun s2 c2=>?_
 unfold cameBackBy;obtain ⟨oe,vs,he,_,_,hd,_,T,_,_,h1,_⟩:=c2.xo.ex;apply wpAny_bind;apply wpAny_field he hd h1;rw[if_neg (by simp)]
 refine c2.flight st1 sf fun s3 c3=>?_
 exact ⟨σ',H0,s0,J,a,H',cls,dx,_,rfl,hstk▸c3,hE⟩
end
def CN:GX:= [.type "ValueError",.type "Exception",.type "BaseException",.type "object"]
theorem zQ {K:D5} {h:Heap} {C:Addr} {bmB:GX} {nw:String} (X:K.In h) (q:PySem.W.excIn K C bmB nw=true):
  ∃bm N nm qn bs hdct sn sub ab col dd k0 k1 k2 k3 k5 mN,h.get? C=some (excClassObj nm qn C N bs bm hdct sn sub ab col dd k0 k1 k2 k3 k5 nw)/\h.Ns N mN/\mN "__init__" =none/\OwnTail h bmB bm:=by
 unfold PySem.W.excIn at q
 split at q
 ·rename_i dd cd sl ho
  split at q
  ·rename_i C' bm k0 k1 k2 k3 n k5 hm hs;simp only[Ey,beq_iff_eq,Bool.not_eq_true'] at q;obtain ⟨⟨⟨⟨⟨e1,e2⟩,hdel⟩,ht⟩,hok⟩,hni⟩:=q;subst e1 e2;obtain ⟨nm,bs,mro,ns,qn,hd,sn,sub,ab,col,del⟩:=cd;dsimp only at hm hdel hok hni;subst hm hdel;obtain ⟨l⟩:=sl;have hl:l= [k0,k1,k2,k3,some (.builtin n),k5]:=hs;subst hl;exact ⟨bm,ns,nm,qn,bs,hd,sn,sub,ab,col,dd,k0,k1,k2,k3,k5,_,X _ _ ho,.of_isNs (PySem.W.isNs_of_in X hok),PySem.W.nsMap_none_of_in X hok hni,PySem.W.tail_of_in X ht⟩
  ·cases q
 ·cases q
def zR (C:Addr) (E:St->XK) (t:TA):TS:=fun _ σ H=>t σ H fun vs H1=>vs.length<=sizeLine/\E σ (.ref C) none H1
variable {x:Str} {np cpos:Pos} {e₀:Expr} {rest:List Expr} {C:Addr} {t:TA} {E:St->XK}
theorem ym {pins:GT} {σ:St} {H:Hp} {s:Shared} {h':Heap} {e:Addr} {us:GX} (I:aE X pins σ H s) (mk:Heap.MadeExcOf s.heap h' e (.ref C) us):gU X.prog X.w X.stack H s e H (.ref C) none .new {s with heap:=h'}:=by
 obtain ⟨t,ht,_,_⟩:=mk.there;exact ⟨rfl,I.bare,Un.kept mk.keeps,I.hok.kept mk.keeps,⟨⟨_,_,ht,rfl,rfl,rfl,⟨by show 1<6;decide,rfl⟩,rfl⟩,mk.new,I.hok.none_of mk.new⟩⟩
theorem wq (q:PySem.W.excIn X.K C CN "ValueError.__new__" =true) (hg:Gl X x) (hm:X.mg x=some (.ref C)) (hc:X.calm=true) (hp:oS X E) (ha:PA X (e₀::rest) t) (hd:(x==("__debug__" :Str))=false:=by decide)
  (he:starEach (e₀::rest) X.env=(false,eval e₀ X.env)::starEach rest X.env:=by rfl) (hpl:(backTo cpos (starEach rest X.env)).any (·.1)=false:=by rfl):
  PS X (.Raise (some (.Call (.Name x np) (e₀::rest) [] cpos)) none pos) (zR C E t):=by
 intro pins s σ H D I h;obtain ⟨bm,N,nm,qn,bs,hdct,sn,sub,ab,col,dd,k0,k1,k2,k3,k5,mN,hC,hN,hni,TL⟩:=zQ I.ok.mod.kin q;have F:=PySem.F.excBase_ValueError;have W:=ha cpos pins s σ H _ I h;refine wpAny_Raise_call_subT (C:=C) (nm:=nm) (q:=qn) (N:=N) (bs:=bs) (bm:=bm) (hdct:=hdct) (sn:=sn) (sub:=sub) (ab:=ab) (col:=col) (dd:=dd) (k0:=k0) (k1:=k1) (k2:=k2) (k3:=k3) (k5:=k5) (mN:=mN)
  F (TL.hasType F.hasBase) (I.ok.hd hc) (by rw[he];exact hpl) hni (gy I hg hm ⟨rfl,?_⟩ hd)
 rw[he] at W⊢;refine Calls.evalArgs_plain (a9 W fun us s2 ⟨vs,H1,I1,r,hl,z⟩=>⟨rfl,by rw[<-r.length];exact hl,I1.bk _ _ hC,hN.keeps I1.bk,TL.keeps I1.bk,fun h' e mk=>?_⟩)
 exact hp pins σ H1 s2 _ _ I1 ⟨e,H1,.ref C,none,.new,rfl,ym I1 mk,z⟩
structure XI (K:D5) (C:Addr):Prop where
 gg:XG K C
 cl:(PySem.W.clsIn K C).isSome=true
 at_:Eu K (.ref C) "__class__" =some (some (.builtin "object.__class__"))
 gt:PySem.W.specialIn K (.builtin "object.__class__") "__get__" =some (some (.builtin "getset_descriptor.__get__"))
 tk:PySem.W.takesIn K (.builtin "object.__class__")=some true
 ob:PySem.W.mroIn K C (.type "object")=some true
theorem findObj_cls {K:D5} {C:Addr} {od:Option Obj} (x:XI K C):PySem.W.findObj K C od "__class__" =some (.bind (.builtin "getset_descriptor.__get__") (.builtin "object.__class__")):=by
 obtain ⟨cd,hc⟩:=EI.mp x.cl;unfold PySem.W.findObj;rw[hc,Option.bind_some,x.at_,Option.bind_some];simp[x.gt,x.tk]
theorem oU {K:D5} {a C:Addr} (x:XI K C):PySem.W.KitX K (.ref a) (.ref C) (fun h=>∃ox od,PySem.W.InstAt h a ox C od) where
 ty:=fun _ _ _ ⟨_,_,I⟩=>I.type
 it:=fun _ _ X _=>iu X x.cl
 ne:=fun h tp dd its n sl X htp=>by
  refine Bool.eq_false_iff.mpr fun q=>?_
  have e:C=tp:=Value.ref.inj (beq_iff_eq.mp q);subst e;have c:=x.cl;unfold PySem.W.clsIn at c
  split at c
  ·rename_i ho;have z:=(X _ _ ho).symm.trans htp;cases z
  ·cases c
 ca:=fun {_ _ _ _ _ s} X I k=>by
  obtain ⟨ox,od,I⟩:=I;obtain ⟨hh,g,d,t,os⟩:=s;unfold getAttr? getAttrBy?;refine wpAny_bind (wpAny_mkText (wpAny_bind (wpAny_attempt (zO (h:=hh) X I x.gg fun A'=>j7 X I (findObj_cls x) ?_))))
  exact wpAny_call (PySem.W.class_get (s:=⟨hh,g,d,t+1,os⟩) (ox:=ox) (od:=od) X I x.ob (PySem.W.handed_on rfl (wpAny_pure k)))
def zh (H:Hp) (dx:GY):Prop:=match dx with
 |none=>True
 |some d=>∃fs,H d=some (.xd fs)
theorem sW {X:Cx} {pins:GT} {σ:St} {H:Hp} {s:Shared} {a C:Addr} {n:Bool} {dx:GY} (I:aE X pins σ H s) (e:H a=some (rf n a (.ref C) dx)) (d:zh H dx):∃ox od,PySem.W.InstAt s.heap a ox C od:=by
 obtain ⟨⟨ox,vs,h1,h2,h3,h4,_⟩,_⟩:=(show bn X.prog X.w H s.heap a (rf n a (.ref C) dx) from I.hok a _ e)
 have nc:PySem.W.notCls ox=true:=by unfold PySem.W.notCls;rw[h4]
 cases dx with
 |none=>exact ⟨ox,none,h1,h2,nc,by rw[h3];trivial⟩
 |some d'=>
  obtain ⟨fs,hd⟩:=d;obtain ⟨mA,⟨o,es,ep,e',_⟩,_⟩:=(show bn X.prog X.w H s.heap d' (.xd fs) from I.hok d' _ hd)
  exact ⟨ox,some o,h1,h2,nc,by rw[h3];exact e'⟩
inductive CO (K:D5) (C:Addr):V->Bool->Prop where
 |own {D:Addr} {b:Bool} (h:Ef K (.ref C) (.ref D)=some b):CO K C (.ref D) b
 |ty {T:String} {b:Bool} (h:Ef K (.ref C) (.type T)=some b):CO K C (.ty T) b
theorem fk {X:Cx} {K:D5} (hK:X.K=K):c4 X (.builtin "isinstance") (fun xs H Q=>∃a C dx c b,xs= [.ref a,c]/\(∃n,H a=some (rf n a (.ref C) dx))/\zh H dx/\XI K C/\CO K C c b/\Q (.bl b) H):=by
 subst hK;intro pins s σ H xs us Q I r h;obtain ⟨a,C,dx,c,b,rfl,⟨n,e⟩,d,xi,xs,q⟩:=h;obtain ⟨u,w',rfl,e1,e2⟩:=vals2 r;cases e1;cases xs with
 |own h=>
  cases e2;exact Ej (oU xi) I.kIn (sW I e d) h (fun z=>nomatch z) fun tk=>⟨.bl b,H,I.tok tk,rfl,q⟩
 |ty h=>
  cases e2;exact Ej (oU xi) I.kIn (sW I e d) h (fun z=>nomatch z) fun tk=>⟨.bl b,H,I.tok tk,rfl,q⟩
abbrev Cx.block (X:Cx) (scope:Scope) (cl:List (Str×Addr)) (C:Addr) (N:GV) (own:Str) (fp:GW) (s:Shared) (H:Hp):Cx:=
 {X with env:=compEnvC scope cl C X.env,N:=N,s₀:=s,H₀:=H,outer:=X.stack,stack:=X.stack,ex:=fp,fn:=fun y=>y==own,pn:= [],xe:=fun _ _=>False}
structure gW (X:Cx) (scope:Scope) (cl:List (Str×Addr)) (own:Str) (ys:GV) (js:List Nat):Prop where
 clos:closureFor scope X.env=pure cl
 nocell:(scope.names.all fun p=> !(p.2== .cell))=true
 kind:scope.kind= .function
 loc:(scope.names.all fun p=> !(p.2== .local)||scope.names.lookup p.1==some .local)=true
 ownL:scope.names.lookup own=some .local
 sub:∀p∈cl,X.env.cells.lookup p.1=some p.2
 has:((relabel scope X.env).names.all fun p=> !(p.2== .cell||p.2== .free)||(cl.lookup p.1).isSome)=true
 noown:cl.lookup own=none
 nd:(own::ys).Nodup
 at_:∀(i:Nat) (y:Str),ys[i]?=some y->∃j:Nat,js[i]?=some j/\X.N[j]?=some y/\(X.env.scope.names.lookup y=some .cell∨X.env.scope.names.lookup y=some .free)/\((relabel scope X.env).names.lookup y=some .cell∨(relabel scope X.env).names.lookup y=some .free)
 len:js.length=ys.length
def aM (js:List Nat) (σ:St):St:=js.map fun j=>(σ[j]?).getD none
def sZ (js:List Nat) (te:TE) (σ:St) (Q:VK):It->Hp->Prop:=fun J H1=>∀p,H1 p=none->∃W:Nat->Nat->List V->Hp->Prop,(∃m,W 0 m [] (av H1 p (.lst [])))/\
 ∀i m ys H2,W i m ys H2->H2 p=some (.lst ys)/\((J.stop i H2/\Q (.ref p) H2)∨(J.go i H2/\ys.length<sizeLine/\∀x H3,J.yld i H2 x H3->te (some x::aM js σ) H3 fun y H4=>H4 p=some (.lst ys)/\∃m',m'<m/\W (i+1) m' (ys++ [y]) (av H4 p (.lst (ys++ [y])))))
def wt (wi:TI) (js:List Nat) (te:TE):TE:=fun σ H Q=>wi σ H (sZ js te σ Q)
theorem lookup_all {α:Type} {f:Str×α->Bool} {x:Str} {a:α}:∀{l:List (Str×α)},l.all f=true->l.lookup x=some a->f (x,a)=true:=by
 intro l h e;exact EY.mp h _ (ER e)
section
variable {prog:Program} {w:World} {A:Around} {R:Result->Shared->Prop}
theorem dY {elt target iter:Expr} {scope:Scope} {pos:Pos} {it acc:Value} {env:Env} (I:Nat->Shared->Prop)
  (turn:∀n s,I n s->wpAny (model prog w) A (pyNext it) (fun r s1=>match r with
   |none=>R (.ok .next) s1
   |some v=>wpAny (model prog w) A (letOwnedTupleGo target it v) (fun _ s2=>wpAny (model prog w) A (assign target env v) (fun _ s3=>wpAny (model prog w) A (eval elt env) (fun x s4=>
     wpAny (model prog w) A (call (.builtin "list.append") [acc,x]) (fun _ s5=>∃m,m<n/\I m s5) (fun _ _=>False) s4) (fun _ _=>False) s3) (fun _ _=>False) s2) (fun _ _=>False) s1) (fun _ _=>False) s)
  (n:Nat) (h:I n s):codeAny (model prog w) A (.compLoop (.ListComp elt [⟨target,iter,[],0⟩] scope pos) 0 it acc env) R s:=by
 apply codeAny_loop rfl I ?_ n h;intro n s hI;show wpAny _ _ ((compTurn (.ListComp elt [⟨target,iter,[],0⟩] scope pos) 0 it acc env).onRaise _) _ _ s;apply wpAny_noted;rw[compTurn_list1];apply wpAny_bind;apply wpAny_standAt;apply wpAny_bind;refine wpAny_mono (turn n s hI) (fun r s1 h1=>?_) fun _ _ z=>z.elim
 cases r with
 |none=>exact wpAny_pure h1
 |some v=>
  apply wpAny_bind;refine wpAny_mono h1 (fun _ s2 h2=>?_) fun _ _ z=>z.elim
  apply wpAny_bind;refine wpAny_mono h2 (fun _ s3 h3=>?_) fun _ _ z=>z.elim
  apply wpAny_bind;apply wpAny_bind;refine wpAny_mono h3 (fun x s4 h4=>?_) fun _ _ z=>z.elim
  apply wpAny_bind;refine wpAny_mono h4 (fun _ s5 h5=>?_) fun _ _ z=>z.elim
  exact wpAny_pure (wpAny_pure ⟨rfl,h5⟩)
end
section
variable {scope:Scope} {cl:List (Str×Addr)} {own:Str} {ys:GV} {js:List Nat} {fp:GW} {s4:Shared}
theorem dL {h1:Heap} (ok:gW X scope cl own ys js) (I:aE X pins σ H s) (hf:∀b∈fp,df X pins H b) (hlt:∀b∈fp,b<s.heap.objs.size) (hns:h1.Ns s.heap.objs.size (fun _=>none))
  (hk:∀b o,s.heap.get? b=some o->h1.get? b=some o) (tk:Nat):
  aE (X.block scope cl s.heap.objs.size (own::ys) own fp s H) [] (none::aM js σ) H {s with heap:=h1,toks:=tk}:=by
 have sub:∀y c,cl.lookup y=some c->X.env.cells.lookup y=some c:=fun y c e=>ok.sub (y,c) (ER e)
 refine ⟨⟨I.ok.mod,ok.kind,I.ok.glob,I.ok.blt,D8 _,fun x y c e1 e2=>I.ok.inj x y c (sub x c e1) (sub y c e2),fun x hx=>?_,fun x c e1 e2=>?_,I.ok.hd,I.ok.frames,.inl rfl,fun b hb=>⟨DI (hlt b hb),fun x c e=>(hf b hb).2.2.2.2.1 x c (sub x c e)⟩,
  I.bs,ED I.ok.bsz I.sz,fun b o e hb=>?_,fun b hb z=>?_,I.stack,I.stkFree⟩,rfl,I.bare,Un.kept hk,⟨_,hns,fun i y v e1 e2 e3=>?_⟩,fun y c e=>?_,I.hok.fresh (D8 _),fun y c e=>I.freeC y c (sub y c e),fun p hp=>absurd (show p∈([]:GT) from hp) (by simp),I.hok.kept hk,?_⟩
 ·have hx':(relabel scope X.env).names.lookup x=some .cell∨(relabel scope X.env).names.lookup x=some .free:=hx;rcases hx' with z|z
  ·have q:=lookup_all ok.has z;simp only[beq_self_eq_true,Bool.true_or,FE,FF] at q;exact EI.mp q
  ·have q:=lookup_all ok.has z;simp only[beq_self_eq_true,Bool.or_true,FE,FF] at q;exact EI.mp q
 ·have e1':(x==own)=true:=e1;have e:x=own:=beq_iff_eq.mp e1';have e2':cl.lookup x=some c:=e2;rw[e,ok.noown] at e2';cases e2'
 ·rcases (hf b hb).2.2.2.1 with z|z
  ·exact I.ok.noex b o e z
  ·exact absurd (EB (Heap.lt_size (I.ok.bs b o e).1) z) (FW _)
 ·rcases DM.mp (I.stkSub b z) with q|q
  ·exact (hf b hb).2.1 q
  ·exact (hf b hb).2.2.1 q
 ·cases i with
  |zero=>cases e2
  |succ i=>
   have e1':ys[i]?=some y:=e1;obtain ⟨j,hj,hN,hX,hc⟩:=ok.at_ i y e1';have e2':(aM js σ)[i]?=some (some v):=e2;unfold aM at e2';rw[D9,hj] at e2';have hs:σ[j]?=some (some v):=by
    cases q:σ[j]? with
    |none=>rw[Ek,q] at e2';cases e2'
    |some o=>rw[Ek,q] at e2';exact e2'
   obtain ⟨m,hn,hl⟩:=I.loc;obtain ⟨u,r,l⟩:=hl j y v hN hs (hX.elim (fun z=> .inr (.inl z)) fun z=> .inr (.inr z))
   refine ⟨u,r,.inr ⟨hc,?_⟩⟩;rcases l with ⟨k,_⟩|⟨k,c,hcl,hcell⟩
   ·have k':X.env.scope.names.lookup y=some .local:=k;rcases hX with z|z<;>(rw[z] at k';cases k')
   ·have ex:∃c',cl.lookup y=some c':=by
     rcases hc with z|z
     ·have q:=lookup_all ok.has z;simp only[beq_self_eq_true,Bool.true_or,FE,FF] at q;exact EI.mp q
     ·have q:=lookup_all ok.has z;simp only[beq_self_eq_true,Bool.or_true,FE,FF] at q;exact EI.mp q
    obtain ⟨c',hc'⟩:=ex;have e:=sub y c' hc';rw[hcl] at e;cases e;obtain ⟨oc,hoc,hd⟩:=hcell;exact ⟨c,hc',oc,hk _ _ hoc,hd⟩
 ·obtain ⟨v,oc,hoc,hd⟩:=I.cell y c (sub y c e);exact ⟨v,oc,hk _ _ hoc,hd⟩
 ·show (none::aM js σ).length=(own::ys).length;simp[aM,ok.len]
theorem fo {H':Hp} {h':Heap} {σ':St} (I:aE X pins σ H s) (hf:∀b∈fp,df X pins H b) (J:aE (X.block scope cl s.heap.objs.size (own::ys) own fp s H) [] σ' H' s4) (hs:Heap.SameBut s.heap.objs.size s4.heap h'):
  aE X pins σ H' {s4 with heap:=h'}:=by
 have low:∀b o,s.heap.get? b=some o->b≠s.heap.objs.size:=fun b o e=>DI (Heap.lt_size e)
 have B:=J.base;have u:Un (jH X.stack) fp H H' s.heap h':={
  keep:=fun b o q n hb hx=>(hs.2 b (low b o q)).trans (B.keep b o q n hb hx)
  slot:=fun b o q n hb hx=>by
   obtain ⟨sl,e⟩:=B.slot b o q n hb hx;exact ⟨sl,(hs.2 b (low b o q)).trans e⟩
  free:=B.free
  there:=fun b o q hx=>by
   obtain ⟨o',e⟩:=B.there b o q hx;exact ⟨o',(hs.2 b (low b o q)).trans e⟩
  tups:=B.tups
  frzs:=B.frzs
  tbls:=B.tbls}
 have hn:H' s.heap.objs.size=none:=J.free;have hk:fG X.prog X.w H' h':=fun a o e=>(J.hok a o e).stay (fun b v hb q=>(hs.2 b (by
  intro z;rcases hb with z'|z'
  ·rw[<-z',z,hn] at e;cases e
  ·rw[z,hn] at z';cases z')).trans q) (fun _ q=>q) fun _ _ q=>q
 exact I.call' (s':={s4 with heap:=h'}) (ch:=fp) J.os u hk J.bare fun b hb=>⟨(hf b hb).2.2.2.1,(hf b hb).2.1,(hf b hb).2.2.2.2.1,(hf b hb).2.2.2.2.2⟩
end
section
variable {scope:Scope} {cl:List (Str×Addr)} {own:Str} {ys:GV} {js:List Nat} {elt iter:Expr} {px:Pos} {wi:TI} {te:TE}
theorem iw (hc:X.calm=true) (ok:gW X scope cl own ys js) (hi:PI X (.Name own px) iter wi)
  (he:∀(C:Addr) (fp:GW) (s:Shared) (H:Hp),PE (X.block scope cl C (own::ys) own fp s H) elt te)
  (hs:∀x,foldedSetIterable iter X.env x=pure x:=by intro _;rfl):PE X (.ListComp elt [⟨.Name own px,iter,[],0⟩] scope pos) (wt wi js te):=by
 intro pins s σ H Q I h;rw[eval_ListComp];have ncell:∀y∈scope.names,y.2≠ .cell:=fun y hy z=>by
  have q:=EY.mp ok.nocell y hy;rw[z] at q;simp at q
 have nloc:∀y∈scope.names,y.2= .local->scope.names.lookup y.1=some .local:=fun y hy z=>by
  have q:=EY.mp ok.loc y hy;rw[z] at q
  simpa using q
 refine wpAny_comprehension_free (use:=none) rfl hs ok.clos ok.kind nloc (a9 (hi pins s σ H _ I h) fun v s1 h1=>a9 h1 fun itv s2 h2=>?_)
 obtain ⟨it,fp,tn,J,H2,rfl,I2,T,st2,f2,q2⟩:=h2;obtain ⟨W,⟨m0,w0⟩,turn⟩:=q2 s2.heap.objs.size (I2.hok.fresh (D8 _));refine wpAny_newObj_type (wpAny_newFunctionEnv ncell (by intro y hy;simp at hy) (fun h1 hns hsb=>?_) ok.kind)
 have I3:=I2.laid (a:=s2.heap.objs.size) (o:= .lst []) (h':=s2.heap.push {cls:= .type "list",dict:=none,data:= .seq ([]:GX).toArray}) (t':=s2.toks) (fun b u q=>Heap.get?_push_of_some _ q) (D8 _)
  ⟨EC _,[],0,.nil,Heap.get?_push_size _ rfl⟩
 have fpo:∀b∈fp,b<s2.heap.objs.size:=fun b hb=>by
  obtain ⟨o,e,_⟩:=T.obj 0 _ st2 b hb;exact Heap.lt_size e
 have f3:∀b∈fp,df X pins (av H2 s2.heap.objs.size (.lst [])) b:=fun b hb=>⟨by rw[ar (DI (fpo b hb))];exact (f2 b hb).1,(f2 b hb).2⟩
 generalize hs3:({s2 with heap:=s2.heap.push {cls:= .type "list",dict:=none,data:= .seq ([]:GX).toArray},toks:=s2.toks}:Shared)=s3 at I3
 have e3:s3.heap=s2.heap.push {cls:= .type "list",dict:=none,data:= .seq ([]:GX).toArray}:=by rw[<-hs3]
 have lt3:∀b∈fp,b<s3.heap.objs.size:=fun b hb=>by rw[e3,Heap.size_push];exact EN (fpo b hb)
 dsimp only at hns hsb⊢;rw[<-e3] at hns hsb;have hk:∀b o,s3.heap.get? b=some o->h1.get? b=some o:=fun b o e=>hsb.extBut b o (DI (Heap.lt_size e)) (Heap.get?_push_of_some _ e)
 have J0:=dL (h1:=h1) ok I3 f3 lt3 hns hk (s2.toks+0);have t0:tn 0 h1:=T.keep 0 _ _ st2 fun b hb o e=>hk b o (by rw[e3];exact Heap.get?_push_of_some _ e)
 have fpB:∀{H':Hp},(∀b∈fp,H' b=none)->∀b∈fp,df (X.block scope cl s3.heap.objs.size (own::ys) own fp s3 (av H2 s2.heap.objs.size (.lst []))) [] H' b:=fun {H'} hn b hb=>
  ⟨hn b hb,DI (lt3 b hb),fun z=>(DM.mp (I3.stkSub b z)).elim (f3 b hb).2.1 (f3 b hb).2.2.1,.inl hb,fun x c e=>(f3 b hb).2.2.2.2.1 x c (ok.sub (x,c) (ER e)),fun p hp=>absurd (show p∈([]:GT) from hp) (by simp)⟩
 have loop:codeAny (model X.prog X.w) X.A (.compLoop (.ListComp elt [⟨.Name own px,iter,[],0⟩] scope pos) 0 (.ref it) (.ref s2.heap.objs.size) (compEnvC scope cl s3.heap.objs.size X.env))
   (compPost (model X.prog X.w) X.A X.xe none (EP X pins σ Q) (.ref s2.heap.objs.size) s3.heap.objs.size) {s3 with heap:=h1,toks:=s2.toks+0}:=by
  refine dY (fun n s'=>∃i zs o0 H',aE (X.block scope cl s3.heap.objs.size (own::ys) own fp s3 (av H2 s2.heap.objs.size (.lst []))) [] (o0::aM js σ) H' s'/\tn i s'.heap/\(∀b∈fp,H' b=none)/\W i n zs H') ?_ m0
   ⟨0,[],none,_,J0,t0,fun b hb=>(f3 b hb).1,w0⟩
  rintro n s5 ⟨i,zs,o0,H5,I5,t5,n5,w5⟩;obtain ⟨hD,hw⟩:=turn i n zs H5 w5;rcases hw with ⟨stop,qn⟩|⟨go,hz,step⟩
  ·refine a9 (T.done (X.block scope cl s3.heap.objs.size (own::ys) own fp s3 (av H2 s2.heap.objs.size (.lst []))) rfl rfl rfl hc i [] s5 _ H5 (fun _ _=>False) I5 (fpB n5) t5 stop) fun r s6 ⟨hr,I6⟩=>?_
   subst hr;obtain ⟨m,hn,_⟩:=id I6.loc;exact ⟨m,hn,fun h' hs'=>⟨V.ref s2.heap.objs.size,H5,fo I3 f3 I6 hs',rfl,qn⟩⟩
  ·refine a9 (T.item (X.block scope cl s3.heap.objs.size (own::ys) own fp s3 (av H2 s2.heap.objs.size (.lst []))) rfl rfl rfl hc i [] s5 _ H5 (fun _ _=>False) I5 (fpB n5) t5 go) fun r s6 ⟨u,hr,h6⟩=>?_
   subst hr;refine a9 h6 fun _ s7 ⟨x,H7,I7,r7,y7,t7,n7⟩=>?_
   have I7':=I7.pinned (fpB n7) (T.obj _ _ t7);have hst:=step x H7 y7;have own':(relabel scope X.env).names.lookup own=some .local:=lookup_relabel_local ok.ownL;refine a9 (fL (X:=X.block scope cl s3.heap.objs.size (own::ys) own fp s3 (av H2 s2.heap.objs.size (.lst []))) (i:=0) (x:=own) (pos:=px) ok.nd rfl (.inl own') (.inr own') _ s7 _ H7 x u (fun σ' H'=>σ'=some x::aM js σ/\H'=H7) I7' r7 ⟨rfl,rfl⟩) fun _ s8 ⟨σ8,H8,I8,e8,eH8⟩=>?_
   subst e8 eH8;refine a9 (he _ _ _ _ _ s8 _ H8 _ I8 hst) fun yv s9 ⟨y,H9,I9,r9,hD9,m',hm,w9⟩=>?_
   refine a9 (bo _ s9 _ H9 (.ref s2.heap.objs.size) [y] (.ref s2.heap.objs.size) [yv] (fun _ H'=>H'=av H9 s2.heap.objs.size (.lst (zs++ [y]))) I9 rfl (.cons r9 .nil) ⟨_,zs,y,rfl,rfl,hD9,hz,rfl⟩) fun _ s10 ⟨_,H10,I10,_,e10⟩=>?_
   subst e10;refine ⟨m',hm,i+1,zs++ [y],some x,_,I10.unpinned,T.keep _ _ _ t7 fun b hb o e=>(I10.pin (b,o) (DJ _ (DJ _ (bu hb e)))).1,fun b hb=>?_,w9⟩
   obtain ⟨o,e,d⟩:=T.obj _ _ t7 b hb;exact (I10.pin (b,o) (DJ _ (DJ _ (bu hb e)))).2.1
 subst hs3;exact codeAny_compStart_list loop (T.self _ 0 _ _ _ t0 loop)
end
open PySem.Builtin PySem.Builtin.ObjectAttr
theorem lq:entryFor table "proto.unchain" =some Builtin.«proto.unchain» :=entryFor_of_fast (by kernel_rfl)
def oV (hd:GZ) (H:Hp):Prop:=∀v,hd=some v->∃a n cls dx,v= .ref a/\H a=some (rf n a cls dx)
theorem oV.no {H:Hp}:oV none H:=fun _ z=>nomatch z
section
variable {prog:Program} {w:World} {A:Around} {E:GR}
theorem rh {it hx:Addr} {ox:Obj} {vs:Array Value} {x left step:Int} {Q:GZ->Shared->Prop} (hh:A.handled=some (.ref hx)) (ho:s.heap.get? hx=some ox) (hd:ox.data= .fields vs) (h2:vs[2]?=some .none)
  (hit:IsRangeIter s.heap it x left step) (hleft:left<=0) (hQ:∀h',Heap.ExtBut it s.heap h'->Q none {s with heap:=h'}):wpAny (model prog w) A (pyNext (.ref it)) Q E s:=by
 have hT:s.TypeIs (.ref it) "range_iterator" :=⟨_,hit,rfl⟩;unfold pyNext;refine wpAny_bind (wpAny_attempt (wpAny_callSpecial?_slot (name:=Str.ofString "__next__") hT F.slot_range_iterator_next
  (wpAny_call_entry F.slot_range_iterator_next hT F.entry_range_iterator_next ?_ (F.args_range_iterator_next_1 _))))
 show wpAny _ _ (field (.ref it) 0>>=_) _ _ s;refine wpAny_bind (wpAny_field hit rfl (x:=rawInt x) rfl ?_);show wpAny _ _ (field (.ref it) 1>>=_) _ _ s;refine wpAny_bind (wpAny_field hit rfl (x:=rawInt left) rfl ?_);show wpAny _ _ (field (.ref it) 2>>=_) _ _ s;refine wpAny_bind (wpAny_field hit rfl (x:=rawInt step) rfl ?_);show wpAny _ _ (if left<=0 then _ else _) _ _ s
 rw[if_pos hleft];refine wpAny_bind (wpAny_rule ?_);refine wpAny_bind ?_;show wpAny _ _ (newExc (.type "StopIteration") []>>=_) _ _ _;refine wpAny_bind ?_;simp only[newExc,newTuple];refine wpAny_bind (wpAny_newObj_type ?_ (by size_fits))
 refine wpAny_bind (m:=firstArgMember _ _) (wpAny_of_eq (a:=Value.none) (by first|rfl|(simp only[firstArgMember];rfl)) ?_)
 refine wpAny_newObj_type ?_ (by size_fits)
 simp only[raiseNew];refine wpAny_bind (wpAny_handled ?_);rw[show A.in1.handled=some (.ref hx) from hh]
 have g0:s.heap.get? (s.heap.push {cls:= .type "tuple",dict:=none,data:= .seq ([]:GX).toArray}).objs.size=none:=Heap.get?_none_of_le (by rw[Heap.size_push];lia)
 have ne:hx≠(s.heap.push {cls:= .type "tuple",dict:=none,data:= .seq ([]:GX).toArray}).objs.size:=fun z=>by
  rw[z,g0] at ho;cases ho
 dsimp only;rw[if_pos (bne_iff_ne.mpr fun z=>ne (Value.ref.inj z))]
 refine wpAny_bind (wpAny_holding (wpAny_runValue (codeAny_builtin lq ?_)));show wpAny _ _ (field (.ref hx) 2>>=_) _ _ _;refine wpAny_bind (wpAny_field (Heap.get?_push_of_some _ (Heap.get?_push_of_some _ ho)) hd h2 ?_);rw[if_pos (by rfl)]
 refine wpAny_bind (wpAny_pure (wpAny_pure ?_));refine wpAny_bind (m:=updateField _ 2 _) (wpAny_setField (Heap.get?_push_size _ rfl) rfl (by show 2<6;decide) ?_)
 refine wpAny_throw ?_;refine wpAny_bind (wpAny_isInstance (T:= "StopIteration") (b:=true) ⟨_,Heap.get?_update_self _ (Heap.get?_push_size _ rfl) rfl,rfl⟩ isSubtype_stop ?_);refine wpAny_pure (hQ _ fun b o hb e=>?_)
 rw[Heap.get?_update_other _ _ (by
  intro z;rw[z] at g0;rw[g0] at e;cases e)]
 exact Heap.get?_push_of_some _ (Heap.get?_push_of_some _ e)
end
structure zi (hd:GZ) (P:Program) (w:World) (K:D5) (tg:Expr) (J:It) (fp:GW) (it:Addr) (tn:Nat->Heap->Prop):Prop where
 mem:it∈fp
 obj:∀i h,tn i h->∀b∈fp,∃o,h.get? b=some o/\∀v,o.data≠ .cell v
 keep:∀i h h',tn i h->(∀b∈fp,∀o,h.get? b=some o->h'.get? b=some o)->tn i h'
 item:∀(X:Cx),X.prog=P->X.w=w->X.K=K->X.A.handled=hd->∀(i:Nat) (pins:GT) (s:Shared) (σ:St) (H:Hp) (E:GR),aE X pins σ H s->(∀b∈fp,df X pins H b)->tn i s.heap->J.go i H->
  wpAny (model P w) X.A (pyNext (.ref it)) (fun r s1=>∃u,r=some u/\
   wpAny (model P w) X.A (letOwnedTupleGo tg (.ref it) u) (fun _ s2=>∃x H',aE X pins σ H' s2/\RelV x u/\J.yld i H x H'/\tn (i+1) s2.heap/\∀b∈fp,H' b=none) E s1) E s
 done:∀(X:Cx),X.prog=P->X.w=w->X.K=K->X.A.handled=hd->∀(i:Nat) (pins:GT) (s:Shared) (σ:St) (H:Hp) (E:GR),aE X pins σ H s->(∀b∈fp,df X pins H b)->tn i s.heap->J.stop i H->
  wpAny (model P w) X.A (pyNext (.ref it)) (fun r s1=>r=none/\aE X pins σ H s1) E s
 self:∀(A:Around) (i:Nat) (s:Shared) (Q:GR) (E:GR),tn i s.heap->Q (.ref it) s->wpAny (model P w) A (pyIter (.ref it)) Q E s
def Bt (hd:GZ) (X:Cx) (pins:GT) (σ:St) (tg:Expr) (R:It->Hp->Prop) (itv:Value) (s2:Shared):Prop:=
 ∃(it:Addr) (fp:GW) (tn:Nat->Heap->Prop) (J:It) (H':Hp),itv= .ref it/\aE X pins σ H' s2/\zi hd X.prog X.w X.K tg J fp it tn/\tn 0 s2.heap/\(∀b∈fp,df X pins H' b)/\R J H'
def Do (hd:GZ) (X:Cx) (tg iter:Expr) (wi:TI):Prop:=
 ∀(pins:GT) (s:Shared) (σ:St) (H:Hp) (R:It->Hp->Prop),aE X pins σ H s->wi σ H R->
  wpAny (model X.prog X.w) X.A (eval iter X.env) (fun v s1=>wpAny (model X.prog X.w) X.A (pyIter v) (Bt hd X pins σ tg R) X.xe s1) X.xe s
def yn (hd:GZ) (lo:Int) (n:Nat):It:=⟨fun i _=>i<n,fun i H x H'=>H'=H/\x= .int (lo+i),fun i H=>n<=i/\oV hd H⟩
theorem oW {hd:GZ} {P:Program} {w:World} {K:D5} {tg:Expr} (it:Addr) (lo:Int) (n:Nat):zi hd P w K tg (yn hd lo n) [it] it (fun i h=>IsRangeIter h it (lo+(i:Nat)*1) ((n:Int)-(i:Nat)) 1) where
 mem:=by simp
 obj:=fun i h st b hb=>by
  have e:b=it:=by simpa using hb
  subst e;exact ⟨_,st,fun v z=>by
   have z':Data.fields _=Data.cell v:=z;cases z'⟩
 keep:=fun i h h' st k=>k it (by simp) _ st
 item:=by
  intro X hP hw hK hA i pins s σ H E I hf st hg;subst hP hw hK;obtain ⟨f0,f1,f2,f3,f4,f5⟩:=hf it (by simp)
  have hg':i<n:=hg;refine wpAny_pyNext_range_item st (by lia) fun h' st' sb=>?_
  have I1:aE X pins σ H {s with heap:=h',toks:=s.toks+1}:=I.turned (fun b o hb e=>(sb.2 b hb).trans e) f0 f1 f3 f4 f5
  have st2:IsRangeIter h' it (lo+((i+1:Nat):Int)*1) ((n:Int)-((i+1:Nat):Int)) 1:=by
   have e1:lo+((i+1:Nat):Int)*1=lo+(i:Int)*1+1:=by push_cast;lia
   have e2:(n:Int)-((i+1:Nat):Int)=(n:Int)-(i:Int)-1:=by push_cast;lia
   rw[e1,e2];exact st'
  refine ⟨_,rfl,lO (s:={s with heap:=h',toks:=s.toks+1}) (n:= "range_iterator") st2 rfl rfl (by decide) ⟨.int (lo+i),H,I1,⟨s.toks,?_⟩,⟨rfl,rfl⟩,st2,fun b hb=>(hf b hb).1⟩⟩
  rw[Int.mul_one]
 done:=by
  intro X hP hw hK hA i pins s σ H E I hf st hg;subst hP hw hK;obtain ⟨f0,f1,f2,f3,f4,f5⟩:=hf it (by simp)
  obtain ⟨hl,hk⟩:=hg;cases hd with
  |none=>exact wpAny_pyNext_range_end hA st (by lia) fun h' eb=>⟨rfl,I.turned (t':=s.toks) (fun b o hb e=>eb b o hb e) f0 f1 f3 f4 f5⟩
  |some v=>
   obtain ⟨a,m,cls,dx,rfl,e⟩:=hk v rfl;obtain ⟨⟨ox,vs,h1,h2,h3,h4,h6,h5⟩,_⟩:=(show bn X.prog X.w H s.heap a (rf m a cls dx) from I.hok a _ e)
   exact rh hA h1 h4 h6 st (by lia) fun h' eb=>⟨rfl,I.turned (t':=s.toks) (fun b o hb e=>eb b o hb e) f0 f1 f3 f4 f5⟩
 self:=fun _ _ _ _ _ st h=>wpAny_pyIter_rangeiter st h
def Bu (hd:GZ) (ta:TA):TI:=fun σ H R=>ta σ H fun vs H1=>∃j:Int,vs= [.int j]/\ -(2^62)<=j/\j<2^62/\R (yn hd 0 j.toNat) H1
section
variable {tg:Expr} {hd:GZ}
theorem uJ {pins:GT} {σ:St} {H:Hp} {s:Shared} {R:It->Hp->Prop} {E:GR} {lo hi:Int} {t u v:Tok} {tk:Nat} (I:aE X pins σ H s) (h1: -(2^62)<=lo) (h2:lo<2^62) (h3: -(2^62)<=hi) (h4:hi<2^62)
  (q:R (yn hd lo (hi-lo).toNat) H):wpAny (model X.prog X.w) X.A (pyIter (.ref s.heap.objs.size)) (Bt hd X pins σ tg R) E {s with heap:=s.heap.push {cls:= .type "range",data:= .fields #[.int lo t,.int hi u,.int 1 v]},toks:=tk}:=by
 refine wpAny_pyIter_range (IsRange.new ..) (small_one h1 h2 h3 h4) ?_;have I1:aE X pins σ H {s with heap:=s.heap.push {cls:= .type "range",data:= .fields #[.int lo t,.int hi u,.int 1 v]},toks:=tk}:=I.kept fun b o e=>Heap.get?_push_of_some _ e
 refine ⟨(s.heap.push {cls:= .type "range",data:= .fields #[.int lo t,.int hi u,.int 1 v]}).objs.size,[(s.heap.push {cls:= .type "range",data:= .fields #[.int lo t,.int hi u,.int 1 v]}).objs.size],_,_,H,rfl,
  I1.kept (t':=tk) fun b o e=>Heap.get?_push_of_some _ e,oW _ lo (hi-lo).toNat,?_,fun b hb=>?_,q⟩
 ·have e1:lo+((0:Nat):Int)*1=lo:=by simp
  have e2:(((hi-lo).toNat:Nat):Int)-((0:Nat):Int)=Builtin.Range.rangeSize lo hi 1:=by rw[rangeSize_one];split<;>lia
  show IsRangeIter _ _ (lo+((0:Nat):Int)*1) ((((hi-lo).toNat:Nat):Int)-((0:Nat):Int)) 1;rw[e1,e2];exact Heap.get?_push_size _ rfl
 ·have e:b=(s.heap.push {cls:= .type "range",data:= .fields #[.int lo t,.int hi u,.int 1 v]}).objs.size:=by simpa using hb
  subst e;exact I1.fpOk (D8 _) (I1.hok.fresh (D8 _))
theorem ma {a:Expr} {ta:TA} {p pos:Pos} (hg:Gl X "range") (hm:X.mg "range" =none) (ha:PA X [a] ta) (hs:starEach [a] X.env= [(false,eval a X.env)]:=by rfl):Do hd X tg (.Call (.Name "range" p) [a] [] pos) (Bu hd ta):=by
 intro pins s σ H R I h;refine Call_ (cW I hg hm boot_range (EE (a9 (ha pos pins s σ H _ I h) fun us s1 ⟨vs,H1,I1,r1,q1⟩=>?_) hs rfl))
 obtain ⟨j,e,q1,q2,q⟩:=q1;subst e;cases r1 with
 |cons r rr=>
  cases rr;obtain ⟨t,rfl⟩:=r;exact call_range_1 (uJ I1 (by lia) (by lia) q1 q2 (by simpa using q))
end
section
variable {scope:Scope} {cl:List (Str×Addr)} {own:Str} {ys:GV} {js:List Nat} {elt iter:Expr} {px:Pos} {wi:TI} {te:TE} {hd:GZ}
theorem oX (hA:X.A.handled=hd) (ok:gW X scope cl own ys js) (hi:Do hd X (.Name own px) iter wi)
  (he:∀(C:Addr) (fp:GW) (s:Shared) (H:Hp),PE (X.block scope cl C (own::ys) own fp s H) elt te)
  (hs:∀x,foldedSetIterable iter X.env x=pure x:=by intro _;rfl):PE X (.ListComp elt [⟨.Name own px,iter,[],0⟩] scope pos) (wt wi js te):=by
 intro pins s σ H Q I h;rw[eval_ListComp];have ncell:∀y∈scope.names,y.2≠ .cell:=fun y hy z=>by
  have q:=EY.mp ok.nocell y hy;rw[z] at q;simp at q
 have nloc:∀y∈scope.names,y.2= .local->scope.names.lookup y.1=some .local:=fun y hy z=>by
  have q:=EY.mp ok.loc y hy;rw[z] at q
  simpa using q
 refine wpAny_comprehension_free (use:=none) rfl hs ok.clos ok.kind nloc (a9 (hi pins s σ H _ I h) fun v s1 h1=>a9 h1 fun itv s2 h2=>?_)
 obtain ⟨it,fp,tn,J,H2,rfl,I2,T,st2,f2,q2⟩:=h2;obtain ⟨W,⟨m0,w0⟩,turn⟩:=q2 s2.heap.objs.size (I2.hok.fresh (D8 _));refine wpAny_newObj_type (wpAny_newFunctionEnv ncell (by intro y hy;simp at hy) (fun h1 hns hsb=>?_) ok.kind)
 have I3:=I2.laid (a:=s2.heap.objs.size) (o:= .lst []) (h':=s2.heap.push {cls:= .type "list",dict:=none,data:= .seq ([]:GX).toArray}) (t':=s2.toks) (fun b u q=>Heap.get?_push_of_some _ q) (D8 _)
  ⟨EC _,[],0,.nil,Heap.get?_push_size _ rfl⟩
 have fpo:∀b∈fp,b<s2.heap.objs.size:=fun b hb=>by
  obtain ⟨o,e,_⟩:=T.obj 0 _ st2 b hb;exact Heap.lt_size e
 have f3:∀b∈fp,df X pins (av H2 s2.heap.objs.size (.lst [])) b:=fun b hb=>⟨by rw[ar (DI (fpo b hb))];exact (f2 b hb).1,(f2 b hb).2⟩
 generalize hs3:({s2 with heap:=s2.heap.push {cls:= .type "list",dict:=none,data:= .seq ([]:GX).toArray},toks:=s2.toks}:Shared)=s3 at I3
 have e3:s3.heap=s2.heap.push {cls:= .type "list",dict:=none,data:= .seq ([]:GX).toArray}:=by rw[<-hs3]
 have lt3:∀b∈fp,b<s3.heap.objs.size:=fun b hb=>by rw[e3,Heap.size_push];exact EN (fpo b hb)
 dsimp only at hns hsb⊢;rw[<-e3] at hns hsb;have hk:∀b o,s3.heap.get? b=some o->h1.get? b=some o:=fun b o e=>hsb.extBut b o (DI (Heap.lt_size e)) (Heap.get?_push_of_some _ e)
 have J0:=dL (h1:=h1) ok I3 f3 lt3 hns hk (s2.toks+0);have t0:tn 0 h1:=T.keep 0 _ _ st2 fun b hb o e=>hk b o (by rw[e3];exact Heap.get?_push_of_some _ e)
 have fpB:∀{H':Hp},(∀b∈fp,H' b=none)->∀b∈fp,df (X.block scope cl s3.heap.objs.size (own::ys) own fp s3 (av H2 s2.heap.objs.size (.lst []))) [] H' b:=fun {H'} hn b hb=>
  ⟨hn b hb,DI (lt3 b hb),fun z=>(DM.mp (I3.stkSub b z)).elim (f3 b hb).2.1 (f3 b hb).2.2.1,.inl hb,fun x c e=>(f3 b hb).2.2.2.2.1 x c (ok.sub (x,c) (ER e)),fun p hp=>absurd (show p∈([]:GT) from hp) (by simp)⟩
 have loop:codeAny (model X.prog X.w) X.A (.compLoop (.ListComp elt [⟨.Name own px,iter,[],0⟩] scope pos) 0 (.ref it) (.ref s2.heap.objs.size) (compEnvC scope cl s3.heap.objs.size X.env))
   (compPost (model X.prog X.w) X.A X.xe none (EP X pins σ Q) (.ref s2.heap.objs.size) s3.heap.objs.size) {s3 with heap:=h1,toks:=s2.toks+0}:=by
  refine dY (fun n s'=>∃i zs o0 H',aE (X.block scope cl s3.heap.objs.size (own::ys) own fp s3 (av H2 s2.heap.objs.size (.lst []))) [] (o0::aM js σ) H' s'/\tn i s'.heap/\(∀b∈fp,H' b=none)/\W i n zs H') ?_ m0
   ⟨0,[],none,_,J0,t0,fun b hb=>(f3 b hb).1,w0⟩
  rintro n s5 ⟨i,zs,o0,H5,I5,t5,n5,w5⟩;obtain ⟨hD,hw⟩:=turn i n zs H5 w5;rcases hw with ⟨stop,qn⟩|⟨go,hz,step⟩
  ·refine a9 (T.done (X.block scope cl s3.heap.objs.size (own::ys) own fp s3 (av H2 s2.heap.objs.size (.lst []))) rfl rfl rfl hA i [] s5 _ H5 (fun _ _=>False) I5 (fpB n5) t5 stop) fun r s6 ⟨hr,I6⟩=>?_
   subst hr;obtain ⟨m,hn,_⟩:=id I6.loc;exact ⟨m,hn,fun h' hs'=>⟨V.ref s2.heap.objs.size,H5,fo I3 f3 I6 hs',rfl,qn⟩⟩
  ·refine a9 (T.item (X.block scope cl s3.heap.objs.size (own::ys) own fp s3 (av H2 s2.heap.objs.size (.lst []))) rfl rfl rfl hA i [] s5 _ H5 (fun _ _=>False) I5 (fpB n5) t5 go) fun r s6 ⟨u,hr,h6⟩=>?_
   subst hr;refine a9 h6 fun _ s7 ⟨x,H7,I7,r7,y7,t7,n7⟩=>?_
   have I7':=I7.pinned (fpB n7) (T.obj _ _ t7);have hst:=step x H7 y7;have own':(relabel scope X.env).names.lookup own=some .local:=lookup_relabel_local ok.ownL;refine a9 (fL (X:=X.block scope cl s3.heap.objs.size (own::ys) own fp s3 (av H2 s2.heap.objs.size (.lst []))) (i:=0) (x:=own) (pos:=px) ok.nd rfl (.inl own') (.inr own') _ s7 _ H7 x u (fun σ' H'=>σ'=some x::aM js σ/\H'=H7) I7' r7 ⟨rfl,rfl⟩) fun _ s8 ⟨σ8,H8,I8,e8,eH8⟩=>?_
   subst e8 eH8;refine a9 (he _ _ _ _ _ s8 _ H8 _ I8 hst) fun yv s9 ⟨y,H9,I9,r9,hD9,m',hm,w9⟩=>?_
   refine a9 (bo _ s9 _ H9 (.ref s2.heap.objs.size) [y] (.ref s2.heap.objs.size) [yv] (fun _ H'=>H'=av H9 s2.heap.objs.size (.lst (zs++ [y]))) I9 rfl (.cons r9 .nil) ⟨_,zs,y,rfl,rfl,hD9,hz,rfl⟩) fun _ s10 ⟨_,H10,I10,_,e10⟩=>?_
   subst e10;refine ⟨m',hm,i+1,zs++ [y],some x,_,I10.unpinned,T.keep _ _ _ t7 fun b hb o e=>(I10.pin (b,o) (DJ _ (DJ _ (bu hb e)))).1,fun b hb=>?_,w9⟩
   obtain ⟨o,e,d⟩:=T.obj _ _ t7 b hb;exact (I10.pin (b,o) (DJ _ (DJ _ (bu hb e)))).2.1
 subst hs3;exact codeAny_compStart_list loop (T.self _ 0 _ _ _ t0 loop)
end
def Bv (K:D5) (C':Addr) (i:Nat) (t:Addr->TS) (r:TH):TH:=fun D σ cls dx H a=>∃C b,cls= .ref C/\PySem.W.subIn K (.ref C) (.ref C')=some b/\
 if b=true then t a (Bs i D) (σ.set i (some (.ref a))) (av H a (Br a cls dx)) else r D σ cls dx H a
section
variable {n:Str} {b0:Stmt} {suite:List Stmt} {rest:List ExceptHandler} {i:Nat} {C':Addr} {tA:Addr->TS}
theorem zS (T:XT X.K C') (hg:Gl X x) (hm:X.mg x=some (.ref C')) (hN:X.N.Nodup) (hi:X.N[i]?=some n) (hloc:X.env.scope.names.lookup n=some .local)
  (hs:∀(pins:GT) (a:Addr),lN (X.suite pins a) (b0::suite) (tA a)) (hrest:PH X rest th) (hd:(x==("__debug__" :Str))=false:=by decide):
  PH X (.ExceptHandler (some (.Name x np)) (some n) (b0::suite) pos::rest) (Bv X.K C' i tA th):=by
 intro pins σ H0 s0 D a H' cls v dx s' I c h;obtain ⟨C,b,rfl,hsub,h⟩:=h;have J:aE X pins σ H' s':=I.call' c.os c.un c.hok c.bare (fun b z=>absurd z (by simp))
 obtain ⟨oe,vs,he,hc,_,_,_⟩:=c.xo.ex;refine wpAny_handleBy_cons (codeAny_handlers_test (gy (X:=X.suite pins a) (J.insuite a) hg hm ?_ hd)) (by intro q;cases q)
 have KX:=J.kIn;obtain ⟨hh,g,d,tk,os⟩:=s';refine rg KX he hc T hsub ?_;cases b with
 |false=>exact hrest pins σ H0 s0 D a H' _ v dx _ I c h
 |true=>
  refine codeAny_handlers_suite_as ?_;refine c.flight I.stack I.stkFree fun s2 c2=>?_
  have J2:=(c2.caught I).insuite a;refine ig (X:=X.suite pins a) (v:=V.ref a) J2 hN hi (.inl hloc) (show RelV (V.ref a) (Value.ref a) from rfl) (fun s3 I3=>?_) (.inr hloc)
  refine wpAny_mono (hs pins a [] s3 _ _ _ I3 h) (fun f s4 q=>?_) fun _ _ z=>z.elim
  exact yk I.ok hN hi hloc q
end
end L2
namespace Sw
open PySem L2 XH
structure Dx (P:Program) (w:World) (K:D5) (mg:GS) (base:Heap) (CX:qZ) (k:Nat) (x:Str) (ps:GV) (dvs:List V) (sp:Sp) where
 f:Addr
 fd:FuncData
 ok:bv P w K mg base CX k f fd ps sp
 m:mg x=some (.ref f)
 q:FG K (.ref f)=true
 b:Binds K fd ps []
 bd:∃ds,Binds K fd ps ds/\aS dvs ds
def Dx.calm {P:Program} {w:World} {K:D5} {mg:GS} {base:Heap} {k:Nat} {x:Str} {ps:GV} {dvs:List V} {sp sp0:Sp} (D:Dx P w K mg base (nL P w) k x ps dvs sp) (h:∀vs H Q E,sp0 vs H Q E->sp vs H Q E0):Dx P w K mg base bQ k x ps dvs sp0:=
 ⟨D.f,D.fd,D.ok.noraise h,D.m,D.q,D.b,D.bd⟩
section
variable {X:Cx} {k j:Nat} {x:Str} {ps:GV} {sp:Sp} {p pos:Pos} {e:Expr} {es:List Expr} {t:TA} {dvs:List V} {E:St->XK}
theorem zT (D:Dx X.prog X.w X.K X.mg X.base bQ k x ps dvs sp) (hr:cQ j X.A) (hk:k<=j) (hg:Gl X x) (ha:PA X (e::es) t) (hdb:(x==("__debug__" :Str))=false:=by decide)
  (he:starEach (e::es) X.env=(false,eval e X.env)::starEach es X.env:=by rfl) (hpl:(backTo pos (starEach es X.env)).any (·.1)=false:=by rfl):
  PE X (.Call (.Name x p) (e::es) [] pos) (v7 sp [] E0 t):=
 xX D.ok (hr.mono hk) hg D.m D.q D.b .nil zd ha hdb he hpl
theorem zU (D:Dx X.prog X.w X.K X.mg X.base (nL X.prog X.w) k x ps dvs sp) (hr:cQ j X.A) (hk:k<=j) (hg:Gl X x) (hx:oS X E) (ha:PA X (e::es) t) (hdb:(x==("__debug__" :Str))=false:=by decide)
  (he:starEach (e::es) X.env=(false,eval e X.env)::starEach es X.env:=by rfl) (hpl:(backTo pos (starEach es X.env)).any (·.1)=false:=by rfl):
  PE X (.Call (.Name x p) (e::es) [] pos) (wm sp [] E t):=
 wn D.ok (hr.mono hk) hg D.m D.q D.b .nil hx ha hdb he hpl
end
theorem bN.okX {P:Program} {w:World} {K:D5} {mg:GS} {base:Heap} {x qual:Str} {st:Stmt} {dV:Value} {f:Addr} {fd:FuncData} {N ps:GV} {k:Nat} {sp:Sp} (F:bN K x qual st dV f fd) (S:aI N ps (aw st)) (len:∀vs H Q E,sp vs H Q E->vs.length=ps.length)
  (hbody:∀(cdv:Value) (A:Around) (outer:List Env) (s:Shared) (H:Hp) (vs:List V) (Q:VK) (E:XK),cQ k (A.deeper (PyProof.Rows.envOfC qual (aw st) s.heap.objs.size f cdv))->sp vs H Q E->
   ∃t,lN ((jI (nL P w) P w K mg base N qual (aw st) f cdv A outer s H E).wish (XS (jI (nL P w) P w K mg base N qual (aw st) f cdv A outer s H E) fun _=>E)) (c7 st) t/\t {nx:=fun _ H'=>Q .non H',rt:=Q} (start N vs) H):bv P w K mg base (nL P w) (k+1) f fd ps sp:=by
 obtain ⟨oc,od,kV,doc,pm,an,cdv,ct,osl,rfl,lk,hcd⟩:=F.ex;exact zL lk hcd S len fun A outer s H vs Q E hr hsp=>hbody cdv A outer s H vs Q E hr hsp
end Sw
namespace L2
open PySem PySem.Spec PyProof.Rows XH
theorem gH {X:Cx} {K:D5} (hK:X.K=K):c4 X (.builtin "isinstance") (fun xs H Q=>∃x t T b,xs= [x,.ty T]/\io K H x t/\Ef K t (.type T)=some b/\Q (.bl b) H):=by
 subst hK;intro pins s σ H xs us Q I r h;obtain ⟨x,t,T,b,rfl,ty,e,q⟩:=h;obtain ⟨u,w',rfl,e1,e2⟩:=vals2 r;cases e2;exact uA I e1 ty e fun tk=>⟨.bl b,H,I.tok tk,rfl,q⟩
end L2
namespace Sw
open PySem L2 XH
end Sw
namespace L2
open PySem PySem.Spec PyProof.Rows XH
def CP:V->Prop
 | .bl _=>True
 | .int _=>True
 | .str _=>True
 | .non=>True
 |_=>False
theorem wu {A:Around} {s:Shared} {v:V} {u w:Value} (h:CP v) (r1:RelV v u) (r2:RelV v w):SeqAt.EqAt A s u w true:=by
 cases v with
 |bl b=>
  cases r1;cases r2;have z:=SeqAt.EqAt.bool_bool (A:=A) (s:=s) b b;rw[beq_self_eq_true] at z;exact z
 |int i=>
  obtain ⟨t,rfl⟩:=r1;obtain ⟨t',rfl⟩:=r2;have z:=SeqAt.EqAt.int_int (A:=A) (s:=s) i t i t';rw[beq_self_eq_true] at z;exact z
 |str i=>
  obtain ⟨t,rfl⟩:=r1;obtain ⟨t',rfl⟩:=r2;have z:=SeqAt.EqAt.str_str (A:=A) (s:=s) i t i t';rw[beq_self_eq_true] at z;exact z
 |non=>
  cases r1;cases r2;exact SeqAt.EqAt.same _
 |_=>exact absurd h (fun z=>z)
end L2
namespace Sw
open PySem L2 XH PyProof.Rows
theorem zV {hd:GZ} {H H':Hp} (h:oV hd H) (g:az H H'):oV hd H':=fun v e=>by
 obtain ⟨a,n,cls,dx,e1,e2⟩:=h v e;exact ⟨a,n,cls,dx,e1,g _ _ e2⟩
theorem dZ {H H':Hp} {p:Addr} (g:az H H') (h:H p=none) (o:HO):az H (av H' p o):=fun b u q=>by
 rw[ar (bL q h)];exact g b u q
def iX (X:Cx) (scope:Scope) (ys:GV) (js:List Nat):Prop:=∀(i:Nat) (y:Str),ys[i]?=some y->∃j:Nat,js[i]?=some j/\X.N[j]?=some y/\(X.env.scope.names.lookup y=some .cell∨X.env.scope.names.lookup y=some .free)/\((relabel scope X.env).names.lookup y=some .cell∨(relabel scope X.env).names.lookup y=some .free)
theorem oY {X:Cx} {scope:Scope}:iX X scope [] []:=fun i y h=>by simp at h
theorem qM {X:Cx} {scope:Scope} {ys:GV} {js:List Nat} {y:Str} {j:Nat} (t:iX X scope ys js) (h1:X.N[j]?=some y:=by rfl) (h2:X.env.scope.names.lookup y=some .cell∨X.env.scope.names.lookup y=some .free:=by first|exact Or.inl rfl|exact Or.inr rfl)
  (h3:(relabel scope X.env).names.lookup y=some .cell∨(relabel scope X.env).names.lookup y=some .free:=by first|exact Or.inl rfl|exact Or.inr rfl):iX X scope (y::ys) (j::js):=fun i z h=>by
 cases i with
 |zero=>
  cases h;exact ⟨j,rfl,h1,h2,h3⟩
 |succ i=>exact t i z h
inductive rq (X:Cx):List (Str×Addr)->Prop where
 |nil:rq X []
 |cons {y:Str} {c:Addr} {cl:List (Str×Addr)} (h:X.env.cells.lookup y=some c) (t:rq X cl):rq X ((y,c)::cl)
theorem rq.all {X:Cx} {cl:List (Str×Addr)} (h:rq X cl):∀p∈cl,X.env.cells.lookup p.1=some p.2:=by
 induction h with
 |nil=>intro p hp;simp at hp
 |cons h _ ih=>
  intro p hp;rcases DM.mp hp with e|e
  ·rw[e];exact h
  ·exact ih p e
theorem qN {X:Cx} {scope:Scope} {cl:List (Str×Addr)} {own:Str} {ys:GV} {js:List Nat} (a:iX X scope ys js) (s:rq X cl) (nd:(own::ys).Nodup) (len:js.length=ys.length) (clos:closureFor scope X.env=pure cl) (nocell:(scope.names.all fun p=> !(p.2== .cell))=true) (kind:scope.kind= .function)
  (loc:(scope.names.all fun p=> !(p.2== .local)||scope.names.lookup p.1==some .local)=true) (ownL:scope.names.lookup own=some .local) (has:((relabel scope X.env).names.all fun p=> !(p.2== .cell||p.2== .free)||(cl.lookup p.1).isSome)=true) (noown:cl.lookup own=none):gW X scope cl own ys js:=
 ⟨clos,nocell,kind,loc,ownL,s.all,has,noown,nd,a,len⟩
structure CQ (P:Program) (w:World) (K:D5) (mg:GS) (base:Heap) (CX:qZ) (k:Nat) (f:Addr) (ps:GV) (dvs:List V) (sp:Sp) where
 fd:FuncData
 ok:bv P w K mg base CX k f fd ps sp
 b:Binds K fd ps []
 bd:∃ds,Binds K fd ps ds/\aS dvs ds
section
variable {X:Cx} {k j:Nat} {f C:Addr} {ps:GV} {sp:Sp} {dvs:List V} {x m:Str} {p pos apos:Pos} {e o:Expr} {es:List Expr} {ta tb:TE} {t:TA}
theorem yo (M:Mk X.K C f) (D:CQ X.prog X.w X.K X.mg X.base bQ k f ps dvs sp) (hr:cQ j X.A) (hk:k+1<=j) (hg:Gl X x) (hm:X.mg x=some (.ref C)) (ha:PA X (e::es) t) (hdb:(x==("__debug__" :Str))=false:=by decide)
  (he:starEach (e::es) X.env=(false,eval e X.env)::starEach es X.env:=by rfl) (hpl:(backTo pos (starEach es X.env)).any (·.1)=false:=by rfl):PE X (.Call (.Name x p) (e::es) [] pos) (za C sp dvs E0 t):=by
 obtain ⟨ds,hb,hv⟩:=D.bd;exact xY M D.ok (hr.mono hk) hg hm hb hv zd ha hdb he hpl
end
end Sw
namespace L2
open PySem PySem.Spec PyProof.Rows
variable {X:Cx} {pins:GT} {σ:St} {H:Hp} {s:Shared} {h':Heap}
theorem aE.turnedNew {ch:GW} {T:Addr} {o:HO} {t':Nat} (I:aE X pins σ H s) (hf:∀b∈ch,df X pins H b) (k:∀b u,b∉ch->s.heap.get? b=some u->h'.get? b=some u) (hp:s.heap.objs.size<=T) (new:bn X.prog X.w (av H T o) h' T o):
  aE X pins σ (av H T o) {s with heap:=h',toks:=t'}:=by
 have nT:H T=none:=I.hok.fresh hp;have ne:∀b u,H b=some u->b≠T:=fun b u e z=>by rw[z,nT] at e;cases e
 have nch:∀b u,H b=some u->b∉ch:=fun b u e z=>by rw[(hf b z).1] at e;cases e
 have up:∀b u,H b=some u->av H T o b=some u:=fun b u e=>by rw[ar (ne b u e)];exact e
 refine I.step (g':=s.gens) (d':=s.drawn) (ch:=ch) (fun b hb=>?_) (fun b u _ _ hc e _=>k b u hc e) (fun b u _ _ hc e _=>⟨u.slots,k b u hc e⟩) (fun b u _ e n=>?_)
  (fun b u hc e=>⟨u,k b u hc e⟩) (fun b xs e=>up b _ e) (fun b u v e=>up b _ e) (fun b ps e=>⟨#[],by rw[up b _ e];simp⟩) (fun m hm=>?_) (fun b u e=>?_) I.bare
 ·obtain ⟨f0,f1,f2,f3,f4,f5⟩:=hf b hb;exact ⟨f3,f1,f4,f5⟩
 ·have:b≠T:=DI (EB (Heap.lt_size e) hp);rw[ar this];exact n
 ·obtain ⟨u,es,ep,ho,r⟩:=hm;exact ⟨u,es,ep,k _ u (fun z=>(hf _ z).2.1 rfl) ho,r⟩
 ·by_cases c:b=T
  ·subst c;rw[ag] at e;cases e;exact new
  ·rw[ar c] at e;refine (I.hok b u e).stay (fun c' v hc q=>k c' v ?_ q) (fun _ q=>up _ _ q) fun _ _ q=>up _ _ q
   rcases hc with z|z
   ·rw[z];exact nch b u e
   ·exact nch c' _ z
theorem aE.turnedAll {ch:GW} {t':Nat} (I:aE X pins σ H s) (hf:∀b∈ch,df X pins H b) (k:∀b u,b∉ch->s.heap.get? b=some u->h'.get? b=some u):aE X pins σ H {s with heap:=h',toks:=t'}:=by
 have nch:∀b u,H b=some u->b∉ch:=fun b u e z=>by rw[(hf b z).1] at e;cases e
 refine I.step (g':=s.gens) (d':=s.drawn) (ch:=ch) (fun b hb=>?_) (fun b u _ _ hc e _=>k b u hc e) (fun b u _ _ hc e _=>⟨u.slots,k b u hc e⟩) (fun b u _ e n=>n)
  (fun b u hc e=>⟨u,k b u hc e⟩) (fun b xs e=>e) (fun b u v e=>e) (fun b ps e=>⟨#[],by rw[e];simp⟩) (fun m hm=>?_) (fun b u e=>?_) I.bare
 ·obtain ⟨f0,f1,f2,f3,f4,f5⟩:=hf b hb;exact ⟨f3,f1,f4,f5⟩
 ·obtain ⟨u,es,ep,ho,r⟩:=hm;exact ⟨u,es,ep,k _ u (fun z=>(hf _ z).2.1 rfl) ho,r⟩
 ·refine (I.hok b u e).stay (fun c' v hc q=>k c' v ?_ q) (fun _ q=>q) fun _ _ q=>q
  rcases hc with z|z
  ·rw[z];exact nch b u e
  ·exact nch c' _ z
def AS (K:D5) (l:Addr):It:=
 ⟨fun i H=>∃xs x,aK K H l xs/\xs[i]?=some x,fun i H v H'=>∃(T:Addr) (x:V),v= .ref T/\H T=none/\(∀xs,aK K H l xs->xs[i]?=some x)/\H'=av H T (.tup [.int i,x]),fun i H=>∃xs,aK K H l xs/\xs.length<=i⟩
theorem uK {P:Program} {w:World} {K:D5} {elts:List Expr} {k:Nat} {pos:Pos} (l e it:Addr) (ne:e≠it):Turn P w K (.Tuple elts k pos) (AS K l) [e,it] e (fun i h=>(∃old,IsEnum h e it i old)/\h.IsListIter it l i) where
 mem:=by simp
 obj:=fun i h st b hb=>by
  obtain ⟨⟨old,he⟩,o,e1,c,d⟩:=st;rcases DM.mp hb with z|z
  ·subst z;exact ⟨_,he,fun v z=>by cases z⟩
  ·rw[DR.mp z];exact ⟨o,e1,fun v z=>by rw[d] at z;cases z⟩
 keep:=fun i h h' st k=>⟨let ⟨old,he⟩:=st.1;⟨old,k e (by simp) _ he⟩,st.2.at fun o q=>k it (by simp) o q⟩
 item:=by
  intro X hP hw hK hc i pins s σ H E I hf st hg;subst hP hw hK;obtain ⟨xs,x,hq,hx⟩:=hg;obtain ⟨its,rv,p,hz⟩:=I.list hq;obtain ⟨u,hu,ru⟩:=rv.get hx;obtain ⟨⟨old,he⟩,hit⟩:=st;refine wpAny_pyNext_enum_item he hit p.isList (x:=u) (by simpa using hu) ne fun h1 ho hit' hT hsz hk=>?_
  refine ⟨_,rfl,wpAny_letOwnedTupleGo_enum (s:={s with heap:=h1,toks:=s.toks+1}) ho fun h2 he2 hs2=>?_⟩
  have nT:H s.heap.objs.size=none:=I.hok.fresh (D8 _);have el:e<s.heap.objs.size:=Heap.lt_size he;have il:it<s.heap.objs.size:=by obtain ⟨_,q,_⟩:=hit;exact Heap.lt_size q
  have hT2:h2.get? s.heap.objs.size=some {cls:= .type "tuple",data:= .seq #[.int i s.toks,u]}:=(hs2.2 _ (Ew el)).trans hT;have kp:∀b o,b∉ [e,it]->s.heap.get? b=some o->h2.get? b=some o:=fun b o hb q=>by
   simp at hb;exact (hs2.2 b hb.1).trans (hk b o hb.1 hb.2 q)
  refine ⟨.ref s.heap.objs.size,av H s.heap.objs.size (.tup [.int i,x]),I.turnedNew (t':=s.toks+1) (ch:= [e,it]) hf kp (D8 _) ⟨by show 2<=sizeLine;decide,[.int i s.toks,u],.cons ⟨_,rfl⟩ (.cons ru .nil),⟨_,hT2,rfl,0,rfl⟩⟩,rfl,
   ⟨_,x,rfl,nT,fun ys hy=>by rw[I.list_inj hy hq];exact hx,rfl⟩,⟨⟨u,?_⟩,?_⟩,fun b hb=>?_⟩
  ·simpa using he2
  ·exact hit'.at fun o q=>(hs2.2 it (Ne.symm ne)).trans q
  ·have bl:b≠s.heap.objs.size:=by
    rcases DM.mp hb with z|z
    ·rw[z];exact DI el
    ·rw[DR.mp z];exact DI il
   rw[ar bl];exact (hf b hb).1
 done:=by
  intro X hP hw hK hc i pins s σ H E I hf st hg;subst hP hw hK;obtain ⟨xs,hq,hx⟩:=hg;obtain ⟨its,rv,p,hz⟩:=I.list hq;obtain ⟨⟨old,he⟩,hit⟩:=st;have hl:=rv.length;exact wpAny_pyNext_enum_end (I.ok.hd hc) he hit p.isList (by simp;lia) fun h' eb=>⟨rfl,I.turnedAll (t':=s.toks) (ch:= [e,it]) hf fun b o hb q=>eb b o (fun z=>hb (by simp[z])) q⟩
 self:=fun _ _ _ _ _ st h=>let ⟨_,he⟩:=st.1;wpAny_pyIter_enum he h
def Bw (K:D5) (ta:TA):TI:=fun σ H R=>ta σ H fun vs H1=>∃l:Addr,vs= [.ref l]/\(∃xs,aK K H1 l xs)/\R (AS K l) H1
theorem boot_enumerate:bootBuiltins "enumerate" =some (.type "enumerate"):=by kernel_rfl
theorem gI {X:Cx} {a:Expr} {ta:TA} {elts:List Expr} {k:Nat} {tp p pos:Pos} (hg:Gl X "enumerate") (hm:X.mg "enumerate" =none) (ha:PA X [a] ta) (hs:starEach [a] X.env= [(false,eval a X.env)]:=by rfl):PI X (.Tuple elts k tp) (.Call (.Name "enumerate" p) [a] [] pos) (Bw X.K ta):=by
 intro pins s σ H R I h;refine Call_ (cW I hg hm boot_enumerate (EE (a9 (ha pos pins s σ H _ I h) fun us s1 ⟨vs,H1,I1,r1,q1⟩=>?_) hs rfl))
 obtain ⟨l,e,⟨xs,hq⟩,q⟩:=q1;subst e;cases r1 with
 |cons r rr=>
  cases rr;cases r;obtain ⟨its,rv,p1,hz⟩:=I1.list hq;refine call_enumerate_list p1.isList fun h' he hit hsz hk=>?_
  refine wpAny_pyIter_enum (s:={s1 with heap:=h'}) he ?_
  have I2:aE X pins σ H1 {s1 with heap:=h'}:=I1.kept (t':=s1.toks) hk
  refine ⟨s1.heap.objs.size+1,[s1.heap.objs.size+1,s1.heap.objs.size],_,_,H1,rfl,I2,uK l _ _ (Nat.succ_ne_self _),⟨⟨_,by simpa using he⟩,hit⟩,fun b hb=>?_,q⟩
  have bl:s1.heap.objs.size<=b:=by
   rcases DM.mp hb with z|z
   ·rw[z];exact Fe _
   ·rw[DR.mp z];exact D8 _
  exact I1.fpOk bl (I1.hok.fresh bl)
theorem f9 {K:D5} {a:Addr} {xs:List V} {g:TG} {tb:TS} {D:Ends} {σ:St} {H:Hp} (Pv:Nat->St->Hp->Prop) (h0:Pv 0 σ H) (hl:∀i σ H,i<=xs.length->Pv i σ H->aK K H a xs)
  (hs:∀i x σ H (T:Addr),xs[i]?=some x->Pv i σ H->H T=none->g (.ref T) σ (av H T (.tup [.int i,x])) fun σ2 H2=>tb {D with nx:=Pv (i+1),ct:=Pv (i+1),bk:=D.nx} σ2 H2) (hd:∀σ H,Pv xs.length σ H->D.nx σ H):
  ∃W:Nat->Nat->St->Hp->Prop,(∃m,W 0 m σ H)/\∀i m σ H,W i m σ H->
   ((AS K a).stop i H/\D.nx σ H)∨((AS K a).go i H/\∃N:St->Hp->Prop,(∀σ' H',N σ' H'->∃m',m'<m/\W (i+1) m' σ' H')/\∀x H',(AS K a).yld i H x H'->g x σ H' fun σ2 H2=>tb {D with nx:=N,ct:=N,bk:=D.nx} σ2 H2):=by
 refine ⟨fun i m σ H=>m=xs.length-i/\i<=xs.length/\Pv i σ H,⟨xs.length,by simp,EC _,h0⟩,?_⟩
 rintro i m σ H ⟨rfl,hi,p⟩;have q:=hl i σ H hi p
 by_cases hlt:i<xs.length
 ·refine .inr ⟨⟨xs,xs[i],q,by simp[hlt]⟩,Pv (i+1),fun σ' H' p'=>⟨xs.length-(i+1),by lia,rfl,hlt,p'⟩,fun x H' y=>?_⟩
  obtain ⟨T,z,rfl,nT,hz,rfl⟩:=y;exact hs i z σ H T (hz xs q) p nT
 ·have e:i=xs.length:=by lia
  subst e;exact .inl ⟨⟨xs,q,D8 _⟩,hd σ H p⟩
def By (K:D5) (l1 l2:Addr):It:=
  ⟨fun i H=>∃xs ys x y,aK K H l1 xs/\aK K H l2 ys/\xs[i]?=some x/\ys[i]?=some y,
   fun i H v H'=>∃(T:Addr) (x y:V),v= .ref T/\H T=none/\(∀xs,aK K H l1 xs->xs[i]?=some x)/\(∀ys,aK K H l2 ys->ys[i]?=some y)/\H'=av H T (.tup [x,y]),
   fun i H=>∃xs ys,aK K H l1 xs/\aK K H l2 ys/\(xs.length<=i∨ys.length<=i)⟩
structure wv (h:Heap) (z TI TO i1 i2 l1 l2:Addr) (i:Nat):Prop where
 zip:IsZip h z TI TO .none
 ti:IsPair h TI (.ref i1) (.ref i2)
 to:∃a b,IsPair h TO a b
 it1:h.IsListIter i1 l1 i
 it2:h.IsListIter i2 l2 i
theorem iy {h:Heap} {l b:Addr} {its:Array Value} {o:Obj} {n:String} (hl:h.IsList l its) (e:h.get? b=some o) (c:o.cls= .type n) (ne:n≠ "list"):l≠b:=fun z=>by
 obtain ⟨o',e',c',_⟩:=hl;rw[z,e] at e';cases e';rw[c] at c';injection c' with c'
 exact ne c'
theorem wv.apart {h:Heap} {z TI TO i1 i2 l1 l2:Addr} {i:Nat} {xs ys:Array Value} (st:wv h z TI TO i1 i2 l1 l2 i) (d: [z,TI,TO,i1,i2].Nodup) (h1:h.IsList l1 xs) (h2:h.IsList l2 ys):ZipApart z TI TO i1 i2 l1 l2:=by
 obtain ⟨a,b,eto⟩:=st.to;obtain ⟨o1,e1,c1,_⟩:=st.it1;obtain ⟨o2,e2,c2,_⟩:=st.it2;simp only[FJ,DM,Eh,or_false,not_or,FR,and_true] at d;obtain ⟨⟨d1,d2,d3,d4⟩,⟨d5,d6,d7⟩,⟨d8,d9⟩,d10,_⟩:=d;have lz:∀{l:Addr} {its:Array Value},h.IsList l its->l≠z/\l≠TI/\l≠TO/\l≠i1/\l≠i2:=fun hl=>⟨iy hl st.zip rfl (by decide),iy hl st.ti rfl (by decide),iy hl eto rfl (by decide),iy hl e1 c1 (by decide),iy hl e2 c2 (by decide)⟩
 obtain ⟨p1,p2,p3,p4,p5⟩:=lz h1;obtain ⟨q1,q2,q3,q4,q5⟩:=lz h2;constructor<;>first|assumption|exact Ne.symm (by assumption)
theorem ww {P:Program} {w:World} {K:D5} {elts:List Expr} {k:Nat} {pos:Pos} (l1 l2 z TI TO i1 i2:Addr) (d: [z,TI,TO,i1,i2].Nodup):Turn P w K (.Tuple elts k pos) (By K l1 l2) [z,TI,TO,i1,i2] z (fun i h=>wv h z TI TO i1 i2 l1 l2 i) where
 mem:=by simp
 obj:=fun i h st b hb=>by
  obtain ⟨a,b',eto⟩:=st.to;obtain ⟨o1,e1,c1,d1⟩:=st.it1;obtain ⟨o2,e2,c2,d2⟩:=st.it2;simp only[DM,Eh,or_false] at hb;rcases hb with q|q|q|q|q<;>subst q
  ·exact ⟨_,st.zip,fun v z=>by cases z⟩
  ·exact ⟨_,st.ti,fun v z=>by cases z⟩
  ·exact ⟨_,eto,fun v z=>by cases z⟩
  ·exact ⟨o1,e1,fun v z=>by rw[d1] at z;cases z⟩
  ·exact ⟨o2,e2,fun v z=>by rw[d2] at z;cases z⟩
 keep:=fun i h h' st k=>⟨k _ (by simp) _ st.zip,k _ (by simp) _ st.ti,let ⟨a,b,e⟩:=st.to;⟨a,b,k _ (by simp) _ e⟩,st.it1.at fun o q=>k _ (by simp) o q,st.it2.at fun o q=>k _ (by simp) o q⟩
 item:=by
  intro X hP hw hK hc i pins s σ H E I hf st hg;subst hP hw hK;obtain ⟨xs,ys,x,y,hq1,hq2,hx,hy⟩:=hg;obtain ⟨is1,rv1,p1,hz1⟩:=I.list hq1;obtain ⟨is2,rv2,p2,hz2⟩:=I.list hq2;obtain ⟨u,hu,ru⟩:=rv1.get hx;obtain ⟨v,hv,rv⟩:=rv2.get hy;have ap:=st.apart d p1.isList p2.isList;obtain ⟨a,b,eto⟩:=st.to;refine wpAny_pyNext_zip_item ap st.zip st.ti eto st.it1 st.it2 p1.isList p2.isList (x:=u) (y:=v) (by simpa using hu) (by simpa using hv) fun h1 ho hto hi1 hi2 hT hsz hk=>?_
  refine ⟨_,rfl,wpAny_letOwnedTupleGo_zip (s:={s with heap:=h1}) ho fun h2 hz2' hs2=>?_⟩
  have nT:H s.heap.objs.size=none:=I.hok.fresh (D8 _);have lt:∀b∈ [z,TI,TO,i1,i2],b<s.heap.objs.size:=fun b hb=>by
   obtain ⟨o1,e1,_⟩:=st.it1;obtain ⟨o2,e2,_⟩:=st.it2;simp only[DM,Eh,or_false] at hb;rcases hb with q|q|q|q|q<;>subst q
   ·exact Heap.lt_size st.zip
   ·exact Heap.lt_size st.ti
   ·exact Heap.lt_size eto
   ·exact Heap.lt_size e1
   ·exact Heap.lt_size e2
  have zl:=lt z (by simp)
  have hT2:IsPair h2 s.heap.objs.size u v:=(hs2.2 _ (Ew zl)).trans hT;have kp:∀b o,b∉ [z,TI,TO,i1,i2]->s.heap.get? b=some o->h2.get? b=some o:=fun b o hb q=>by
   simp only[DM,Eh,or_false,not_or] at hb;exact (hs2.2 b hb.1).trans (hk b o hb.1 hb.2.2.1 hb.2.2.2.1 hb.2.2.2.2 q)
  have eti:h1.get? TI=some {cls:= .type "tuple",data:= .seq #[.ref i1,.ref i2]}:=hk TI _ ap.TIz ap.TITO ap.TIi1 ap.TIi2 st.ti;refine ⟨.ref s.heap.objs.size,av H s.heap.objs.size (.tup [x,y]),I.turnedNew (t':=s.toks) (ch:= [z,TI,TO,i1,i2]) hf kp (D8 _) ⟨by show 2<=sizeLine;decide,[u,v],.cons ru (.cons rv .nil),⟨_,hT2,rfl,0,rfl⟩⟩,rfl,
   ⟨_,x,y,rfl,nT,fun ys hy'=>by rw[I.list_inj hy' hq1];exact hx,fun ys hy'=>by rw[I.list_inj hy' hq2];exact hy,rfl⟩,⟨hz2',(hs2.2 _ ap.TIz).trans eti,⟨u,v,(hs2.2 _ ap.TOz).trans hto⟩,hi1.at fun o q=>(hs2.2 _ ap.i1z).trans q,hi2.at fun o q=>(hs2.2 _ ap.i2z).trans q⟩,fun b hb=>?_⟩
  rw[ar (DI (lt b hb))];exact (hf b hb).1
 done:=by
  intro X hP hw hK hc i pins s σ H E I hf st hg;subst hP hw hK;obtain ⟨xs,ys,hq1,hq2,hx⟩:=hg;obtain ⟨is1,rv1,p1,hz1⟩:=I.list hq1;obtain ⟨is2,rv2,p2,hz2⟩:=I.list hq2;have ap:=st.apart d p1.isList p2.isList;obtain ⟨a,b,eto⟩:=st.to;have e1:=rv1.length;have e2:=rv2.length;refine wpAny_pyNext_zip_end (I.ok.hd hc) ap st.zip st.ti eto st.it1 st.it2 p1.isList p2.isList (by rcases hx with q|q;exact .inl (by simp;lia);exact .inr (by simp;lia)) fun h' hk=>⟨rfl,I.turnedAll (t':=s.toks) (ch:= [z,TI,TO,i1,i2]) hf fun b o hb q=>?_⟩
  simp only[DM,Eh,or_false,not_or] at hb;exact hk b o hb.1 hb.2.2.1 hb.2.2.2.1 hb.2.2.2.2 q
 self:=fun _ _ _ _ _ st h=>wpAny_pyIter_zip st.zip h
theorem zW (n:Nat): [n+4,n+2,n+3,n,n+1].Nodup:=by
 simp
def CS (K:D5) (ta:TA):TI:=fun σ H R=>ta σ H fun vs H1=>∃l1 l2:Addr,vs= [.ref l1,.ref l2]/\(∃xs,aK K H1 l1 xs)/\(∃ys,aK K H1 l2 ys)/\R (By K l1 l2) H1
theorem boot_zip:bootBuiltins "zip" =some (.type "zip"):=by kernel_rfl
theorem wx {X:Cx} {a b:Expr} {ta:TA} {elts:List Expr} {k:Nat} {tp p pos:Pos} (hg:Gl X "zip") (hm:X.mg "zip" =none) (ha:PA X [a,b] ta) (hs:starEach [a,b] X.env= [(false,eval a X.env),(false,eval b X.env)]:=by rfl) (hs2:starEach [b] X.env= [(false,eval b X.env)]:=by rfl):
  PI X (.Tuple elts k tp) (.Call (.Name "zip" p) [a,b] [] pos) (CS X.K ta):=by
 intro pins s σ H R I h;refine Call_ (cW I hg hm boot_zip (EE (a9 (ha pos pins s σ H _ I h) fun us s1 ⟨vs,H1,I1,r1,q1⟩=>?_) (by rw[hs,hs2]) (by rw[hs2];rfl)))
 obtain ⟨l1,l2,e,⟨xs,hq1⟩,⟨ys,hq2⟩,q⟩:=q1;subst e;cases r1 with
 |cons r rr=>
  cases rr with
  |cons r' rr=>
   cases rr;cases r;cases r';obtain ⟨is1,rv1,p1,hz1⟩:=I1.list hq1;obtain ⟨is2,rv2,p2,hz2⟩:=I1.list hq2;refine call_zip_2 p1.isList p2.isList fun h' hz hti hto hi1 hi2 hsz hk=>?_
   refine wpAny_pyIter_zip (s:={s1 with heap:=h'}) hz ?_
   have I2:aE X pins σ H1 {s1 with heap:=h'}:=I1.kept (t':=s1.toks) hk
   refine ⟨s1.heap.objs.size+4,[s1.heap.objs.size+4,s1.heap.objs.size+2,s1.heap.objs.size+3,s1.heap.objs.size,s1.heap.objs.size+1],_,_,H1,rfl,I2,ww l1 l2 _ _ _ _ _ (zW _),⟨hz,hti,⟨_,_,hto⟩,hi1,hi2⟩,fun b hb=>?_,q⟩
   have bl:s1.heap.objs.size<=b:=by
    simp only[DM,Eh,or_false] at hb;rcases hb with q|q|q|q|q<;>rw[q]<;>first|exact D8 _|exact Nat.le_add_right _ _
   exact I1.fpOk bl (I1.hok.fresh bl)
theorem tm {K:D5} {l1 l2:Addr} {xs ys:List V} {g:TG} {tb:TS} {D:Ends} {σ:St} {H:Hp} (Pv:Nat->St->Hp->Prop) (h0:Pv 0 σ H) (hl:∀i σ H,i<=min xs.length ys.length->Pv i σ H->aK K H l1 xs/\aK K H l2 ys)
  (hs:∀i x y σ H (T:Addr),xs[i]?=some x->ys[i]?=some y->Pv i σ H->H T=none->g (.ref T) σ (av H T (.tup [x,y])) fun σ2 H2=>tb {D with nx:=Pv (i+1),ct:=Pv (i+1),bk:=D.nx} σ2 H2) (hd:∀σ H,Pv (min xs.length ys.length) σ H->D.nx σ H):
  ∃W:Nat->Nat->St->Hp->Prop,(∃m,W 0 m σ H)/\∀i m σ H,W i m σ H->
   ((By K l1 l2).stop i H/\D.nx σ H)∨((By K l1 l2).go i H/\∃N:St->Hp->Prop,(∀σ' H',N σ' H'->∃m',m'<m/\W (i+1) m' σ' H')/\∀x H',(By K l1 l2).yld i H x H'->g x σ H' fun σ2 H2=>tb {D with nx:=N,ct:=N,bk:=D.nx} σ2 H2):=by
 refine ⟨fun i m σ H=>m=min xs.length ys.length-i/\i<=min xs.length ys.length/\Pv i σ H,⟨min xs.length ys.length,by simp,EC _,h0⟩,?_⟩
 rintro i m σ H ⟨rfl,hi,p⟩;obtain ⟨q1,q2⟩:=hl i σ H hi p
 by_cases hlt:i<min xs.length ys.length
 ·refine .inr ⟨⟨xs,ys,xs[i]'(by lia),ys[i]'(by lia),q1,q2,D0 _,D0 _⟩,Pv (i+1),fun σ' H' p'=>⟨min xs.length ys.length-(i+1),by lia,rfl,by lia,p'⟩,fun x H' y=>?_⟩
  obtain ⟨T,a,b,rfl,nT,ha,hb,rfl⟩:=y;exact hs i a b σ H T (ha xs q1) (hb ys q2) p nT
 ·have e:i=min xs.length ys.length:=by lia
  subst e;exact .inl ⟨⟨xs,ys,q1,q2,by lia⟩,hd σ H p⟩
open XH
def Bz (x:Str):It:=⟨fun i _=>i<x.cps.size,fun i H v H'=>H'=H/\∃c,x.cps[i]?=some c/\v= .str ⟨#[c]⟩,fun i _=>i=x.cps.size⟩
theorem wA {P:Program} {w:World} {K:D5} {tg:Expr} {ty:String} (hty:ty= "str_ascii_iterator" ∨ty= "str_iterator") (it:Addr) (x:Str) (t:Tok):Turn P w K tg (Bz x) [it] it (fun i h=>h.IsStrIter it ty x t i) where
 mem:=by simp
 obj:=fun i h st b hb=>by
  have e:b=it:=by simpa using hb
  subst e;obtain ⟨o,e,c,d⟩:=st;exact ⟨o,e,fun v z=>by rw[d] at z;cases z⟩
 keep:=fun i h h' st k=>by
  obtain ⟨o,e,c,d⟩:=st;exact ⟨o,k it (by simp) o e,c,d⟩
 item:=by
  intro X hP hw hK hc i pins s σ H E I hf st hg;subst hP hw hK;obtain ⟨f0,f1,f2,f3,f4,f5⟩:=hf it (by simp)
  have W:Walks X.prog X.w X.A it [it] [it] x.cps.size (SignAt x) (fun i h=>h.IsStrIter it ty x t i):=by
   rcases hty with rfl|rfl
   ·exact Walks.strAscii (I.ok.hd hc) it x t
   ·exact Walks.strWide (I.ok.hd hc) it x t
  refine W.item i s _ _ hg st fun v h' tk hv st' kk=>?_
  obtain ⟨c,u,hc',rfl⟩:=hv;have I1:aE X pins σ H {s with heap:=h',toks:=tk}:=I.turned (fun b o hb e=>kk b o (by simpa using hb) e) f0 f1 f3 f4 f5
  obtain ⟨o,e,c1,d1⟩:=id st';refine ⟨_,rfl,lO (s:={s with heap:=h',toks:=tk}) (n:=ty) e c1 d1 (by rcases hty with rfl|rfl<;>decide) ⟨.str ⟨#[c]⟩,H,I1,⟨u,rfl⟩,⟨rfl,c,hc',rfl⟩,st',fun b hb=>(hf b hb).1⟩⟩
 done:=by
  intro X hP hw hK hc i pins s σ H E I hf st hg;subst hP hw hK;obtain ⟨f0,f1,f2,f3,f4,f5⟩:=hf it (by simp)
  have W:Walks X.prog X.w X.A it [it] [it] x.cps.size (SignAt x) (fun i h=>h.IsStrIter it ty x t i):=by
   rcases hty with rfl|rfl
   ·exact Walks.strAscii (I.ok.hd hc) it x t
   ·exact Walks.strWide (I.ok.hd hc) it x t
  have hg':i=x.cps.size:=hg;subst hg';exact W.done s _ _ st fun h' tk kk=>⟨rfl,I.turned (fun b o hb e=>kk b o (by simpa using hb) e) f0 f1 f3 f4 f5⟩
 self:=fun _ _ _ _ _ st h=>by
  rcases hty with rfl|rfl
  ·exact wpAny_pyIter_striter_ascii st h
  ·exact wpAny_pyIter_striter_wide st h
def CT (tl:TE):TI:=fun σ H R=>tl σ H fun x H1=>∃z,x= .str z/\R (Bz z) H1
variable {tg:Expr}
theorem zX {l:Expr} {tl:TE} (hl:PE X l tl):PI X tg l (CT tl):=by
 intro pins s σ H R I h;refine a9 (hl pins s σ H _ I h) fun v s1 ⟨x,H1,I1,r1,q1⟩=>?_
 obtain ⟨z,rfl,q⟩:=q1;obtain ⟨t,rfl⟩:=r1;have fin:∀{ty:String} {o:Obj},(ty= "str_ascii_iterator" ∨ty= "str_iterator")->(s1.heap.push o).IsStrIter s1.heap.objs.size ty z t 0->Cg X pins σ tg R (.ref s1.heap.objs.size) {s1 with heap:=s1.heap.push o}:=fun {ty o} hty st=>by
  refine ⟨s1.heap.objs.size,[s1.heap.objs.size],_,_,H1,rfl,I1.kept (t':=s1.toks) fun b o e=>Heap.get?_push_of_some _ e,wA hty _ z t,st,fun b hb=>?_,q⟩
  have e:b=s1.heap.objs.size:=by simpa using hb
  subst e;exact I1.fpOk (D8 _) (I1.hok.fresh (D8 _))
 cases ha:z.cps.all (· <128)
 ·exact wpAny_pyIter_wide ha (fin (.inr rfl) ⟨_,Heap.get?_push_size _ rfl,rfl,rfl⟩)
 ·exact wpAny_pyIter_ascii ha (fin (.inl rfl) ⟨_,Heap.get?_push_size _ rfl,rfl,rfl⟩)
theorem yq {z:Str} {g:TG} {tb:TS} {D:Ends} {σ:St} {H:Hp} (Pv:Nat->St->Hp->Prop) (h0:Pv 0 σ H)
  (hs:∀i c σ H,z.cps[i]?=some c->Pv i σ H->g (.str ⟨#[c]⟩) σ H fun σ2 H2=>tb {D with nx:=Pv (i+1),ct:=Pv (i+1),bk:=D.nx} σ2 H2) (hd:∀σ H,Pv z.cps.size σ H->D.nx σ H):
  ∃W:Nat->Nat->St->Hp->Prop,(∃m,W 0 m σ H)/\∀i m σ H,W i m σ H->
   ((Bz z).stop i H/\D.nx σ H)∨((Bz z).go i H/\∃N:St->Hp->Prop,(∀σ' H',N σ' H'->∃m',m'<m/\W (i+1) m' σ' H')/\∀x H',(Bz z).yld i H x H'->g x σ H' fun σ2 H2=>tb {D with nx:=N,ct:=N,bk:=D.nx} σ2 H2):=by
 refine ⟨fun i m σ H=>m=z.cps.size-i/\i<=z.cps.size/\Pv i σ H,⟨z.cps.size,by simp,EC _,h0⟩,?_⟩
 rintro i m σ H ⟨rfl,hi,p⟩
 by_cases hlt:i<z.cps.size
 ·refine .inr ⟨hlt,Pv (i+1),fun σ' H' p'=>⟨z.cps.size-(i+1),by lia,rfl,hlt,p'⟩,fun x H' y=>?_⟩
  obtain ⟨e,c,hc,rfl⟩:=y;subst e;exact hs i c σ _ hc p
 ·have e:i=z.cps.size:=by lia
  subst e;exact .inl ⟨rfl,hd σ H p⟩
def gX (x:Str) (lo hi:Option Int):Str:=⟨((x.cps.toList.drop (HT.eV x.length 0 lo)).take (HT.eV x.length x.length hi-HT.eV x.length 0 lo)).toArray⟩
theorem BA (lo hi:Option Int) (n:Nat):Builtin.Str.strSliceIndices lo hi 1 n=(DT (HT.eV n n hi-HT.eV n 0 lo)).map (HT.eV n 0 lo+ ·):=by
 have h1:(match lo with|none=>(0:Int)|some i=>max 0 (min (if i<0 then i+(n:Int) else i) n))=((HT.eV n 0 lo:Nat):Int):=by
  cases lo with
  |none=>simp[HT.eV]
  |some i=>
   simp only[HT.eV]
   by_cases h:i<0
   ·simp only[h,if_true]<;>lia
   ·simp only[h,if_false]<;>lia
 have h2:(match hi with|none=>(n:Int)|some i=>max 0 (min (if i<0 then i+(n:Int) else i) n))=((HT.eV n n hi:Nat):Int):=by
  cases hi with
  |none=>simp[HT.eV]
  |some i=>
   simp only[HT.eV]
   by_cases h:i<0
   ·simp only[h,if_true]<;>lia
   ·simp only[h,if_false]<;>lia
 rw[<-sliceRange_one,<-h1,<-h2];cases lo<;>cases hi<;>rfl
theorem oZ (x:Str) (l u:Option (Int×Tok)):(⟨((slicePicked x l u none).filterMap (x.cps[·]?)).toArray⟩:Str)=gX x (l.map (·.1)) (u.map (·.1)):=by
 show (⟨((Builtin.Str.strSliceIndices (l.map (·.1)) (u.map (·.1)) 1 x.length).filterMap (x.cps[·]?)).toArray⟩:Str)=_;rw[BA,pick_run]
 rfl
theorem pc (x:Str) (lo hi:Option Int):(gX x lo hi).length<=x.length:=by
 show ((x.cps.toList.drop _).take _).toArray.size<=x.cps.size;rw[DX,DK,Ec];simp only[DW]
 lia
theorem rC (x:Str) (l u:Option (Int×Tok)) (h:(slicePicked x l u none).length=x.length):gX x (l.map (·.1)) (u.map (·.1))=x:=by
 have h':(Builtin.Str.strSliceIndices (l.map (·.1)) (u.map (·.1)) 1 x.length).length=x.length:=h;rw[BA,D3,E1] at h';have hs:HT.eV x.length x.length (u.map (·.1))<=x.length∨x.length<HT.eV x.length x.length (u.map (·.1)):=by lia
 have hu:HT.eV x.length x.length (u.map (·.1))<=x.length:=by
  cases u with
  |none=>exact D8 _
  |some p=>
   show (if p.1<0 then (p.1+(x.length:Int)).toNat else min p.1.toNat x.length)<=x.length
   by_cases hp:p.1<0
   ·rw[if_pos hp];lia
   ·rw[if_neg hp];lia
 unfold gX
 by_cases hx:x.length=0
 ·have e:x.cps.toList= []:=by
   have:x.cps.toList.length=0:=by rw[DW];exact hx
   exact Eb this
  rw[e,List.drop_nil,List.take_nil];obtain ⟨c⟩:=x;have e':c= #[]:=FP.mp (by simpa using e)
  rw[e']
 ·have h0:HT.eV x.length 0 (l.map (·.1))=0:=by lia
  rw[h0,List.drop_zero,ET (by rw[DW];show x.length<=_;lia)]
theorem part_of {v:Value} {o:Option Int} (p:IsPart v o):∃l:Option (Int×Tok),partValue l=v/\l.map (·.1)=o:=by
 cases p with
 |none=>exact ⟨none,rfl,rfl⟩
 |int i t=>exact ⟨some (i,t),rfl,rfl⟩
theorem wB {X:Cx}:CD X (fun x lo hi H Q=>∃z,x= .str z/\z.length<=sizeLine/\Q (.str (gX z lo hi)) H):=by
 intro pins s σ H x v vl vu lo hi sl Q I rx hs pl pu h;obtain ⟨z,rfl,hz,q⟩:=h;obtain ⟨t,rfl⟩:=rx;obtain ⟨l,rfl,rfl⟩:=part_of pl;obtain ⟨u,rfl,rfl⟩:=part_of pu;refine ⟨"str",_,slot_str_getitem.lookup,typeIs_str s z t,?_⟩;refine wpAny_getItem_str_slice (l:=l) (u:=u) (st:=none) hs rfl ?_;unfold sliceMade
 by_cases hw:(slicePicked z l u none).length=z.length
 ·rw[if_pos (by simp[hw])]
  refine ⟨.str (gX z (l.map (·.1)) (u.map (·.1))),H,I,⟨t,by rw[rC z l u hw]⟩,q⟩
 ·rw[if_neg (by simp[hw])]
  rw[oZ];exact ⟨ED (pc _ _ _) hz,.str (gX z (l.map (·.1)) (u.map (·.1))),H,I.tok _,⟨_,rfl⟩,q⟩
end L2
namespace Sw
open PySem PySem.NumText
end Sw
namespace L2
open PySem PySem.Spec PyProof.Rows XH
section
variable {X:Cx} {a b e o:Expr} {es:List Expr} {t te to:TE} {ta:TA} {pos apos cpos:Pos} {x y:Str}
theorem wC {z:Str} {p:Pos} (hg:Gl X x) (h:∃t,X.mg x=some (.str z t)) (hd:(x==("__debug__" :Str))=false:=by decide):PE X (.Name x p) (tC (.str z)):=by
 obtain ⟨t,h⟩:=h;exact gz hg h ⟨t,rfl⟩ hd
theorem cI {i:Int} {p:Pos} (hg:Gl X x) (h:∃t,X.mg x=some (.int i t)) (hd:(x==("__debug__" :Str))=false:=by decide):PE X (.Name x p) (tC (.int i)):=by
 obtain ⟨t,h⟩:=h;exact gz hg h ⟨t,rfl⟩ hd
end
def BB (a:Addr) (o:Obj) (kvs:List (Key×V)):It:=
 ⟨fun i H=>H a=some (.frz o (.dK kvs))/\i<kvs.length,fun i H v H'=>H'=H/\∃k x,kvs[i]?=some (k,x)/\v=kV k,fun i H=>H a=some (.frz o (.dK kvs))/\i=kvs.length⟩
theorem pe {P:Program} {w:World} {k:Key} {u:Value} (h:(aF P w).is k u=true):RelV (kV k) u:=by
 rcases bP h with ⟨i,t,rfl,rfl⟩|⟨x,t,rfl,rfl⟩
 ·exact ⟨t,rfl⟩
 ·exact ⟨t,rfl⟩
theorem tq {κ:Type}:∀{kvs:List (κ×V)} {vs:List (κ×Value)} (r:KV kvs vs) (i:Nat) {k:κ} {x:V},kvs[i]?=some (k,x)->∃u,vs[i]?=some (k,u)/\RelV x u
 |_,_,.nil,i,k,x,h=>by simp at h
 |_,_,.cons (b:=q) r t,0,k,x,h=>by
  simp at h;subst h;obtain ⟨q1,q2⟩:=q;have e:k=q1:=r.1;subst e;exact ⟨q2,by simp,r.2⟩
 |_,_,.cons r t,i+1,k,x,h=>by
  obtain ⟨u,e,rx⟩:=tq t i (by simpa using h)
  exact ⟨u,by simpa using e,rx⟩
theorem iz {X:Cx} {pins:GT} {σ:St} {H:Hp} {s:Shared} {a:Addr} {o:Obj} {kvs:List (Key×V)} {es0:Array DictEntry} {ep:Nat} (I:aE X pins σ H s) (h:H a=some (.frz o (.dK kvs))) (hd:o.data= .dict es0 ep):
  ∃vs,KV kvs vs/\s.heap.DictAt (aF X.prog X.w) a vs ep:=by
 obtain ⟨ho,z,y,vs,rel,ob,es,ep',e,c,d,rest⟩:=(show bn X.prog X.w H s.heap a (.frz o (.dK kvs)) from I.hok a _ h)
 rw[ho] at e;cases e;have e2:ep'=ep:=by rw[hd] at d;cases d;rfl
 subst e2;exact ⟨vs,rel,o,es,ho,c,d,rest⟩
theorem uL {P:Program} {w:World} {K:D5} {tg:Expr} (it a:Addr) (o:Obj) (kvs:List (Key×V)) {es0:Array DictEntry} {ep:Nat} (hd:o.data= .dict es0 ep):Turn P w K tg (BB a o kvs) [it] it (fun i h=>h.IsKeyIter it a i kvs.length ep) where
 mem:=by simp
 obj:=fun i h st b hb=>by
  have e:b=it:=by simpa using hb
  subst e;obtain ⟨o,e,c,d⟩:=st;exact ⟨o,e,fun v z=>by rw[d] at z;cases z⟩
 keep:=fun i h h' st k=>by
  obtain ⟨o,e,c,d⟩:=st;exact ⟨o,k it (by simp) o e,c,d⟩
 item:=by
  intro X hP hw hK hc i pins s σ H E I hf st hg;subst hP hw hK;obtain ⟨f0,f1,f2,f3,f4,f5⟩:=hf it (by simp)
  obtain ⟨hz,hlt⟩:=hg;obtain ⟨vs,rel,D⟩:=iz I hz hd;obtain ⟨⟨k,x⟩,hx⟩:∃p,kvs[i]?=some p:=⟨kvs[i],D0 hlt⟩;obtain ⟨u,hu,_⟩:=tq rel i hx;have st':=st;rw[rel.length] at st';refine wpAny_pyNext_dict_item st' D hu fun key h' hkey hit' hs'=>?_
  rw[<-rel.length] at hit';have I1:aE X pins σ H {s with heap:=h',toks:=s.toks}:=I.turned (fun b ob hb e=>hs'.extBut b ob hb e) f0 f1 f3 f4 f5
  obtain ⟨oi,ei,ci,di⟩:=id hit';exact ⟨_,rfl,lO (s:={s with heap:=h'}) (n:= "dict_keyiterator") ei ci di (by decide) ⟨kV k,H,I1,pe hkey,⟨rfl,k,x,hx,rfl⟩,hit',fun b hb=>(hf b hb).1⟩⟩
 done:=by
  intro X hP hw hK hc i pins s σ H E I hf st hg;subst hP hw hK;obtain ⟨f0,f1,f2,f3,f4,f5⟩:=hf it (by simp)
  obtain ⟨hz,rfl⟩:=hg;obtain ⟨vs,rel,D⟩:=iz I hz hd;rw[rel.length] at st;refine wpAny_pyNext_dict_end (I.ok.hd hc) st D (by simp) fun h' he'=>⟨rfl,I.turned (t':=s.toks) (fun b ob hb e=>he' b ob hb e) f0 f1 f3 f4 f5⟩
 self:=fun _ _ _ _ _ st h=>wpAny_pyIter_keyiter st h
def NF (X:Cx) (a:Addr):Prop:=∀o u,X.H₀ a≠some (.frz o u)
theorem aE.nf {X:Cx} {pins:GT} {σ:St} {H:Hp} {s:Shared} {a:Addr} {kvs:List (Key×V)} (I:aE X pins σ H s) (h:H a=some (.dK kvs)):NF X a:=fun o u e=>by
 have:=I.base.frzs a o u e;rw[h] at this;cases this
theorem aE.freeze {X:Cx} {pins:GT} {σ:St} {H:Hp} {s:Shared} {a:Addr} {kvs:List (Key×V)} {o:Obj} (I:aE X pins σ H s) (h:H a=some (.dK kvs)) (ho:s.heap.get? a=some o):aE X pins σ (av H a (.frz o (.dK kvs))) s:=by
 refine I.un (H':=av H a (.frz o (.dK kvs))) (h':=s.heap) (t':=s.toks) ⟨fun b ob q n _ _=>q,fun b ob q n _ _=>⟨ob.slots,q⟩,fun b ob q n _=>?_,fun b ob q _=>⟨ob,q⟩,fun b xs q=>?_,fun b ob u q=>?_,fun b ps q=>⟨#[],?_⟩⟩ ?_
 ·rw[ar (fun z=>by subst z;rw[h] at n;cases n)];exact n
 ·rw[ar (fun z=>by subst z;rw[h] at q;cases q)];exact q
 ·rw[ar (fun z=>by subst z;rw[h] at q;cases q)];exact q
 ·rw[ar (fun z=>by subst z;rw[h] at q;cases q),q];simp
 ·intro b u q
  by_cases hb:b=a
  ·subst hb;rw[ag] at q;cases q;exact ⟨ho,(I.hok b _ h).stay (fun _ _ _ q=>q) (fun c q=>by rw[ar (fun z=>by subst z;rw[h] at q;cases q)];exact q) fun c xs q=>by rw[ar (fun z=>by subst z;rw[h] at q;cases q)];exact q⟩
  ·rw[ar hb] at q;exact (I.hok b _ q).stay (fun _ _ _ q=>q) (fun c q=>by rw[ar (fun z=>by subst z;rw[h] at q;cases q)];exact q) fun c xs q=>by rw[ar (fun z=>by subst z;rw[h] at q;cases q)];exact q
theorem aE.thaw {X:Cx} {pins:GT} {σ:St} {H:Hp} {s:Shared} {a:Addr} {kvs:List (Key×V)} {o:Obj} (I:aE X pins σ H s) (h:H a=some (.frz o (.dK kvs))) (nf:NF X a):aE X pins σ (av H a (.dK kvs)) s:=by
 have hn:∀{b:Addr} {u:HO},H b=some u->(∀o' v,u≠ .frz o' v)->av H a (.dK kvs) b=some u:=fun {b u} q n=>by
  rw[ar (fun z=>by subst z;rw[h] at q;cases q;exact n _ _ rfl)];exact q
 have hf:∀{b:Addr},H b=none->av H a (.dK kvs) b=none:=fun {b} n=>by
  rw[ar (fun z=>by subst z;rw[h] at n;cases n)];exact n
 refine ⟨I.ok,I.os,I.bare,⟨I.base.keep,I.base.slot,fun b ob q n hx=>hf (I.base.free b ob q n hx),I.base.there,fun b xs q=>hn (I.base.tups b xs q) (fun _ _ z=>nomatch z),fun b ob u q=>?_,fun b ps q=>?_⟩,I.loc,I.cell,hf I.free,fun y c e=>hf (I.freeC y c e),fun p hp=>?_,?_,I.len⟩
 ·have q':=I.base.frzs b ob u q;rw[ar (fun z=>by subst z;exact nf _ _ q)]
  exact q'
 ·obtain ⟨more,q'⟩:=I.base.tbls b ps q;exact ⟨more,hn q' (fun _ _ z=>nomatch z)⟩
 ·obtain ⟨p1,p2,p3⟩:=I.pin p hp;exact ⟨p1,hf p2,p3⟩
 ·intro b u q
  by_cases hb:b=a
  ·subst hb;rw[ag] at q;cases q;obtain ⟨_,q2⟩:=(show bn X.prog X.w H s.heap b (.frz o (.dK kvs)) from I.hok b _ h)
   exact bn.stay (o:= .dK kvs) q2 (fun _ _ _ q=>q) (fun c q=>hn q (fun _ _ z=>nomatch z)) fun c xs q=>hn q (fun _ _ z=>nomatch z)
  ·rw[ar hb] at q;exact (I.hok b _ q).stay (fun _ _ _ q=>q) (fun c q=>hn q (fun _ _ z=>nomatch z)) fun c xs q=>hn q (fun _ _ z=>nomatch z)
def BC (X:Cx) (tl:TE):TI:=fun σ H R=>tl σ H fun x H1=>∃a kvs,x= .ref a/\H1 a=some (.dK kvs)/\∀o,NF X a->R (BB a o kvs) (av H1 a (.frz o (.dK kvs)))
variable {X:Cx} {tg:Expr}
theorem iA {l:Expr} {tl:TE} (hl:PE X l tl):PI X tg l (BC X tl):=by
 intro pins s σ H R I h;refine a9 (hl pins s σ H _ I h) fun v s1 ⟨x,H1,I1,r1,q1⟩=>?_
 obtain ⟨a,kvs,rfl,hk,q⟩:=q1;cases r1;obtain ⟨z,y,vs,rel,ob,es,ep,e,c,d,rest⟩:=(show bn X.prog X.w H1 s1.heap a (.dK kvs) from I1.hok a _ hk)
 have D:s1.heap.DictAt (aF X.prog X.w) a vs ep:=⟨ob,es,e,c,d,rest⟩;have I2:=I1.freeze hk e;refine wpAny_pyIter_dict y D ?_;refine ⟨s1.heap.objs.size,[s1.heap.objs.size],_,_,_,rfl,I2.kept (t':=s1.toks) fun b o e=>Heap.get?_push_of_some _ e,uL _ a ob kvs d,⟨_,Heap.get?_push_size _ rfl,rfl,by rw[rel.length];rfl⟩,fun b hb=>?_,q ob (I1.nf hk)⟩
 have e:b=s1.heap.objs.size:=by simpa using hb
 subst e;exact I2.fpOk (D8 _) (I2.hok.fresh (D8 _))
def Ck (X:Cx) (P:Hp->Prop) (H:Hp):Prop:=∃a o kvs,H a=some (.frz o (.dK kvs))/\NF X a/\P (av H a (.dK kvs))
def CU (X:Cx) (D:Ends):Ends:={nx:=fun σ=>Ck X (D.nx σ),bk:=fun σ=>Ck X (D.bk σ),ct:=fun σ=>Ck X (D.ct σ),rt:=fun v=>Ck X (D.rt v)}
theorem iY {X:Cx} {st:Stmt} {t:TS} (h:PS X st t):PS X st (fun D σ H=>t (CU X D) σ H):=by
 intro pins s σ H D I q;refine a9 (h pins s σ H _ I q) fun f s1 q1=>?_
 cases f with
 |next=>
  obtain ⟨σ',H',I',a,o,kvs,e,nf,p⟩:=q1;exact ⟨σ',_,I'.thaw e nf,p⟩
 |brk=>
  obtain ⟨σ',H',I',a,o,kvs,e,nf,p⟩:=q1;exact ⟨σ',_,I'.thaw e nf,p⟩
 |cont=>
  obtain ⟨σ',H',I',a,o,kvs,e,nf,p⟩:=q1;exact ⟨σ',_,I'.thaw e nf,p⟩
 |ret u=>
  obtain ⟨v,σ',H',I',r,a,o,kvs,e,nf,p⟩:=q1;exact ⟨v,σ',_,I'.thaw e nf,r,p⟩
theorem gb {a:Addr} {o:Obj} {kvs:List (Key×V)} {g:TG} {tb:TS} {D:Ends} {σ:St} {H:Hp} (Pv:Nat->St->Hp->Prop) (h0:Pv 0 σ H) (hz:∀i σ H,i<=kvs.length->Pv i σ H->H a=some (.frz o (.dK kvs)))
  (hs:∀i k x σ H,kvs[i]?=some (k,x)->Pv i σ H->g (kV k) σ H fun σ2 H2=>tb {D with nx:=Pv (i+1),ct:=Pv (i+1),bk:=D.nx} σ2 H2) (hd:∀σ H,Pv kvs.length σ H->D.nx σ H):
  ∃W:Nat->Nat->St->Hp->Prop,(∃m,W 0 m σ H)/\∀i m σ H,W i m σ H->
   ((BB a o kvs).stop i H/\D.nx σ H)∨((BB a o kvs).go i H/\∃N:St->Hp->Prop,(∀σ' H',N σ' H'->∃m',m'<m/\W (i+1) m' σ' H')/\∀x H',(BB a o kvs).yld i H x H'->g x σ H' fun σ2 H2=>tb {D with nx:=N,ct:=N,bk:=D.nx} σ2 H2):=by
 refine ⟨fun i m σ H=>m=kvs.length-i/\i<=kvs.length/\Pv i σ H,⟨kvs.length,by simp,EC _,h0⟩,?_⟩
 rintro i m σ H ⟨rfl,hi,p⟩
 by_cases hlt:i<kvs.length
 ·refine .inr ⟨⟨hz i σ H hi p,hlt⟩,Pv (i+1),fun σ' H' p'=>⟨kvs.length-(i+1),by lia,rfl,hlt,p'⟩,fun x H' y=>?_⟩
  obtain ⟨e,k,v,hk,rfl⟩:=y;subst e;exact hs i k v σ _ hk p
 ·have e:i=kvs.length:=by lia
  subst e;exact .inl ⟨⟨hz _ σ H hi p,rfl⟩,hd σ H p⟩
section
variable {a b c d:Expr} {ta tb tc td:TE} {pos:Pos}
def yr (r r' r'':R2) (ta tb tc td:TE):TE:=fun σ H Q=>ta σ H fun x H1=>tb σ H1 fun y H2=>r x y H2 fun z H3=>∃k,z= .bl k/\
 (if k=true then tc σ H3 fun w H4=>r' y w H4 fun z' H5=>∃k',z'= .bl k'/\(if k'=true then td σ H5 fun v H6=>r'' w v H6 Q else Q (.bl false) H5) else Q (.bl false) H3)
theorem uM {o1 o2 o3:CmpOp} {r r' r'':R2} (h1:fY X (compareOp o1) r) (h2:fY X (compareOp o2) r') (h3:fY X (compareOp o3) r'') (ha:PE X a ta) (hb:PE X b tb) (hc:PE X c tc) (hd:PE X d td)
  (hm:lastMarks [o1,o2,o3] [b,c,d]=false:=by with_unfolding_all rfl):PT X (.Compare a [o1,o2,o3] [b,c,d] pos) (vY (yr r r' r'' ta tb tc td)):=by
 intro pins s σ H Q I h;refine isTrue_chain (a9 (ha pins s σ H _ I h) fun v s1 ⟨x,H1,I1,r1,q1⟩=>test_link (a9 (hb pins s1 σ H1 _ I1 q1) fun u s2 ⟨y,H2,I2,r2,q2⟩=>
  a9 (h1 pins s2 σ H2 x y v u _ I2 r1 r2 q2) fun e1 s3 ⟨z,H3,I3,r3,k,e,q3⟩=>?_)) hm
 subst e;cases r3;refine wpAny_truthy_bool ?_;cases k with
 |false=>
  obtain ⟨k',e',q'⟩:=q3;cases e';exact ite_ff ⟨H3,I3,q'⟩
 |true=>
  refine ite_tt (test_link (a9 (hc pins s3 σ H3 _ I3 q3) fun w' s4 ⟨z',H4,I4,r4,q4⟩=>a9 (h2 pins s4 σ H4 y z' u w' _ I4 r2 r4 q4) fun d' s5 ⟨z2,H5,I5,r5,k2,e2,q5⟩=>?_))
  subst e2;cases r5;refine wpAny_truthy_bool ?_;cases k2 with
  |false=>
   obtain ⟨k',e',q'⟩:=q5;cases e';exact ite_ff ⟨H5,I5,q'⟩
  |true=>
   refine ite_tt (test_last (a9 (hd pins s5 σ H5 _ I5 q5) fun w2 s6 ⟨z3,H6,I6,r6,q6⟩=>a9 (h3 pins s6 σ H6 z' z3 w' w2 _ I6 r4 r6 q6) fun d2 s7 ⟨z4,H7,I7,r7,k3,e3,q7⟩=>?_))
   subst e3;cases r7;exact wpAny_truthy_bool ⟨H7,I7,q7⟩
end
theorem rD {X:Cx}:c4 X (.type "dict") (fun xs H Q=>∃(d:Addr) (kvs:List (Key×V)),xs= [.ref d]/\H d=some (.dK kvs)/\∀p,H p=none->Q (.ref p) (av H p (.dK kvs))):=by
 intro pins s σ H xs us Q I r h;obtain ⟨d,kvs,rfl,hd,q⟩:=h;cases r with
 |cons r rr=>
  cases rr;cases r;obtain ⟨z,y,vs,rel,D⟩:=j6 I.hok hd;refine kt_call_dict y D (by rw[<-rel.length];exact z) fun h' hm hs=>?_
  have kp:∀b o,s.heap.get? b=some o->h'.get? b=some o:=fun b o e=>(hs.2 b (DI (Heap.lt_size e))).trans (Heap.get?_push_of_some _ e)
  have big:(s.heap.objs.size==sysModules)=false:=by
   have:=I.big;exact beq_eq_false_iff_ne.mpr (Ew this)
  exact ⟨.ref s.heap.objs.size,_,I.laid (o:= .dK kvs) (t':=s.toks) kp (D8 _) ⟨z,big,vs,rel,hm⟩,rfl,q _ I.fresh⟩
def zY:V->List V->Hp->VK->Prop:=fun x vs H Q=>∃(d:Addr) (kvs:List (Key×V)),x= .ref d/\vs= []/\H d=some (.dK kvs)/\∀v,H v=none->Q (.ref v) (av H v (.ext fun h=>h.IsItemsView v d))
theorem wD {X:Cx}:CJ X "dict.items" zY:=by
 intro pins s σ H x vs v us Q I rx rv h;obtain ⟨d,kvs,rfl,rfl,hd,q⟩:=h;cases rx;have hus:=rv.zero;subst hus;obtain ⟨z,y,ws,rel,D⟩:=j6 I.hok hd;refine call_meetsIn PySem.F.slot_dict_items D.typeIs PySem.F.entry_dict_items (PySem.F.args_dict_items_1 _) (meets_dict_items (aF X.prog X.w) d y) ⟨⟨ws,D⟩,?_⟩;refine ⟨.ref s.heap.objs.size,_,I.laid (o:= .ext fun h=>h.IsItemsView s.heap.objs.size d) (t':=s.toks) (fun b o e=>Heap.get?_push_of_some _ e) (D8 _) ⟨⟨_,Heap.get?_push_size _ rfl,rfl,rfl⟩,⟨_,Heap.get?_push_size _ rfl⟩,fun h1 h2 ⟨o,e,c,f⟩ k=>⟨o,k o e,c,f⟩⟩,rfl,q _ I.fresh⟩
def Itm (a:Addr) (o:Obj) (kvs:List (Key×V)):It:=
 ⟨fun i H=>H a=some (.frz o (.dK kvs))/\i<kvs.length,fun i H v H'=>∃(T:Addr) (k:Key) (x:V),v= .ref T/\H T=none/\kvs[i]?=some (k,x)/\H'=av H T (.tup [kV k,x]),fun i H=>H a=some (.frz o (.dK kvs))/\i=kvs.length⟩
theorem j8:entryFor table "dict_itemiterator.__iter__" =some Builtin.«dict_keyiterator.__iter__» :=
 entryFor_alias (id':= "dict_keyiterator.__iter__") (by kernel_rfl) rfl (by decide+kernel) (by kernel_rfl)
theorem ly {prog:Program} {w:World} {A:Around} {E:GR} {s:Shared} {it d:Addr} {i n ep:Nat} {ok ov:Value} {Q:GR} (e:IsItemIter s.heap it d i n ep ok ov) (h:Q (.ref it) s):wpAny (model prog w) A (pyIter (.ref it)) Q E s:=by
 have T:s.TypeIs (.ref it) "dict_itemiterator" :=⟨_,e,rfl⟩;refine wpAny_pyIter_slot T PySem.F.slot_dict_itemiterator_iter (wpAny_call_entry PySem.F.slot_dict_itemiterator_iter T j8 ?_ (PySem.F.args_dict_itemiterator_iter_1 _));exact (show wpAny _ _ (ret (.ref it)) _ _ s from wpAny_pure ⟨_,rfl,"dict_itemiterator",_,T,PySem.F.slot_dict_itemiterator_next.lookup,h⟩)
theorem rE {P:Program} {w:World} {K:D5} {elts:List Expr} {kk:Nat} {pos:Pos} (it a:Addr) (o:Obj) (kvs:List (Key×V)) {es0:Array DictEntry} {ep:Nat} (hd:o.data= .dict es0 ep):Turn P w K (.Tuple elts kk pos) (Itm a o kvs) [it] it (fun i h=>∃ok ov,IsItemIter h it a i kvs.length ep ok ov) where
 mem:=by simp
 obj:=fun i h st b hb=>by
  have e:b=it:=by simpa using hb
  subst e;obtain ⟨ok,ov,e⟩:=st;exact ⟨_,e,fun v z=>by cases z⟩
 keep:=fun i h h' st k=>by
  obtain ⟨ok,ov,e⟩:=st;exact ⟨ok,ov,k it (by simp) _ e⟩
 item:=by
  intro X hP hw hK hc i pins s σ H E I hf st hg;subst hP hw hK;obtain ⟨hz,hlt⟩:=hg;obtain ⟨vs,rel,D⟩:=iz I hz hd;obtain ⟨⟨k,x⟩,hx⟩:∃p,kvs[i]?=some p:=⟨kvs[i],D0 hlt⟩;obtain ⟨u,hu,ru⟩:=tq rel i hx;obtain ⟨ok,ov,st'⟩:=st;rw[rel.length] at st';refine wpAny_pyNext_items_item st' D hu fun key h1 hkey ho hT hsz hk=>?_
  refine ⟨_,rfl,wpAny_letOwnedTupleGo_items (s:={s with heap:=h1}) ho fun h2 he2 hs2=>?_⟩
  have nT:H s.heap.objs.size=none:=I.hok.fresh (D8 _);have il:it<s.heap.objs.size:=Heap.lt_size st';have hT2:h2.get? s.heap.objs.size=some {cls:= .type "tuple",data:= .seq #[key,u]}:=(hs2.2 _ (Ew il)).trans hT;have kp:∀b o,b∉ [it]->s.heap.get? b=some o->h2.get? b=some o:=fun b o hb q=>by
   simp at hb;exact (hs2.2 b hb).trans (hk b o hb q)
  rw[<-rel.length] at he2;refine ⟨.ref s.heap.objs.size,av H s.heap.objs.size (.tup [kV k,x]),I.turnedNew (t':=s.toks) (ch:= [it]) hf kp (D8 _) ⟨by show 2<=sizeLine;decide,[key,u],.cons (pe hkey) (.cons ru .nil),⟨_,hT2,rfl,0,rfl⟩⟩,rfl,
   ⟨_,k,x,rfl,nT,hx,rfl⟩,⟨_,_,he2⟩,fun b hb=>?_⟩
  have bl:b≠s.heap.objs.size:=by
   rw[DR.mp hb];exact DI il
  rw[ar bl];exact (hf b hb).1
 done:=by
  intro X hP hw hK hc i pins s σ H E I hf st hg;subst hP hw hK;obtain ⟨hz,rfl⟩:=hg;obtain ⟨vs,rel,D⟩:=iz I hz hd;obtain ⟨ok,ov,st'⟩:=st;rw[rel.length] at st';refine wpAny_pyNext_items_end (I.ok.hd hc) st' D (by simp) fun h' he'=>⟨rfl,I.turnedAll (t':=s.toks) (ch:= [it]) hf fun b o hb q=>he' b o (fun z=>hb (by simp[z])) q⟩
 self:=fun A i s Q E st h=>by
  obtain ⟨ok,ov,e⟩:=st;exact ly e h
def zZ (X:Cx) (tl:TE):TI:=fun σ H R=>tl σ H fun x H1=>∃(v d:Addr) (kvs:List (Key×V)),x= .ref v/\H1 v=some (.ext fun h=>h.IsItemsView v d)/\H1 d=some (.dK kvs)/\∀o,NF X d->R (Itm d o kvs) (av H1 d (.frz o (.dK kvs)))
theorem wE {X:Cx} {l:Expr} {tl:TE} {elts:List Expr} {kk:Nat} {tp:Pos} (hl:PE X l tl):PI X (.Tuple elts kk tp) l (zZ X tl):=by
 intro pins s σ H R I h;refine a9 (hl pins s σ H _ I h) fun u s1 ⟨x,H1,I1,r1,q1⟩=>?_
 obtain ⟨v,a,kvs,rfl,hv,hk,q⟩:=q1;cases r1;obtain ⟨z,y,vs,rel,ob,es,ep,e,c,d,rest⟩:=(show bn X.prog X.w H1 s1.heap a (.dK kvs) from I1.hok a _ hk)
 have D:s1.heap.DictAt (aF X.prog X.w) a vs ep:=⟨ob,es,e,c,d,rest⟩;have I2:=I1.freeze hk e;obtain ⟨view,_⟩:=(show bn X.prog X.w H1 s1.heap v (.ext fun h=>h.IsItemsView v a) from I1.hok v _ hv)
 refine wpAny_pyIter_items view D ?_;refine ⟨s1.heap.objs.size,[s1.heap.objs.size],_,_,_,rfl,I2.kept (t':=s1.toks) fun b o e=>Heap.get?_push_of_some _ e,rE _ a ob kvs d,⟨_,_,by rw[rel.length];exact Heap.get?_push_size _ rfl⟩,fun b hb=>?_,q ob (I1.nf hk)⟩
 have e:b=s1.heap.objs.size:=by simpa using hb
 subst e;exact I2.fpOk (D8 _) (I2.hok.fresh (D8 _))
end L2
namespace So
open PySem PyProof.Rows
def iB:Bool->Keyed->Array Keyed->Nat->Nat->Nat->StateT SortSt Sem (Option Nat):=sortPriv% PySem.Builtin.gallop
def pf:Array Keyed->Array Keyed->StateT SortSt Sem (Array Keyed):=sortPriv% PySem.Builtin.mergeLo
def ph:Array Keyed->Array Keyed->StateT SortSt Sem (Array Keyed):=sortPriv% PySem.Builtin.mergeHi
def kk (κ:KeyKind) (p:Keyed):κ.α:=(κ.keyOf p.1).getD κ.dflt
def Kd (κ:KeyKind) (p:Keyed):Prop:=∃a,κ.keyOf p.1=some a
def nM (prog:Program) (w:World) (A:Around) (E:GR) (s:Shared) (κ:KeyKind) (kd:SortKind):Prop:=∀(st:SortSt) (x y:Keyed) (Q:Option Bool->SortSt->Prop),kindOf st=kd->Kd κ x->Kd κ y->Q (some (κ.blt (kk κ x) (kk κ y))) st->wpS (model prog w) A E s (lt' x y) Q st
section
variable {prog:Program} {w:World} {A:Around} {E:GR} {s:Shared} {κ:KeyKind} {kd:SortKind}
theorem eN {α β:Type} {st:SortSt} {x:StateT SortSt Sem α} {f:α->StateT SortSt Sem β} {Q:β->SortSt->Prop} (h:wpS (model prog w) A E s (x>>=f) Q st):wpS (model prog w) A E s (x>>=f) Q st:=h
theorem iZ (hO:nM prog w A E s κ kd) {st:SortSt} {x y:Keyed} {Q:Option Bool->SortSt->Prop} (hk:kindOf st=kd) (hx:Kd κ x) (hy:Kd κ y) (h:Q (some (κ.blt (kk κ x) (kk κ y))) st):wpS (model prog w) A E s (lt' x y) Q st:=hO st x y Q hk hx hy h
theorem aL {st:SortSt} {arr:Array Keyed} {i:Nat} {p:Keyed} {Q:Keyed->SortSt->Prop} (e:arr[i]?=some p) (h:Q p st):wpS (model prog w) A E s (elem' arr i) Q st:=by
 rw[elem'_eq,e];exact wpS_pure h
def bq (κ:KeyKind) (left:Bool) (key x:Keyed):Bool:=if left=true then κ.blt (kk κ x) (kk κ key) else !κ.blt (kk κ key) (kk κ x)
theorem rF (hO:nM prog w A E s κ kd) {st:SortSt} {arr:Array Keyed} {i:Nat} {left:Bool} {key x:Keyed} {Q:Option Bool->SortSt->Prop} (hk:kindOf st=kd) (e:arr[i]?=some x) (hx:Kd κ x) (hy:Kd κ key) (h:Q (some (bq κ left key x)) st):
  wpS (model prog w) A E s (elem' arr i>>=fun x=>if left=true then lt' x key else lt' key x>>=fun r=>pure (Option.map (fun x=> !x) r)) Q st:=by
 refine wpS_bind (aL e ?_);cases left with
 |true=>
  rw[if_pos rfl];exact iZ hO hk hx hy h
 |false=>
  rw[if_neg (by decide)]
  exact wpS_bind (iZ hO hk hy hx (wpS_pure h))
theorem gY (hO:nM prog w A E s κ kd) {st:SortSt} {left:Bool} {key:Keyed} {arr:Array Keyed} {base n hint:Nat} {Q:Option Nat->SortSt->Prop} (hk:kindOf st=kd) (hy:Kd κ key) (f:Nat->Bool)
  (seg:∀i,i<n->∃x,arr[base+i]?=some x/\Kd κ x/\bq κ left key x=f i) (anti:∀i j,i<=j->j<n->f j=true->f i=true) (hh:hint<n)
  (h:∀k,k<=n->(∀i,i<k->f i=true)->(∀i,k<=i->i<n->f i=false)->Q (some k) st):wpS (model prog w) A E s (iB left key arr base n hint) Q st:=by
 have bey:∀{i:Nat} {Q:Option Bool->SortSt->Prop},i<n->Q (some (f i)) st->wpS (model prog w) A E s (elem' arr (base+i)>>=fun x=>if left=true then lt' x key else lt' key x>>=fun r=>pure (Option.map (fun x=> !x) r)) Q st:=fun {i Q} hi hq=>by
  obtain ⟨x,e,hx,hf⟩:=seg i hi;exact rF hO hk e hx hy (by rw[hf];exact hq)
 have anti':∀i j,i<=j->j<n->f i=false->f j=false:=fun i j hij hj hf=>by
  cases hc:f j with
  |false=>rfl
  |true=>rw[anti i j hij hj hc] at hf;cases hf
 unfold iB;refine eN ?_;dsimp only;refine wpS_bind (bey hh ?_);dsimp only;cases hf:f hint with
 |true=>
  rw[if_pos rfl];refine wpS_bind (wpS_mono (wpS_forRange (I:=fun x c st'=>st'=st/\∃l o,c=(none,l,o)/\hint+l<n/\f (hint+l)=true/\l<o/\x+1<=o)
   (Q:=fun c st'=>st'=st/\∃l o,c=(none,l,o)/\hint+l<n/\f (hint+l)=true/\l<o/\(n-hint<=o∨f (hint+o)=false)) ?s1 ?e1 ⟨rfl,0,1,rfl,hh,hf,by lia,by lia⟩) ?p1)
  case e1=>
   rintro c st' ⟨rfl,l,o,rfl,h1,h2,h3,h4⟩;exact ⟨rfl,l,o,rfl,h1,h2,h3,.inl (by lia)⟩
  case s1=>
   rintro x c st' _ hx ⟨rfl,l,o,rfl,h1,h2,h3,h4⟩;dsimp only
   by_cases c:o≥n-hint
   ·rw[if_pos c];exact wpS_pure ⟨rfl,l,o,rfl,h1,h2,h3,.inl c⟩
   ·rw[if_neg c];refine wpS_bind (bey (by lia) ?_)
    dsimp only;cases hg:f (hint+o) with
    |true=>exact wpS_pure ⟨rfl,o,2*o+1,rfl,by lia,hg,by lia,by lia⟩
    |false=>exact wpS_pure ⟨rfl,l,o,rfl,h1,h2,h3,.inr hg⟩
  case p1=>
   rintro c st' ⟨rfl,l,o,rfl,h1,h2,h3,h4⟩;dsimp only;refine wpS_bind (wpS_mono (wpS_forRange (I:=fun x c st''=>st''=st'/\∃l o,c=(none,l,o)/\l<=o/\o<=n/\(∀i,i<l->f i=true)/\(∀i,o<=i->i<n->f i=false)/\o-l+x<=n)
    (Q:=fun c st''=>st''=st'/\∃k,c=(none,k,k)/\k<=n/\(∀i,i<k->f i=true)/\(∀i,k<=i->i<n->f i=false)) ?s2 ?e2 ⟨rfl,_,_,rfl,by lia,by lia,fun i hi=>anti i (hint+l) (by lia) h1 h2,fun i hi hn=>?q2,by lia⟩) ?p2)
   case q2=>
    rcases h4 with h4|h4
    ·lia
    ·exact anti' (hint+o) i (by lia) hn h4
   case e2=>
    rintro c st'' ⟨rfl,l,o,rfl,g1,g2,g3,g4,g5⟩;have:l=o:=by lia
    subst this;exact ⟨rfl,l,rfl,g2,g3,g4⟩
   case s2=>
    rintro x c st'' _ hx ⟨rfl,l,o,rfl,g1,g2,g3,g4,g5⟩;dsimp only
    by_cases c:l≥o
    ·rw[if_pos c];have:l=o:=by lia
     subst this;exact wpS_pure ⟨rfl,l,rfl,g2,g3,g4⟩
    ·rw[if_neg c];refine wpS_bind (bey (by lia) ?_)
     dsimp only;cases hg:f (l+(o-l)/2) with
     |true=>exact wpS_pure ⟨rfl,_,_,rfl,by lia,g2,fun i hi=>anti i _ (by lia) (by lia) hg,g4,by lia⟩
     |false=>exact wpS_pure ⟨rfl,_,_,rfl,by lia,by lia,g3,fun i hi hn=>anti' _ i (by lia) hn hg,by lia⟩
   case p2=>
    rintro c st'' ⟨rfl,k,rfl,g1,g2,g3⟩;exact wpS_pure (h k g1 g2 g3)
 |false=>
  rw[if_neg (by decide)]
  refine wpS_bind (wpS_mono (wpS_forRange (I:=fun x c st'=>st'=st/\∃l o,c=(none,l,o)/\l<=hint/\f (hint-l)=false/\l<o/\x+1<=o)
   (Q:=fun c st'=>st'=st/\∃l o,c=(none,l,o)/\l<=hint/\f (hint-l)=false/\l<o/\(hint+1<=o∨f (hint-o)=true)) ?us1 ?ue1 ⟨rfl,0,1,rfl,by lia,hf,by lia,by lia⟩) ?up1)
  case ue1=>
   rintro c st' ⟨rfl,l,o,rfl,h1,h2,h3,h4⟩;exact ⟨rfl,l,o,rfl,h1,h2,h3,.inl (by lia)⟩
  case us1=>
   rintro x c st' _ hx ⟨rfl,l,o,rfl,h1,h2,h3,h4⟩;dsimp only
   by_cases c:o≥hint+1
   ·rw[if_pos c];exact wpS_pure ⟨rfl,l,o,rfl,h1,h2,h3,.inl c⟩
   ·rw[if_neg c];refine wpS_bind (bey (by lia) ?_)
    dsimp only;cases hg:f (hint-o) with
    |false=>exact wpS_pure ⟨rfl,o,2*o+1,rfl,by lia,hg,by lia,by lia⟩
    |true=>exact wpS_pure ⟨rfl,l,o,rfl,h1,h2,h3,.inr hg⟩
  case up1=>
   rintro c st' ⟨rfl,l,o,rfl,h1,h2,h3,h4⟩;dsimp only;refine wpS_bind (wpS_mono (wpS_forRange (I:=fun x c st''=>st''=st'/\∃l o,c=(none,l,o)/\l<=o/\o<=n/\(∀i,i<l->f i=true)/\(∀i,o<=i->i<n->f i=false)/\o-l+x<=n)
    (Q:=fun c st''=>st''=st'/\∃k,c=(none,k,k)/\k<=n/\(∀i,i<k->f i=true)/\(∀i,k<=i->i<n->f i=false)) ?us2 ?ue2 ⟨rfl,_,_,rfl,by lia,by lia,fun i hi=>?uq2,fun i hi hn=>anti' _ i hi hn h2,by lia⟩) ?up2)
   case uq2=>
    rcases h4 with h4|h4
    ·lia
    ·exact anti i (hint-o) (by lia) (by lia) h4
   case ue2=>
    rintro c st'' ⟨rfl,l,o,rfl,g1,g2,g3,g4,g5⟩;have:l=o:=by lia
    subst this;exact ⟨rfl,l,rfl,g2,g3,g4⟩
   case us2=>
    rintro x c st'' _ hx ⟨rfl,l,o,rfl,g1,g2,g3,g4,g5⟩;dsimp only
    by_cases c:l≥o
    ·rw[if_pos c];have:l=o:=by lia
     subst this;exact wpS_pure ⟨rfl,l,rfl,g2,g3,g4⟩
    ·rw[if_neg c];refine wpS_bind (bey (by lia) ?_)
     dsimp only;cases hg:f (l+(o-l)/2) with
     |true=>exact wpS_pure ⟨rfl,_,_,rfl,by lia,g2,fun i hi=>anti i _ (by lia) (by lia) hg,g4,by lia⟩
     |false=>exact wpS_pure ⟨rfl,_,_,rfl,by lia,by lia,g3,fun i hi hn=>anti' _ i (by lia) hn hg,by lia⟩
   case up2=>
    rintro c st'' ⟨rfl,k,rfl,g1,g2,g3⟩;exact wpS_pure (h k g1 g2 g3)
end
def setG (st:SortSt) (g:Nat):SortSt:=SortSt.mk' (kindOf st) (arrOf st) (pendingOf st) g (failedOf st)
def lA:Nat->StateT SortSt Sem Unit:=sortPriv% PySem.Builtin.setMinGallop
def rG (st st':SortSt):Prop:=kindOf st'=kindOf st/\arrOf st'=arrOf st/\pendingOf st'=pendingOf st/\failedOf st'=failedOf st
theorem rG.refl (st:SortSt):rG st st:=⟨rfl,rfl,rfl,rfl⟩
theorem rG.set {st st':SortSt} (h:rG st st') (g:Nat):rG st (setG st' g):=⟨h.1,h.2.1,h.2.2.1,h.2.2.2⟩
def Lq (κ:KeyKind) (p q:Keyed):Prop:=κ.kle (kk κ p) (kk κ q)
section
variable {κ:KeyKind} {kd:SortKind} {a b out:Array Keyed} {ia ib:Nat}
structure Mg (κ:KeyKind) (a b out:Array Keyed) (ia ib:Nat):Prop where
 perm:(out.toList++(a.toList.drop ia++b.toList.drop ib)).Perm (a.toList++b.toList)
 srt:out.toList.Pairwise (Lq κ)
 lea:∀x∈out.toList,∀y∈a.toList.drop ia,Lq κ x y
 leb:∀x∈out.toList,∀y∈b.toList.drop ib,Lq κ x y
def i5 (κ:KeyKind) (a b r:Array Keyed):Prop:=r.toList.Perm (a.toList++b.toList)/\r.toList.Pairwise (Lq κ)
theorem Mg.pushB (h:Mg κ a b out ia ib) (sb:b.toList.Pairwise (Lq κ)) {y:Keyed} (e:b[ib]?=some y) (hy:∀z∈a.toList.drop ia,Lq κ y z):Mg κ a b (out.push y) ia (ib+1):=by
 have e':b.toList[ib]?=some y:=by simpa using e
 have dr:b.toList.drop ib=y::b.toList.drop (ib+1):=by
  obtain ⟨l,g⟩:=D4.mp e';rw[Ei l,g]
 have sb':(y::b.toList.drop (ib+1)).Pairwise (Lq κ):=by rw[<-dr];exact sb.drop
 have sb2:=EF.mp sb';have lb:=h.leb;have pm:=h.perm;rw[dr] at lb pm;refine ⟨?_,?_,?_,?_⟩
 ·rw[F9,DU];refine Ff.trans (EZ _ ?_) pm;show (y::(List.drop ia a.toList++List.drop (ib+1) b.toList)).Perm _;exact (List.perm_middle).symm
 ·rw[F9,DL];refine ⟨h.srt,by simp,fun x hx z hz=>?_⟩
  simp at hz;rw[hz];exact lb x hx y (by simp)
 ·intro x hx z hz;rw[F9] at hx;rcases DO.mp hx with k|k
  ·exact h.lea x k z hz
  ·simp at k;rw[k];exact hy z hz
 ·intro x hx z hz;rw[F9] at hx;rcases DO.mp hx with k|k
  ·exact lb x k z (by simp[hz])
  ·simp at k;rw[k];exact sb2.1 z hz
theorem Mg.runA (h:Mg κ a b out ia ib) (sa:a.toList.Pairwise (Lq κ)) {k:Nat} (hy:∀x∈(a.toList.drop ia).take k,∀z∈b.toList.drop ib,Lq κ x z):Mg κ a b (out++a.extract ia (ia+k)) (ia+k) ib:=by
 have ex:(a.extract ia (ia+k)).toList=(a.toList.drop ia).take k:=by
  rw[EU,EG,FB]
 have dr:a.toList.drop ia=(a.toList.drop ia).take k++a.toList.drop (ia+k):=by
  rw[<-List.drop_drop,E6]
 have sa':((a.toList.drop ia).take k++a.toList.drop (ia+k)).Pairwise (Lq κ):=by rw[<-dr];exact sa.drop
 have sa2:=DL.mp sa';have la:=h.lea;have pm:=h.perm;rw[dr] at la pm;refine ⟨?_,?_,?_,?_⟩
 ·rw[DS,ex]
  simpa [DU] using pm
 ·rw[DS,ex,DL];exact ⟨h.srt,sa2.1,fun x hx z hz=>la x hx z (by simp[hz])⟩
 ·intro x hx z hz;rw[DS,ex] at hx;rcases DO.mp hx with k|k
  ·exact la x k z (by simp[hz])
  ·exact sa2.2.2 x k z hz
 ·intro x hx z hz;rw[DS,ex] at hx;rcases DO.mp hx with k|k
  ·exact h.leb x k z hz
  ·exact hy x k z hz
theorem Mg.pushA (h:Mg κ a b out ia ib) (sa:a.toList.Pairwise (Lq κ)) {x:Keyed} (e:a[ia]?=some x) (hy:∀z∈b.toList.drop ib,Lq κ x z):Mg κ a b (out.push x) (ia+1) ib:=by
 have e':a.toList[ia]?=some x:=by simpa using e
 have dr:a.toList.drop ia=x::a.toList.drop (ia+1):=by
  obtain ⟨l,g⟩:=D4.mp e';rw[Ei l,g]
 have q:=h.runA sa (k:=1) (by
  rw[dr];intro u hu;simp at hu;rw[hu];exact hy)
 have ex:out++a.extract ia (ia+1)=out.push x:=by
  apply FP.mp;rw[DS,F9,EU,EG,FB,dr]
  rfl
 rw[ex] at q;exact q
theorem Mg.runB (h:Mg κ a b out ia ib) (sb:b.toList.Pairwise (Lq κ)) {k:Nat} (hy:∀x∈(b.toList.drop ib).take k,∀z∈a.toList.drop ia,Lq κ x z):Mg κ a b (out++b.extract ib (ib+k)) ia (ib+k):=by
 have ex:(b.extract ib (ib+k)).toList=(b.toList.drop ib).take k:=by
  rw[EU,EG,FB]
 have dr:b.toList.drop ib=(b.toList.drop ib).take k++b.toList.drop (ib+k):=by
  rw[<-List.drop_drop,E6]
 have sb':((b.toList.drop ib).take k++b.toList.drop (ib+k)).Pairwise (Lq κ):=by rw[<-dr];exact sb.drop
 have sb2:=DL.mp sb';have lb:=h.leb;have pm:=h.perm;rw[dr] at lb pm;refine ⟨?_,?_,?_,?_⟩
 ·rw[DS,ex];refine Ff.trans ?_ pm;rw[DU];refine EZ _ ?_;rw[<-DU,<-DU];exact Eo _ List.perm_append_comm
 ·rw[DS,ex,DL];exact ⟨h.srt,sb2.1,fun x hx z hz=>lb x hx z (by simp[hz])⟩
 ·intro x hx z hz;rw[DS,ex] at hx;rcases DO.mp hx with k|k
  ·exact h.lea x k z hz
  ·exact hy x k z hz
 ·intro x hx z hz;rw[DS,ex] at hx;rcases DO.mp hx with k|k
  ·exact lb x k z (by simp[hz])
  ·exact sb2.2.2 x k z hz
theorem Mg.done (h:Mg κ a b out ia ib) (sa:a.toList.Pairwise (Lq κ)) (sb:b.toList.Pairwise (Lq κ)) (c:a.size<=ia∨b.size<=ib):i5 κ a b (out++a.extract ia++b.extract ib):=by
 have xa:(a.extract ia).toList=a.toList.drop ia:=by
  rw[EU,EG,ET (by simp)]
 have xb:(b.extract ib).toList=b.toList.drop ib:=by
  rw[EU,EG,ET (by simp)]
 refine ⟨?_,?_⟩
 ·rw[DS,DS,xa,xb,DU];exact h.perm
 ·rw[DS,DS,xa,xb,DU,DL,DL];refine ⟨h.srt,⟨sa.drop,sb.drop,fun x hx z hz=>?_⟩,fun x hx z hz=>?_⟩
  ·rcases c with c|c
   ·rw[List.drop_of_length_le (by simpa using c)] at hx
    simp at hx
   ·rw[List.drop_of_length_le (by simpa using c)] at hz
    simp at hz
  ·rcases DO.mp hz with k|k
   ·exact h.lea x hx z k
   ·exact h.leb x hx z k
theorem Mg.lastA (h:Mg κ a b out ia ib) (sa:a.toList.Pairwise (Lq κ)) (sb:b.toList.Pairwise (Lq κ)) (hl:∀y∈b.toList,∀x∈a.toList.drop (a.size-1),Lq κ y x) (c:ia+1=a.size):i5 κ a b (out++b.extract ib++a.extract ia):=by
 have xa:(a.extract ia).toList=a.toList.drop ia:=by
  rw[EU,EG,ET (by simp)]
 have xb:(b.extract ib).toList=b.toList.drop ib:=by
  rw[EU,EG,ET (by simp)]
 have ca:a.size-1=ia:=by lia
 rw[ca] at hl;refine ⟨?_,?_⟩
 ·rw[DS,DS,xa,xb,DU];exact Ff.trans (EZ _ List.perm_append_comm) h.perm
 ·rw[DS,DS,xa,xb,DU,DL,DL];refine ⟨h.srt,⟨sb.drop,sa.drop,fun x hx z hz=>hl x (List.mem_of_mem_drop hx) z hz⟩,fun x hx z hz=>?_⟩
  rcases DO.mp hz with k|k
  ·exact h.leb x hx z k
  ·exact h.lea x hx z k
theorem cM {xs:Array Keyed} (sx:xs.toList.Pairwise (Lq κ)) {i:Nat} {x y:Keyed} (e:xs[i]?=some x) (h:Lq κ y x):∀z∈xs.toList.drop i,Lq κ y z:=by
 have e':xs.toList[i]?=some x:=by simpa using e
 have dr:xs.toList.drop i=x::xs.toList.drop (i+1):=by
  obtain ⟨l,g⟩:=D4.mp e';rw[Ei l,g]
 have sx':(x::xs.toList.drop (i+1)).Pairwise (Lq κ):=by rw[<-dr];exact sx.drop
 have sx2:=EF.mp sx';intro z hz;rw[dr] at hz;rcases DM.mp hz with k|k
 ·rw[k];exact h
 ·exact KeyOrd.kle_trans h (sx2.1 z k)
theorem rH {xs:Array Keyed} (sx:xs.toList.Pairwise (Lq κ)) {i j:Nat} {x y:Keyed} (hij:i<=j) (e1:xs[i]?=some x) (e2:xs[j]?=some y):Lq κ x y:=by
 refine cM sx e1 (KeyOrd.kle_refl _) y ?_;have e':xs.toList[j]?=some y:=by simpa using e2
 have:(xs.toList.drop i)[j-i]?=some y:=by
  rw[F6,<-e']
  congr 1
  lia
 exact D6 this
end
section
variable {prog:Program} {w:World} {A:Around} {E:GR} {s:Shared} {κ:KeyKind} {kd:SortKind}
theorem iC {st:SortSt} {g:Nat} {Q:Unit->SortSt->Prop} (h:Q () (setG st g)):wpS (model prog w) A E s (lA g) Q st:=wpS_modify (f:=fun st=>setG st g) h
theorem fq {st:SortSt} {r:String} {Q:Unit->SortSt->Prop} (h:Q () st):wpS (model prog w) A E s (liftM (rule r):StateT SortSt Sem Unit) Q st:=wpS_lift (wpAny_rule ⟨rfl,h⟩)
theorem jr (hO:nM prog w A E s κ kd) {st:SortSt} {key:Keyed} {arr:Array Keyed} {base hint n:Nat} {Q:Option Nat->SortSt->Prop} (hk:kindOf st=kd) (hy:Kd κ key) (ka:∀x∈arr.toList,Kd κ x) (sa:arr.toList.Pairwise (Lq κ)) (hn:base+n<=arr.size) (hh:hint<n)
  (h:∀k,k<=n->(∀i x,i<k->arr[base+i]?=some x->Lq κ x key)->(∀i x,k<=i->i<n->arr[base+i]?=some x->Lq κ key x)->Q (some k) st):wpS (model prog w) A E s (iB false key arr base n hint) Q st:=by
 have get:∀i,i<n->∃x,arr[base+i]?=some x/\Kd κ x:=fun i hi=>by
  have l:base+i<arr.size:=by lia
  exact ⟨arr[base+i],DZ l,ka _ (by simp)⟩
 refine gY hO hk hy (fun i=>match arr[base+i]? with|some x=>bq κ false key x|none=>false) (fun i hi=>?_) (fun i j hij hj hf=>?_) hh (fun k hk h1 h2=>h k hk (fun i x hi e=>?_) (fun i x hi hn e=>?_))
 ·obtain ⟨x,e,kx⟩:=get i hi;exact ⟨x,e,kx,by rw[e]⟩
 ·obtain ⟨x,e,_⟩:=get i (by lia)
  obtain ⟨y,e2,_⟩:=get j hj;try dsimp only at hf⊢
  rw[e];rw[e2] at hf;have l:=rH sa (show base+i<=base+j by lia) e e2
  have hf':(!κ.blt (kk κ key) (kk κ y))=true:=hf;show (!κ.blt (kk κ key) (kk κ x))=true;have f1:κ.blt (kk κ key) (kk κ y)=false:=by simpa using hf'
  have f2:κ.blt (kk κ key) (kk κ x)=false:=KeyOrd.kle_trans l f1;rw[f2]
  rfl
 ·have q:=h1 i hi;try dsimp only at q
  rw[e] at q;have q':(!κ.blt (kk κ key) (kk κ x))=true:=q;show κ.blt (kk κ key) (kk κ x)=false
  simpa using q'
 ·have q:=h2 i hi hn;try dsimp only at q
  rw[e] at q;have q':(!κ.blt (kk κ key) (kk κ x))=false:=q;exact KeyOrd.kle_of_klt (show κ.blt (kk κ key) (kk κ x)=true by simpa using q')
theorem fc (hO:nM prog w A E s κ kd) {st:SortSt} {key:Keyed} {arr:Array Keyed} {base hint n:Nat} {Q:Option Nat->SortSt->Prop} (hk:kindOf st=kd) (hy:Kd κ key) (ka:∀x∈arr.toList,Kd κ x) (sa:arr.toList.Pairwise (Lq κ)) (hn:base+n<=arr.size) (hh:hint<n)
  (h:∀k,k<=n->(∀i x,i<k->arr[base+i]?=some x->Lq κ x key)->(∀i x,k<=i->i<n->arr[base+i]?=some x->Lq κ key x)->Q (some k) st):wpS (model prog w) A E s (iB true key arr base n hint) Q st:=by
 have get:∀i,i<n->∃x,arr[base+i]?=some x/\Kd κ x:=fun i hi=>by
  have l:base+i<arr.size:=by lia
  exact ⟨arr[base+i],DZ l,ka _ (by simp)⟩
 refine gY hO hk hy (fun i=>match arr[base+i]? with|some x=>bq κ true key x|none=>false) (fun i hi=>?_) (fun i j hij hj hf=>?_) hh (fun k hk h1 h2=>h k hk (fun i x hi e=>?_) (fun i x hi hn e=>?_))
 ·obtain ⟨x,e,kx⟩:=get i hi;exact ⟨x,e,kx,by rw[e]⟩
 ·obtain ⟨x,e,_⟩:=get i (by lia)
  obtain ⟨y,e2,_⟩:=get j hj;try dsimp only at hf⊢
  rw[e];rw[e2] at hf;have l:=rH sa (show base+i<=base+j by lia) e e2
  exact KeyOrd.klt_of_kle_of_klt l hf
 ·have q:=h1 i hi;try dsimp only at q
  rw[e] at q;exact KeyOrd.kle_of_klt q
 ·have q:=h2 i hi hn;try dsimp only at q
  rw[e] at q;exact q
theorem nN {xs:Array Keyed} {key:Keyed} {base k:Nat} (h:∀i x,i<k->xs[base+i]?=some x->Lq κ x key):∀x∈(xs.toList.drop base).take k,Lq κ x key:=fun x hx=>by
 obtain ⟨i,hi⟩:=DP.mp hx;have il:i<k:=by
  have:=(D4.mp hi).1;rw[DK] at this
  lia
 rw[Ee il,F6] at hi;exact h i x il (by simpa using hi)
structure Go (κ:KeyKind) (a b:Array Keyed) (m:Nat) (out:Array Keyed) (ia ib:Nat):Prop where
 mg:Mg κ a b out ia ib
 la:ia+1<a.size
 lb:ib<b.size
 far:m<=ia+ib
theorem pq (hO:nM prog w A E s κ kd) {st:SortSt} {a b:Array Keyed} {Q:Array Keyed->SortSt->Prop} (hk:kindOf st=kd) (ka:∀x∈a.toList,Kd κ x) (kb:∀x∈b.toList,Kd κ x)
  (sa:a.toList.Pairwise (Lq κ)) (sb:b.toList.Pairwise (Lq κ)) (na:0<a.size) (nb:0<b.size) (h0:∀x y,a[0]?=some x->b[0]?=some y->Lq κ y x) (hl:∀y∈b.toList,∀x∈a.toList.drop (a.size-1),Lq κ y x)
  (h:∀r st',i5 κ a b r->rG st st'->Q r st'):wpS (model prog w) A E s (pf a b) Q st:=by
 have getA:∀{i:Nat},i<a.size->∃x,a[i]?=some x/\Kd κ x:=fun {i} hi=>⟨a[i],DZ hi,ka _ (by simp)⟩
 have getB:∀{i:Nat},i<b.size->∃x,b[i]?=some x/\Kd κ x:=fun {i} hi=>⟨b[i],DZ hi,kb _ (by simp)⟩
 obtain ⟨x0,ex0,kx0⟩:=getA na;obtain ⟨y0,ey0,ky0⟩:=getB nb;have M0:Mg κ a b #[] 0 0:=⟨by simp,by simp,by simp,by simp⟩
 have M1:Mg κ a b #[y0] 0 1:=M0.pushB sb ey0 (cM sa ex0 (h0 _ _ ex0 ey0));unfold pf;refine eN ?_;try dsimp only
 refine wpS_bind (fq (wpS_bind (aL ey0 ?_)))
 by_cases c1:1=b.size
 ·rw[if_pos (beq_iff_eq.mpr c1)];exact wpS_pure (h _ _ (M1.done sa sb (.inr (by lia))) (.refl _))
 rw[if_neg (fun z=>c1 (beq_iff_eq.mp z))]
 by_cases c2:0+1=a.size
 ·rw[if_pos (beq_iff_eq.mpr c2)];exact wpS_pure (h _ _ (M1.lastA sa sb hl (by lia)) (.refl _))
 rw[if_neg (fun z=>c2 (beq_iff_eq.mp z))]
 refine wpS_bind (wpS_get ?_);try dsimp only
 refine wpS_bind (wpS_mono (wpS_forRange
  (I:=fun x c st'=>rG st st'/\∃out ia ib g,c=(none,out,ia,ib,g)/\Go κ a b (x+1) out ia ib)
  (Q:=fun c st'=>rG st st'/\∃r q,c=(some r,q)/\i5 κ a b r) ?s1 ?e1 ⟨.refl _,_,_,_,_,rfl,⟨M1,by lia,by lia,by lia⟩⟩) ?p1)
 case e1=>
  rintro c st' ⟨ge,out,ia,ib,g,rfl,go⟩;have:=go.la;have:=go.lb;have:=go.far
  lia
 case p1=>
  rintro c st' ⟨ge,r,q,rfl,f⟩;exact wpS_pure (h _ _ f ge)
 case s1=>
  rintro x c st1 _ hx ⟨ge,out,ia,ib,g,rfl,go⟩;have hk1:kindOf st1=kd:=ge.1.trans hk;try dsimp only
  refine wpS_bind (wpS_mono (wpS_forRange
   (I:=fun x' c st'=>st'=st1/\∃out ia ib ac bc,c=(none,out,ia,ib,ac,bc)/\Go κ a b (x+1+x') out ia ib)
   (Q:=fun c st'=>st'=st1/\((∃r q,c=(some r,q)/\i5 κ a b r)∨∃out ia ib ac bc,c=(none,out,ia,ib,ac,bc)/\Go κ a b (x+1+1) out ia ib)) ?s2 ?e2 ⟨rfl,_,_,_,_,_,rfl,go⟩) ?p2)
  case e2=>
   rintro c st' ⟨_,out,ia,ib,ac,bc,rfl,go⟩;have:=go.la;have:=go.lb;have:=go.far
   lia
  case s2=>
   rintro x' c st' _ hx' ⟨rfl,out,ia,ib,ac,bc,rfl,go⟩;have l1:=go.la;have l2:=go.lb;have l3:=go.far;obtain ⟨xa,exa,kxa⟩:=getA (show ia<a.size by lia)
   obtain ⟨yb,eyb,kyb⟩:=getB l2;try dsimp only
   refine wpS_bind (aL eyb (wpS_bind (aL exa (wpS_bind (iZ hO hk1 kyb kxa ?_)))));try dsimp only
   cases cc:κ.blt (kk κ yb) (kk κ xa) with
   |true=>
    rw[if_pos rfl];have M2:=go.mg.pushB sb eyb (cM sa exa (KeyOrd.kle_of_klt cc));refine wpS_bind (aL eyb ?_)
    by_cases d1:ib+1=b.size
    ·rw[if_pos (beq_iff_eq.mpr d1)];exact wpS_pure ⟨rfl,.inl ⟨_,_,rfl,M2.done sa sb (.inr (by lia))⟩⟩
    rw[if_neg (fun z=>d1 (beq_iff_eq.mp z))]
    by_cases d2:bc+1≥g
    ·rw[if_pos d2];exact wpS_pure ⟨rfl,.inr ⟨_,_,_,_,_,rfl,⟨M2,l1,by lia,by lia⟩⟩⟩
    ·rw[if_neg d2];exact wpS_pure ⟨rfl,_,_,_,_,_,rfl,⟨M2,l1,by lia,by lia⟩⟩
   |false=>
    rw[if_neg (by decide)]
    have M2:=go.mg.pushA sa exa (cM sb eyb cc);refine wpS_bind (aL exa ?_)
    by_cases d1:ia+1+1=a.size
    ·rw[if_pos (beq_iff_eq.mpr d1)];exact wpS_pure ⟨rfl,.inl ⟨_,_,rfl,M2.lastA sa sb hl d1⟩⟩
    rw[if_neg (fun z=>d1 (beq_iff_eq.mp z))]
    by_cases d2:ac+1≥g
    ·rw[if_pos d2];exact wpS_pure ⟨rfl,.inr ⟨_,_,_,_,_,rfl,⟨M2,by lia,l2,by lia⟩⟩⟩
    ·rw[if_neg d2];exact wpS_pure ⟨rfl,_,_,_,_,_,rfl,⟨M2,by lia,l2,by lia⟩⟩
  case p2=>
   rintro c st' ⟨rfl,⟨r,q,rfl,f⟩|⟨out,ia,ib,ac,bc,rfl,go⟩⟩
   ·exact wpS_pure ⟨ge,_,_,rfl,f⟩
   try dsimp only
   refine wpS_bind (fq ?_);refine wpS_bind (wpS_mono (wpS_forRange
    (I:=fun x' c st'=>rG st st'/\∃out ia ib g ac bc,c=(none,out,ia,ib,g,ac,bc)/\Go κ a b (x+1+1+x') out ia ib)
    (Q:=fun c st'=>rG st st'/\((∃r q,c=(some r,q)/\i5 κ a b r)∨∃out ia ib g ac bc,c=(none,out,ia,ib,g,ac,bc)/\Go κ a b (x+1+1) out ia ib)) ?s3 ?e3 ⟨ge,_,_,_,_,_,_,rfl,go⟩) ?p3)
   case e3=>
    rintro c st' ⟨_,out,ia,ib,g,ac,bc,rfl,go⟩;have:=go.la;have:=go.lb;have:=go.far
    lia
   case p3=>
    rintro c st' ⟨ge,⟨r,q,rfl,f⟩|⟨out,ia,ib,g,ac,bc,rfl,go⟩⟩
    ·exact wpS_pure ⟨ge,_,_,rfl,f⟩
    ·exact wpS_bind (iC (wpS_pure ⟨ge.set _,_,_,_,_,rfl,go⟩))
   case s3=>
    rintro x' c st2 _ hx' ⟨ge2,out,ia,ib,g,ac,bc,rfl,go⟩;have l1:=go.la;have l2:=go.lb;have l3:=go.far;try dsimp only
    obtain ⟨yb,eyb,kyb⟩:=getB l2
    by_cases cg:g>1
    all_goals
     first
      |rw[if_pos cg]
      |rw[if_neg cg]
     refine wpS_bind (iC (wpS_bind (aL eyb (wpS_bind (jr hO (ge2.1.trans hk) kyb ka sa (by lia) (by lia) fun k hkn p1 p2=>?_)))))
     try dsimp only
     have ge3:=ge2.set (st':=st2)
     by_cases ck:k>0
     ·rw[if_pos ck];have M1:=go.mg.runA sa (k:=k) (fun u hu z hz=>cM sb eyb (nN p1 u hu) z hz)
      by_cases d1:ia+k+1=a.size
      ·rw[if_pos (beq_iff_eq.mpr d1)];exact wpS_pure ⟨ge3 _,.inl ⟨_,_,rfl,M1.lastA sa sb hl d1⟩⟩
      rw[if_neg (fun z=>d1 (beq_iff_eq.mp z))]
      by_cases d2:ia+k=a.size
      ·rw[if_pos (beq_iff_eq.mpr d2)];exact wpS_pure ⟨ge3 _,.inl ⟨_,_,rfl,M1.done sa sb (.inl (by lia))⟩⟩
      rw[if_neg (fun z=>d2 (beq_iff_eq.mp z))]
      obtain ⟨xa,exa,kxa⟩:=getA (show ia+k<a.size by lia)
      have M2:=M1.pushB sb eyb (cM sa exa (p2 k xa (by lia) (by lia) exa))
      refine wpS_bind (aL eyb ?_)
      by_cases d3:ib+1=b.size
      ·rw[if_pos (beq_iff_eq.mpr d3)];exact wpS_pure ⟨ge3 _,.inl ⟨_,_,rfl,M2.done sa sb (.inr (by lia))⟩⟩
      rw[if_neg (fun z=>d3 (beq_iff_eq.mp z))]
      refine wpS_bind (aL exa (wpS_bind (fc hO (ge2.1.trans hk) kxa kb sb (by lia) (by lia) fun k1 hk1n r1 r2=>?_)))
      try dsimp only
      by_cases ck1:k1>0
      ·rw[if_pos ck1];have M3:=M2.runB sb (k:=k1) (fun u hu z hz=>cM sa exa (nN r1 u hu) z hz)
       by_cases d4:ib+1+k1=b.size
       ·rw[if_pos (beq_iff_eq.mpr d4)];exact wpS_pure ⟨ge3 _,.inl ⟨_,_,rfl,M3.done sa sb (.inr (by lia))⟩⟩
       rw[if_neg (fun z=>d4 (beq_iff_eq.mp z))]
       obtain ⟨y2,ey2,ky2⟩:=getB (show ib+1+k1<b.size by lia)
       have M4:=M3.pushA sa exa (cM sb ey2 (r2 k1 y2 (by lia) (by lia) ey2))
       refine wpS_bind (aL exa ?_)
       by_cases d5:ia+k+1+1=a.size
       ·rw[if_pos (beq_iff_eq.mpr d5)];exact wpS_pure ⟨ge3 _,.inl ⟨_,_,rfl,M4.lastA sa sb hl d5⟩⟩
       rw[if_neg (fun z=>d5 (beq_iff_eq.mp z))]
       split
       ·exact wpS_pure ⟨ge3 _,.inr ⟨_,_,_,_,_,_,rfl,⟨M4,by lia,by lia,by lia⟩⟩⟩
       ·exact wpS_pure ⟨ge3 _,_,_,_,_,_,_,rfl,⟨M4,by lia,by lia,by lia⟩⟩
      ·rw[if_neg ck1];obtain ⟨y2,ey2,ky2⟩:=getB (show ib+1<b.size by lia)
       have M4:=M2.pushA sa exa (cM sb ey2 (r2 0 y2 (by lia) (by lia) ey2))
       refine wpS_bind (aL exa ?_)
       by_cases d5:ia+k+1+1=a.size
       ·rw[if_pos (beq_iff_eq.mpr d5)];exact wpS_pure ⟨ge3 _,.inl ⟨_,_,rfl,M4.lastA sa sb hl d5⟩⟩
       rw[if_neg (fun z=>d5 (beq_iff_eq.mp z))]
       split
       ·exact wpS_pure ⟨ge3 _,.inr ⟨_,_,_,_,_,_,rfl,⟨M4,by lia,by lia,by lia⟩⟩⟩
       ·exact wpS_pure ⟨ge3 _,_,_,_,_,_,_,rfl,⟨M4,by lia,by lia,by lia⟩⟩
     ·rw[if_neg ck];obtain ⟨xa,exa,kxa⟩:=getA (show ia<a.size by lia)
      have M2:=go.mg.pushB sb eyb (cM sa exa (p2 0 xa (by lia) (by lia) exa))
      refine wpS_bind (aL eyb ?_)
      by_cases d3:ib+1=b.size
      ·rw[if_pos (beq_iff_eq.mpr d3)];exact wpS_pure ⟨ge3 _,.inl ⟨_,_,rfl,M2.done sa sb (.inr (by lia))⟩⟩
      rw[if_neg (fun z=>d3 (beq_iff_eq.mp z))]
      refine wpS_bind (aL exa (wpS_bind (fc hO (ge2.1.trans hk) kxa kb sb (by lia) (by lia) fun k1 hk1n r1 r2=>?_)))
      try dsimp only
      by_cases ck1:k1>0
      ·rw[if_pos ck1];have M3:=M2.runB sb (k:=k1) (fun u hu z hz=>cM sa exa (nN r1 u hu) z hz)
       by_cases d4:ib+1+k1=b.size
       ·rw[if_pos (beq_iff_eq.mpr d4)];exact wpS_pure ⟨ge3 _,.inl ⟨_,_,rfl,M3.done sa sb (.inr (by lia))⟩⟩
       rw[if_neg (fun z=>d4 (beq_iff_eq.mp z))]
       obtain ⟨y2,ey2,ky2⟩:=getB (show ib+1+k1<b.size by lia)
       have M4:=M3.pushA sa exa (cM sb ey2 (r2 k1 y2 (by lia) (by lia) ey2))
       refine wpS_bind (aL exa ?_)
       by_cases d5:ia+1+1=a.size
       ·rw[if_pos (beq_iff_eq.mpr d5)];exact wpS_pure ⟨ge3 _,.inl ⟨_,_,rfl,M4.lastA sa sb hl d5⟩⟩
       rw[if_neg (fun z=>d5 (beq_iff_eq.mp z))]
       split
       ·exact wpS_pure ⟨ge3 _,.inr ⟨_,_,_,_,_,_,rfl,⟨M4,by lia,by lia,by lia⟩⟩⟩
       ·exact wpS_pure ⟨ge3 _,_,_,_,_,_,_,rfl,⟨M4,by lia,by lia,by lia⟩⟩
      ·rw[if_neg ck1];obtain ⟨y2,ey2,ky2⟩:=getB (show ib+1<b.size by lia)
       have M4:=M2.pushA sa exa (cM sb ey2 (r2 0 y2 (by lia) (by lia) ey2))
       refine wpS_bind (aL exa ?_)
       by_cases d5:ia+1+1=a.size
       ·rw[if_pos (beq_iff_eq.mpr d5)];exact wpS_pure ⟨ge3 _,.inl ⟨_,_,rfl,M4.lastA sa sb hl d5⟩⟩
       rw[if_neg (fun z=>d5 (beq_iff_eq.mp z))]
       split
       ·exact wpS_pure ⟨ge3 _,.inr ⟨_,_,_,_,_,_,rfl,⟨M4,by lia,by lia,by lia⟩⟩⟩
       ·exact wpS_pure ⟨ge3 _,_,_,_,_,_,_,rfl,⟨M4,by lia,by lia,by lia⟩⟩
end
section
variable {κ:KeyKind} {kd:SortKind} {a b out:Array Keyed} {na nb:Nat}
structure Mh (κ:KeyKind) (a b out:Array Keyed) (na nb:Nat):Prop where
 perm:(a.toList.take na++(b.toList.take nb++out.toList.reverse)).Perm (a.toList++b.toList)
 srt:out.toList.reverse.Pairwise (Lq κ)
 gea:∀x∈out.toList,∀y∈a.toList.take na,Lq κ y x
 geb:∀x∈out.toList,∀y∈b.toList.take nb,Lq κ y x
theorem Mh.runA (h:Mh κ a b out na nb) (sa:a.toList.Pairwise (Lq κ)) {k:Nat} (hk:k<=na) (hy:∀x∈(a.toList.take na).drop k,∀z∈b.toList.take nb,Lq κ z x):Mh κ a b (out++(a.extract k na).reverse) k nb:=by
 have ex:(a.extract k na).toList=(a.toList.take na).drop k:=by
  rw[EU,EG,List.drop_take]
 have dr:a.toList.take na=a.toList.take k++(a.toList.take na).drop k:=by
  have e:=(E6 k (a.toList.take na)).symm;rw[List.take_take,FM hk] at e;exact e
 have sa':(a.toList.take k++(a.toList.take na).drop k).Pairwise (Lq κ):=by rw[<-dr];exact sa.take
 have sa2:=DL.mp sa';have to:(out++(a.extract k na).reverse).toList=out.toList++((a.toList.take na).drop k).reverse:=by rw[DS,FL,ex]
 have tr:(out++(a.extract k na).reverse).toList.reverse=(a.toList.take na).drop k++out.toList.reverse:=by rw[to,List.reverse_append,List.reverse_reverse]
 have ga:=h.gea;have pm:=h.perm;rw[dr] at pm;have ga':∀x∈out.toList,∀y∈(a.toList.take k++(a.toList.take na).drop k),Lq κ y x:=by rw[<-dr];exact ga
 refine ⟨?_,?_,?_,?_⟩
 ·rw[tr];refine Ff.trans ?_ pm;rw[DU];refine EZ _ ?_;rw[<-DU,<-DU];exact Eo _ List.perm_append_comm
 ·rw[tr,DL];exact ⟨sa2.2.1,h.srt,fun x hx z hz=>ga' z (by simpa using hz) x (DJ _ hx)⟩
 ·intro x hx z hz;rw[to] at hx;rcases DO.mp hx with c|c
  ·exact ga' x c z (F7 _ hz)
  ·exact sa2.2.2 z hz x (Em.mp c)
 ·intro x hx z hz;rw[to] at hx;rcases DO.mp hx with c|c
  ·exact h.geb x c z hz
  ·exact hy x (Em.mp c) z hz
theorem Mh.runB (h:Mh κ a b out na nb) (sb:b.toList.Pairwise (Lq κ)) {k:Nat} (hk:k<=nb) (hy:∀x∈(b.toList.take nb).drop k,∀z∈a.toList.take na,Lq κ z x):Mh κ a b (out++(b.extract k nb).reverse) na k:=by
 have ex:(b.extract k nb).toList=(b.toList.take nb).drop k:=by
  rw[EU,EG,List.drop_take]
 have dr:b.toList.take nb=b.toList.take k++(b.toList.take nb).drop k:=by
  have e:=(E6 k (b.toList.take nb)).symm;rw[List.take_take,FM hk] at e;exact e
 have sb':(b.toList.take k++(b.toList.take nb).drop k).Pairwise (Lq κ):=by rw[<-dr];exact sb.take
 have sb2:=DL.mp sb';have to:(out++(b.extract k nb).reverse).toList=out.toList++((b.toList.take nb).drop k).reverse:=by rw[DS,FL,ex]
 have tr:(out++(b.extract k nb).reverse).toList.reverse=(b.toList.take nb).drop k++out.toList.reverse:=by rw[to,List.reverse_append,List.reverse_reverse]
 have pm:=h.perm;rw[dr] at pm;have gb':∀x∈out.toList,∀y∈(b.toList.take k++(b.toList.take nb).drop k),Lq κ y x:=by rw[<-dr];exact h.geb
 refine ⟨?_,?_,?_,?_⟩
 ·rw[tr];refine Ff.trans ?_ pm;rw[DU]
 ·rw[tr,DL];exact ⟨sb2.2.1,h.srt,fun x hx z hz=>gb' z (by simpa using hz) x (DJ _ hx)⟩
 ·intro x hx z hz;rw[to] at hx;rcases DO.mp hx with c|c
  ·exact h.gea x c z hz
  ·exact hy x (Em.mp c) z hz
 ·intro x hx z hz;rw[to] at hx;rcases DO.mp hx with c|c
  ·exact gb' x c z (F7 _ hz)
  ·exact sb2.2.2 z hz x (Em.mp c)
theorem nP {xs:Array Keyed} {n:Nat} {x:Keyed} (e:xs[n]?=some x):xs.extract n (n+1)= #[x]/\(xs.toList.take (n+1)).drop n= [x]:=by
 have e':xs.toList[n]?=some x:=by simpa using e
 obtain ⟨l,g⟩:=D4.mp e';have q:(xs.toList.take (n+1)).drop n= [x]:=by
  rw[List.drop_take,FB,Ei l,g]
  rfl
 refine ⟨?_,q⟩;apply FP.mp;rw[EU,EG,<-List.drop_take,q]
theorem Mh.pushA (h:Mh κ a b out (na+1) nb) (sa:a.toList.Pairwise (Lq κ)) {x:Keyed} (e:a[na]?=some x) (hy:∀z∈b.toList.take nb,Lq κ z x):Mh κ a b (out.push x) na nb:=by
 have q:=h.runA sa (k:=na) (by lia) (by
  rw[(nP e).2];intro u hu;simp at hu;rw[hu];exact hy)
 rw[(nP e).1] at q;have ex:out++(#[x]:Array Keyed).reverse=out.push x:=by
  apply FP.mp;simp
 rw[ex] at q;exact q
theorem Mh.pushB (h:Mh κ a b out na (nb+1)) (sb:b.toList.Pairwise (Lq κ)) {x:Keyed} (e:b[nb]?=some x) (hy:∀z∈a.toList.take na,Lq κ z x):Mh κ a b (out.push x) na nb:=by
 have q:=h.runB sb (k:=nb) (by lia) (by
  rw[(nP e).2];intro u hu;simp at hu;rw[hu];exact hy)
 rw[(nP e).1] at q;have ex:out++(#[x]:Array Keyed).reverse=out.push x:=by
  apply FP.mp;simp
 rw[ex] at q;exact q
theorem Mh.popA (h:Mh κ a b out na nb) (sa:a.toList.Pairwise (Lq κ)) (hn:0<na) {x:Keyed} (e:a[na-1]?=some x) (hy:∀z∈b.toList.take nb,Lq κ z x):Mh κ a b (out.push x) (na-1) nb:=by
 have en:na=na-1+1:=by lia
 rw[en] at h;exact h.pushA sa e hy
theorem Mh.popB (h:Mh κ a b out na nb) (sb:b.toList.Pairwise (Lq κ)) (hn:0<nb) {x:Keyed} (e:b[nb-1]?=some x) (hy:∀z∈a.toList.take na,Lq κ z x):Mh κ a b (out.push x) na (nb-1):=by
 have en:nb=nb-1+1:=by lia
 rw[en] at h;exact h.pushB sb e hy
theorem pC (xs:Array Keyed) (n:Nat):(xs.extract 0 n).toList=xs.toList.take n:=by
 rw[EU,EG];simp
theorem Mh.done (h:Mh κ a b out na nb) (sa:a.toList.Pairwise (Lq κ)) (sb:b.toList.Pairwise (Lq κ)) (c:na=0∨nb=0):i5 κ a b (a.extract 0 na++b.extract 0 nb++out.reverse):=by
 refine ⟨?_,?_⟩
 ·rw[DS,DS,pC,pC,FL,DU];exact h.perm
 ·rw[DS,DS,pC,pC,FL,DU,DL,DL];refine ⟨sa.take,⟨sb.take,h.srt,fun x hx z hz=>h.geb z (Em.mp hz) x hx⟩,fun x hx z hz=>?_⟩
  rcases DO.mp hz with k|k
  ·rcases c with c|c
   ·rw[c] at hx;simp at hx
   ·rw[c] at k;simp at k
  ·exact h.gea z (Em.mp k) x hx
theorem Mh.firstB (h:Mh κ a b out na nb) (sa:a.toList.Pairwise (Lq κ)) (sb:b.toList.Pairwise (Lq κ)) (hf:∀x∈b.toList.take 1,∀z∈a.toList,Lq κ x z) (c:nb=1):i5 κ a b (b.extract 0 nb++a.extract 0 na++out.reverse):=by
 subst c;refine ⟨?_,?_⟩
 ·rw[DS,DS,pC,pC,FL];have pm:=h.perm;rw[<-DU] at pm;exact Ff.trans (Eo _ List.perm_append_comm) pm
 ·rw[DS,DS,pC,pC,FL,DU,DL,DL];refine ⟨sb.take,⟨sa.take,h.srt,fun x hx z hz=>h.gea z (Em.mp hz) x hx⟩,fun x hx z hz=>?_⟩
  rcases DO.mp hz with k|k
  ·exact hf x hx z (FO k)
  ·exact h.geb z (Em.mp k) x hx
theorem jQ {xs:Array Keyed} {n:Nat} {z:Keyed} (h:z∈xs.toList.take n):∃i,i<n/\xs[i]?=some z:=by
 obtain ⟨i,hi⟩:=DP.mp h;have il:=(D4.mp hi).1;rw[DK] at il;rw[Ee (by lia)] at hi
 exact ⟨i,by lia,by simpa using hi⟩
theorem rJ {xs:Array Keyed} {n k:Nat} {z:Keyed} (h:z∈(xs.toList.take n).drop k):∃i,k<=i/\i<n/\xs[i]?=some z:=by
 obtain ⟨i,hi⟩:=DP.mp h;rw[F6] at hi;obtain ⟨j,hj,e⟩:∃j,j=k+i/\(xs.toList.take n)[j]?=some z:=⟨_,rfl,hi⟩;have il:=(D4.mp e).1;rw[DK] at il;rw[Ee (by lia)] at e
 exact ⟨j,by lia,by lia,by simpa using e⟩
theorem gc {xs:Array Keyed} (sx:xs.toList.Pairwise (Lq κ)) {n:Nat} {x y:Keyed} (hn:0<n) (e:xs[n-1]?=some x) (h:Lq κ x y):∀z∈xs.toList.take n,Lq κ z y:=fun z hz=>by
 obtain ⟨i,hi,ez⟩:=jQ hz;exact KeyOrd.kle_trans (rH sx (by lia) ez e) h
end
structure Gh (κ:KeyKind) (a b:Array Keyed) (m:Nat) (out:Array Keyed) (na nb:Nat):Prop where
 mh:Mh κ a b out na nb
 la:0<na
 lb:1<nb
 ha:na<=a.size
 hb:nb<=b.size
 far:na+nb+m<=a.size+b.size
section
variable {prog:Program} {w:World} {A:Around} {E:GR} {s:Shared} {κ:KeyKind} {kd:SortKind}
theorem pD (hO:nM prog w A E s κ kd) {st:SortSt} {a b:Array Keyed} {Q:Array Keyed->SortSt->Prop} (hk:kindOf st=kd) (ka:∀x∈a.toList,Kd κ x) (kb:∀x∈b.toList,Kd κ x)
  (sa:a.toList.Pairwise (Lq κ)) (sb:b.toList.Pairwise (Lq κ)) (pa:0<a.size) (pb:0<b.size) (h0:∀x∈b.toList.take 1,∀z∈a.toList,Lq κ x z) (hl:∀y∈b.toList,∀x,a[a.size-1]?=some x->Lq κ y x)
  (h:∀r st',i5 κ a b r->rG st st'->Q r st'):wpS (model prog w) A E s (ph a b) Q st:=by
 have getA:∀{i:Nat},i<a.size->∃x,a[i]?=some x/\Kd κ x:=fun {i} hi=>⟨a[i],DZ hi,ka _ (by simp)⟩
 have getB:∀{i:Nat},i<b.size->∃x,b[i]?=some x/\Kd κ x:=fun {i} hi=>⟨b[i],DZ hi,kb _ (by simp)⟩
 obtain ⟨x0,ex0,kx0⟩:=getA (show a.size-1<a.size by lia)
 have M0:Mh κ a b #[] (a.size-1+1) b.size:=⟨by
  rw[ET (by simp;lia),ET (by simp)]
  simp,by simp,by simp,by simp⟩
 have M1:Mh κ a b #[x0] (a.size-1) b.size:=M0.pushA sa ex0 (fun z hz=>hl z (FO hz) x0 ex0)
 unfold ph;refine eN ?_;try dsimp only
 refine wpS_bind (fq (wpS_bind (aL ex0 ?_)))
 by_cases c1:a.size-1=0
 ·rw[if_pos (beq_iff_eq.mpr c1)];exact wpS_pure (h _ _ (M1.done sa sb (.inl c1)) (.refl _))
 rw[if_neg (fun z=>c1 (beq_iff_eq.mp z))]
 by_cases c2:b.size=1
 ·rw[if_pos (beq_iff_eq.mpr c2)];exact wpS_pure (h _ _ (M1.firstB sa sb h0 c2) (.refl _))
 rw[if_neg (fun z=>c2 (beq_iff_eq.mp z))]
 refine wpS_bind (wpS_get ?_);try dsimp only
 refine wpS_bind (wpS_mono (wpS_forRange
  (I:=fun x c st'=>rG st st'/\∃out na nb g,c=(none,na,nb,out,g)/\Gh κ a b (x+1) out na nb)
  (Q:=fun c st'=>rG st st'/\∃r q,c=(some r,q)/\i5 κ a b r) ?s1 ?e1 ⟨.refl _,_,_,_,_,rfl,⟨M1,by lia,by lia,by lia,by lia,by lia⟩⟩) ?p1)
 case e1=>
  rintro c st' ⟨ge,out,na,nb,g,rfl,go⟩;have:=go.la;have:=go.lb;have:=go.far
  lia
 case p1=>
  rintro c st' ⟨ge,r,q,rfl,f⟩;exact wpS_pure (h _ _ f ge)
 case s1=>
  rintro x c st1 _ hx ⟨ge,out,na,nb,g,rfl,go⟩;have hk1:kindOf st1=kd:=ge.1.trans hk;try dsimp only
  refine wpS_bind (wpS_mono (wpS_forRange
   (I:=fun x' c st'=>st'=st1/\∃out na nb ac bc,c=(none,na,nb,out,ac,bc)/\Gh κ a b (x+1+x') out na nb)
   (Q:=fun c st'=>st'=st1/\((∃r q,c=(some r,q)/\i5 κ a b r)∨∃out na nb ac bc,c=(none,na,nb,out,ac,bc)/\Gh κ a b (x+1+1) out na nb)) ?s2 ?e2 ⟨rfl,_,_,_,_,_,rfl,go⟩) ?p2)
  case e2=>
   rintro c st' ⟨_,out,na,nb,ac,bc,rfl,go⟩;have:=go.la;have:=go.lb;have:=go.far
   lia
  case s2=>
   rintro x' c st' _ hx' ⟨rfl,out,na,nb,ac,bc,rfl,go⟩;have l1:=go.la;have l2:=go.lb;have l3:=go.far;have l4:=go.ha;have l5:=go.hb;obtain ⟨xa,exa,kxa⟩:=getA (show na-1<a.size by lia)
   obtain ⟨yb,eyb,kyb⟩:=getB (show nb-1<b.size by lia)
   try dsimp only
   refine wpS_bind (aL eyb (wpS_bind (aL exa (wpS_bind (iZ hO hk1 kyb kxa ?_)))));try dsimp only
   cases cc:κ.blt (kk κ yb) (kk κ xa) with
   |true=>
    rw[if_pos rfl];have M2:=go.mh.popA sa l1 exa (gc sb (by lia) eyb (KeyOrd.kle_of_klt cc))
    refine wpS_bind (aL exa ?_)
    by_cases d1:na-1=0
    ·rw[if_pos (beq_iff_eq.mpr d1)];exact wpS_pure ⟨rfl,.inl ⟨_,_,rfl,M2.done sa sb (.inl d1)⟩⟩
    rw[if_neg (fun z=>d1 (beq_iff_eq.mp z))]
    by_cases d2:ac+1≥g
    ·rw[if_pos d2];exact wpS_pure ⟨rfl,.inr ⟨_,_,_,_,_,rfl,⟨M2,by lia,l2,by lia,l5,by lia⟩⟩⟩
    ·rw[if_neg d2];exact wpS_pure ⟨rfl,_,_,_,_,_,rfl,⟨M2,by lia,l2,by lia,l5,by lia⟩⟩
   |false=>
    rw[if_neg (by decide)]
    have M2:=go.mh.popB sb (by lia) eyb (gc sa l1 exa cc)
    refine wpS_bind (aL eyb ?_)
    by_cases d1:nb-1=1
    ·rw[if_pos (beq_iff_eq.mpr d1)];exact wpS_pure ⟨rfl,.inl ⟨_,_,rfl,M2.firstB sa sb h0 d1⟩⟩
    rw[if_neg (fun z=>d1 (beq_iff_eq.mp z))]
    by_cases d2:bc+1≥g
    ·rw[if_pos d2];exact wpS_pure ⟨rfl,.inr ⟨_,_,_,_,_,rfl,⟨M2,l1,by lia,l4,by lia,by lia⟩⟩⟩
    ·rw[if_neg d2];exact wpS_pure ⟨rfl,_,_,_,_,_,rfl,⟨M2,l1,by lia,l4,by lia,by lia⟩⟩
  case p2=>
   rintro c st' ⟨rfl,⟨r,q,rfl,f⟩|⟨out,na,nb,ac,bc,rfl,go⟩⟩
   ·exact wpS_pure ⟨ge,_,_,rfl,f⟩
   try dsimp only
   refine wpS_bind (fq ?_);refine wpS_bind (wpS_mono (wpS_forRange
    (I:=fun x' c st'=>rG st st'/\∃out na nb g ac bc,c=(none,na,nb,out,g,ac,bc)/\Gh κ a b (x+1+1+x') out na nb)
    (Q:=fun c st'=>rG st st'/\((∃r q,c=(some r,q)/\i5 κ a b r)∨∃out na nb g ac bc,c=(none,na,nb,out,g,ac,bc)/\Gh κ a b (x+1+1) out na nb)) ?s3 ?e3 ⟨ge,_,_,_,_,_,_,rfl,go⟩) ?p3)
   case e3=>
    rintro c st' ⟨_,out,na,nb,g,ac,bc,rfl,go⟩;have:=go.la;have:=go.lb;have:=go.far
    lia
   case p3=>
    rintro c st' ⟨ge,⟨r,q,rfl,f⟩|⟨out,na,nb,g,ac,bc,rfl,go⟩⟩
    ·exact wpS_pure ⟨ge,_,_,rfl,f⟩
    ·exact wpS_bind (iC (wpS_pure ⟨ge.set _,_,_,_,_,rfl,go⟩))
   case s3=>
    rintro x' c st2 _ hx' ⟨ge2,out,na,nb,g,ac,bc,rfl,go⟩;have l1:=go.la;have l2:=go.lb;have l3:=go.far;have l4:=go.ha;have l5:=go.hb;try dsimp only
    obtain ⟨yb,eyb,kyb⟩:=getB (show nb-1<b.size by lia)
    have z0:∀i:Nat,0+i=i:=fun i=>Nat.zero_add i
    by_cases cg:g>1
    all_goals
     first
      |rw[if_pos cg]
      |rw[if_neg cg]
     refine wpS_bind (iC (wpS_bind (aL eyb (wpS_bind (jr hO (ge2.1.trans hk) kyb ka sa (by lia) (by lia) fun k hkn p1 p2=>?_)))))
     simp only[z0] at p1 p2;try dsimp only
     have ge3:=ge2.set (st':=st2);have pA:∀z∈a.toList.take k,Lq κ z yb:=fun z hz=>by
      obtain ⟨i,hi,ez⟩:=jQ hz;exact p1 i z hi ez
     by_cases ck:na-k>0
     ·rw[if_pos ck];have M1:=go.mh.runA sa (k:=k) hkn (fun u hu z hz=>by
       obtain ⟨i,h1,h2,e⟩:=rJ hu;exact gc sb (by lia) eyb (p2 i u h1 h2 e) z hz)
      by_cases d1:k=0
      ·rw[if_pos (beq_iff_eq.mpr d1)];exact wpS_pure ⟨ge3 _,.inl ⟨_,_,rfl,M1.done sa sb (.inl d1)⟩⟩
      rw[if_neg (fun z=>d1 (beq_iff_eq.mp z))]
      have M2:=M1.popB sb (by lia) eyb pA
      refine wpS_bind (aL eyb ?_)
      by_cases d3:nb-1=1
      ·rw[if_pos (beq_iff_eq.mpr d3)];exact wpS_pure ⟨ge3 _,.inl ⟨_,_,rfl,M2.firstB sa sb h0 d3⟩⟩
      rw[if_neg (fun z=>d3 (beq_iff_eq.mp z))]
      obtain ⟨xa,exa,kxa⟩:=getA (show k-1<a.size by lia)
      refine wpS_bind (aL exa (wpS_bind (fc hO (ge2.1.trans hk) kxa kb sb (by lia) (by lia) fun k1 hk1n r1 r2=>?_)))
      simp only[z0] at r1 r2;try dsimp only
      have pB:∀z∈b.toList.take k1,Lq κ z xa:=fun z hz=>by
       obtain ⟨i,hi,ez⟩:=jQ hz;exact r1 i z hi ez
      by_cases ck1:nb-1-k1>0
      ·rw[if_pos ck1];have M3:=M2.runB sb (k:=k1) hk1n (fun u hu z hz=>by
        obtain ⟨i,h1,h2,e⟩:=rJ hu;exact gc sa (by lia) exa (r2 i u h1 h2 e) z hz)
       by_cases d4:k1=1
       ·rw[if_pos (beq_iff_eq.mpr d4)];exact wpS_pure ⟨ge3 _,.inl ⟨_,_,rfl,M3.firstB sa sb h0 d4⟩⟩
       rw[if_neg (fun z=>d4 (beq_iff_eq.mp z))]
       by_cases d6:k1=0
       ·rw[if_pos (beq_iff_eq.mpr d6)];exact wpS_pure ⟨ge3 _,.inl ⟨_,_,rfl,M3.done sa sb (.inr d6)⟩⟩
       rw[if_neg (fun z=>d6 (beq_iff_eq.mp z))]
       have M4:=M3.popA sa (by lia) exa pB
       refine wpS_bind (aL exa ?_)
       by_cases d5:k-1=0
       ·rw[if_pos (beq_iff_eq.mpr d5)];exact wpS_pure ⟨ge3 _,.inl ⟨_,_,rfl,M4.done sa sb (.inl d5)⟩⟩
       rw[if_neg (fun z=>d5 (beq_iff_eq.mp z))]
       split
       ·exact wpS_pure ⟨ge3 _,.inr ⟨_,_,_,_,_,_,rfl,⟨M4,by lia,by lia,by lia,by lia,by lia⟩⟩⟩
       ·exact wpS_pure ⟨ge3 _,_,_,_,_,_,_,rfl,⟨M4,by lia,by lia,by lia,by lia,by lia⟩⟩
      ·rw[if_neg ck1];have ek:k1=nb-1:=by lia
       have M4:=M2.popA sa (by lia) exa (by rw[<-ek];exact pB)
       refine wpS_bind (aL exa ?_)
       by_cases d5:k-1=0
       ·rw[if_pos (beq_iff_eq.mpr d5)];exact wpS_pure ⟨ge3 _,.inl ⟨_,_,rfl,M4.done sa sb (.inl d5)⟩⟩
       rw[if_neg (fun z=>d5 (beq_iff_eq.mp z))]
       split
       ·exact wpS_pure ⟨ge3 _,.inr ⟨_,_,_,_,_,_,rfl,⟨M4,by lia,by lia,by lia,by lia,by lia⟩⟩⟩
       ·exact wpS_pure ⟨ge3 _,_,_,_,_,_,_,rfl,⟨M4,by lia,by lia,by lia,by lia,by lia⟩⟩
     ·rw[if_neg ck];have ekn:k=na:=by lia
      have M2:=go.mh.popB sb (by lia) eyb (by rw[<-ekn];exact pA)
      refine wpS_bind (aL eyb ?_)
      by_cases d3:nb-1=1
      ·rw[if_pos (beq_iff_eq.mpr d3)];exact wpS_pure ⟨ge3 _,.inl ⟨_,_,rfl,M2.firstB sa sb h0 d3⟩⟩
      rw[if_neg (fun z=>d3 (beq_iff_eq.mp z))]
      obtain ⟨xa,exa,kxa⟩:=getA (show na-1<a.size by lia)
      refine wpS_bind (aL exa (wpS_bind (fc hO (ge2.1.trans hk) kxa kb sb (by lia) (by lia) fun k1 hk1n r1 r2=>?_)))
      simp only[z0] at r1 r2;try dsimp only
      have pB:∀z∈b.toList.take k1,Lq κ z xa:=fun z hz=>by
       obtain ⟨i,hi,ez⟩:=jQ hz;exact r1 i z hi ez
      by_cases ck1:nb-1-k1>0
      ·rw[if_pos ck1];have M3:=M2.runB sb (k:=k1) hk1n (fun u hu z hz=>by
        obtain ⟨i,h1,h2,e⟩:=rJ hu;exact gc sa (by lia) exa (r2 i u h1 h2 e) z hz)
       by_cases d4:k1=1
       ·rw[if_pos (beq_iff_eq.mpr d4)];exact wpS_pure ⟨ge3 _,.inl ⟨_,_,rfl,M3.firstB sa sb h0 d4⟩⟩
       rw[if_neg (fun z=>d4 (beq_iff_eq.mp z))]
       by_cases d6:k1=0
       ·rw[if_pos (beq_iff_eq.mpr d6)];exact wpS_pure ⟨ge3 _,.inl ⟨_,_,rfl,M3.done sa sb (.inr d6)⟩⟩
       rw[if_neg (fun z=>d6 (beq_iff_eq.mp z))]
       have M4:=M3.popA sa (by lia) exa pB
       refine wpS_bind (aL exa ?_)
       by_cases d5:na-1=0
       ·rw[if_pos (beq_iff_eq.mpr d5)];exact wpS_pure ⟨ge3 _,.inl ⟨_,_,rfl,M4.done sa sb (.inl d5)⟩⟩
       rw[if_neg (fun z=>d5 (beq_iff_eq.mp z))]
       split
       ·exact wpS_pure ⟨ge3 _,.inr ⟨_,_,_,_,_,_,rfl,⟨M4,by lia,by lia,by lia,by lia,by lia⟩⟩⟩
       ·exact wpS_pure ⟨ge3 _,_,_,_,_,_,_,rfl,⟨M4,by lia,by lia,by lia,by lia,by lia⟩⟩
      ·rw[if_neg ck1];have ek:k1=nb-1:=by lia
       have M4:=M2.popA sa (by lia) exa (by rw[<-ek];exact pB)
       refine wpS_bind (aL exa ?_)
       by_cases d5:na-1=0
       ·rw[if_pos (beq_iff_eq.mpr d5)];exact wpS_pure ⟨ge3 _,.inl ⟨_,_,rfl,M4.done sa sb (.inl d5)⟩⟩
       rw[if_neg (fun z=>d5 (beq_iff_eq.mp z))]
       split
       ·exact wpS_pure ⟨ge3 _,.inr ⟨_,_,_,_,_,_,rfl,⟨M4,by lia,by lia,by lia,by lia,by lia⟩⟩⟩
       ·exact wpS_pure ⟨ge3 _,_,_,_,_,_,_,rfl,⟨M4,by lia,by lia,by lia,by lia,by lia⟩⟩
end
section
variable {prog:Program} {w:World} {A:Around} {E:GR} {s:Shared} {κ:KeyKind} {kd:SortKind}
theorem jt (hO:nM prog w A E s κ kd) {st:SortSt} {left:Bool} {key:Keyed} {arr:Array Keyed} {P X S:List Keyed} {hint:Nat} {Q:Option Nat->SortSt->Prop} (hk:kindOf st=kd) (hy:Kd κ key) (ka:∀x∈arr.toList,Kd κ x) (e:arr.toList=P++(X++S)) (sx:X.Pairwise (Lq κ)) (hh:hint<X.length)
  (h:∀X1 X2,X=X1++X2->(∀x∈X1,Lq κ x key)->(∀x∈X2,Lq κ key x)->Q (some X1.length) st):wpS (model prog w) A E s (iB left key arr P.length X.length hint) Q st:=by
 have at_:∀i,i<X.length->arr[P.length+i]?=X[i]?:=fun i hi=>by
  have:arr.toList[P.length+i]?=X[i]?:=by
   rw[e,DH (by lia),FB,DQ hi]
  simpa using this
 have get:∀i,i<X.length->∃x,X[i]?=some x/\Kd κ x:=fun i hi=>⟨X[i],D0 hi,ka _ (by rw[e];simp)⟩
 have mono:∀{i j:Nat} {x y:Keyed},i<=j->X[i]?=some x->X[j]?=some y->Lq κ x y:=fun {i j x y} hij h1 h2=>by
  rcases F2 i j with c|c
  ·obtain ⟨l1,g1⟩:=D4.mp h1;obtain ⟨l2,g2⟩:=D4.mp h2;have:=FI.mp sx i j l1 l2 c;rw[g1,g2] at this;exact this
  ·have:i=j:=by lia
   subst this;rw[h1] at h2;cases h2;exact KeyOrd.kle_refl _
 refine gY hO hk hy (fun i=>match X[i]? with|some x=>bq κ left key x|none=>false) (fun i hi=>?_) (fun i j hij hj hf=>?_) hh (fun k hkn h1 h2=>?_)
 ·obtain ⟨x,ex,kx⟩:=get i hi;exact ⟨x,(at_ i hi).trans ex,kx,by rw[ex]⟩
 ·obtain ⟨x,ex,_⟩:=get i (by lia)
  obtain ⟨y,ey,_⟩:=get j hj;try dsimp only at hf⊢
  rw[ex];rw[ey] at hf;have l:=mono hij ex ey;cases left with
  |true=>exact KeyOrd.klt_of_kle_of_klt l hf
  |false=>
   have hf':(!κ.blt (kk κ key) (kk κ y))=true:=hf;have f1:κ.blt (kk κ key) (kk κ y)=false:=by simpa using hf'
   have f2:κ.blt (kk κ key) (kk κ x)=false:=KeyOrd.kle_trans l f1;show (!κ.blt (kk κ key) (kk κ x))=true;rw[f2]
   rfl
 ·have tl:(X.take k).length=k:=by rw[DK];lia
  have q:=h (X.take k) (X.drop k) (E6 k X).symm (fun x hx=>?_) (fun x hx=>?_)
  ·rw[tl] at q;exact q
  ·obtain ⟨i,hi⟩:=DP.mp hx;have il:=(D4.mp hi).1;rw[tl] at il;rw[Ee il] at hi;have q:=h1 i il;try dsimp only at q
   rw[hi] at q;cases left with
   |true=>exact KeyOrd.kle_of_klt q
   |false=>
    have q':(!κ.blt (kk κ key) (kk κ x))=true:=q;show κ.blt (kk κ key) (kk κ x)=false
    simpa using q'
  ·obtain ⟨i,hi⟩:=DP.mp hx;rw[F6] at hi;have il:=(D4.mp hi).1;have q:=h2 (k+i) (by lia) il
   try dsimp only at q
   rw[hi] at q;cases left with
   |true=>exact q
   |false=>
    have q':(!κ.blt (kk κ key) (kk κ x))=false:=q;exact KeyOrd.kle_of_klt (show κ.blt (kk κ key) (kk κ x)=true by simpa using q')
end
theorem writes (P:Nat):∀(l:List Keyed) (c:Nat) (arr:Array Keyed),P+c+l.length<=arr.size->
  ((l.zipIdx c).foldl (fun (a:Array Keyed) (q:Keyed×Nat)=>a.setIfInBounds (P+q.2) q.1) arr).toList=arr.toList.take (P+c)++l++arr.toList.drop (P+c+l.length)
 | [],c,arr,h=>by simp
 |x::l,c,arr,h=>by
  have hl:P+c<arr.size:=by simp at h;lia
  rw[List.zipIdx_cons,List.foldl_cons,writes P l (c+1) _ (by rw[Array.size_setIfInBounds];simp at h⊢;lia)]
  have e:(arr.setIfInBounds (P+c) x).toList=arr.toList.set (P+c) x:=by simp
  dsimp only;rw[e];have e1:P+(c+1)=P+c+1:=by lia
  rw[e1];have hl':P+c<arr.toList.length:=by simpa using hl
  have t1:(arr.toList.set (P+c) x).take (P+c+1)=arr.toList.take (P+c)++ [x]:=by
   rw[List.take_succ,List.take_set_of_le (D8 _),List.getElem?_set_self hl']
   rfl
  have t2:(arr.toList.set (P+c) x).drop (P+c+1+l.length)=arr.toList.drop (P+c+(x::l).length):=by
   rw[List.drop_set_of_lt (by lia)]
   congr 1
   simp;omega
  rw[t1,t2];simp
theorem z5 {κ:KeyKind} {X1 X2 Y1 Y2 r:List Keyed} (sx:(X1++X2).Pairwise (Lq κ)) (sy:(Y1++Y2).Pairwise (Lq κ)) (h1:∀x∈X1,∀y∈Y1++Y2,Lq κ x y) (h2:∀x∈X1++X2,∀y∈Y2,Lq κ x y) (pr:r.Perm (X2++Y1)) (sr:r.Pairwise (Lq κ)):(X1++(r++Y2)).Pairwise (Lq κ):=by
 have x:=DL.mp sx;have y:=DL.mp sy;rw[DL,DL];refine ⟨x.1,⟨sr,y.2.1,fun u hu v hv=>?_⟩,fun u hu v hv=>?_⟩
 ·rcases DO.mp (pr.mem_iff.mp hu) with k|k
  ·exact h2 u (DJ _ k) v hv
  ·exact y.2.2 u k v hv
 ·rcases DO.mp hv with k|k
  ·rcases DO.mp (pr.mem_iff.mp k) with k|k
   ·exact x.2.2 u hu v k
   ·exact h1 u hu v (F7 _ k)
  ·exact h1 u hu v (DJ _ k)
theorem z6 {X1 X2 Y1 Y2 r:List Keyed} (pr:r.Perm (X2++Y1)):(X1++(r++Y2)).Perm ((X1++X2)++(Y1++Y2)):=by
 have:(X1++X2)++(Y1++Y2)=X1++((X2++Y1)++Y2):=by simp
 rw[this];exact EZ _ (Eo _ pr)
theorem yt {M:Model} {A:Around} {E:GR} {s:Shared} {σ:Type} {st st':σ} {Q:PUnit->σ->Prop} (h:Q ⟨⟩ st'):wpS M A E s (set st':StateT σ Sem PUnit) Q st:=by
 unfold wpS;rw[StateT.run_set];exact wpAny_pure ⟨rfl,h⟩
section
variable {prog:Program} {w:World} {A:Around} {E:GR} {s:Shared} {κ:KeyKind} {kd:SortKind}
theorem pG (hO:nM prog w A E s κ kd) {st:SortSt} {i:Nat} {P X Y S:List Keyed} {pa pb:Nat} {Q:Bool->SortSt->Prop} (hk:kindOf st=kd) (hf:failedOf st=none) (ka:∀x∈(arrOf st).toList,Kd κ x)
  (e:(arrOf st).toList=P++(X++(Y++S))) (sx:X.Pairwise (Lq κ)) (sy:Y.Pairwise (Lq κ)) (nx:0<X.length) (ny:0<Y.length)
  (p1:(pendingOf st)[i]?=some (P.length,X.length,pa)) (p2:(pendingOf st)[i+1]?=some (P.length+X.length,Y.length,pb))
  (h:∀st' Z,Z.Perm (X++Y)->Z.Pairwise (Lq κ)->kindOf st'=kd->failedOf st'=none->(arrOf st').toList=P++(Z++S)->pendingOf st'=((pendingOf st).setIfInBounds i (P.length,X.length+Y.length,pa)).eraseIdxIfInBounds (i+1)->Q true st'):
  wpS (model prog w) A E s (mergeAt' i) Q st:=by
 unfold mergeAt';refine eN ?_;try dsimp only
 have ix:∀{U V:List Keyed} {v:Keyed},(arrOf st).toList=U++v::V->(arrOf st)[U.length]?=some v:=fun {U V v} q=>by
  have:(arrOf st).toList[U.length]?=some v:=by rw[q];simp
  simpa using this
 have sub:∀{U V W:List Keyed},(arrOf st).toList=U++(V++W)->((arrOf st).extract U.length (U.length+V.length)).toList=V:=fun {U V W} q=>by
  rw[EU,EG,q];simp
 obtain ⟨y0,Y',rfl⟩:∃y0 Y',Y=y0::Y':=by
  cases Y with
  |nil=>simp at ny
  |cons y Y=>exact ⟨y,Y,rfl⟩
 have sy':=EF.mp sy;have ey:(arrOf st)[P.length+X.length]?=some y0:=by
  have:=ix (U:=P++X) (V:=Y'++S) (v:=y0) (by rw[e];simp)
  rwa [D7] at this
 have mem:∀x∈X++(y0::Y'),x∈(arrOf st).toList:=fun x hx=>by
  rw[e];rcases DO.mp hx with k|k
  ·simp[k]
  ·simp at k⊢;rcases k with k|k
   ·simp[k]
   ·simp[k]
 refine wpS_bind (wpS_get ?_);rw[p1,p2];try dsimp only
 refine wpS_bind (yt (wpS_bind (aL ey (wpS_bind (jt (P:=P) (X:=X) (S:=(y0::Y')++S) hO hk (ka _ (mem y0 (by simp))) ka e sx nx fun X1 X2 eX q1 q2=>?_)))))
 try dsimp only
 subst eX;have lx:(X1++X2).length=X1.length+X2.length:=D7;have leY:∀{x:Keyed},Lq κ x y0->∀y∈y0::Y',Lq κ x y:=fun {x} l y hy=>by
  rcases DM.mp hy with k|k
  ·rw[k];exact l
  ·exact KeyOrd.kle_trans l (sy'.1 y k)
 by_cases c1:(X1++X2).length-X1.length=0
 ·rw[if_pos (beq_iff_eq.mpr c1)];have x2:X2= []:=Eb (by lia)
  subst x2;refine wpS_pure (h _ ((X1++ [])++(y0::Y')) (List.Perm.refl _) ?_ hk hf (by rw[show arrOf _=arrOf st from rfl,e];simp) rfl)
  rw[DL];exact ⟨sx,sy,fun x hx y hy=>leY (q1 x (by simpa using hx)) y hy⟩
 rw[if_neg (fun z=>c1 (beq_iff_eq.mp z))]
 obtain ⟨X3,xl,rfl⟩:∃X3 xl,X2=X3++ [xl]:=by
  rcases List.eq_nil_or_concat X2 with z|⟨a,b,z⟩
  ·subst z;simp at c1
  ·exact ⟨a,b,by rw[z,List.concat_eq_append]⟩
 have lx3:(X3++ [xl]).length=X3.length+1:=by simp
 have exl:(arrOf st)[P.length+X1.length+((X1++(X3++ [xl])).length-X1.length)-1]?=some xl:=by
  have:=ix (U:=P++(X1++X3)) (V:=(y0::Y')++S) (v:=xl) (by rw[e];simp)
  rw[D7,D7] at this;rw[<-this]
  congr 1
  lia
 have lexl:∀x∈X1++(X3++ [xl]),Lq κ x xl:=fun x hx=>by
  have q:((X1++X3)++ [xl]).Pairwise (Lq κ):=by rw[DU];exact sx
  have q':=DL.mp q;rw[<-DU] at hx;rcases DO.mp hx with k|k
  ·exact q'.2.2 x k xl (by simp)
  ·simp at k;rw[k];exact KeyOrd.kle_refl _
 have g2:=fun (st2:SortSt) (hk2:kindOf st2=kd) (Q2:Option Nat->SortSt->Prop) hh=>jt (prog:=prog) (w:=w) (A:=A) (E:=E) (s:=s) (st:=st2) (left:=true) (key:=xl) (arr:=arrOf st) (P:=P++(X1++(X3++ [xl]))) (X:=y0::Y') (S:=S) (hint:=(y0::Y').length-1) (Q:=Q2) hO hk2 (ka _ (mem xl (by simp))) ka (by rw[e];simp) sy (by simp) hh
 rw[show (P++(X1++(X3++ [xl]))).length=P.length+(X1++(X3++ [xl])).length from D7] at g2
 refine wpS_bind (aL exl (wpS_bind (g2 _ (by exact hk) _ fun Y1 Y2 eY r1 r2=>?_)))
 try dsimp only
 have l2:∀x∈X1++(X3++ [xl]),∀y∈Y2,Lq κ x y:=fun x hx y hy=>KeyOrd.kle_trans (lexl x hx) (r2 y hy)
 by_cases c2:Y1.length=0
 ·rw[if_pos (beq_iff_eq.mpr c2)];have y1:Y1= []:=Eb c2;subst y1;have eY':Y2=y0::Y':=by simpa using eY.symm
  refine wpS_pure (h _ ((X1++(X3++ [xl]))++(y0::Y')) (List.Perm.refl _) ?_ hk hf (by rw[show arrOf _=arrOf st from rfl,e];simp) rfl)
  rw[DL];exact ⟨sx,sy,fun x hx y hy=>l2 x hx y (by rw[eY'];exact hy)⟩
 rw[if_neg (fun z=>c2 (beq_iff_eq.mp z))]
 have xx:((arrOf st).extract (P.length+X1.length) (P.length+(X1++(X3++ [xl])).length)).toList=X3++ [xl]:=by
  have:=sub (U:=P++X1) (V:=X3++ [xl]) (W:=(y0::Y')++S) (by rw[e];simp)
  rw[D7] at this;have l:P.length+(X1++(X3++ [xl])).length=P.length+X1.length+(X3++ [xl]).length:=by rw[D7];lia
  rw[l];exact this
 have yy:((arrOf st).extract (P.length+(X1++(X3++ [xl])).length) (P.length+(X1++(X3++ [xl])).length+Y1.length)).toList=Y1:=by
  have:=sub (U:=P++(X1++(X3++ [xl]))) (V:=Y1) (W:=Y2++S) (by rw[e,eY];simp)
  rw[D7] at this;exact this
 generalize (arrOf st).extract (P.length+X1.length) (P.length+(X1++(X3++ [xl])).length)=ax at xx⊢;generalize (arrOf st).extract (P.length+(X1++(X3++ [xl])).length) (P.length+(X1++(X3++ [xl])).length+Y1.length)=ay at yy⊢;have sX:=DL.mp sx;have sY:(Y1++Y2).Pairwise (Lq κ):=by rw[<-eY];exact sy
 have sY1:=(DL.mp sY).1;have kX:∀x∈ax.toList,Kd κ x:=fun x hx=>by
  rw[xx] at hx;exact ka x (mem x (F7 _ (DJ _ hx)))
 have kY:∀x∈ay.toList,Kd κ x:=fun x hx=>by
  rw[yy] at hx;exact ka x (mem x (by rw[eY];simp[hx]))
 have zx:ax.size=X3.length+1:=by
  have:=congrArg List.length xx
  simpa using this
 have zy:ay.size=Y1.length:=by
  have:=congrArg List.length yy
  simpa using this
 have y1c:∃Y3,Y1=y0::Y3:=by
  cases Y1 with
  |nil=>simp at c2
  |cons y Y3=>
   have:y0=y:=by
    have:=congrArg List.head? eY
    simpa using this
   exact ⟨Y3,by rw[this]⟩
 obtain ⟨Y3,eY3⟩:=y1c;have last:∀y∈ay.toList,Lq κ y xl:=fun y hy=>r1 y (by rw[<-yy];exact hy)
 have axl:∀x,ax[ax.size-1]?=some x->x=xl:=fun x hx=>by
  have hx':ax.toList[ax.size-1]?=some x:=by simpa using hx
  rw[xx,zx,Nat.add_sub_cancel,DH (D8 _)] at hx'
  simpa using hx'.symm
 have fin:∀(r:Array Keyed) (st2:SortSt),i5 κ ax ay r->kindOf st2=kd->failedOf st2=none->arrOf st2=arrOf st->pendingOf st2=((pendingOf st).setIfInBounds i (P.length,(X1++(X3++ [xl])).length+(y0::Y').length,pa)).eraseIdxIfInBounds (i+1)->
   Q true (SortSt.mk' (kindOf st2) (List.foldl (fun (a:Array Keyed) (x:Keyed×Nat)=>a.setIfInBounds (P.length+X1.length+x.snd) x.fst) (arrOf st2) r.toList.zipIdx) (pendingOf st2) (gallopOf st2) (failedOf st2)):=by
  rintro r st2 ⟨pr,sr⟩ h1 h2 h3 h4;rw[xx,yy] at pr;have rl:r.toList.length=X3.length+1+Y1.length:=by
   rw[pr.length_eq];simp;omega
  refine h _ (X1++(r.toList++Y2)) ?_ (z5 sx sY (fun x hx y hy=>leY (q1 x hx) y (by rw[eY];exact hy)) l2 pr sr) h1 h2 ?_ h4
  ·rw[eY];exact z6 pr
  ·show (List.foldl (fun (a:Array Keyed) (x:Keyed×Nat)=>a.setIfInBounds (P.length+X1.length+x.snd) x.fst) (arrOf st2) r.toList.zipIdx).toList=_
   rw[h3];have sz:(arrOf st).size=P.length+X1.length+(X3.length+1)+(Y1.length+Y2.length)+S.length:=by
    have:=congrArg List.length e;rw[eY] at this;simp at this
    lia
   have w:=writes (P.length+X1.length) r.toList 0 (arrOf st) (by rw[rl];lia)
   rw[w,rl,e,eY];have t:P++(X1++(X3++ [xl])++(Y1++Y2++S))=(P++X1)++((X3++ [xl]++Y1)++(Y2++S)):=by simp
   rw[t];have l1:P.length+X1.length+0=(P++X1).length:=by simp
   have l3:P.length+X1.length+0+(X3.length+1+Y1.length)=(P++X1).length+(X3++ [xl]++Y1).length:=by simp;lia
   have d:∀(A B C:List Keyed),(A++(B++C)).drop (A.length+B.length)=C:=fun A B C=>by rw[<-DU,<-D7,List.drop_left]
   rw[l3,l1,d,List.take_left];simp
 by_cases c3:(X1++(X3++ [xl])).length-X1.length<=Y1.length
 ·rw[if_pos c3];refine wpS_bind (pq hO (by exact hk) kX kY (by rw[xx];exact sX.2.1) (by rw[yy];exact sY1) (by lia) (by lia) (fun x y hx hy=>?_) (fun y hy x hx=>?_) fun r st2 mf ge=>?_)
  ·have hx':ax.toList[0]?=some x:=by simpa using hx
   have hy':ay.toList[0]?=some y:=by simpa using hy
   rw[yy,eY3] at hy';simp at hy';rw[<-hy'];rw[xx] at hx';exact q2 x (D6 hx')
  ·rw[xx,zx,Nat.add_sub_cancel,List.drop_left'] at hx
   ·simp at hx;rw[hx];exact last y hy
   ·rfl
  ·refine wpS_bind (wpS_modify (wpS_bind (wpS_get (wpS_pure ?_))));have f:=fin r st2 mf (ge.1.trans hk) (ge.2.2.2.trans hf) ge.2.1 ge.2.2.1;have fl:failedOf st2=none:=ge.2.2.2.trans hf;show Q ((failedOf st2).isNone) _;rw[fl];exact f
 ·rw[if_neg c3];refine wpS_bind (pD hO (by exact hk) kX kY (by rw[xx];exact sX.2.1) (by rw[yy];exact sY1) (by lia) (by lia) (fun x hx z hz=>?_) (fun y hy x hx=>?_) fun r st2 mf ge=>?_)
  ·rw[yy,eY3] at hx;simp at hx;rw[hx];rw[xx] at hz;exact q2 z hz
  ·rw[axl x hx];exact last y hy
  ·refine wpS_bind (wpS_modify (wpS_bind (wpS_get (wpS_pure ?_))));have f:=fin r st2 mf (ge.1.trans hk) (ge.2.2.2.trans hf) ge.2.1 ge.2.2.1;have fl:failedOf st2=none:=ge.2.2.2.trans hf;show Q ((failedOf st2).isNone) _;rw[fl];exact f
end
section
variable {prog:Program} {w:World} {A:Around} {E:GR} {s:Shared} {κ:KeyKind} {kd:SortKind}
theorem yu {arr:Array Keyed} {P R:List Keyed} (e:arr.toList=P++R) {i:Nat} {x:Keyed} (h:R[i]?=some x):arr[P.length+i]?=some x:=by
 have:arr.toList[P.length+i]?=some x:=by rw[e,DH (by lia),FB];exact h
 simpa using this
theorem iD (hO:nM prog w A E s κ kd) {st:SortSt} {P R:List Keyed} {i j i' j':Nat} {x y:Keyed} {Q:Option Bool->SortSt->Prop} (hk:kindOf st=kd) (ka:∀x∈R,Kd κ x) (e:(arrOf st).toList=P++R)
  (hi:R[i]?=some x) (hj:R[j]?=some y) (ei:i'=P.length+i) (ej:j'=P.length+j) (h:Q (some (κ.blt (kk κ x) (kk κ y))) st):wpS (model prog w) A E s (ltAt' i' j') Q st:=by
 subst ei ej;rw[ltAt'_eq];refine wpS_bind (wpS_get ?_);exact wpS_bind (aL (yu e hi) (wpS_bind (aL (yu e hj) (iZ hO hk (ka x (D6 hi)) (ka y (D6 hj)) h))))
theorem take_snoc {R:List Keyed} {n:Nat} {x:Keyed} (h:R[n]?=some x):R.take (n+1)=R.take n++ [x]:=by
 rw[List.take_succ,h]
 rfl
theorem CV {R:List Keyed} {n:Nat} {x y:Keyed} (h1:1<=n) (hs:(R.take n).Pairwise (Lq κ)) (hy:R[n-1]?=some y) (hx:R[n]?=some x) (l:Lq κ y x):(R.take (n+1)).Pairwise (Lq κ):=by
 have e1:R.take n=R.take (n-1)++ [y]:=by
  have:=take_snoc hy
  rwa [show n-1+1=n by lia] at this
 rw[take_snoc hx,DL];refine ⟨hs,by simp,fun u hu v hv=>?_⟩
 simp at hv;rw[hv];rw[e1] at hu hs;rcases DO.mp hu with k|k
 ·exact KeyOrd.kle_trans ((DL.mp hs).2.2 u k y (by simp)) l
 ·simp at k;rw[k];exact l
theorem tu {st:SortSt} {R:List Keyed} {n0 N:Nat} (hN:N=R.length) {body:Nat->Option (Option Nat)×Nat->StateT SortSt Sem (ForInStep (Option (Option Nat)×Nat))} {Q:Option (Option Nat)×Nat->SortSt->Prop} (h1:1<=n0) (hn:n0<=R.length) (hs:(R.take n0).Pairwise (Lq κ))
  (hb:∀n x y (i:Nat) (Q':ForInStep (Option (Option Nat)×Nat)->SortSt->Prop),1<=n->R[n]?=some x->R[n-1]?=some y->(κ.blt (kk κ x) (kk κ y)=true->Q' (.done (none,n)) st)->(κ.blt (kk κ x) (kk κ y)=false->Q' (.yield (none,n+1)) st)->wpS (model prog w) A E s (body i (none,n)) Q' st)
  (h:∀n,n0<=n->n<=R.length->(R.take n).Pairwise (Lq κ)->(n=R.length∨∃x y,R[n]?=some x/\R[n-1]?=some y/\κ.blt (kk κ x) (kk κ y)=true)->Q (none,n) st):wpS (model prog w) A E s (forIn [n0:N] (none,n0) body) Q st:=by
 subst hN;refine wpS_forRange (I:=fun i c st'=>st'=st/\c=(none,i)/\n0<=i/\(R.take i).Pairwise (Lq κ)) ?_ ?_ ⟨rfl,rfl,D8 _,hs⟩
 ·rintro i c st' hi1 hi2 ⟨rfl,rfl,h3,h4⟩;have ex:=D0 hi2;have ey:=D0 (show i-1<R.length by lia)
  refine hb i _ _ i _ (by lia) ex ey (fun c=>h i h3 (by lia) h4 (.inr ⟨_,_,ex,ey,c⟩)) (fun c=>⟨rfl,rfl,by lia,CV (by lia) h4 ey ex c⟩)
 ·rintro c st' ⟨rfl,rfl,h3,h4⟩;rw[Nat.max_eq_right hn] at h3 h4⊢;exact h _ h3 (D8 _) h4 (.inl rfl)
theorem ju {arr:Array Keyed} {P D S:List Keyed} (e:arr.toList=P++(D++S)):(mirror arr P.length (P.length+D.length) ((P.length+D.length-P.length)/2)).toList=P++(D.reverse++S):=by
 have sz:arr.size=P.length+(D.length+S.length):=by
  have:=congrArg List.length e
  simpa using this
 apply FA;intro k;have q:=getElem?_mirror_all (xs:=arr) (i:=P.length) (j:=P.length+D.length) (by lia) k
 have q':(mirror arr P.length (P.length+D.length) ((P.length+D.length-P.length)/2)).toList[k]?=(mirror arr P.length (P.length+D.length) ((P.length+D.length-P.length)/2))[k]?:=by simp
 have ga:∀i,arr[i]?=(P++(D++S))[i]?:=fun i=>by rw[<-e,E3]
 rw[q',q,ga,ga]
 by_cases c:P.length<=k/\k<P.length+D.length
 ·rw[if_pos c,DH (by lia),DQ (by lia),DH (by lia),DQ (by rw[Et];lia),List.getElem?_reverse (by lia)]
  congr 1
  lia
 ·rw[if_neg c]
  by_cases c2:k<P.length
  ·rw[DQ c2,DQ c2]
  ·rw[DH (by lia),DH (by lia),DH (by lia),DH (by rw[Et];lia),Et]
structure Kp (st st':SortSt):Prop where
 kind:kindOf st'=kindOf st
 failed:failedOf st'=failedOf st
 pend:pendingOf st'=pendingOf st
def NI (κ:KeyKind) (L:List Keyed) (n:Nat):Prop:=((L.map (kk κ)).take n).Pairwise fun a b=>κ.blt a b=false
theorem NI.snoc {L:List Keyed} {n:Nat} {x y:Keyed} (h1:1<=n) (h:NI κ L n) (hy:L[n-1]?=some y) (hx:L[n]?=some x) (l:κ.blt (kk κ y) (kk κ x)=false):NI κ L (n+1):=by
 have ey:(L.map (kk κ))[n-1]?=some (kk κ y):=by rw[D9,hy];rfl
 have ex:(L.map (kk κ))[n]?=some (kk κ x):=by rw[D9,hx];rfl
 unfold NI at h⊢;have e1:(L.map (kk κ)).take n=(L.map (kk κ)).take (n-1)++ [kk κ y]:=by
  have:=List.take_succ (l:=L.map (kk κ)) (i:=n-1);rw[show n-1+1=n by lia,ey] at this
  exact this
 have e2:(L.map (kk κ)).take (n+1)=(L.map (kk κ)).take n++ [kk κ x]:=by
  rw[List.take_succ,ex]
  rfl
 rw[e2,DL];refine ⟨h,by simp,fun u hu v hv=>?_⟩
 simp at hv;rw[hv];rw[e1] at hu h;rcases DO.mp hu with k|k
 ·have q:=(DL.mp h).2.2 u k (kk κ y) (by simp)
  exact KeyOrd.kle_trans (O:=κ.toKeyOrd) l q
 ·simp at k;rw[k];exact l
theorem NI.falls {L:List Keyed} {n:Nat} (h:NI κ L n):(L.take n).Pairwise (fun p q=>Lq κ q p):=by
 unfold NI at h;rw[<-Fi,FX] at h;exact h
def zj (κ:KeyKind) (L:List Keyed) (n m:Nat):Prop:=∃(D1 D2 S:List Keyed) (a:κ.α),L=D1++(D2++S)/\D1.length+D2.length=n/\D2.length=m+1/\∀x∈D2,kk κ x=a
theorem uN {D:List Keyed} {a:κ.α} (h:∀x∈D,kk κ x=a):D.reverse.map (kk κ)=D.map (kk κ):=by
 have e1:D.map (kk κ)=EK D.length a:=List.eq_replicate_iff.mpr ⟨by simp,fun b hb=>by
  obtain ⟨x,hx,rfl⟩:=ES.mp hb;exact h x hx⟩
 have e2:D.reverse.map (kk κ)=EK D.length a:=List.eq_replicate_iff.mpr ⟨by simp,fun b hb=>by
  obtain ⟨x,hx,rfl⟩:=ES.mp hb;exact h x (Em.mp hx)⟩
 rw[e1,e2]
theorem j9 {st:SortSt} {P L:List Keyed} {n m i j:Nat} {Q:Unit->SortSt->Prop} (e:(arrOf st).toList=P++L) (q:zj κ L n m) (ei:i=P.length+n-(m+1)) (ej:j=P.length+n)
  (h:∀st' L',Kp st st'->(arrOf st').toList=P++L'->L'.Perm L->L'.map (kk κ)=L.map (kk κ)->(∀k,n<=k->L'[k]?=L[k]?)->Q () st'):wpS (model prog w) A E s (reverseSlice' i j) Q st:=by
 obtain ⟨D1,D2,S,a,rfl,l1,l2,al⟩:=q;refine wpS_reverse ?_;have er:(arrOf st).toList=(P++D1)++(D2++S):=by rw[e];simp
 have em:=ju er;have i1:i=(P++D1).length:=by rw[D7];lia
 have j1:j=(P++D1).length+D2.length:=by rw[D7];lia
 rw[i1,j1];refine h (setArr st (mirror (arrOf st) (P++D1).length ((P++D1).length+D2.length) (((P++D1).length+D2.length-(P++D1).length)/2))) (D1++(D2.reverse++S)) ⟨rfl,rfl,rfl⟩ ?_ ?_ ?_ fun k hk=>?_
 ·rw[<-DU];exact em
 ·exact EZ _ (Eo _ (List.reverse_perm _))
 ·simp only[EA];rw[uN al]
 ·rw[DH (by lia),DH (by rw[Et];lia),DH (by lia),DH (by lia),Et]
theorem Kp.trans {a b c:SortSt} (h1:Kp a b) (h2:Kp b c):Kp a c:=⟨h2.kind.trans h1.kind,h2.failed.trans h1.failed,h2.pend.trans h1.pend⟩
theorem nQ {L:List Keyed} {n:Nat} (h:n<L.length):zj κ L (n+1) 0:=by
 refine ⟨L.take n,[L[n]],L.drop (n+1),kk κ L[n],?_,by rw[DK];simp;lia,rfl,fun x hx=>by simp at hx;rw[hx]⟩
 have:=Ei h;rw[List.singleton_append,<-this,E6]
theorem zj.more {L:List Keyed} {n m:Nat} {x y:Keyed} (h:zj κ L n m) (hy:L[n-1]?=some y) (hx:L[n]?=some x) (e:kk κ x=kk κ y):zj κ L (n+1) (m+1):=by
 obtain ⟨D1,D2,S,a,rfl,l1,l2,al⟩:=h;have my:y∈D2:=by
  rw[DH (by lia),DQ (by lia)] at hy
  exact D6 hy
 rw[DH (by lia),DH (by lia)] at hx
 have z:n-D1.length-D2.length=0:=by lia
 rw[z] at hx;cases S with
 |nil=>simp at hx
 |cons s S=>
  simp at hx;subst hx;refine ⟨D1,D2++ [s],S,a,by simp,by simp;lia,by simp;lia,fun u hu=>?_⟩
  rcases DO.mp hu with k|k
  ·exact al u k
  ·simp at k;rw[k,e];exact al y my
theorem wF {st st6:SortSt} {P L R:List Keyed} {n:Nat} {f:Unit->StateT SortSt Sem (Option Nat)} {Q:Option Nat->SortSt->Prop} (kp:Kp st st6) (e:(arrOf st6).toList=P++L) (pr:L.Perm R) (hn:n<=R.length) (ni:NI κ L n)
  (h:∀st7 M,Kp st st7->(arrOf st7).toList=P++M->M.Perm R->(M.take n).Pairwise (Lq κ)->wpS (model prog w) A E s (f ()) Q st7):wpS (model prog w) A E s (reverseSlice' P.length (P.length+n)>>=f) Q st6:=by
 have tl:(L.take n).length=n:=by rw[DK,pr.length_eq];lia
 have er:(arrOf st6).toList=P++(L.take n++L.drop n):=by rw[E6];exact e
 have em:=ju er;rw[tl] at em;refine wpS_bind (wpS_reverse (h _ ((L.take n).reverse++L.drop n) ⟨kp.kind,kp.failed,kp.pend⟩ em ?_ ?_))
 ·refine Ff.trans (Eo _ (List.reverse_perm _)) ?_;rw[E6];exact pr
 ·rw[List.take_left' (by rw[Et,tl]),List.pairwise_reverse]
  exact ni.falls
theorem pH (hO:nM prog w A E s κ kd) {st:SortSt} {P R:List Keyed} {Q:Option Nat->SortSt->Prop} (hk:kindOf st=kd) (ka:∀x∈R,Kd κ x) (e:(arrOf st).toList=P++R) (hR:1<=R.length)
  (h:∀st' X S,Kp st st'->(arrOf st').toList=P++(X++S)->X.Pairwise (Lq κ)->(X++S).Perm R->1<=X.length->Q (some X.length) st'):wpS (model prog w) A E s (countRun' P.length R.length) Q st:=by
 have got:∀n,1<=n->n<=R.length->(R.take n).Pairwise (Lq κ)->Q (some n) st:=fun n h1 h2 h3=>by
  have q:=h st (R.take n) (R.drop n) ⟨rfl,rfl,rfl⟩ (by rw[E6];exact e) h3 (by rw[E6]) (by rw[DK];lia)
  rwa [DK,FM h2] at q
 unfold countRun';refine eN ?_;try dsimp only
 refine wpS_bind (tu (κ:=κ) (R:=R) rfl (D8 1) hR ?_ (fun n x y i Q' h1 hx hy ht hf=>?_) fun n h1 h2 h3 h4=>?_)
 ·cases R with
  |nil=>simp
  |cons=>simp
 ·refine wpS_bind (iD hO hk ka e hx hy rfl (by lia) ?_)
  cases c:κ.blt (kk κ x) (kk κ y) with
  |true=>exact wpS_pure (ht c)
  |false=>exact wpS_pure (hf c)
 try dsimp only
 by_cases c1:n=R.length
 ·rw[if_pos (beq_iff_eq.mpr c1)];exact wpS_pure (got n h1 h2 h3)
 rw[if_neg (fun z=>c1 (beq_iff_eq.mp z))]
 rcases h4 with h4|⟨x,y,hx,hy,lt⟩
 ·exact absurd h4 c1
 have nl:n<R.length:=by lia
 have all:∀(i j:Nat) (u v:Keyed),i<=j->j<n->R[i]?=some u->R[j]?=some v->Lq κ u v:=fun i j u v hij hj hu hv=>by
  rcases F2 i j with c|c
  ·obtain ⟨l1,g1⟩:=D4.mp hu;obtain ⟨l2,g2⟩:=D4.mp hv;have q:=FI.mp h3 i j (by rw[DK];lia) (by rw[DK];lia) c
   rw[List.getElem_take,List.getElem_take,g1,g2] at q;exact q
  ·have:i=j:=by lia
   subst this;rw[hu] at hv;cases hv;exact KeyOrd.kle_refl _
 by_cases c2:n>1
 case' pos=>
  rw[if_pos c2];obtain ⟨x0,hx0⟩:∃x,R[0]?=some x:=⟨_,D0 (by lia)⟩
  refine wpS_bind (iD hO hk ka e hx0 hy rfl (by lia) ?_)
  try dsimp only
  cases rose:κ.blt (kk κ x0) (kk κ y) with
  |true=>exact wpS_pure (got n h1 h2 h3)
  |false=>?_
  try dsimp only
  rw[if_neg (by decide)]
  have al:∀z∈R.take n,kk κ z=kk κ x0:=fun z hz=>by
   obtain ⟨k,hk'⟩:=DP.mp hz;have kn:k<n:=by
    have:=(D4.mp hk').1;rw[DK] at this
    lia
   rw[Ee kn] at hk';have a1:=all 0 k x0 z (by lia) kn hx0 hk'
   have a2:=all k (n-1) z y (by lia) (by lia) hk' hy
   exact KeyOrd.kle_antisymm (O:=κ.toKeyOrd) (KeyOrd.kle_trans (O:=κ.toKeyOrd) a2 rose) a1
  have eq0:zj κ R n (n-1):=⟨[],R.take n,R.drop n,kk κ x0,by simp,by rw[DK];simp;lia,by rw[DK];lia,al⟩
  have ni0:NI κ R n:=by
   unfold NI;rw[<-Fi];refine FX.mpr (List.Pairwise.imp_of_mem (R:=fun _ _=>True) (fun {u v} hu hv _=>?_) (List.pairwise_of_forall fun _ _=>trivial))
   rw[al u hu,al v hv];exact κ.irrefl _
  have ni1:NI κ R (n+1):=ni0.snoc h1 hy hx (KeyOrd.kle_of_klt lt);refine wpS_bind (j9 (κ:=κ) e eq0 (by lia) rfl fun st1 L0 kp1 e1 p1 m1 _=>?_)
  have niL:NI κ L0 (n+1):=by
   unfold NI at ni1⊢;rw[m1];exact ni1
 case' neg=>
  rw[if_neg c2];have n1:n=1:=by lia
  have ni1:NI κ R (n+1):=by
   refine NI.snoc h1 ?_ hy hx (KeyOrd.kle_of_klt lt);rw[n1];unfold NI;cases R with
   |nil=>simp
   |cons=>simp
  have kp1:Kp st st:=⟨rfl,rfl,rfl⟩;have e1:=e;have p1:=List.Perm.refl R;have niL:=ni1
 all_goals
  refine wpS_bind (fq ?_);have n2:2<=n+1:=by lia
  refine wpS_bind (wpS_mono (wpS_forRange (I:=fun i c st'=>∃L m,c=(none,i,m)/\Kp st st'/\(arrOf st').toList=P++L/\L.Perm R/\NI κ L i/\zj κ L i m/\2<=i)
   (Q:=fun c st'=>∃n' L m,c=(none,n',m)/\Kp st st'/\(arrOf st').toList=P++L/\L.Perm R/\NI κ L n'/\zj κ L n' m/\2<=n'/\n'<=R.length) ?ds ?de ⟨_,0,rfl,kp1,e1,p1,niL,?i0,n2⟩) ?dp)
  case i0=>
   exact nQ (by rw[p1.length_eq];lia)
  case de=>
   rintro c st' ⟨L,m,rfl,kp,eL,pL,ni,eq,g1⟩;have:max (n+1) R.length=R.length:=by lia
   rw[this] at ni eq g1⊢;exact ⟨_,L,m,rfl,kp,eL,pL,ni,eq,g1,D8 _⟩
  case ds=>
   rintro i c st' hi1 hi2 ⟨L,m,rfl,kp,eL,pL,ni,eq,g1⟩;have hi3:i<L.length:=by rw[pL.length_eq];exact hi2
   have ex:=D0 hi3;have ey:=D0 (show i-1<L.length by lia)
   have kL:∀x∈L,Kd κ x:=fun x hx=>ka x (pL.mem_iff.mp hx)
   have hk':=kp.kind.trans hk;try dsimp only
   refine wpS_bind (iD hO hk' kL eL ex ey rfl (by lia) ?_)
   try dsimp only
   cases c:κ.blt (kk κ L[i]) (kk κ L[i-1]) with
   |true=>
    rw[if_pos rfl]
    by_cases hm:m>0
    ·rw[if_pos hm];refine wpS_bind (j9 (κ:=κ) eL eq rfl rfl fun st6 L6 kp6 e6 p6 m6 g6=>wpS_pure ⟨L6,0,rfl,kp.trans kp6,e6,p6.trans pL,?_,nQ (by rw[p6.length_eq];lia),by lia⟩)
     have:=ni.snoc (by lia) ey ex (KeyOrd.kle_of_klt c)
     unfold NI at this⊢;rw[m6];exact this
    ·rw[if_neg hm];exact wpS_pure ⟨L,0,rfl,kp,eL,pL,ni.snoc (by lia) ey ex (KeyOrd.kle_of_klt c),nQ (by lia),by lia⟩
   |false=>
    rw[if_neg (by decide)]
    refine wpS_bind (iD hO hk' kL eL ey ex (by lia) rfl ?_)
    try dsimp only
    cases c':κ.blt (kk κ L[i-1]) (kk κ L[i]) with
    |true=>exact wpS_pure ⟨i,L,m,rfl,kp,eL,pL,ni,eq,g1,by lia⟩
    |false=>exact wpS_pure ⟨L,m+1,rfl,kp,eL,pL,ni.snoc (by lia) ey ex c',eq.more ey ex (κ.total _ _ c c'),by lia⟩
  case dp=>
   rintro c st' ⟨n',L,m,rfl,kp,eL,pL,ni,eq,g1,g2⟩;try dsimp only
   by_cases hm:m>0
   case' pos=>
    rw[if_pos hm];refine wpS_bind (j9 (κ:=κ) eL eq rfl rfl fun st6 L6 kp6' e6 p6' m6 g6=>?_)
    have kp6:=kp.trans kp6';have p6:=p6'.trans pL;have ni6:NI κ L6 n':=by
     unfold NI at ni⊢;rw[m6];exact ni
   case' neg=>
    rw[if_neg hm];have kp6:=kp;have e6:=eL;have p6:=pL;have ni6:=ni
   all_goals
    refine wF (κ:=κ) kp6 e6 p6 g2 ni6 fun st7 M kp7 e7 p7 s7=>?_
    have rl:=p7.length_eq;have kM:∀x∈M,Kd κ x:=fun x hx=>ka x (p7.mem_iff.mp hx)
    refine wpS_bind (tu (κ:=κ) (R:=M) rl.symm (by lia) (by lia) s7 (fun m x y i Q' h1 hx hy ht hf=>?_) fun m h1 h2 h3 _=>?_)
    ·try dsimp only
     refine wpS_bind (iD hO (kp7.kind.trans hk) kM e7 hx hy rfl (by lia) ?_)
     cases c:κ.blt (kk κ x) (kk κ y) with
     |true=>exact wpS_pure (ht c)
     |false=>exact wpS_pure (hf c)
    ·have q:=h st7 (M.take m) (M.drop m) kp7 (by rw[E6];exact e7) h3 (by rw[E6];exact p7) (by rw[DK];lia)
     rw[DK,FM h2] at q;exact wpS_pure q
end
theorem pI {arr:Array Keyed} {B V W:List Keyed} {x:Keyed} (e:arr.toList=B++(V++x::W)):(bubble arr (B.length+V.length) V.length).toList=B++(x::(V++W)):=by
 have sz:arr.size=B.length+(V.length+(W.length+1)):=by
  have:=congrArg List.length e
  simpa using this
 apply FA;intro k;have q:=getElem?_bubble (xs:=arr) (src:=B.length+V.length) (by lia) V.length (by lia) k
 rw[Nat.add_sub_cancel] at q;have ga:∀i,arr[i]?=(B++(V++x::W))[i]?:=fun i=>by rw[<-e,E3]
 rw[E3,q,ga,ga,ga]
 by_cases c1:k=B.length
 ·rw[if_pos c1];subst c1;simp
 rw[if_neg c1]
 by_cases c2:B.length<k/\k<=B.length+V.length
 ·rw[if_pos c2,DH (by lia),DQ (by lia),DH (by lia)]
  have:k-B.length=(k-1-B.length)+1:=by lia
  rw[this,List.getElem?_cons_succ,DQ (by lia)]
 rw[if_neg c2]
 by_cases c3:k<B.length
 ·rw[DQ c3,DQ c3]
 ·rw[DH (by lia),DH (by lia),DH (by lia)]
  have e1:k-B.length-V.length=(k-B.length-V.length-1)+1:=by lia
  have e2:k-B.length=(k-B.length-1)+1:=by lia
  rw[e1,List.getElem?_cons_succ,e2,List.getElem?_cons_succ,DH (by lia)]
  congr 1
  lia
section
variable {prog:Program} {w:World} {A:Around} {E:GR} {s:Shared} {κ:KeyKind} {kd:SortKind}
theorem uO (hO:nM prog w A E s κ kd) {st:SortSt} {P D S:List Keyed} {ok n:Nat} {Q:Bool->SortSt->Prop} (hn:n=D.length) (hk:kindOf st=kd) (ka:∀x∈D,Kd κ x) (e:(arrOf st).toList=P++(D++S)) (h1:1<=ok) (h2:ok<=D.length) (hs:(D.take ok).Pairwise (Lq κ))
  (h:∀st' X,Kp st st'->(arrOf st').toList=P++(X++S)->X.Pairwise (Lq κ)->X.Perm D->Q true st'):wpS (model prog w) A E s (binarySort' P.length n ok) Q st:=by
 subst hn;unfold binarySort';refine eN ?_;try dsimp only
 have mx:max ok 1=ok:=by lia
 rw[mx];refine wpS_bind (wpS_mono (wpS_forRange (I:=fun k c st'=>c=(none,())/\Kp st st'/\∃X,(arrOf st').toList=P++(X++S)/\X.Perm D/\(X.take k).Pairwise (Lq κ))
  (Q:=fun c st'=>c=(none,())/\Kp st st'/\∃X,(arrOf st').toList=P++(X++S)/\X.Perm D/\X.Pairwise (Lq κ)) ?s1 ?e1 ⟨rfl,⟨rfl,rfl,rfl⟩,D,e,List.Perm.refl _,hs⟩) ?p1)
 case e1=>
  rintro c st' ⟨rfl,kp,X,eX,pX,sX⟩;rw[Nat.max_eq_right h2,ET (by rw[pX.length_eq];exact D8 _)] at sX
  exact ⟨rfl,kp,X,eX,pX,sX⟩
 case p1=>
  rintro c st' ⟨rfl,kp,X,eX,pX,sX⟩;exact wpS_pure (h st' X kp eX sX pX)
 case s1=>
  rintro k c st' hk1 hk2 ⟨rfl,kp,X,eX,pX,sX⟩;have xl:=pX.length_eq;have kaX:∀x∈X++S,x∈X->Kd κ x:=fun x _ hx=>ka x (pX.mem_iff.mp hx)
  have hkx:k<X.length:=by lia
  have ex:=D0 hkx;generalize X[k]=x at ex;have eX':(arrOf st').toList=P++X++S:=by rw[eX,DU]
  have lt:∀{i:Nat} {y:Keyed} {Q':Option Bool->SortSt->Prop},X[i]?=some y->Q' (some (κ.blt (kk κ x) (kk κ y))) st'->wpS (model prog w) A E s (ltAt' (P.length+k) (P.length+i)) Q' st':=fun {i y Q'} hy hq=>by
   have il:=(D4.mp hy).1;rw[ltAt'_eq];refine wpS_bind (wpS_get ?_);exact wpS_bind (aL (yu eX (by rw[DQ hkx];exact ex)) (wpS_bind (aL (yu eX (by rw[DQ il];exact hy)) (iZ hO (kp.kind.trans hk) (ka x (pX.mem_iff.mp (D6 ex))) (ka y (pX.mem_iff.mp (D6 hy))) hq))))
  have mono:∀{i j:Nat} {u v:Keyed},i<=j->j<k->X[i]?=some u->X[j]?=some v->Lq κ u v:=fun {i j u v} hij hj hu hv=>by
   rcases F2 i j with c|c
   ·obtain ⟨l1,g1⟩:=D4.mp hu;obtain ⟨l2,g2⟩:=D4.mp hv;have q:=FI.mp sX i j (by rw[DK];lia) (by rw[DK];lia) c
    rw[List.getElem_take,List.getElem_take,g1,g2] at q;exact q
   ·have:i=j:=by lia
    subst this;rw[hu] at hv;cases hv;exact KeyOrd.kle_refl _
  try dsimp only
  refine wpS_bind (wpS_mono (wpS_forRange (I:=fun i c st''=>st''=st'/\∃l r,c=(none,l,r)/\l<=r/\r<=k/\(∀j u,j<l->X[j]?=some u->Lq κ u x)/\(∀j u,r<=j->j<k->X[j]?=some u->Lq κ x u)/\r-l+i<=k)
   (Q:=fun c st''=>st''=st'/\∃l,c=(none,l,l)/\l<=k/\(∀j u,j<l->X[j]?=some u->Lq κ u x)/\(∀j u,l<=j->j<k->X[j]?=some u->Lq κ x u)) ?s2 ?e2 ⟨rfl,0,k,rfl,by lia,by lia,fun j u z=>absurd z (by lia),fun j u z z'=>absurd z' (by lia),by lia⟩) ?p2)
  case e2=>
   rintro c st'' ⟨rfl,l,r,rfl,a1,a2,a3,a4,a5⟩;have:l=r:=by lia
   subst this;exact ⟨rfl,l,rfl,a2,a3,a4⟩
  case s2=>
   rintro i c st'' _ hi ⟨rfl,l,r,rfl,a1,a2,a3,a4,a5⟩;try dsimp only
   by_cases c:l≥r
   ·rw[if_pos c];have:l=r:=by lia
    subst this;exact wpS_pure ⟨rfl,l,rfl,a2,a3,a4⟩
   ·rw[if_neg c];have ml:(l+r)/2<X.length:=by lia
    have em:=D0 ml;refine wpS_bind (lt em ?_);try dsimp only
    cases cc:κ.blt (kk κ x) (kk κ X[(l+r)/2]) with
    |true=>exact wpS_pure ⟨rfl,_,_,rfl,by lia,by lia,a3,fun j u hj hj2 hu=>KeyOrd.kle_trans (KeyOrd.kle_of_klt cc) (mono hj hj2 em hu),by lia⟩
    |false=>exact wpS_pure ⟨rfl,_,_,rfl,by lia,by lia,fun j u hj hu=>KeyOrd.kle_trans (mono (show j<=(l+r)/2 by lia) (by lia) hu em) cc,a4,by lia⟩
  case p2=>
   rintro c st'' ⟨rfl,l,rfl,a2,a3,a4⟩;try dsimp only
   have eX2:X=X.take l++((X.take k).drop l++x::X.drop (k+1)):=by
    obtain ⟨l1,g1⟩:=D4.mp ex;have d1:X.drop k=x::X.drop (k+1):=by rw[Ei l1,g1]
    have t1:X.take k=X.take l++(X.take k).drop l:=by
     have q:=(E6 l (X.take k)).symm;rw[List.take_take,FM a2] at q;exact q
    rw[<-d1,<-DU,<-t1,E6]
   have lv:((X.take k).drop l).length=k-l:=by rw[Ec,DK];lia
   have lu:(X.take l).length=l:=by rw[DK];lia
   have mU:∀u∈X.take l,Lq κ u x:=fun u hu=>by
    obtain ⟨j,hj⟩:=DP.mp hu;have jl:=(D4.mp hj).1;rw[lu] at jl;rw[Ee jl] at hj;exact a3 j u jl hj
   have mV:∀u∈(X.take k).drop l,Lq κ x u:=fun u hu=>by
    obtain ⟨j,hj⟩:=DP.mp hu;have jl:=(D4.mp hj).1;rw[lv] at jl;rw[F6,Ee (by lia)] at hj
    exact a4 (l+j) u (by lia) (by lia) hj
   have sUV:(X.take l++(X.take k).drop l).Pairwise (Lq κ):=by
    have q:=(E6 l (X.take k)).symm;rw[List.take_take,FM a2] at q;rw[<-q];exact sX
   generalize X.take l=U at*;generalize (X.take k).drop l=V at*;generalize X.drop (k+1)=W at*;subst eX2;have eb:(arrOf st'').toList=(P++U)++(V++x::(W++S)):=by rw[eX];simp
   have bl:=pI eb;have l1:(P++U).length+V.length=P.length+k:=by rw[D7];lia
   rw[l1] at bl;have l2:P.length+k-(P.length+l)=V.length:=by lia
   have sp:=DL.mp sUV;refine wpS_bind ?_;show wpS _ _ _ _ (moveDown' (P.length+k) (P.length+l)) _ _;rw[moveDown'_eq];refine wpS_modify (wpS_pure ⟨rfl,⟨kp.kind,kp.failed,kp.pend⟩,U++(x::(V++W)),?_,?_,?_⟩)
   ·show (bubble (arrOf st'') (P.length+k) (P.length+k-(P.length+l))).toList=_;rw[l2,bl];simp
   ·refine Ff.trans (EZ _ ?_) pX;exact (List.perm_middle).symm
   ·have t:U++(x::(V++W))=(U++x::V)++W:=by simp
    rw[t,List.take_left' (by simp;lia),DL,EF]
    refine ⟨sp.1,⟨mV,sp.2.1⟩,fun u hu v hv=>?_⟩
    rcases DM.mp hv with c|c
    ·rw[c];exact mU u hu
    ·exact sp.2.2 u hu v c
end
def Pd (κ:KeyKind):Nat->List (Nat×Nat×Nat)->List (List Keyed)->Prop
 |_,[],[]=>True
 |a,p::ps,r::rs=>p.1=a/\p.2.1=r.length/\1<=r.length/\r.Pairwise (Lq κ)/\Pd κ (a+r.length) ps rs
 |_,_,_=>False
variable {κ:KeyKind} {kd:SortKind}
theorem Pd.len:∀{a:Nat} {ps:List (Nat×Nat×Nat)} {rs:List (List Keyed)},Pd κ a ps rs->ps.length=rs.length
 |_,[],[],_=>rfl
 |_,_::_,_::_,h=>by simp[Pd.len h.2.2.2.2]
 |_,[],_::_,h=>h.elim
 |_,_::_,[],h=>h.elim
theorem Pd.snoc:∀{a:Nat} {ps:List (Nat×Nat×Nat)} {rs:List (List Keyed)} {p:Nat×Nat×Nat} {r:List Keyed},Pd κ a ps rs->p.1=a+rs.flatten.length->p.2.1=r.length->1<=r.length->r.Pairwise (Lq κ)->Pd κ a (ps++ [p]) (rs++ [r])
 |_,[],[],p,r,_,h1,h2,h3,h4=>⟨by simpa using h1,h2,h3,h4,trivial⟩
 |a,q::ps,u::rs,p,r,h,h1,h2,h3,h4=>⟨h.1,h.2.1,h.2.2.1,h.2.2.2.1,Pd.snoc h.2.2.2.2 (by rw[h1];simp;lia) h2 h3 h4⟩
 |_,[],_::_,_,_,h,_,_,_,_=>h.elim
 |_,_::_,[],_,_,h,_,_,_,_=>h.elim
theorem Pd.big:∀{a:Nat} {ps:List (Nat×Nat×Nat)} {rs:List (List Keyed)},Pd κ a ps rs->rs.length<=rs.flatten.length
 |_,[],[],_=>by simp
 |_,_::_,r::rs,h=>by
  have:=Pd.big h.2.2.2.2;have:=h.2.2.1;rw[List.flatten_cons,D7,EH]
  lia
 |_,[],_::_,h=>h.elim
 |_,_::_,[],h=>h.elim
theorem Pd.modify (f:Nat×Nat×Nat->Nat×Nat×Nat) (hf:∀x,(f x).1=x.1/\(f x).2.1=x.2.1):∀{a:Nat} {ps:List (Nat×Nat×Nat)} {rs:List (List Keyed)} (i:Nat),Pd κ a ps rs->Pd κ a (ps.modify i f) rs
 |_,[],[],i,h=>by cases i<;>exact h
 |_,p::ps,r::rs,0,h=>by
  rw[List.modify_zero_cons];exact ⟨(hf p).1.trans h.1,(hf p).2.trans h.2.1,h.2.2⟩
 |_,p::ps,r::rs,i+1,h=>by
  rw[List.modify_succ_cons];exact ⟨h.1,h.2.1,h.2.2.1,h.2.2.2.1,Pd.modify f hf i h.2.2.2.2⟩
 |_,[],_::_,_,h=>h.elim
 |_,_::_,[],_,h=>h.elim
theorem Pd.two:∀{a:Nat} {ps:List (Nat×Nat×Nat)} {rs:List (List Keyed)} {i:Nat},Pd κ a ps rs->i+1<rs.length->
  ∃RL X Y RT pa pb,rs=RL++X::Y::RT/\RL.length=i/\ps[i]?=some (a+RL.flatten.length,X.length,pa)/\ps[i+1]?=some (a+RL.flatten.length+X.length,Y.length,pb)/\1<=X.length/\1<=Y.length/\X.Pairwise (Lq κ)/\Y.Pairwise (Lq κ)/\
   ∀Z:List Keyed,Z.length=X.length+Y.length->Z.Pairwise (Lq κ)->Pd κ a ((ps.set i (a+RL.flatten.length,X.length+Y.length,pa)).eraseIdx (i+1)) (RL++Z::RT)
 |_,[],[],i,_,hi=>by simp at hi
 |a,p::q::ps,X::Y::rs,0,h,_=>by
  obtain ⟨h1,h2,h3,h4,h5,h6,h7,h8,h9⟩:=h;refine ⟨[],X,Y,rs,p.2.2,q.2.2,rfl,rfl,?_,?_,h3,h7,h4,h8,fun Z hz sz=>?_⟩
  ·simp;rw[<-h1,<-h2]
  ·simp;rw[<-h5,<-h6]
  ·refine ⟨by simp,hz.symm,by lia,sz,?_⟩
   have:a+Z.length=a+X.length+Y.length:=by lia
   rw[this]
   simpa using h9
 |a,[p],X::Y::rs,_,h,_=>h.2.2.2.2.elim
 |a,p::ps,r::rs,i+1,h,hi=>by
  obtain ⟨RL,X,Y,RT,pa,pb,e1,e2,e3,e4,e5,e6,e7,e8,e9⟩:=Pd.two (i:=i) h.2.2.2.2 (by simpa using hi)
  refine ⟨r::RL,X,Y,RT,pa,pb,by rw[e1];rfl,by simp[e2],?_,?_,e5,e6,e7,e8,fun Z hz sz=>?_⟩
  ·simpa [Nat.add_assoc] using e3
  ·simpa [Nat.add_assoc] using e4
  ·have q:=e9 Z hz sz;refine ⟨h.1,h.2.1,h.2.2.1,h.2.2.2.1,?_⟩
   simpa [Nat.add_assoc] using q
 |_,_::_,[_],0,_,hi=>by simp at hi
 |_,[],_::_,_,h,_=>h.elim
 |_,_::_,[],_,h,_=>h.elim
structure Sv (kd:SortKind) (κ:KeyKind) (a0:List Keyed) (st:SortSt) (rs:List (List Keyed)) (rest:List Keyed):Prop where
 kind:kindOf st=kd
 failed:failedOf st=none
 arr:(arrOf st).toList=rs.flatten++rest
 pd:Pd κ 0 (pendingOf st).toList rs
 perm:(rs.flatten++rest).Perm a0
section
variable {prog:Program} {w:World} {A:Around} {E:GR} {s:Shared}
theorem Sv.size {a0:List Keyed} {st:SortSt} {rs:List (List Keyed)} {rest:List Keyed} (h:Sv kd κ a0 st rs rest):(pendingOf st).size=rs.length:=by
 have:=h.pd.len
 simpa using this
theorem pJ (hO:nM prog w A E s κ kd) {a0:List Keyed} {st:SortSt} {rs:List (List Keyed)} {rest:List Keyed} {i:Nat} {Q:Bool->SortSt->Prop} (k0:∀x∈a0,Kd κ x) (h:Sv kd κ a0 st rs rest) (hi:i+1<rs.length)
  (q:∀st' rs',Sv kd κ a0 st' rs' rest->rs'.length+1=rs.length->rs'.flatten.length=rs.flatten.length->Q true st'):wpS (model prog w) A E s (mergeAt' i) Q st:=by
 obtain ⟨RL,X,Y,RT,pa,pb,e1,e2,e3,e4,e5,e6,e7,e8,e9⟩:=h.pd.two hi;simp only[Nat.zero_add] at e3 e4 e9;have ea:(arrOf st).toList=RL.flatten++(X++(Y++(RT.flatten++rest))):=by rw[h.arr,e1];simp
 refine pG hO h.kind h.failed (fun x hx=>k0 x (h.perm.mem_iff.mp (by rw[<-h.arr];exact hx))) ea e7 e8 e5 e6 (by simpa using e3) (by simpa using e4) fun st' Z pz sz hk hf ha hp=>?_
 have zl:Z.length=X.length+Y.length:=by rw[pz.length_eq,D7]
 refine q st' (RL++Z::RT) ⟨hk,hf,by rw[ha];simp,?_,?_⟩ (by rw[e1];simp;lia) (by rw[e1];simp;lia)
 ·rw[hp];have:=e9 Z zl sz
  simpa using this
 ·refine Ff.trans ?_ h.perm;rw[e1];have t1:(RL++Z::RT).flatten++rest=RL.flatten++(Z++(RT.flatten++rest)):=by simp
  have t2:(RL++X::Y::RT).flatten++rest=RL.flatten++((X++Y)++(RT.flatten++rest)):=by simp
  rw[t1,t2];exact EZ _ (Eo _ pz)
end
section
variable {prog:Program} {w:World} {A:Around} {E:GR} {s:Shared}
theorem wG (hO:nM prog w A E s κ kd) {a0:List Keyed} {st:SortSt} {Q:Unit->SortSt->Prop} (hk:kindOf st=kd) (hf:failedOf st=none) (hp:pendingOf st= #[]) (ha:(arrOf st).toList=a0) (k0:∀x∈a0,Kd κ x)
  (h:∀st',(arrOf st').toList.Perm a0->failedOf st'=none->(arrOf st').toList.Pairwise (Lq κ)->Q () st'):wpS (model prog w) A E s sortRuns' Q st:=by
 have S0:Sv kd κ a0 st [] a0:=⟨hk,hf,by simpa using ha,by rw[hp];trivial,by simp⟩
 have sz:(arrOf st).size=a0.length:=by rw[<-ha];simp
 unfold sortRuns';refine eN ?_;refine wpS_bind (wpS_get ?_);dsimp only;rw[sz];generalize (sortPriv% PySem.Builtin.minRun) a0.length a0.length 0=mr;refine wpS_bind (wpS_mono (wpS_forRange (I:=fun x c st'=>∃rs rest,c=(none,rs.flatten.length)/\Sv kd κ a0 st' rs rest/\x<=rs.flatten.length)
  (Q:=fun c st'=>∃rs lo,c=(none,lo)/\Sv kd κ a0 st' rs []) ?s1 ?e1 ⟨[],a0,rfl,S0,by simp⟩) ?p1)
 case e1=>
  rintro c st' ⟨rs,rest,rfl,sv,hx⟩;have l:=sv.perm.length_eq;rw[D7] at l;have:rest= []:=Eb (by lia)
  subst this;exact ⟨rs,_,rfl,sv⟩
 case p1=>
  rintro c st' ⟨rs,lo,rfl,sv⟩;try dsimp only
  refine wpS_bind (wpS_mono (wpS_forRange (I:=fun x c st'=>c=(none,())/\∃rs,Sv kd κ a0 st' rs []/\rs.length+x<=a0.length)
   (Q:=fun c st'=>c=(none,())/\∃rs,Sv kd κ a0 st' rs []/\rs.length<=1) ?s4 ?e4 ⟨rfl,rs,sv,?i4⟩) ?p4)
  case i4=>
   have b:=sv.pd.big;have l:=sv.perm.length_eq;rw[D7] at l;simp only[List.length_nil,Nat.add_zero] at l⊢
   lia
  case e4=>
   rintro c st'' ⟨rfl,rs,sv,hx⟩;exact ⟨rfl,rs,sv,by lia⟩
  case p4=>
   rintro c st'' ⟨rfl,rs,sv,hl⟩;refine wpS_pure (h st'' ?_ sv.failed ?_)
   ·rw[sv.arr];exact sv.perm
   ·rw[sv.arr];have pd:=sv.pd;cases rs with
    |nil=>simp
    |cons r rs=>
     have:rs= []:=Eb (by rw[EH] at hl;lia)
     subst this;cases hq:(pendingOf st'').toList with
     |nil=>rw[hq] at pd;exact pd.elim
     |cons p ps=>
      rw[hq] at pd
      simpa using pd.2.2.2.1
  case s4=>
   rintro x c st'' _ hx ⟨rfl,rs,sv,hl⟩;refine wpS_bind (wpS_get ?_);have ps:=sv.size
   by_cases c1:(pendingOf st'').size<=1
   ·rw[if_pos c1];exact wpS_pure ⟨rfl,rs,sv,by lia⟩
   ·rw[if_neg c1];refine wpS_bind (pJ hO k0 sv ?_ fun st3 rs3 sv3 l3 _=>?_)
    ·have gen:∀b:Bool,(if b=true then (pendingOf st'').size-2-1 else (pendingOf st'').size-2)+1<rs.length:=fun b=>by
      cases b with
      |true=>rw[if_pos rfl];lia
      |false=>rw[if_neg (by decide)];lia
     exact gen _
    ·exact wpS_pure ⟨rfl,rs3,sv3,by lia⟩
 case s1=>
  rintro x c st1 _ hx ⟨rs,rest,rfl,sv,hxl⟩;have l:=sv.perm.length_eq;rw[D7] at l;try dsimp only
  by_cases c1:rs.flatten.length≥a0.length
  ·rw[if_pos c1];have:rest= []:=Eb (by lia)
   subst this;exact wpS_pure ⟨rs,_,rfl,sv⟩
  rw[if_neg c1];have kR:∀x∈rest,Kd κ x:=fun x hx=>k0 x (sv.perm.mem_iff.mp (by simp[hx]))
  have rl:a0.length-rs.flatten.length=rest.length:=by lia
  rw[rl];refine wpS_bind (pH hO sv.kind kR sv.arr (by lia) fun st3 X3 S3 kp3 e3 s3 p3 l3=>?_)
  try dsimp only
  have fin:∀(n:Nat) (st4:SortSt) (rs4:List (List Keyed)) (X S:List Keyed),1<=X.length->n=X.length->X.Pairwise (Lq κ)->kindOf st4=kd->failedOf st4=none->(arrOf st4).toList=rs4.flatten++(X++S)->Pd κ 0 (pendingOf st4).toList rs4->rs4.flatten.length=rs.flatten.length->(rs4.flatten++(X++S)).Perm a0->
    ∃rs' rest',((none:Option Unit),rs.flatten.length+n)=(none,rs'.flatten.length)/\Sv kd κ a0 (setPending st4 ((pendingOf st4).push (rs.flatten.length,n,0))) rs' rest'/\x+1<=rs'.flatten.length:=by
   intro n st4 rs4 X S lX hn sX hk4 hf4 e4 pd4 fl pr;subst hn;have fl2:(rs4++ [X]).flatten.length=rs.flatten.length+X.length:=by
    rw[List.flatten_append,D7,fl];simp
   refine ⟨rs4++ [X],S,by rw[fl2],⟨hk4,hf4,by show (arrOf st4).toList=_;rw[e4];simp,?_,by simpa using pr⟩,by lia⟩
   show Pd κ 0 ((pendingOf st4).push (rs.flatten.length,X.length,0)).toList (rs4++ [X]);rw[F9];exact pd4.snoc (by simp only[Nat.zero_add];exact fl.symm) rfl lX sX
  have sv3:Sv kd κ a0 st3 rs (X3++S3):=⟨kp3.kind.trans sv.kind,kp3.failed.trans sv.failed,e3,by rw[kp3.pend];exact sv.pd,Ff.trans (EZ _ p3) sv.perm⟩
  by_cases cm:X3.length<mr
  case' pos=>
   rw[if_pos cm];have fl:min rest.length mr<=(X3++S3).length:=by rw[p3.length_eq];lia
   have lx:X3.length<=min rest.length mr:=by
    have:=p3.length_eq;rw[D7] at this
    lia
   refine wpS_bind (fq (wpS_bind (uO hO (P:=rs.flatten) (D:=(X3++S3).take (min rest.length mr)) (S:=(X3++S3).drop (min rest.length mr)) (by rw[DK];lia) sv3.kind (fun x hx=>kR x (p3.mem_iff.mp (FO hx))) (by rw[E6];exact e3) l3 (by rw[DK];lia) (by rw[List.take_take,FM lx,List.take_left];exact s3) fun st4 X4 kp4 e4 s4 p4=>?_)))
   have l4:min rest.length mr=X4.length:=by rw[p4.length_eq,DK];lia
   have sv4:Sv kd κ a0 st4 rs (X4++(X3++S3).drop (min rest.length mr)):=⟨kp4.kind.trans sv3.kind,kp4.failed.trans sv3.failed,e4,by rw[kp4.pend];exact sv3.pd,by
    refine Ff.trans (EZ _ (Eo _ p4)) ?_;rw[E6];exact sv3.perm⟩
   have l5:1<=X4.length:=by lia
   simp only[FE,EX,if_false];generalize min rest.length mr=n at l4 sv4⊢;generalize (X3++S3).drop n=S4 at sv4⊢
  case' neg=>
   rw[if_neg cm];have l4:X3.length=X3.length:=rfl;have sv4:=sv3;have s4:=s3;have l5:=l3
  all_goals
   refine wpS_bind (wpS_get ?_)
   split
   ·refine wpS_bind (wpS_mono (wpS_forRange (I:=fun _ c st'=>c=(none,())/\∃rs',Sv kd κ a0 st' rs' _/\rs'.flatten.length=rs.flatten.length) (Q:=fun c st'=>c=(none,())/\∃rs',Sv kd κ a0 st' rs' _/\rs'.flatten.length=rs.flatten.length) ?_ (fun _ _ z=>z) ⟨rfl,rs,sv4,rfl⟩) ?_)
    ·rintro y c st5 _ _ ⟨rfl,rs5,sv5,f5⟩;refine wpS_bind (wpS_get ?_);have ps:=sv5.size
     by_cases cp:(pendingOf st5).size>1
     ·rw[if_pos cp]
      split
      ·split
       ·exact wpS_pure ⟨rfl,rs5,sv5,f5⟩
       ·refine wpS_bind (pJ hO k0 sv5 (by show (pendingOf st5).size-2+1<rs5.length;lia) fun st6 rs6 sv6 _ f6=>?_)
        exact wpS_pure ⟨rfl,rs6,sv6,f6.trans f5⟩
      ·exact wpS_pure ⟨rfl,rs5,sv5,f5⟩
     ·rw[if_neg cp];exact wpS_pure ⟨rfl,rs5,sv5,f5⟩
    ·rintro c st5 ⟨rfl,rs5,sv5,f5⟩;try dsimp only
     refine wpS_bind (wpS_modify (wpS_bind (wpS_modify (wpS_pure ?_))));exact fin _ (setPending st5 ((pendingOf st5).modify ((pendingOf st5).size-1) fun x=>(x.fst,x.2.fst,_))) rs5 _ _ l5 l4 s4 sv5.kind sv5.failed sv5.arr (by
      show Pd κ 0 ((pendingOf st5).modify _ _).toList rs5;rw[Array.toList_modify];refine Pd.modify _ ?_ _ sv5.pd;exact fun x=>⟨rfl,rfl⟩) f5 sv5.perm
   ·exact wpS_bind (wpS_modify (wpS_pure (fin _ _ rs _ _ l5 l4 s4 sv4.kind sv4.failed sv4.arr sv4.pd rfl sv4.perm)))
end
section
variable {prog:Program} {w:World} {A:Around} {E:GR} {s:Shared}
theorem nM.of_one (hO:κ.OneLt):nM prog w A E s κ oneType':=by
 intro st x y Q hk hx hy h;obtain ⟨a,ha⟩:=hx;obtain ⟨b,hb⟩:=hy;have e1:kk κ x=a:=by unfold kk;rw[ha];rfl
 have e2:kk κ y=b:=by unfold kk;rw[hb];rfl
 rw[e1,e2] at h;rw[lt'_eq];refine wpS_bind (wpS_get ?_);rw[hk,keyLt'_oneType];refine wpS_bind (wpS_lift (wpAny_attempt (hO prog w A _ s x.1 y.1 a b ha hb ⟨rfl,?_⟩)));exact wpS_pure h
end
end So
namespace Sw
open PySem L2 XH PySem.NumText
def sL (z:Str):List Nat:=z.cps.toList
def Dp (l:List Nat):Str:=⟨l.toArray⟩
theorem nR (z:Str):(sL z).length=z.length:=by simp[sL,Str.length]
theorem z7 (x y:Str):sL (x++y)=sL x++sL y:=by
 show (x.cps++y.cps).toList=_;rw[DS]
 rfl
theorem z8 (z:Str) (c:Nat):(!(Builtin.Str.occurrences z (Dp [c]) 0 z.length 1).isEmpty)=decide (c∈sL z):=StrLaws.found_one z c
theorem DE {b:Bool} {A B:Prop} (h1:b=false->A) (h2:b=true->B):if (!b)=true then A else B:=by
 cases b with
 |false=>exact gS (h1 rfl)
 |true=>exact dR (h2 rfl)
end Sw
namespace L2
open PySem PySem.Spec PyProof.Rows XH
def nS (js:List Nat) (tc:TT) (te:TE) (σ:St) (Q:VK):It->Hp->Prop:=fun J H1=>∀p,H1 p=none->∃W:Nat->Nat->List V->Hp->Prop,(∃m,W 0 m [] (av H1 p (.lst [])))/\
 ∀i m ys H2,W i m ys H2->H2 p=some (.lst ys)/\((J.stop i H2/\Q (.ref p) H2)∨(J.go i H2/\ys.length<sizeLine/\∀x H3,J.yld i H2 x H3->tc (some x::aM js σ) H3 fun b H4=>
  if b=true then te (some x::aM js σ) H4 fun y H5=>H5 p=some (.lst ys)/\∃m',m'<m/\W (i+1) m' (ys++ [y]) (av H5 p (.lst (ys++ [y]))) else ∃m',m'<m/\W (i+1) m' ys H4))
def tz (wi:TI) (js:List Nat) (tc:TT) (te:TE):TE:=fun σ H Q=>wi σ H (nS js tc te σ Q)
section
variable {prog:Program} {w:World} {A:Around} {R:Result->Shared->Prop} {s:Shared}
theorem jv {elt target iter cond:Expr} {scope:Scope} {pos:Pos} {it acc:Value} {env:Env} (I:Nat->Shared->Prop)
  (turn:∀n s,I n s->wpAny (model prog w) A (pyNext it) (fun r s1=>match r with
   |none=>R (.ok .next) s1
   |some v=>wpAny (model prog w) A (letOwnedTupleGo target it v) (fun _ s2=>wpAny (model prog w) A (assign target env v) (fun _ s3=>wpAny (model prog w) A (isTrue cond env (eval cond env)) (fun ok s4=>
     if ok=true then wpAny (model prog w) A (eval elt env) (fun x s5=>wpAny (model prog w) A (call (.builtin "list.append") [acc,x]) (fun _ s6=>∃m,m<n/\I m s6) (fun _ _=>False) s5) (fun _ _=>False) s4
     else ∃m,m<n/\I m s4) (fun _ _=>False) s3) (fun _ _=>False) s2) (fun _ _=>False) s1) (fun _ _=>False) s)
  (n:Nat) (h:I n s):codeAny (model prog w) A (.compLoop (.ListComp elt [⟨target,iter,[cond],0⟩] scope pos) 0 it acc env) R s:=by
 apply codeAny_loop rfl I ?_ n h;intro n s hI;show wpAny _ _ ((compTurn (.ListComp elt [⟨target,iter,[cond],0⟩] scope pos) 0 it acc env).onRaise _) _ _ s;apply wpAny_noted;rw[compTurn_list];apply wpAny_bind;apply wpAny_standAt;apply wpAny_bind;refine wpAny_mono (turn n s hI) (fun r s1 h1=>?_) fun _ _ z=>z.elim
 cases r with
 |none=>exact wpAny_pure h1
 |some v=>
  apply wpAny_bind;refine wpAny_mono h1 (fun _ s2 h2=>?_) fun _ _ z=>z.elim
  apply wpAny_bind;refine wpAny_mono h2 (fun _ s3 h3=>?_) fun _ _ z=>z.elim
  apply wpAny_bind;refine wpAny_mono (wpAny_tests_one h3) (fun ok s4 h4=>?_) fun _ _ z=>z.elim
  cases ok with
  |true=>
   apply wpAny_bind;apply wpAny_bind;refine wpAny_mono h4 (fun x s5 h5=>?_) fun _ _ z=>z.elim
   apply wpAny_bind;refine wpAny_mono h5 (fun _ s6 h6=>?_) fun _ _ z=>z.elim
   exact wpAny_pure (wpAny_pure ⟨rfl,h6⟩)
  |false=>
   have h4':∃m,m<n/\I m s4:=h4;exact wpAny_pure ⟨rfl,h4'⟩
end
section
variable {X:Cx} {scope:Scope} {cl:List (Str×Addr)} {own:Str} {ys:GV} {js:List Nat} {elt iter cond:Expr} {px pos:Pos} {wi:TI} {te:TE} {tc:TT}
theorem gJ (hc:X.calm=true) (ok:gW X scope cl own ys js) (hi:PI X (.Name own px) iter wi)
  (hq:∀(C:Addr) (fp:GW) (s:Shared) (H:Hp),PT (X.block scope cl C (own::ys) own fp s H) cond tc)
  (he:∀(C:Addr) (fp:GW) (s:Shared) (H:Hp),PE (X.block scope cl C (own::ys) own fp s H) elt te)
  (hs:∀x,foldedSetIterable iter X.env x=pure x:=by intro _;rfl):PE X (.ListComp elt [⟨.Name own px,iter,[cond],0⟩] scope pos) (tz wi js tc te):=by
 intro pins s σ H Q I h;rw[eval_ListComp];have ncell:∀y∈scope.names,y.2≠ .cell:=fun y hy z=>by
  have q:=EY.mp ok.nocell y hy;rw[z] at q;simp at q
 have nloc:∀y∈scope.names,y.2= .local->scope.names.lookup y.1=some .local:=fun y hy z=>by
  have q:=EY.mp ok.loc y hy;rw[z] at q
  simpa using q
 refine wpAny_comprehension_free (use:=none) rfl hs ok.clos ok.kind nloc (a9 (hi pins s σ H _ I h) fun v s1 h1=>a9 h1 fun itv s2 h2=>?_)
 obtain ⟨it,fp,tn,J,H2,rfl,I2,T,st2,f2,q2⟩:=h2;obtain ⟨W,⟨m0,w0⟩,turn⟩:=q2 s2.heap.objs.size (I2.hok.fresh (D8 _));refine wpAny_newObj_type (wpAny_newFunctionEnv ncell (by intro y hy;simp at hy) (fun h1 hns hsb=>?_) ok.kind)
 have I3:=I2.laid (a:=s2.heap.objs.size) (o:= .lst []) (h':=s2.heap.push {cls:= .type "list",dict:=none,data:= .seq ([]:GX).toArray}) (t':=s2.toks) (fun b u q=>Heap.get?_push_of_some _ q) (D8 _)
  ⟨EC _,[],0,.nil,Heap.get?_push_size _ rfl⟩
 have fpo:∀b∈fp,b<s2.heap.objs.size:=fun b hb=>by
  obtain ⟨o,e,_⟩:=T.obj 0 _ st2 b hb;exact Heap.lt_size e
 have f3:∀b∈fp,df X pins (av H2 s2.heap.objs.size (.lst [])) b:=fun b hb=>⟨by rw[ar (DI (fpo b hb))];exact (f2 b hb).1,(f2 b hb).2⟩
 generalize hs3:({s2 with heap:=s2.heap.push {cls:= .type "list",dict:=none,data:= .seq ([]:GX).toArray},toks:=s2.toks}:Shared)=s3 at I3
 have e3:s3.heap=s2.heap.push {cls:= .type "list",dict:=none,data:= .seq ([]:GX).toArray}:=by rw[<-hs3]
 have lt3:∀b∈fp,b<s3.heap.objs.size:=fun b hb=>by rw[e3,Heap.size_push];exact EN (fpo b hb)
 dsimp only at hns hsb⊢;rw[<-e3] at hns hsb;have hk:∀b o,s3.heap.get? b=some o->h1.get? b=some o:=fun b o e=>hsb.extBut b o (DI (Heap.lt_size e)) (Heap.get?_push_of_some _ e)
 have J0:=dL (h1:=h1) ok I3 f3 lt3 hns hk (s2.toks+0);have t0:tn 0 h1:=T.keep 0 _ _ st2 fun b hb o e=>hk b o (by rw[e3];exact Heap.get?_push_of_some _ e)
 have fpB:∀{H':Hp},(∀b∈fp,H' b=none)->∀b∈fp,df (X.block scope cl s3.heap.objs.size (own::ys) own fp s3 (av H2 s2.heap.objs.size (.lst []))) [] H' b:=fun {H'} hn b hb=>
  ⟨hn b hb,DI (lt3 b hb),fun z=>(DM.mp (I3.stkSub b z)).elim (f3 b hb).2.1 (f3 b hb).2.2.1,.inl hb,fun x c e=>(f3 b hb).2.2.2.2.1 x c (ok.sub (x,c) (ER e)),fun p hp=>absurd (show p∈([]:GT) from hp) (by simp)⟩
 have loop:codeAny (model X.prog X.w) X.A (.compLoop (.ListComp elt [⟨.Name own px,iter,[cond],0⟩] scope pos) 0 (.ref it) (.ref s2.heap.objs.size) (compEnvC scope cl s3.heap.objs.size X.env))
   (compPost (model X.prog X.w) X.A X.xe none (EP X pins σ Q) (.ref s2.heap.objs.size) s3.heap.objs.size) {s3 with heap:=h1,toks:=s2.toks+0}:=by
  refine jv (fun n s'=>∃i zs o0 H',aE (X.block scope cl s3.heap.objs.size (own::ys) own fp s3 (av H2 s2.heap.objs.size (.lst []))) [] (o0::aM js σ) H' s'/\tn i s'.heap/\(∀b∈fp,H' b=none)/\W i n zs H') ?_ m0
   ⟨0,[],none,_,J0,t0,fun b hb=>(f3 b hb).1,w0⟩
  rintro n s5 ⟨i,zs,o0,H5,I5,t5,n5,w5⟩;obtain ⟨hD,hw⟩:=turn i n zs H5 w5;rcases hw with ⟨stop,qn⟩|⟨go,hz,step⟩
  ·refine a9 (T.done (X.block scope cl s3.heap.objs.size (own::ys) own fp s3 (av H2 s2.heap.objs.size (.lst []))) rfl rfl rfl hc i [] s5 _ H5 (fun _ _=>False) I5 (fpB n5) t5 stop) fun r s6 ⟨hr,I6⟩=>?_
   subst hr;obtain ⟨m,hn,_⟩:=id I6.loc;exact ⟨m,hn,fun h' hs'=>⟨V.ref s2.heap.objs.size,H5,fo I3 f3 I6 hs',rfl,qn⟩⟩
  ·refine a9 (T.item (X.block scope cl s3.heap.objs.size (own::ys) own fp s3 (av H2 s2.heap.objs.size (.lst []))) rfl rfl rfl hc i [] s5 _ H5 (fun _ _=>False) I5 (fpB n5) t5 go) fun r s6 ⟨u,hr,h6⟩=>?_
   subst hr;refine a9 h6 fun _ s7 ⟨x,H7,I7,r7,y7,t7,n7⟩=>?_
   have I7':=I7.pinned (fpB n7) (T.obj _ _ t7);have hst:=step x H7 y7;have own':(relabel scope X.env).names.lookup own=some .local:=lookup_relabel_local ok.ownL;refine a9 (fL (X:=X.block scope cl s3.heap.objs.size (own::ys) own fp s3 (av H2 s2.heap.objs.size (.lst []))) (i:=0) (x:=own) (pos:=px) ok.nd rfl (.inl own') (.inr own') _ s7 _ H7 x u (fun σ' H'=>σ'=some x::aM js σ/\H'=H7) I7' r7 ⟨rfl,rfl⟩) fun _ s8 ⟨σ8,H8,I8,e8,eH8⟩=>?_
   subst e8 eH8;refine a9 (hq _ _ _ _ _ s8 _ H8 _ I8 hst) fun ok s9 ⟨H9,I9,h9⟩=>?_
   have frame:∀{s':Shared} {H':Hp},aE (X.block scope cl s3.heap.objs.size (own::ys) own fp s3 (av H2 s2.heap.objs.size (.lst []))) ([]++iQ fp s7.heap) (some x::aM js σ) H' s'->tn (i+1) s'.heap/\∀b∈fp,H' b=none:=fun {s' H'} I'=>
    ⟨T.keep _ _ _ t7 fun b hb o e=>(I'.pin (b,o) (DJ _ (DJ _ (bu hb e)))).1,fun b hb=>by
     obtain ⟨o,e,d⟩:=T.obj _ _ t7 b hb;exact (I'.pin (b,o) (DJ _ (DJ _ (bu hb e)))).2.1⟩
   cases ok with
   |true=>
    refine a9 (he _ _ _ _ _ s9 _ H9 _ I9 h9) fun yv s10 ⟨y,H10,I10,r10,hD10,m',hm,w10⟩=>?_
    refine a9 (bo _ s10 _ H10 (.ref s2.heap.objs.size) [y] (.ref s2.heap.objs.size) [yv] (fun _ H'=>H'=av H10 s2.heap.objs.size (.lst (zs++ [y]))) I10 rfl (.cons r10 .nil) ⟨_,zs,y,rfl,rfl,hD10,hz,rfl⟩) fun _ s11 ⟨_,H11,I11,_,e11⟩=>?_
    subst e11;exact ⟨m',hm,i+1,zs++ [y],some x,_,I11.unpinned,(frame I11).1,(frame I11).2,w10⟩
   |false=>
    obtain ⟨m',hm,w10⟩:=h9;exact ⟨m',hm,i+1,zs,some x,_,I9.unpinned,(frame I9).1,(frame I9).2,w10⟩
 subst hs3;exact codeAny_compStart_list loop (T.self _ 0 _ _ _ t0 loop)
end
section
variable {prog:Program} {w:World} {κ:Type} [DecidableEq κ] {knd:KeyKind prog w κ} {A:Around} {E:GR} {s:Shared}
def Dq (prog:Program) (w:World) (A:Around) (s:Shared) (v y:Value):Prop:=∀(E:GR) (Q:Bool->Shared->Prop),Q true s->wpAny (model prog w) A (eqBool v y) Q E s
theorem wH {nm:String} {a b:Addr} {ka kb:List (κ×Value)} {Q:Bool->Shared->Prop} (na:(a==sysModules)=false) (nb:(b==sysModules)=false)
  (da:s.heap.DictOf knd a ka) (db:s.heap.DictOf knd b kb) (hl:ka.length=kb.length) (hits:∀(i:Nat) (k:κ) (v:Value),ka[i]?=some (k,v)->∃y,valueAt kb k=some y/\Dq prog w A s v y) (q:Q true s):
  wpAny (model prog w) A (Builtin.Dict.samePairs nm a b) Q E s:=by
 obtain ⟨o1,t1,e1,g1,_,d1,k1,p1,_⟩:=da;obtain ⟨o2,t2,e2,g2,_,d2,k2,p2,_⟩:=db;have n1:ka.length=t1.size:=p1.length.symm.trans DW;have n2:kb.length=t2.size:=p2.length.symm.trans DW;have look:∀k,findBy knd.is t2 k=valueAt kb k:=by
  intro k;rw[<-p2.find k];clear n2 p2 k2 d2 g2;rcases t2 with ⟨l⟩
  simp[findBy]
 have sz:t1.size=t2.size:=by rw[<-n1,<-n2,hl]
 simp only[Builtin.Dict.samePairs,Builtin.Dict.showsAll,na,nb,EX,if_false];apply wpAny_bind;apply wpAny_pure;apply wpAny_bind;apply wpAny_pure;apply wpAny_bind;apply wpAny_dictEntries g1 d1;apply wpAny_bind;apply wpAny_dictEntries g2 d2;have ns:(t1.size !=t2.size)=false:=by simp[sz]
 rw[ns];apply wpAny_bind;apply wpAny_dictEpoch g1 d1;apply wpAny_bind
 rewrite [Std.Legacy.Range.forIn_eq_forIn_range']
 simp only[Nat.sub_zero,Nat.div_one,Nat.add_sub_cancel,Std.Legacy.Range.size];apply wpAny_forIn_list _ (fun rest r s'=>s'=s/\r=(none,())/\∃i,rest=List.range' i (t1.size-i)/\i<=t1.size)
 case h=>exact ⟨rfl,rfl,0,by simp,EC _⟩
 case fin=>
  rintro r s' ⟨rfl,rfl,_⟩;exact wpAny_pure q
 case turn=>
  rintro x rest r s' ⟨rfl,rfl,i,er,hi⟩;have hlt:i<t1.size:=by
   apply Nat.lt_of_not_le;intro c;rw[Nat.sub_eq_zero_of_le c] at er;simp at er
  have one:t1.size-i=(t1.size-(i+1))+1:=by lia
  rw[one,List.range'_succ] at er;injection er with ex erest
  subst ex;apply wpAny_bind;apply wpAny_dictEntries g1 d1;rw[DZ hlt];have hlk:x<ka.length:=by rw[n1];exact hlt
  have hat:ka[x]?=some (ka[x].1,ka[x].2):=D0 hlk;obtain ⟨y,hy,le⟩:=hits x _ _ hat;obtain ⟨ky,vy⟩:=p1.get? (i:=x) (e:=t1[x]) (by rw[E3];exact DZ hlt) hat
  obtain ⟨k',hk',hh⟩:=k1 t1[x] (Array.getElem_mem hlt);rw[knd.inj _ _ _ hk' ky] at hh;show wpAny _ _ (holding [t1[x].key,t1[x].val] _>>=_) _ _ _;rw[hh];apply wpAny_bind;apply wpAny_holding;apply wpAny_bind;apply wpAny_dictFind_of ky g2 d2 k2;have fnd:=look ka[x].1;rw[hy,findBy_of_findIdx?] at fnd;cases hj:t2.findIdx? fun e=>knd.is ka[x].1 e.key with
  |none=>rw[hj] at fnd;cases fnd
  |some j=>
   obtain ⟨jlt,_⟩:=Array.findIdx?_eq_some_iff_getElem.mp hj;rw[hj] at fnd;have ev:t2[j].val=y:=by simpa [DZ jlt] using fnd
   apply wpAny_bind;apply wpAny_dictEntries g2 d2;rw[DZ jlt];apply wpAny_holding;rw[ev,vy];apply le;apply wpAny_bind;apply wpAny_dictEpoch g1 d1;rw[if_neg (by simp)]
   exact wpAny_pure ⟨rfl,rfl,x+1,erest,hlt⟩
theorem yw {c d:Addr} {ka kb:List (κ×Value)} {Q:GR} (na:(c==sysModules)=false) (nb:(d==sysModules)=false) (da:s.heap.DictOf knd c ka) (db:s.heap.DictOf knd d kb) (hu:A.units<cLine)
  (hl:ka.length=kb.length) (hits:∀(i:Nat) (k:κ) (v:Value),ka[i]?=some (k,v)->∃y,valueAt kb k=some y/\Dq prog w A.in1 s v y) (q:Q (.bool true) s):wpAny (model prog w) A (compareOp .Eq (.ref c) (.ref d)) Q E s:=by
 apply wpAny_richCompare_same_room (op:= .Eq) da.typeIs db.typeIs PySem.F.slot_dict_eq ?_ hu;apply wpAny_call_entry PySem.F.slot_dict_eq da.typeIs PySem.F.entry_dict_eq ?_ (PySem.F.args_dict_eq_2 _ _);show wpAny _ _ (Builtin.Dict.dictSlotArgs "__eq__" ⟨[.ref c,.ref d],[]⟩>>=_) _ _ s;apply wpAny_bind;unfold Builtin.Dict.dictSlotArgs;apply wpAny_bind;apply wpAny_notOrdered_dict da.typeIs;show wpAny _ _ (pure (Value.ref c,Value.ref d)) _ _ s;apply wpAny_pure;apply wpAny_bind;apply wpAny_isInstance (T:= "dict") db.typeIs PySem.F.sub_dict_dict;simp only[if_false,FE,EX];apply wpAny_bind;apply wpAny_pure;apply wpAny_bind;apply wpAny_pure;apply wpAny_bind;apply wH na nb da db hl hits;exact wpAny_pure ⟨_,rfl,(fun z=>nomatch z),q⟩
end
theorem yx:typeLookup (.type "list_reverseiterator") "__len__" =pure none:=by
 rw[typeLookup_type,builtinLookup_eq_fast]
 kernel_rfl
theorem wI:typeLookup (.type "list_reverseiterator") "__length_hint__" =pure (some (.builtin "list_reverseiterator.__length_hint__")):=by
 rw[typeLookup_type,builtinLookup_eq_fast]
 kernel_rfl
section
variable {prog:Program} {w:World} {A:Around} {R:Result->Shared->Prop} {s:Shared} {I l S:Addr} {items:Array Value}
abbrev Aa (items:Array Value):Nat->Value->Prop:=fun i v=>items[items.size-1-i]?=some v
theorem rK (hh:A.in1.handled=none) (hlI:l≠I) (hSI:S≠I) (hSl:S≠l) (res:Value) (c:Nat) (hit:s.heap.IsRevIter I l ((items.size:Int)-1)) (hl:s.heap.IsList l items)
  (hS:s.heap.get? S=some {cls:= .type "list",data:= .seq #[] c}) (hn:items.size<=sizeLine)
  (fin:∀s' acc c',Moved [S,I] (fun a b=>b=a) s s'->s'.heap.get? S=some {cls:= .type "list",dict:=none,data:= .seq acc c',slots:= #[]}->ItemsOf (Aa items) acc items.size->R (.ok (.ret res)) s'):
  wpAny (model prog w) A.in1 (Builtin.List.listExtendWith (.ref S) (.ref I) res)
   (fun fin s'=>match fin with| .done f=>R (.ok f) s'| .again c'=>c'.quiet=true/\codeAny (model prog w) A c' R s') (fun e s'=>R (.error e) s') s:=by
 have ty:s.TypeIs (.ref I) "list_reverseiterator" :=hit.typeIs;have ns:Builtin.List.listSameRef (.ref S) (.ref I)=false:=by
  simp[Builtin.List.listSameRef,hSI]
 unfold Builtin.List.listExtendWith;apply wpAny_bind;apply wpAny_typeOf ty;rw[if_neg (by rw[ns];decide)]
 apply wpAny_bind;apply wpAny_pyIter_revIter hit;apply wpAny_bind;apply wpAny_holding;unfold Builtin.List.listLengthHint;apply wpAny_bind;apply wpAny_specialOf ty yx;show wpAny _ _ (specialOf (Value.ref I) (Str.ofString "__length_hint__")>>=_) _ _ s;apply wpAny_bind;apply wpAny_specialOf ty wI;generalize hid:("list_reverseiterator.__length_hint__" :String)=id0
 wp_delta
 rw[show splitId id0=some ("list_reverseiterator","__length_hint__") from by subst hid;decide+kernel]
 subst hid;apply wpAny_bind;refine wpAny_isInstance (b:=true) ty (by rw[isSubtype_type];kernel_rfl) ?_
 apply wpAny_pure;rw[if_neg (by decide)]
 have W:=(Walks.listRev (prog:=prog) (w:=w) hh I l hlI items).toS;have out:S∉ [I,l]:=by
  simp only[DM,Eh,or_false,not_or];exact ⟨hSI,hSl⟩
 have st:(0:Nat)<=items.size/\s.heap.IsRevIter I l ((items.size:Int)-1-((0:Nat):Int))/\s.heap.IsList l items:=⟨EC _,by simpa using hit,hl⟩
 apply wpAny_pure;refine ⟨plainId_quiet PySem.F.plain_extend_loop _,?_⟩;exact codeAny_extend_loopS W hn S out res items.size 0 s #[] c rfl (EC _) st hS (ItemsOf.nil _) fin
theorem wJ {E:GR} {Q:GR} (hh:A.handled=none) (hlI:l≠I) (hit:s.heap.IsRevIter I l ((items.size:Int)-1)) (hl:s.heap.IsList l items) (hn:items.size<=sizeLine)
  (fin:∀h' tk acc c',(∀b o,b≠I->s.heap.get? b=some o->h'.get? b=some o)->h'.get? s.heap.objs.size=some {cls:= .type "list",dict:=none,data:= .seq acc c',slots:= #[]}->ItemsOf (Aa items) acc items.size->Q (.ref s.heap.objs.size) {s with heap:=h',toks:=tk}):
  wpAny (model prog w) A (call (.type "list") [.ref I]) Q E s:=by
 have lI:I<s.heap.objs.size:=by
  obtain ⟨o,e,_⟩:=hit;exact Heap.lt_size e
 have ll:l<s.heap.objs.size:=by
  obtain ⟨o,e,_⟩:=hl;exact Heap.lt_size e
 refine callType_codes (Q₁:=fun v s1=>v= .ref s.heap.objs.size/\s1={s with heap:=s.heap.push {cls:= .type "list",data:= .seq #[]}}) PySem.F.called_list (PySem.F.typeCall_list_1 _) PySem.F.entry_list_init (code_list_new _ ⟨rfl,rfl⟩) ?_
 rintro v s1 ⟨rfl,rfl⟩;have e0:(s.heap.push {cls:= .type "list",data:= .seq #[]}).get? s.heap.objs.size=some {cls:= .type "list",data:= .seq #[]}:=Heap.get?_push_size _ rfl;refine ⟨⟨_,e0,rfl⟩,PySem.F.args_list_init_2 _ _,?_⟩;show wpAny _ _ (Builtin.List.listItems (.ref s.heap.objs.size)>>=fun old=>Builtin.List.listUpdate (.ref s.heap.objs.size) (fun _=> #[])>>=fun _=>letGo old.toList.reverse>>=fun _=>Builtin.List.listExtendWith (.ref s.heap.objs.size) (.ref I) .none) _ _ _
 apply wpAny_bind;unfold Builtin.List.listItems;apply wpAny_bind;apply wpAny_seqItems e0 rfl;apply wpAny_pure;show wpAny _ _ (updateSeq s.heap.objs.size (fun _=> #[])>>=fun _=>letGo (#[]:Array Value).toList.reverse>>=fun _=>Builtin.List.listExtendWith (.ref s.heap.objs.size) (.ref I) .none) _ _ _
 apply wpAny_bind;apply wpAny_updateSeq e0 rfl;have e1:=Heap.get?_update_self (Obj.mapSeq (fun _=>(#[]:Array Value))) e0 rfl
 have old:∀b o,b≠s.heap.objs.size->s.heap.get? b=some o->((s.heap.push {cls:= .type "list",data:= .seq #[]}).update s.heap.objs.size (Obj.mapSeq (fun _=>(#[]:Array Value)))).get? b=some o:=fun b o hb e=>
  (Heap.get?_update_other _ _ (Ne.symm hb)).trans (Heap.get?_push_of_some _ e)
 apply wpAny_bind;apply wpAny_letGo;refine rK (A:=A.in1) (by simpa using hh) hlI (Ew lI) (Ew ll) .none _ ?_ ?_ e1 hn fun s' acc c' mv eS it=>?_
 ·obtain ⟨o,e,z⟩:=hit;exact ⟨o,old _ _ (DI lI) e,z⟩
 ·obtain ⟨o,e,z⟩:=hl;exact ⟨o,old _ _ (DI ll) e,z⟩
 ·obtain ⟨h',g',d',tk',os'⟩:=s';have eg:g'=s.gens:=mv.gens;have ed:d'=s.drawn:=mv.drawn;have eo:os'=s.os:=mv.os;subst eg ed eo;refine ⟨rfl,fin h' tk' acc c' (fun b o hb e=>?_) eS it⟩
  refine mv.heap b o ?_ (old b o (DI (Heap.lt_size e)) e);simp only[DM,Eh,or_false,not_or];exact ⟨DI (Heap.lt_size e),hb⟩
end
theorem pK:∀{xs:List V} {us:GX},aS xs us->aS xs.reverse us.reverse
 |_,_,.nil=> .nil
 |_,_,.cons r t=>by
  rw[List.reverse_cons,List.reverse_cons];exact (pK t).append (.cons r .nil)
theorem uQ {us:GX} {acc:Array Value} (h:ItemsOf (Aa us.toArray) acc us.toArray.size):acc.toList=us.reverse:=by
 obtain ⟨h1,h2⟩:=h;refine FA fun i=>?_
 by_cases hi:i<acc.size
 ·have e:=h2 i acc[i] (DZ hi);rw[E3,DZ hi,List.getElem?_reverse (by simpa [h1] using hi)]
  simpa using e.symm
 ·rw[EL (by simpa using hi),EL (by rw[Et];simp[h1] at hi;lia)]
def CW (K:D5) (te:TE):TE:=fun σ H Q=>te σ H fun x H1=>∃a xs,x= .ref a/\aK K H1 a xs/\∀l,H1 l=none->Q (.ref l) (av H1 l (.lst xs.reverse))
section
variable {X:Cx} {e:Expr} {te:TE} {p1 p2 pos pos2:Pos}
theorem rL (hc:X.calm=true) (g1:Gl X "list") (m1:X.mg "list" =none) (g2:Gl X "reversed") (m2:X.mg "reversed" =none) (b1:bootBuiltins "list" =some (.type "list")) (b2:bootBuiltins "reversed" =some (.type "reversed")) (he:PE X e te)
  (hs:starEach [e] X.env= [(false,eval e X.env)]:=by rfl):
  PE X (.Call (.Name "list" p1) [.Call (.Name "reversed" p2) [e] [] pos2] [] pos) (CW X.K te):=by
 intro pins s σ H Q I h;apply wpAny_Call_Name_kw;refine cW I g1 m1 b1 ?_ (by decide) (by decide)
 refine EE ?_ rfl rfl;refine Calls.spliced_cons (x:=eval (.Call (.Name "reversed" p2) [e] [] pos2) X.env) (rest:= []) ?_;apply wpAny_Call_Name_kw;refine cW I g2 m2 b2 ?_ (by decide) (by decide)
 refine EE ?_ hs rfl;rw[hs];refine Calls.spliced_cons (x:=eval e X.env) (rest:= []) (a9 (he pins s σ H _ I h) fun v s1 ⟨x,H1,I1,r1,a,xs,ex,hq,q⟩=>?_)
 subst ex;cases r1;apply Calls.spliced_nil;obtain ⟨its,rv,pl,hz⟩:=I1.list hq;have hli:s1.heap.IsList a its.toArray:=pl.isList;have alt:a<s1.heap.objs.size:=by
  obtain ⟨o,eo,_⟩:=id hli;exact Heap.lt_size eo
 apply call_reversed_list hli;apply Calls.spliced_nil;have I2:aE X pins σ H1 {s1 with heap:=s1.heap.push (revObj a ((its.toArray.size:Int)-1)),toks:=s1.toks}:=I1.kept fun b o e=>Heap.get?_push_of_some _ e
 have sz:its.toArray.size=xs.length:=by rw[DX,rv.length]
 refine wJ (l:=a) (items:=its.toArray) (I.ok.hd hc) (DI alt) ⟨_,Heap.get?_push_size _ rfl,rfl,rfl⟩ (hli.push _) (by rw[sz];exact hz) fun h' tk acc c' kp eL itm=>?_
 have er:=uQ itm;have sl:s1.heap.objs.size<=(s1.heap.push (revObj a ((its.toArray.size:Int)-1))).objs.size:=by
  rw[Heap.size_push];exact Fe _
 refine ⟨.ref _,_,I1.laid (a:=(s1.heap.push (revObj a ((its.toArray.size:Int)-1))).objs.size) (o:= .lst xs.reverse) (h':=h') (t':=tk) (fun b o eo=>kp b o (DI (Heap.lt_size eo)) (Heap.get?_push_of_some _ eo)) sl ?_,rfl,q _ (I1.hok.fresh sl)⟩
 refine ⟨by rw[Et];exact hz,acc.toList,c',by rw[er];exact pK rv,?_⟩
 rw[Array.toArray_toList];exact eL
end
def upTo (ks:Nat->Key) (i:Nat):Key->Bool:=fun k=>(DT i).any fun j=>decide (ks j=k)
theorem uR (ks:Nat->Key) (i:Nat):(fun k=>upTo ks i k||decide (k=ks i))=upTo ks (i+1):=by
 funext k
 unfold upTo;rw[FU,List.any_append];simp[eq_comm]
section
variable {prog:Program} {w:World} {A:Around} {R:Result->Shared->Prop} {I:Addr} {fp wr:GW} {G:Array GenState->Array GenState->Prop} {n:Nat} {P:Nat->Value->Prop} {St:Nat->Shared->Prop}
theorem wK (W:WalksS prog w A.in1 I fp wr G n P St) (S:Addr) (out:S∉fp) (ks:Nat->Key) (hv:∀i v,P i v->(aF prog w).is (ks i) v=true/\v.scannable=true)
  (inj:∀i,i<n->upTo ks i (ks i)=false) (hb:n+1<scanBound):∀(m i:Nat) (s:Shared),n-i=m->i<=n->St i s->s.heap.SetOf (aF prog w) S (upTo ks i) i->
   (∀s',Moved (S::wr) G s s'->s'.heap.SetOf (aF prog w) S (upTo ks n) n->R (.ok (.ret .none)) s')->codeAny (model prog w) A (.builtin "set.update.loop" ⟨[.ref S,.ref I],[]⟩) R s:=by
 have nw:S∉wr:=fun h=>out (W.sub _ h)
 have up:∀b∈wr,b∈S::wr:=fun b hb=> .tail _ hb
 have stay:∀{s1 s2:Shared} {f:Key->Bool} {c:Nat},s1.heap.SetOf (aF prog w) S f c->Moved wr G s1 s2->s2.heap.SetOf (aF prog w) S f c:=by
  rintro s1 s2 f c ⟨o,es,ep,t,ho,z⟩ mv;exact ⟨o,es,ep,t,mv.heap S _ nw ho,z⟩
 intro m
 induction m with
 |zero=>
  intro i s hm hi st hS fin;have e:i=n:=by lia
  subst e;apply codeAny_builtin F.entry_set_update_loop;rw[Around.under_plainId F.plain_set_update_loop _];show wpAny _ _ (pyNext (.ref I)>>=_) _ _ s;apply wpAny_bind;refine W.done s _ _ st fun s' mv=>?_
  exact wpAny_pure (fin s' (mv.mono up) (stay hS mv))
 |succ m ih=>
  intro i s hm hi st hS fin;have lt:i<n:=by lia
  apply codeAny_builtin F.entry_set_update_loop;rw[Around.under_plainId F.plain_set_update_loop _];show wpAny _ _ (pyNext (.ref I)>>=_) _ _ s;apply wpAny_bind;refine W.item i s _ _ lt st fun v s' pv st' mv=>?_
  obtain ⟨kv,sc⟩:=hv i v pv;show wpAny _ _ (holding [v] (setAdd S v)>>=_) _ _ s';apply wpAny_bind;apply wpAny_holding;unfold setAdd;apply wpAny_holding;apply wpAny_bind;refine (aF prog w).pyHash (k:=ks i) kv ?_;refine wpAny_setAddHashed_of (knd:=aF prog w) (s:={s' with toks:=s'.toks+1}) kv sc (show Heap.SetOf (aF prog w) s'.heap S (upTo ks i) i from stay hS mv) (by lia) fun h' same S2=>?_
  have S3:h'.SetOf (aF prog w) S (upTo ks (i+1)) (i+1):=by
   rw[uR,inj i lt] at S2;exact S2
  apply wpAny_pure;refine ⟨plainId_quiet F.plain_set_update_loop _,ih (i+1) _ (by lia) lt (W.frame _ s' _ _ st' (Fe _) fun b hb o e=>?_) S3 fun s'' mv2 S4=>?_⟩
  ·exact (same.2 b fun z=>out (z▸hb)).trans e
  ·exact fin s'' (Moved.trans W.gtrans ((mv.mono up).then_heap (Fe _) fun b o hb e=>(same.2 b fun z=>hb (z▸E7)).trans e) mv2) S4
end
section
variable {prog:Program} {w:World} {A:Around} {E:GR} {s:Shared}
set_option maxHeartbeats 3200000 in
theorem uS {l:Addr} {items:Array Value} {ks:Nat->Key} {Q:GR} (hh:A.handled=none) (hl:s.heap.IsList l items) (hv:∀i v,items[i]?=some v->(aF prog w).is (ks i) v=true/\v.scannable=true)
  (inj:∀i,i<items.size->upTo ks i (ks i)=false) (hb:items.size+1<scanBound)
  (fin:∀(h':Heap) (tk:Nat),h'.SetOf (aF prog w) s.heap.objs.size (upTo ks items.size) items.size->(∀b o,b<s.heap.objs.size->s.heap.get? b=some o->h'.get? b=some o)->Q (.ref s.heap.objs.size) {s with heap:=h',toks:=tk}):
  wpAny (model prog w) A (call (.type "set") [.ref l]) Q E s:=by
 obtain ⟨c0,tl0,mro⟩:=F.called_set.mro;have made:=F.called_set.made;have subt:=F.called_set.sub;apply wpAny_call;apply codeAny_of_tree;show wpAny _ _ (callAny (.type "set") _) _ _ _;apply wpAny_pure;refine ⟨Code.quiet_builtin _ (by decide+kernel),codeAny_builtin F.entry_type_call ?_⟩
 rw[Around.under_plain (weight_type_call_type "set" [.ref l] []) rfl];have nt:=F.called_set.notType;have cc:=F.called_set.canCreate;have tc:=F.typeCall_set_1 (.ref l)
 repeat any_goals first|assumption|wp_step
 refine codeAny_mono (code_set_new_1 (.ref l) (E:=E) (Q₁:=fun v s1=>∃led:Bool,v= .ref s.heap.objs.size/\s1={s with heap:=s.heap.push {cls:= .type "set",dict:=none,data:= .set #[] 0 (.fresh 0 0 led)}}) fun led=>⟨led,rfl,rfl⟩) fun r s1 hr=>?_
 cases r with
 |error e=>exact hr
 |ok fl=>
  cases fl with
  |ret v=>
   obtain ⟨led,rfl,rfl⟩:=hr;have e0:(s.heap.push {cls:= .type "set",dict:=none,data:= .set #[] 0 (.fresh 0 0 led)}).get? s.heap.objs.size=some {cls:= .type "set",dict:=none,data:= .set #[] 0 (.fresh 0 0 led)}:=Heap.get?_push_size _ rfl;have tS:Shared.TypeIs {s with heap:=s.heap.push {cls:= .type "set",dict:=none,data:= .set #[] 0 (.fresh 0 0 led)}} (.ref s.heap.objs.size) "set" :=⟨_,e0,rfl⟩
   have lk:=F.called_set.init.lookup;have bd:=F.called_set.init.bind (.ref s.heap.objs.size)
   repeat any_goals first|assumption|wp_step
   refine codeAny_mono (codeAny_call_builtin (R:=wants (fun r s2=>r= .none/\∃h' tk,s2={s with heap:=h',toks:=tk}/\h'.SetOf (aF prog w) s.heap.objs.size (upTo ks items.size) items.size/\∀b o,b<s.heap.objs.size->s.heap.get? b=some o->h'.get? b=some o) E) F.called_set.init.plain F.entry_set_init (check_set_init_1 tS ?_)) fun r2 s2 hr2=>?_
   ·obtain ⟨⟨lc,ld,lx,ls⟩,hol,hcl,nl,hdl⟩:=hl;simp only at hcl hdl;subst hcl hdl;have el:(s.heap.push {cls:= .type "set",dict:=none,data:= .set #[] 0 (.fresh 0 0 led)}).get? l=some {cls:= .type "list",dict:=ld,data:= .seq items nl,slots:=ls}:=Heap.get?_push_of_some _ hol;have n1:=F.sub_list_set;have n2:=F.sub_list_frozenset;have n3:(Value.type "list" ==Value.type "dict")=false:=by decide
    have il:(s.heap.push {cls:= .type "set",dict:=none,data:= .set #[] 0 (.fresh 0 0 led)}).IsList l items:=⟨_,el,rfl,nl,rfl⟩;unfold Builtin.«set.__init__» noKeywords Builtin.Frozenset.updateFrom;generalize hit:pyIter=PI
    wp_walk
    subst hit;apply wpAny_pyIter_list il;apply wpAny_bind;apply wpAny_runValue;have ll:l<s.heap.objs.size:=Heap.lt_size hol;have h3:A.in1.in1.in1.handled=none:=by simpa using hh
    have nI:l≠(s.heap.push {cls:= .type "set",dict:=none,data:= .set #[] 0 (.fresh 0 0 led)}).objs.size:=by
     rw[Heap.size_push];exact DI (EN ll)
    have out:s.heap.objs.size∉ [(s.heap.push {cls:= .type "set",dict:=none,data:= .set #[] 0 (.fresh 0 0 led)}).objs.size,l]:=by
     rw[Heap.size_push];simp only[DM,not_or];exact ⟨DI (FS _),Ew ll,Eh⟩
    refine wK ((Walks.list h3 _ l nI items).toS) s.heap.objs.size out ks hv inj hb items.size 0 _ rfl (EC _) ⟨⟨_,Heap.get?_push_size _ rfl,rfl,rfl⟩,il.push _⟩ ?_ ?_
    ·have e1:((s.heap.push {cls:= .type "set",dict:=none,data:= .set #[] 0 (.fresh 0 0 led)}).push {cls:= .type "list_iterator",data:= .fields #[.ref l,.int 0 0]}).get? s.heap.objs.size=some {cls:= .type "set",dict:=none,data:= .set #[] 0 (.fresh 0 0 led)}:=
      Heap.get?_push_of_some _ e0
     refine ⟨_,#[],0,_,e1,⟨rfl,rfl,rfl⟩,rfl,(fun e he=>by simp at he),(fun k=>by simp[upTo]),by decide,rfl,rfl⟩
    ·intro s' mv S2;obtain ⟨h',g',d',tk',os'⟩:=s';have eg:g'=s.gens:=mv.gens;have ed:d'=s.drawn:=mv.drawn;have eo:os'=s.os:=mv.os;subst eg ed eo;show wpAny _ _ _ _ _ _;apply wpAny_pure;show wpAny _ _ (ret Value.none) _ _ _;apply wpAny_pure;refine ⟨rfl,h',tk',rfl,S2,fun b o hb' e=>?_⟩
     refine mv.heap b o ?_ (Heap.get?_push_of_some _ (Heap.get?_push_of_some _ e));rw[Heap.size_push];simp only[DM,not_or];exact ⟨DI hb',DI (EN hb'),Eh⟩
   ·cases r2 with
    |error e=>exact hr2
    |ok fl2=>
     cases fl2 with
     |ret r=>
      obtain ⟨rfl,h',tk,rfl,S2,kp⟩:=hr2
      repeat any_goals first|assumption|wp_step
      exact fin _ _ S2 kp
     |_=>exact hr2.elim
  |_=>exact hr.elim
end
def yz (K:D5) (te:TE):TE:=fun σ H Q=>te σ H fun x H1=>∃(a:Addr) (ks:List Key),x= .ref a/\aK K H1 a (ks.map kV)/\ks.Nodup/\ks.length<4000/\Q (.int ks.length) H1
theorem rM {ks:List Key} (nd:ks.Nodup) (i:Nat) (hi:i<ks.length):upTo (fun j=>ks.getD j (.inl 0)) i (ks.getD i (.inl 0))=false:=by
 unfold upTo;rw[List.any_eq_false];intro j hj;have lj:j<i:=Ep.mp hj;simp only[DN,D0 hi,D0 (Nat.lt_trans lj hi),Option.getD_some,decide_eq_true_eq];intro e;have:=(List.getElem_inj nd).mp e
 lia
theorem pM:∀{ks:List Key} {us:GX},aS (ks.map kV) us->∀(P:Program) (w:World) (i:Nat) (v:Value),us[i]?=some v->(aF P w).is (ks.getD i (.inl 0)) v=true/\v.scannable=true
 | [],_,.nil,P,w,i,v,h=>by simp at h
 |k::ks,_,.cons r t,P,w,0,v,h=>by
  simp at h;subst h;refine ⟨lY r,?_⟩;cases k with
  |inl z=>obtain ⟨_,rfl⟩:=r;rfl
  |inr z=>obtain ⟨_,rfl⟩:=r;rfl
 |k::ks,_,.cons r t,P,w,i+1,v,h=>pM t P w i v (by simpa using h)
section
variable {X:Cx} {e:Expr} {te:TE} {p1 p2 pos pos2:Pos}
theorem uT (hc:X.calm=true) (g1:Gl X "len") (m1:X.mg "len" =none) (g2:Gl X "set") (m2:X.mg "set" =none) (b1:bootBuiltins "len" =some (.builtin "len")) (b2:bootBuiltins "set" =some (.type "set")) (he:PE X e te)
  (hs:starEach [e] X.env= [(false,eval e X.env)]:=by rfl):
  PE X (.Call (.Name "len" p1) [.Call (.Name "set" p2) [e] [] pos2] [] pos) (yz X.K te):=by
 intro pins s σ H Q I h;apply wpAny_Call_Name_kw;refine cW I g1 m1 b1 ?_ (by decide) (by decide)
 refine Calls.callWith_builtin rfl (Calls.evalArgs_plain ?_);refine Calls.spliced_cons (x:=eval (.Call (.Name "set" p2) [e] [] pos2) X.env) (rest:= []) ?_;apply wpAny_Call_Name_kw;refine cW I g2 m2 b2 ?_ (by decide) (by decide)
 refine EE ?_ hs rfl;rw[hs];refine Calls.spliced_cons (x:=eval e X.env) (rest:= []) (a9 (he pins s σ H _ I h) fun v s1 ⟨x,H1,I1,r1,a,ks,ex,hq,nd,few,q⟩=>?_)
 subst ex;cases r1;apply Calls.spliced_nil;obtain ⟨its,rv,pl,hz⟩:=I1.list hq;have sz:its.toArray.size=ks.length:=by rw[DX,<-rv.length,D3]
 have hli:s1.heap.IsList a its.toArray:=pl.isList;refine uS (ks:=fun j=>ks.getD j (.inl 0)) (I.ok.hd hc) hli (fun i v hv=>pM rv X.prog X.w i v (by simpa using hv)) (fun i hi=>rM nd i (by rw[<-sz];exact hi)) (by rw[sz];show ks.length+1<4096;lia) fun h' tk S2 kp=>?_
 apply Calls.spliced_nil;obtain ⟨o,es,ep,t,ho,hx,hd,_,_,hb,hf,hn⟩:=S2;refine call_len_set ho hx hd hf (by rw[hn,sz];have:ks.length<4000:=few;lia) ?_
 refine ⟨.int ks.length,H1,I1.kept (fun b o e=>kp b o (Heap.lt_size e) e),⟨_,by rw[hn,sz]⟩,q⟩
end
end L2
namespace Sw
open PySem L2
theorem iE {H H':Hp} (g:az H H') (a:Addr) (o:HO):az (av H a o) (av H' a o):=fun b u e=>by
 by_cases z:b=a
 ·subst z;rw[ag] at e⊢;exact e
 ·rw[ar z] at e⊢;exact g b u e
end Sw
namespace L2
open PySem PySem.Spec PyProof.Rows XH
section
variable {X:Cx} {scope:Scope} {cl:List (Str×Addr)} {own:Str} {ys:GV} {js:List Nat} {elt iter cond:Expr} {px pos:Pos} {wi:TI} {te:TE} {tc:TT}
theorem uU {i:Nat} {y:Str} {py spos:Pos} (hN:X.N.Nodup) (hi':X.N[i]?=some y) (hy:X.env.scope.names.lookup y=some .local) (hc:X.calm=true) (ok:gW X scope cl own ys js) (hi:PI X (.Name own px) iter wi)
  (hq:∀(C:Addr) (fp:GW) (s:Shared) (H:Hp),PT (X.block scope cl C (own::ys) own fp s H) cond tc)
  (he:∀(C:Addr) (fp:GW) (s:Shared) (H:Hp),PE (X.block scope cl C (own::ys) own fp s H) elt te)
  (hsw:swapsWith (.ListComp elt [⟨.Name own px,iter,[cond],0⟩] scope pos) (some (.Name y py)) spos.line X.env=pure true:=by rfl) (hs:∀x,foldedSetIterable iter X.env x=pure x:=by intro _;rfl):
  PS X (.Assign [.Name y py] (.ListComp elt [⟨.Name own px,iter,[cond],0⟩] scope pos) spos) (vQ (tz wi js tc te) (aT i)):=by
 intro pins s σ H D I h;have ncell:∀y∈scope.names,y.2≠ .cell:=fun y hy z=>by
  have q:=EY.mp ok.nocell y hy;rw[z] at q;simp at q
 have nloc:∀y∈scope.names,y.2= .local->scope.names.lookup y.1=some .local:=fun y hy z=>by
  have q:=EY.mp ok.loc y hy;rw[z] at q
  simpa using q
 show wpAny _ _ (exec _ X.env) _ _ _;rw[exec_Assign_Name_used _ _ _ _ hsw];refine wpAny_bind (wpAny_standAt (wpAny_bind ?_));show wpAny _ X.A (do let _<-comprehension (.ListComp elt [⟨.Name own px,iter,[cond],0⟩] scope pos) scope X.env _ (newList []) false (eval iter X.env) (some (assign (.Name y py) X.env))) _ _ s
 refine wpAny_bind (wpAny_mono (wpAny_comprehension_free (use:=some (assign (.Name y py) X.env)) (Q:=fun _ s'=>SP X pins D .next s') rfl hs ok.clos ok.kind nloc (a9 (hi pins s σ H _ I h) fun v s1 h1=>a9 h1 fun itv s2 h2=>?_)) (fun _ s' hq=>wpAny_pure (wpAny_pure hq)) fun _ _ e=>e)
 obtain ⟨it,fp,tn,J,H2,rfl,I2,T,st2,f2,q2⟩:=h2;obtain ⟨W,⟨m0,w0⟩,turn⟩:=q2 s2.heap.objs.size (I2.hok.fresh (D8 _));refine wpAny_newObj_type (wpAny_newFunctionEnv ncell (by intro y hy;simp at hy) (fun h1 hns hsb=>?_) ok.kind)
 have I3:=I2.laid (a:=s2.heap.objs.size) (o:= .lst []) (h':=s2.heap.push {cls:= .type "list",dict:=none,data:= .seq ([]:GX).toArray}) (t':=s2.toks) (fun b u q=>Heap.get?_push_of_some _ q) (D8 _)
  ⟨EC _,[],0,.nil,Heap.get?_push_size _ rfl⟩
 have fpo:∀b∈fp,b<s2.heap.objs.size:=fun b hb=>by
  obtain ⟨o,e,_⟩:=T.obj 0 _ st2 b hb;exact Heap.lt_size e
 have f3:∀b∈fp,df X pins (av H2 s2.heap.objs.size (.lst [])) b:=fun b hb=>⟨by rw[ar (DI (fpo b hb))];exact (f2 b hb).1,(f2 b hb).2⟩
 generalize hs3:({s2 with heap:=s2.heap.push {cls:= .type "list",dict:=none,data:= .seq ([]:GX).toArray},toks:=s2.toks}:Shared)=s3 at I3
 have e3:s3.heap=s2.heap.push {cls:= .type "list",dict:=none,data:= .seq ([]:GX).toArray}:=by rw[<-hs3]
 have lt3:∀b∈fp,b<s3.heap.objs.size:=fun b hb=>by rw[e3,Heap.size_push];exact EN (fpo b hb)
 dsimp only at hns hsb⊢;rw[<-e3] at hns hsb;have hk:∀b o,s3.heap.get? b=some o->h1.get? b=some o:=fun b o e=>hsb.extBut b o (DI (Heap.lt_size e)) (Heap.get?_push_of_some _ e)
 have J0:=dL (h1:=h1) ok I3 f3 lt3 hns hk (s2.toks+0);have t0:tn 0 h1:=T.keep 0 _ _ st2 fun b hb o e=>hk b o (by rw[e3];exact Heap.get?_push_of_some _ e)
 have fpB:∀{H':Hp},(∀b∈fp,H' b=none)->∀b∈fp,df (X.block scope cl s3.heap.objs.size (own::ys) own fp s3 (av H2 s2.heap.objs.size (.lst []))) [] H' b:=fun {H'} hn b hb=>
  ⟨hn b hb,DI (lt3 b hb),fun z=>(DM.mp (I3.stkSub b z)).elim (f3 b hb).2.1 (f3 b hb).2.2.1,.inl hb,fun x c e=>(f3 b hb).2.2.2.2.1 x c (ok.sub (x,c) (ER e)),fun p hp=>absurd (show p∈([]:GT) from hp) (by simp)⟩
 have loop:codeAny (model X.prog X.w) X.A (.compLoop (.ListComp elt [⟨.Name own px,iter,[cond],0⟩] scope pos) 0 (.ref it) (.ref s2.heap.objs.size) (compEnvC scope cl s3.heap.objs.size X.env))
   (compPost (model X.prog X.w) X.A X.xe (some (assign (.Name y py) X.env)) (fun _ s'=>SP X pins D .next s') (.ref s2.heap.objs.size) s3.heap.objs.size) {s3 with heap:=h1,toks:=s2.toks+0}:=by
  refine jv (fun n s'=>∃i zs o0 H',aE (X.block scope cl s3.heap.objs.size (own::ys) own fp s3 (av H2 s2.heap.objs.size (.lst []))) [] (o0::aM js σ) H' s'/\tn i s'.heap/\(∀b∈fp,H' b=none)/\W i n zs H') ?_ m0
   ⟨0,[],none,_,J0,t0,fun b hb=>(f3 b hb).1,w0⟩
  rintro n s5 ⟨i,zs,o0,H5,I5,t5,n5,w5⟩;obtain ⟨hD,hw⟩:=turn i n zs H5 w5;rcases hw with ⟨stop,qn⟩|⟨go,hz,step⟩
  ·refine a9 (T.done (X.block scope cl s3.heap.objs.size (own::ys) own fp s3 (av H2 s2.heap.objs.size (.lst []))) rfl rfl rfl hc i [] s5 _ H5 (fun _ _=>False) I5 (fpB n5) t5 stop) fun r s6 ⟨hr,I6⟩=>?_
   subst hr;obtain ⟨m,hn,_⟩:=id I6.loc;have J:aE X pins σ H5 s6:=fo (h':=s6.heap) I3 f3 I6 (Heap.SameBut.refl _ _);have fC:=I3.fpOk (D8 _) (show H5 s3.heap.objs.size=none from I6.free)
   obtain ⟨k0,k1,k2,k3,k4,k5⟩:=fC;show wpAny _ X.A (assign (.Name y py) X.env (.ref s2.heap.objs.size)) _ _ _;refine wpAny_assign_Name (iO (v:= .ref s2.heap.objs.size) J hN hi' (.inl hy) rfl (fun s7 I7 hsb=>?_) (.inr hy))
   obtain ⟨a',sb,ha⟩:=hsb;have ne:s3.heap.objs.size≠a':=by
    rcases ha with z|z
    ·rw[z];exact k1
    ·exact fun w=>k4 _ _ z w.symm
   exact ⟨m,hn.sameBut sb ne,fun h' hs'=>⟨_,H5,I7.turned (t':=s7.toks) (fun b o hb e=>(hs'.2 b hb).trans e) k0 k1 k3 k4 k5,qn⟩⟩
  ·refine a9 (T.item (X.block scope cl s3.heap.objs.size (own::ys) own fp s3 (av H2 s2.heap.objs.size (.lst []))) rfl rfl rfl hc i [] s5 _ H5 (fun _ _=>False) I5 (fpB n5) t5 go) fun r s6 ⟨u,hr,h6⟩=>?_
   subst hr;refine a9 h6 fun _ s7 ⟨x,H7,I7,r7,y7,t7,n7⟩=>?_
   have I7':=I7.pinned (fpB n7) (T.obj _ _ t7);have hst:=step x H7 y7;have own':(relabel scope X.env).names.lookup own=some .local:=lookup_relabel_local ok.ownL;refine a9 (fL (X:=X.block scope cl s3.heap.objs.size (own::ys) own fp s3 (av H2 s2.heap.objs.size (.lst []))) (i:=0) (x:=own) (pos:=px) ok.nd rfl (.inl own') (.inr own') _ s7 _ H7 x u (fun σ' H'=>σ'=some x::aM js σ/\H'=H7) I7' r7 ⟨rfl,rfl⟩) fun _ s8 ⟨σ8,H8,I8,e8,eH8⟩=>?_
   subst e8 eH8;refine a9 (hq _ _ _ _ _ s8 _ H8 _ I8 hst) fun ok s9 ⟨H9,I9,h9⟩=>?_
   have frame:∀{s':Shared} {H':Hp},aE (X.block scope cl s3.heap.objs.size (own::ys) own fp s3 (av H2 s2.heap.objs.size (.lst []))) ([]++iQ fp s7.heap) (some x::aM js σ) H' s'->tn (i+1) s'.heap/\∀b∈fp,H' b=none:=fun {s' H'} I'=>
    ⟨T.keep _ _ _ t7 fun b hb o e=>(I'.pin (b,o) (DJ _ (DJ _ (bu hb e)))).1,fun b hb=>by
     obtain ⟨o,e,d⟩:=T.obj _ _ t7 b hb;exact (I'.pin (b,o) (DJ _ (DJ _ (bu hb e)))).2.1⟩
   cases ok with
   |true=>
    refine a9 (he _ _ _ _ _ s9 _ H9 _ I9 h9) fun yv s10 ⟨y,H10,I10,r10,hD10,m',hm,w10⟩=>?_
    refine a9 (bo _ s10 _ H10 (.ref s2.heap.objs.size) [y] (.ref s2.heap.objs.size) [yv] (fun _ H'=>H'=av H10 s2.heap.objs.size (.lst (zs++ [y]))) I10 rfl (.cons r10 .nil) ⟨_,zs,y,rfl,rfl,hD10,hz,rfl⟩) fun _ s11 ⟨_,H11,I11,_,e11⟩=>?_
    subst e11;exact ⟨m',hm,i+1,zs++ [y],some x,_,I11.unpinned,(frame I11).1,(frame I11).2,w10⟩
   |false=>
    obtain ⟨m',hm,w10⟩:=h9;exact ⟨m',hm,i+1,zs,some x,_,I9.unpinned,(frame I9).1,(frame I9).2,w10⟩
 subst hs3;exact codeAny_compStart_list loop (T.self _ 0 _ _ _ t0 loop)
end
theorem pN {X:Cx} (hu:X.A.units<cLine):fY X (compareOp .Eq) (fun x y H Q=>∃a b zs,x= .ref a/\y= .ref b/\aK X.K H a zs/\aK X.K H b []/\Q (.bl zs.isEmpty) H):=by
 intro pins s σ H x y v u Q I rx ry h;obtain ⟨a,b,zs,rfl,rfl,h1,h2,hq⟩:=h;cases rx;cases ry;obtain ⟨i1,r1,p1,_⟩:=I.list h1;obtain ⟨i2,r2,p2,_⟩:=I.list h2;cases r2;cases zs with
 |nil=>
  cases r1;refine SeqAt.eq_listAt (e:=fun _=>true) p1.isList p2.isList rfl hu (fun j g1 g2=>absurd g1 (by simp)) ?_
  exact ⟨.bl true,H,I,by show Value.bool _=Value.bool _;simp,hq⟩
 |cons z zs=>
  cases r1 with
  |cons r rr=>
   refine SeqAt.eq_list_lengthsAt p1.isList p2.isList (by simp) hu ?_
   exact ⟨.bl false,H,I,rfl,hq⟩
end L2
namespace Sw
open PySem L2 PyProof.Rows
theorem i6 {α β:Type} {F:α->β->Prop}:∀{l:List α} {m:List β},Paired F l m->∀{i:Nat} {b:β},m[i]?=some b->∃a,l[i]?=some a/\F a b
 |_,_,.nil,i,b,h=>by simp at h
 |_,_,.cons r t,0,b,h=>by simp at h;subst h;exact ⟨_,rfl,r⟩
 |_,_,.cons r t,i+1,b,h=>by
  obtain ⟨a,h1,h2⟩:=i6 t (i:=i) (by simpa using h)
  exact ⟨a,by simpa using h1,h2⟩
end Sw
namespace L2
open PySem PySem.Spec PyProof.Rows XH Sw So
theorem tD:∀{acc:GX} {ks:GV},acc.length=ks.length->(∀(j:Nat) (v:Value),acc[j]?=some v->∃y t,ks[j]?=some y/\v= .str y t)->StrsAre acc ks
 | [],[],_,_=> .nil
 |v::acc,k::ks,hl,h=>by
  obtain ⟨y,t,e,rfl⟩:=h 0 v rfl;simp at e;subst e;exact .cons _ _ (tD (by simpa using hl) fun j u hu=>h (j+1) u (by simpa using hu))
 | [],_::_,hl,_=>by simp at hl
 |_::_,[],hl,_=>by simp at hl
theorem iF:∀{us:GX} {ks:GV},StrsAre us ks->aS (ks.map V.str) us
 |_,_,.nil=> .nil
 |_,_,.cons y t h=> .cons ⟨t,rfl⟩ (iF h)
theorem pO {prog:Program} {w:World} {A:Around} {E:GR} {s:Shared} {T:String} {r d:Addr} {n:Nat} {P:Nat->Value->Prop} {OK:Heap->Prop} {R:GX->Shared->Prop} (K:PySem.W.KdlSrc prog w T r d n P OK) (hh:A.handled=none) (hok:OK s.heap) (hn:n<=sizeLine)
  (h:∀(h':Heap) (tk:Nat) (acc:Array Value),s.heap.objs.size<h'.objs.size->(∀b o,s.heap.get? b=some o->h'.get? b=some o)->PySem.ItemsOf P acc n->R acc.toList {s with heap:=h',toks:=tk}):
  wpAny (model prog w) A (collect (.ref r)) R E s:=by
 have hlt:=K.there _ hok;unfold collect;refine wpAny_bind (wpAny_runValue (codeAny_builtin entry_proto_collect' ?_));rw[Around.under_plainId PySem.F.plain_proto_collect _];show wpAny _ A.in1 (newList []>>=fun l=>again (.builtin "list.__iadd__" ⟨[l,.ref r],[]⟩)) _ _ s
 refine wpAny_bind (wpAny_newObj_type (wpAny_pure ⟨plainId_quiet F8 _,codeAny_builtin entry_list_iadd' ?_⟩));rw[Around.under_plainId F8 _];have fresh:(s.heap.push {cls:= .type "list",data:= .seq ([]:GX).toArray}).get? s.heap.objs.size=some {cls:= .type "list",data:= .seq #[]}:=Heap.get?_push_size _ rfl;show wpAny _ A.in1 (Builtin.List.listExtendWith (.ref s.heap.objs.size) (.ref r) (.ref s.heap.objs.size)) _ _ _;have key:=PySem.W.kdl_extend (A:=A) (s:={s with heap:=s.heap.push {cls:= .type "list",data:= .seq ([]:GX).toArray}})
  (R:=fun (q:Result) (s':Shared)=>∃(h':Heap) (tk:Nat) (acc:Array Value) (c:Nat),q= .ok (.ret (.ref s.heap.objs.size))/\s'={s with heap:=h',toks:=tk}/\(∀b o,s.heap.get? b=some o->h'.get? b=some o)/\h'.get? s.heap.objs.size=some {cls:= .type "list",dict:=none,data:= .seq acc c,slots:= #[]}/\PySem.ItemsOf P acc n)
  K hh (K.keep _ _ hok fun b _ o e=>Heap.get?_push_of_some _ e) s.heap.objs.size (Ew hlt.1) (Ew hlt.2) (.ref s.heap.objs.size) 0 fresh
  (fun h' tk acc c hk hS ha=>⟨h',tk,acc,c,rfl,rfl,fun b o e=>hk b o (DI (Heap.lt_size e)) (Heap.get?_push_of_some _ e),hS,ha⟩) hn
 have fin:∀{h':Heap} {tk c:Nat} {acc:Array Value},(∀b o,s.heap.get? b=some o->h'.get? b=some o)->h'.get? s.heap.objs.size=some {cls:= .type "list",dict:=none,data:= .seq acc c,slots:= #[]}->PySem.ItemsOf P acc n->R acc.toList {s with heap:=h',toks:=tk}:=
  fun {h' tk c acc} hk hS ha=>h h' tk acc (Heap.lt_size hS) hk ha
 refine wpAny_mono key (fun f s' x=>?_) fun e s' x=>?_
 ·cases f with
  |done f=>
   obtain ⟨h',tk,acc,c,e,rfl,hk,hS,ha⟩:=x;cases e;show wpAny _ A (load s.heap.objs.size>>=_) _ _ _;exact wpAny_bind (wpAny_load hS (wpAny_pure (fin hk hS ha)))
  |again c₁=>
   refine ⟨x.1,codeAny_mono x.2 fun q s₂ y=>?_⟩
   obtain ⟨h',tk,acc,c,rfl,rfl,hk,hS,ha⟩:=y;show wpAny _ A (load s.heap.objs.size>>=_) _ _ _;exact wpAny_bind (wpAny_load hS (wpAny_pure (fin hk hS ha)))
 ·obtain ⟨_,_,_,_,e',_⟩:=x;cases e'
end L2
namespace So
open PySem PySem.Spec PyProof.Rows
def yA (x y:Str):Prop:=¬(y.cps.toList<x.cps.toList)
theorem uV {x y z:Str} (h1:yA x y) (h2:yA y z):yA x z:=fun h=>by
 unfold yA at h1 h2;exact h1 (List.lt_of_le_of_lt (List.not_lt.mp h2) h)
theorem wM {x y:Str} (h1:yA x y) (h2:yA y x):x=y:=by
 have e:=List.le_antisymm (List.not_lt.mp h1) (List.not_lt.mp h2);cases x;cases y
 congr 1
 exact FP.mp e
theorem md:∀(r:GV) (x:Str),risingS x r=true->(x::r).Pairwise yA
 | [],x,_=>by simp
 |y::r,x,h=>by
  unfold risingS at h;have h':ltCps y.cps.toList x.cps.toList=false/\risingS y r=true:=by
   simpa [Ey] using h
  have ih:=md r y h'.2;have xy:yA x y:=by
   have:=h'.1;rw[ltCps_eq] at this;exact of_decide_eq_false this
  refine EF.mpr ⟨fun z hz=>?_,ih⟩
  rcases DM.mp hz with e|e
  ·rw[e];exact xy
  ·exact uV xy ((EF.mp ih).1 z e)
theorem me {l:GV} (h:sortedS l=true):l.Pairwise yA:=by
 cases l with
 |nil=>simp
 |cons x r=>exact md r x h
theorem pP {l m:GV} (h1:sortedS l=true) (h2:sortedS m=true) (p:l.Perm m):l=m:=
 List.Perm.eq_of_pairwise (fun a b _ _ ha hb=>wM ha hb) (me h1) (me h2) p
end So
namespace L2
open PySem PySem.Spec PyProof.Rows XH Sw So
theorem uW {α β:Type} {g:α->β} {k:β->α} (hk:∀a,k (g a)=a) {l:List β} {as:List α} (h:l.Perm (as.map g)):∃bs:List α,bs.Perm as/\l=bs.map g:=by
 refine ⟨l.map k,?_,?_⟩
 ·have:=h.map k;rw[En] at this;have e:as.map (k ∘ g)=as:=by
   conv=>rhs;rw[<-List.map_id as]
   exact F3 fun a _=>hk a
  rw[e] at this;exact this
 ·rw[En]
  conv=>lhs;rw[<-List.map_id l]
  refine F3 fun x hx=>?_
  obtain ⟨a,_,rfl⟩:=ES.mp (h.mem_iff.mp hx);show g a=g (k (g a));rw[hk]
theorem pQ {prog:Program} {w:World} {A:Around} {E:GR} {s:Shared} {r:Addr} {its:GX} {n:Nat} {R:GX->Shared->Prop} (hr:s.heap.get? r=some (seqObj "list" its.toArray n)) (hn:its.length<=sizeLine)
  (h:∀h':Heap,s.heap.objs.size<h'.objs.size->(∀b o,s.heap.get? b=some o->h'.get? b=some o)->R its {s with heap:=h'}):wpAny (model prog w) A (collect (.ref r)) R E s:=by
 unfold collect;refine wpAny_bind (wpAny_runValue (codeAny_builtin entry_proto_collect' ?_));rw[Around.under_plainId PySem.F.plain_proto_collect _];show wpAny _ A.in1 (newList []>>=fun l=>again (.builtin "list.__iadd__" ⟨[l,.ref r],[]⟩)) _ _ s
 refine wpAny_bind (wpAny_newObj_type (wpAny_pure ⟨plainId_quiet F8 _,codeAny_builtin entry_list_iadd' ?_⟩));rw[Around.under_plainId F8 _];have fresh:(s.heap.push {cls:= .type "list",data:= .seq ([]:GX).toArray}).get? s.heap.objs.size=some {cls:= .type "list",data:= .seq #[]}:=Heap.get?_push_size _ rfl;show wpAny _ A.in1 (Builtin.List.listExtendWith (.ref s.heap.objs.size) (.ref r) (.ref s.heap.objs.size)) _ _ _;have key:=wpAny_extend_seq (A:=A) (s:={s with heap:=s.heap.push {cls:= .type "list",data:= .seq ([]:GX).toArray}}) (prog:=prog) (w:=w)
  (R:=fun (q:Result) (s':Shared)=>q= .ok (.ret (.ref s.heap.objs.size))/\s'={s with heap:=(s.heap.push {cls:= .type "list",data:= .seq ([]:GX).toArray}).update s.heap.objs.size (Obj.mapSeq (· ++its.toArray))})
  s.heap.objs.size r (.ref s.heap.objs.size) 0 (.inl rfl) fresh (Heap.get?_push_of_some _ hr) rfl rfl ⟨rfl,rfl⟩ (by simpa using hn)
 have at_:=Heap.get?_update_self (Obj.mapSeq (· ++its.toArray)) fresh rfl;have fin:R its {s with heap:=(s.heap.push {cls:= .type "list",data:= .seq ([]:GX).toArray}).update s.heap.objs.size (Obj.mapSeq (· ++its.toArray))}:=by
  refine h _ (by rw[Heap.size_update,Heap.size_push];exact FS _) fun b o e=>?_
  exact (Heap.get?_update_other _ _ (Ew (Heap.lt_size e))).trans (Heap.get?_push_of_some _ e)
 have ei:((#[]:Array Value)++its.toArray).toList=its:=by simp
 have fin':R ((#[]:Array Value)++its.toArray).toList {s with heap:=(s.heap.push {cls:= .type "list",data:= .seq ([]:GX).toArray}).update s.heap.objs.size (Obj.mapSeq (· ++its.toArray))}:=by rw[ei];exact fin
 refine wpAny_mono key (fun f s' x=>?_) fun e s' x=>?_
 ·cases f with
  |done f=>
   obtain ⟨e,rfl⟩:=x;cases e;show wpAny _ A (load s.heap.objs.size>>=_) _ _ _;exact wpAny_bind (wpAny_load at_ (wpAny_pure fin'))
  |again c₁=>
   refine ⟨x.1,codeAny_mono x.2 fun q s₂ y=>?_⟩
   obtain ⟨rfl,rfl⟩:=y;show wpAny _ A (load s.heap.objs.size>>=_) _ _ _;exact wpAny_bind (wpAny_load at_ (wpAny_pure fin'))
 ·exact absurd x.1 (by simp)
end L2
namespace Hm
abbrev Ky:=List Int
def fh:Ky->Ky->Bool
 | [],[]=>false
 | [],_::_=>true
 |_::_,[]=>false
 |a::as,b::bs=>if a=b then fh as bs else decide (a<b)
theorem fN:∀a:Ky,fh a a=false
 | []=>rfl
 |a::as=>by unfold fh;rw[if_pos rfl];exact fN as
theorem gK:∀{a b c:Ky},fh a b=true->fh b c=true->fh a c=true
 | [],[],_,h,_=>by cases h
 | [],_::_,[],_,h=>by cases h
 | [],_::_,_::_,_,_=>rfl
 |_::_,[],_,h,_=>by cases h
 |_::_,_::_,[],_,h=>by cases h
 |a::as,b::bs,c::cs,h1,h2=>by
  unfold fh at h1 h2⊢
  by_cases ab:a=b
  ·subst ab;rw[if_pos rfl] at h1
   by_cases ac:a=c
   ·rw[if_pos ac] at h2⊢;exact gK h1 h2
   ·rw[if_neg ac] at h2⊢;exact h2
  ·rw[if_neg ab] at h1;have l1:=of_decide_eq_true h1
   by_cases bc:b=c
   ·subst bc;rw[if_neg ab];exact h1
   ·rw[if_neg bc] at h2;have l2:=of_decide_eq_true h2;rw[if_neg (by lia)]
    exact decide_eq_true (by lia)
theorem gL:∀{a b:Ky},fh a b=false->fh b a=false->a=b
 | [],[],_,_=>rfl
 | [],_::_,h,_=>by cases h
 |_::_,[],_,h=>by cases h
 |a::as,b::bs,h1,h2=>by
  unfold fh at h1 h2
  by_cases ab:a=b
  ·subst ab;rw[if_pos rfl] at h1 h2;rw[gL h1 h2]
  ·rw[if_neg ab] at h1;rw[if_neg (Ne.symm ab)] at h2;have l1:=of_decide_eq_false h1;have l2:=of_decide_eq_false h2
   lia
theorem uX {a b:Ky} (h:fh a b=true):fh b a=false:=by
 cases c:fh b a with
 |false=>rfl
 |true=>
  have z:=gK h c;rw[fN] at z;cases z
theorem mj {a b c:Ky} (h1:fh a b=false) (h2:fh b c=false):fh a c=false:=by
 cases k:fh a c with
 |false=>rfl
 |true=>
  cases m:fh b a with
  |true=>rw[gK m k] at h2;cases h2
  |false=>rw[gL h1 m] at k;rw[k] at h2;cases h2
def Rs (l:List Ky):Prop:=l.Pairwise fun a b=>fh b a=false
theorem Rs.head {a:Ky} {l:List Ky} (h:Rs (a::l)):∀b∈a::l,fh b a=false:=fun b hb=>by
 rcases DM.mp hb with rfl|hb
 ·exact fN _
 ·exact (EF.mp h).1 b hb
open PySem PySem.SeqAt PySem.MeetsSeq
def Nums:List Int->GX->Prop
 | [],[]=>True
 |k::ks,u::us=>(∃t,u= .int k t)/\Nums ks us
 |_,_=>False
theorem Nums.len:∀{ks:List Int} {us:GX},Nums ks us->ks.length=us.length
 | [],[],_=>rfl
 |_::_,_::_,h=>by rw[EH,EH,Nums.len h.2]
 | [],_::_,h=>h.elim
 |_::_,[],h=>h.elim
end Hm
namespace L2
open PySem PySem.Spec PyProof.Rows XH Sw So Hm
def Th (b:Bool) (H:Hp) (v:V) (k:Ky):Prop:=match b with
 |false=>∃i:Int,v= .int i/\k= [i]
 |true=>∃a:Addr,v= .ref a/\H a=some (.tup (k.map V.int))/\k≠ []/\k.length<=sizeLine
theorem tE:∀{ks:List Int} {us:GX},aS (ks.map V.int) us->Nums ks us
 | [],_,h=>by cases h;trivial
 |k::ks,_,h=>by
  cases h with
  |cons r t=>exact ⟨r,tE t⟩
theorem yB {i j:Int}:fh [i] [j]=decide (i<j):=by
 unfold fh
 by_cases c:i=j
 ·rw[if_pos c];exact (decide_eq_false (by lia)).symm
 ·rw[if_neg c]
def bY (b:Bool) (nm:Addr->Option Ky):PyProof.Rows.KeyKind where
 α:=Ky
 blt:=fh
 irrefl:=fN
 trans _ _ _:=gK
 negTrans a c d h:=by
  cases k:fh a c with
  |true=>exact .inl rfl
  |false=>
   cases m:fh c d with
   |true=>exact .inr rfl
   |false=>rw[mj k m] at h;cases h
 total _ _:=gL
 keyOf v:=match b,v with|false,.int i _=>some [i]|true,.ref a=>nm a|_,_=>none
 dflt:= []
theorem wN {nm:Addr->Option Ky} {v:Value} {k:Ky} (h:(bY false nm).keyOf v=some k):∃i t,v= .int i t/\k= [i]:=by
 cases v with
 |int i t=>cases h;exact ⟨i,t,rfl,rfl⟩
 |_=>cases h
theorem wO {nm:Addr->Option Ky} {v:Value} {k:Ky} (h:(bY true nm).keyOf v=some k):∃a,v= .ref a/\nm a=some k:=by
 cases v with
 |ref a=>exact ⟨a,rfl,h⟩
 |_=>cases h
def uY (h:Heap) (a:Addr) (k:Ky):Prop:=∃(o:Obj) (us:GX) (n:Nat),h.get? a=some o/\o.cls= .type "tuple" /\o.data= .seq us.toArray n/\Nums k us
section
variable {prog:Program} {w:World} {A:Around} {E:GR} {s:Shared}
theorem wP {nm:Addr->Option Ky}:(bY false nm).OneLt:=by
 intro prog w A E s x y a b Q ha hb h;obtain ⟨i,t,rfl,rfl⟩:=wN ha;obtain ⟨j,u,rfl,rfl⟩:=wN hb;have h':Q (fh [i] [j]) s:=h;rw[yB] at h';exact oneLt_int h'
theorem uZ {b:Bool} {i j:Int} {t u:Tok} {Q:Bool->Shared->Prop} (h:Q (decide (i<j)) s):wpAny (model prog w) A (oneLt' b (.int i t) (.int j u)) Q E s:=by
 cases b with
 |true=>exact oneLt_int h
 |false=>
  rw[oneLt'_eq,if_neg (by decide)]
  exact wpAny_bind (wpAny_lt_int (wpAny_truthy_bool h))
theorem pR {fin:Bool} {Q:Bool->Shared->Prop}:∀{ks ls:List Int} {us ws:GX} {i:Nat},Nums ks us->Nums ls ws->fin=decide (ks.length<ls.length)->Q (fh ks ls) s->PySem.W.KatLex prog w A true fin Q (us.zip ws) i s
 | [],[],[],[],i,_,n2,hf,q=>by
  have e:fin=fh [] []:=hf;rw[<-e] at q;exact PySem.W.kat_nil q
 | [],l::ls,[],v::ws,i,_,n2,hf,q=>by
  have e:fin=fh [] (l::ls):=by rw[hf];simp[fh]
  rw[<-e] at q;exact PySem.W.kat_nil q
 |k::ks,[],u::us,[],i,n1,n2,hf,q=>by
  have e:fin=fh (k::ks) []:=by rw[hf];simp[fh]
  rw[<-e] at q;exact PySem.W.kat_nil q
 |k::ks,l::ls,u::us,v::ws,i,⟨⟨t,hu⟩,n1⟩,⟨⟨t',hv⟩,n2⟩,hf,q=>by
  subst hu hv;rw[List.zip_cons_cons];refine PySem.W.kat_cons (SeqAt.EqAt.int_int k t l t' _ _ _ _ ?_);unfold fh at q
  by_cases c:k=l
  ·rw[if_pos c] at q;rw[show (k==l)=true from beq_iff_eq.mpr c]
   exact PySem.W.kat_yes (pR n1 n2 (by rw[hf];simp) q)
  ·rw[if_neg c] at q;rw[show (k==l)=false from beq_eq_false_iff_ne.mpr c]
   exact PySem.W.kat_no (uZ q)
 |_::_,_,[],_,_,n1,_,_,_=>n1.elim
 | [],_,_::_,_,_,n1,_,_,_=>n1.elim
 |_,_::_,_,[],_,_,n2,_,_=>n2.elim
 |_,[],_,_::_,_,_,n2,_,_=>n2.elim
theorem wQ {nm:Addr->Option Ky} (tup:∀a k,nm a=some k->uY s.heap a k):nM prog w A E s (bY true nm) (tuples' true):=by
 intro st x y Q hk hx hy h;obtain ⟨ka,ha⟩:=hx;obtain ⟨kb,hb⟩:=hy;have e1:kk (bY true nm) x=ka:=by unfold kk;rw[ha];rfl
 have e2:kk (bY true nm) y=kb:=by unfold kk;rw[hb];rfl
 rw[e1,e2] at h;obtain ⟨a,xa,ea⟩:=wO ha;obtain ⟨b,xb,eb⟩:=wO hb;obtain ⟨o1,us,n1,g1,c1,d1,m1⟩:=tup a ka ea;obtain ⟨o2,ws,n2,g2,c2,d2,m2⟩:=tup b kb eb;rw[lt'_eq];refine wpS_bind (wpS_get ?_);rw[hk,xa,xb];refine wpS_bind (wpS_lift (wpAny_attempt (PySem.W.kat_lt (b:=true) g1 d1 g2 d2 ?_)));exact pR m1 m2 (by rw[m1.len,m2.len];simp) ⟨rfl,wpS_pure h⟩
theorem u3 {us us':GX} (p:us.Perm us'):∀{xs:List V},aS xs us->∃xs':List V,xs'.Perm xs/\aS xs' us':=by
 induction p with
 |nil=>exact fun {xs} h=>⟨xs,.refl _,h⟩
 |cons u p ih=>
  intro xs h;cases h with
  |cons r t=>
   obtain ⟨xs',p',v'⟩:=ih t;exact ⟨_::xs',p'.cons _,.cons r v'⟩
 |swap u v l=>
  intro xs h;cases h with
  |cons r t=>
   cases t with
   |cons r2 t2=>exact ⟨_::_::_,.swap _ _ _,.cons r2 (.cons r t2)⟩
 |trans p q ih1 ih2=>
  intro xs h;obtain ⟨x1,p1,v1⟩:=ih1 h;obtain ⟨x2,p2,v2⟩:=ih2 v1;exact ⟨x2,p2.trans p1,v2⟩
theorem kat_firsts {h:Heap} {nm:Addr->Option Ky} (tup:∀a k,nm a=some k->uY h a k/\k≠ []):∀{vs:GX},(∀v∈vs,∃x k,v= .ref x/\nm x=some k)->∃fs:GX,PySem.W.KatTups h vs fs/\fs.length=vs.length/\∀f∈fs,∃i t,f= .int i t
 | [],_=>⟨[],trivial,rfl,by simp⟩
 |v::vs,hv=>by
  obtain ⟨fs,k1,k2,k3⟩:=kat_firsts tup (vs:=vs) fun u hu=>hv u (E2 _ hu)
  obtain ⟨x,k,rfl,e⟩:=hv v (by simp)
  obtain ⟨⟨o,us,n,g,c,d,m⟩,ne⟩:=tup x k e
  match k,us,m,ne with
  | [],_,_,ne=>exact absurd rfl ne
  |i::k,u::us,⟨⟨t,hu⟩,m⟩,_=>
   subst hu;refine ⟨.int i t::fs,⟨⟨x,o,_,n,rfl,g,c,d,by simp⟩,k1⟩,by simp[k2],fun f hf=>?_⟩
   rcases DM.mp hf with e|e
   ·exact ⟨i,t,e⟩
   ·exact k3 f e
theorem u4 (M:Model) (h:Heap) (i:Int) (t:Tok):PySem.W.Looks M h (typeOf (.int i t)) (.type "int"):=PySem.W.Looks.of_pure rfl
theorem pS {nm:Addr->Option Ky}:∀{vs:GX},(∀v∈vs,∃k,(bY false nm).keyOf v=some k)->∃ns:List Int,IntsAre vs ns
 | [],_=>⟨[],.nil⟩
 |v::vs,h=>by
  obtain ⟨ns,hn⟩:=pS (vs:=vs) fun u hu=>h u (E2 _ hu)
  obtain ⟨k,hk⟩:=h v (by simp)
  obtain ⟨i,t,rfl,_⟩:=wN hk;exact ⟨i::ns,.cons _ _ hn⟩
def sk (b:Bool):SortKind:=match b with|false=>oneType'|true=>tuples' true
theorem yC {b:Bool} {a:Addr} {vs:GX} {n:Nat} {P:PySem.Fin->Shared->Prop} {nm:Addr->Option Ky} (ho:s.heap.get? a=some (seqObj "list" vs.toArray n)) (keys:∀v∈vs,∃k,(bY b nm).keyOf v=some k)
  (tup:b=true->∀x k,nm x=some k->uY s.heap x k/\k≠ []) (hz:vs.length<=sizeLine)
  (h:∀st':SortSt,(arrOf st').toList.Perm (pairsOf vs).toList->(arrOf st').toList.Pairwise (Lq (bY b nm))->P (.done (.ret .none)) {s with heap:=sortedHeap s.heap a vs ((arrOf st').map (·.2))}):
  wpAny (model prog w) A (Builtin.«list.sort» ⟨[.ref a],[]⟩) P E s:=by
 rw[list_sort_plain];have ha:a<s.heap.objs.size:=Heap.lt_size ho;refine wpAny_bind (listItems_at ho rfl ?_);refine wpAny_bind (listUpdate_at ho rfl ?_);obtain ⟨e1,ho1⟩:∃e1,(s.heap.update a (Obj.mapSeq fun _=> #[])).get? a=some (seqObj "list" #[] e1):=⟨_,get?_update_seq ho (fun _=> #[])⟩
 refine wpAny_bind (seqEpoch_at ho1 rfl (wpAny_bind (wpAny_newTuple (wpAny_bind (wpAny_newList (wpAny_holding ?_))))));have ho6:(((s.heap.update a (Obj.mapSeq fun _=> #[])).push (seqObj "tuple" vs.toArray 0)).push (seqObj "list" #[] 0)).get? a=some (seqObj "list" #[] e1):=by
  rw[Heap.get?_push_ne _ _ _ (by rw[size_push',Heap.size_update];exact DI (EN ha)),Heap.get?_push_ne _ _ _ (by rw[Heap.size_update];exact DI ha)]
  exact ho1
 have old:∀{b:Addr} {o:Obj},b≠a->s.heap.get? b=some o->(((s.heap.update a (Obj.mapSeq fun _=> #[])).push (seqObj "tuple" vs.toArray 0)).push (seqObj "list" #[] 0)).get? b=some o:=fun {b o} hb e=>by
  have bl:=Heap.lt_size e;rw[Heap.get?_push_ne _ _ _ (by rw[size_push',Heap.size_update];exact DI (EN bl)),Heap.get?_push_ne _ _ _ (by rw[Heap.size_update];exact DI bl),Heap.get?_update_other _ _ (Ne.symm hb)]
  exact e
 show wpAny (model prog w) A _ P E {s with heap:=((s.heap.update a (Obj.mapSeq fun _=> #[])).push (seqObj "tuple" vs.toArray 0)).push (seqObj "list" #[] 0)}
 dsimp only;have tna:∀{x:Addr} {k:Ky},uY s.heap x k->x≠a:=fun {x k} t z=>by
  obtain ⟨o,us,n',g,c,d,_⟩:=t;rw[z,ho] at g;cases g;have c':("list" :String)= "tuple" :=by injection c
  exact absurd c' (by decide)
 have fin:∀st':SortSt,(arrOf st').toList.Perm (pairsOf vs).toList->failedOf st'=none->(arrOf st').toList.Pairwise (Lq (bY b nm))->P (.done (.ret .none)) {s with heap:=sortedHeap s.heap a vs ((arrOf st').map (·.2))}/\((arrOf st').map (·.2)).size<=sizeLine+1:=fun st' hp hf hs=>by
  refine ⟨h st' hp hs,?_⟩;have:=hp.length_eq;rw[Array.size_map];have e:(pairsOf vs).toList.length=vs.length:=by rw[pairsOf_toList];simp
  rw[e,DW] at this
  lia
 by_cases h2:vs.toArray.size<2
 ·rw[if_pos h2,if_pos h2];refine wpAny_bind (wpAny_pure ?_);have st0:=fin (SortSt.mk' general' (vs.toArray.zip vs.toArray) #[] 7 none) (List.Perm.refl _) rfl (by
   have:(pairsOf vs).toList.length<2:=by rw[pairsOf_toList];simp at h2⊢;exact h2
   match e:(pairsOf vs).toList,this with
   | [],_=>exact List.Pairwise.nil
   | [x],_=>exact List.pairwise_singleton _ _
   |_::_::_,l=>simp at l;lia)
  refine wpAny_bind (wpAny_pure ?_);dsimp only;refine wpAny_bind (seqEpoch_at ho6 rfl ?_);refine wpAny_bind (listUpdate_at ho6 rfl ?_ (hsz2:=st0.2));simp only[bne_self_eq_false,EX,if_false];exact wpAny_pure st0.1
 ·rw[if_neg h2,if_neg h2];have l2:2<=vs.length:=by simpa using h2
  have go:nM prog w A E {s with heap:=((s.heap.update a (Obj.mapSeq fun _=> #[])).push (seqObj "tuple" vs.toArray 0)).push (seqObj "list" #[] 0)} (bY b nm) (sk b)/\∀{R:SortKind->Shared->Prop},R (sk b) {s with heap:=((s.heap.update a (Obj.mapSeq fun _=> #[])).push (seqObj "tuple" vs.toArray 0)).push (seqObj "list" #[] 0)}->wpAny (model prog w) A (keyKind' vs.toArray) R E {s with heap:=((s.heap.update a (Obj.mapSeq fun _=> #[])).push (seqObj "tuple" vs.toArray 0)).push (seqObj "list" #[] 0)}:=by
   cases b with
   |false=>
    refine ⟨nM.of_one wP,fun {R} q=>?_⟩
    obtain ⟨ns,hn⟩:=pS keys;have ek:keyKind' vs.toArray=pure oneType':=by
     match vs,l2,hn with
     |v₁::v₂::rest,_,hn=>exact keyKind_ints hn
    rw[ek];exact wpAny_pure q
   |true=>
    have tup6:∀x k,nm x=some k->uY (((s.heap.update a (Obj.mapSeq fun _=> #[])).push (seqObj "tuple" vs.toArray 0)).push (seqObj "list" #[] 0)) x k/\k≠ []:=fun x k hx=>by
     obtain ⟨t,ne⟩:=tup rfl x k hx;have na:=tna t;obtain ⟨o,us,n',g,c,d,m⟩:=t;exact ⟨⟨o,us,n',old na g,c,d,m⟩,ne⟩
    refine ⟨wQ fun x k hx=>(tup6 x k hx).1,fun {R} q=>?_⟩
    obtain ⟨fs,kt,kl,kf⟩:=kat_firsts tup6 (vs:=vs) fun v hv=>by
     obtain ⟨k,e⟩:=keys v hv;obtain ⟨x,rfl,e⟩:=wO e;exact ⟨x,k,rfl,e⟩
    exact PySem.W.kat_kind (T:= .type "int") kt (by lia) (fun v hv=>by obtain ⟨i,t,rfl⟩:=kf v hv;exact u4 _ _ _ _) rfl q
  refine wpAny_bind (go.2 ?_);refine wpAny_bind (wpAny_mono (wG (κ:=bY b nm) (kd:=sk b) go.1 (a0:=(pairsOf vs).toList) (st:=SortSt.mk' (sk b) (vs.toArray.zip vs.toArray) #[] 7 none)
   (Q:=fun _ st'=>(arrOf st').toList.Perm (pairsOf vs).toList/\failedOf st'=none/\(arrOf st').toList.Pairwise (Lq (bY b nm)))
   rfl rfl rfl rfl (fun x hx=>?_) fun st' pr fl sr=>⟨pr,fl,sr⟩) ?_ fun _ _ e=>e)
  ·rw[pairsOf_toList] at hx;exact keys _ (List.of_mem_zip hx).1
  rintro ⟨⟨⟩,st'⟩ s' ⟨rfl,hp,hf,hs⟩;have f:=fin st' hp hf hs;dsimp only;refine wpAny_bind (seqEpoch_at ho6 rfl ?_);refine wpAny_bind (listUpdate_at ho6 rfl ?_ (hsz2:=f.2));rw[hf];simp only[bne_self_eq_false,EX,if_false];exact wpAny_pure f.1
theorem wR:∀us:GX,us.zip us=us.map fun u=>(u,u)
 | []=>rfl
 |u::us=>by rw[List.zip_cons_cons,wR us];rfl
theorem zk {b:Bool} {nm:Addr->Option Ky} {f:V->Ky}:∀{xs:List V} {us:GX},aS xs us->(∀x∈xs,∀u,RelV x u->(bY b nm).keyOf u=some (f x))->(us.map fun u=>(u,u)).Pairwise (Lq (bY b nm))->Rs (xs.map f)
 | [],_,_,_,_=>List.Pairwise.nil
 |x::xs,_,h,hk,hs=>by
  cases h with
  | @cons _ u _ us r t=>
   rw[EW] at hs;obtain ⟨h1,h2⟩:=EF.mp hs;refine EF.mpr ⟨fun k hk'=>?_,zk t (fun y hy=>hk y (E2 _ hy)) h2⟩
   obtain ⟨y,hy,rfl⟩:=ES.mp hk';obtain ⟨i,hi⟩:=DP.mp hy;obtain ⟨v,hv,rv⟩:=aS.get t hi;have q:=h1 (v,v) (ES.mpr ⟨v,D6 hv,rfl⟩);have e1:kk (bY b nm) (u,u)=f x:=by unfold kk;rw[hk x (by simp) u r];rfl
   have e2:kk (bY b nm) (v,v)=f y:=by unfold kk;rw[hk y (E2 _ hy) v rv];rfl
   have q':fh (kk (bY b nm) (v,v)) (kk (bY b nm) (u,u))=false:=q;rw[e1,e2] at q';exact q'
end
theorem kc {X:Cx}:c4 X (.builtin "sorted") (fun xs H Q=>∃(l:Addr) (vs:List V) (b:Bool) (f:V->Ky),xs= [.ref l]/\H l=some (.lst vs)/\(∀v∈vs,Th b H v (f v))/\
  ∀(p:Addr) (ws:List V),H p=none->ws.Perm vs->Rs (ws.map f)->Q (.ref p) (av H p (.lst ws))):=by
 intro pins s σ H xs us Q I r h;obtain ⟨l,vs,b,f,rfl,hl,ht,q⟩:=h;obtain ⟨u,rfl,ru⟩:=vals1 r;cases ru;obtain ⟨z,its,n,rv,hlen,hg⟩:=I.lstM hl;have z':its.length<=sizeLine:=by rw[<-hlen];exact z
 refine Calls.call_function_entry kind_sorted plain_sorted entry_sorted (args_sorted1 _) ?_;unfold Builtin.«sorted»;refine wpAny_bind (m:=checkCount "sorted" 1 1 _) (wpAny_pure ?_);refine wpAny_bind (pQ hg z' fun h' hlt hk=>?_)
 refine wpAny_bind (wpAny_newList ?_ z');have hoL:(h'.push (seqObj "list" its.toArray 0)).get? h'.objs.size=some (seqObj "list" its.toArray 0):=Heap.get?_push_size _ rfl
 let nm:Addr->Option Ky:=fun a=>if V.ref a∈vs then some (f (.ref a)) else none
 have nm_of:∀{a:Addr} {k:Ky},nm a=some k->V.ref a∈vs/\f (.ref a)=k:=fun {a k} e=>by
  have e':(if V.ref a∈vs then some (f (.ref a)) else none)=some k:=e
  by_cases m:V.ref a∈vs
  ·rw[if_pos m] at e';exact ⟨m,Es e'⟩
  ·rw[if_neg m] at e';cases e'
 have keyv:∀x∈vs,∀u,RelV x u->(bY b nm).keyOf u=some (f x):=fun x hx u ru=>by
  have t:=ht x hx;cases b with
  |false=>
   obtain ⟨i,rfl,e⟩:=t;obtain ⟨tk,rfl⟩:=ru;rw[e]
   rfl
  |true=>
   obtain ⟨a,rfl,_,_⟩:=t;cases ru;show (if V.ref a∈vs then some (f (.ref a)) else none)=_
   rw[if_pos hx]
 have keys:∀u∈its,∃k,(bY b nm).keyOf u=some k:=fun u hu=>by
  obtain ⟨i,hi⟩:=DP.mp hu;have il:i<vs.length:=by rw[hlen];exact (D4.mp hi).1
  obtain ⟨u',h1,h2⟩:=rv.get (D0 il);rw[hi] at h1;cases h1;exact ⟨_,keyv _ (Ed _) u h2⟩
 have tup:b=true->∀x k,nm x=some k->uY (h'.push (seqObj "list" its.toArray 0)) x k/\k≠ []:=fun hb x k hx=>by
  subst hb;obtain ⟨m,e⟩:=nm_of hx;obtain ⟨a,ea,et,ne,_⟩:=ht _ m;injection ea with ea
  subst ea;rw[e] at et ne;obtain ⟨its',rv',⟨o,e1,c1,n1,d1⟩,_⟩:=I.tuple (bH.of et);exact ⟨⟨o,its',n1,Heap.get?_push_of_some _ (hk _ _ e1),c1,d1,tE rv'⟩,ne⟩
 refine wpAny_bind (wpAny_holding (wpAny_call_entry slot_list_sort ⟨_,hoL,rfl⟩ entry_list_sort (yC (b:=b) (nm:=nm) hoL keys tup z' fun st' hp hs=>⟨_,rfl,?_⟩) (args_list_sort _)))
 rw[pairsOf_toList,wR] at hp;obtain ⟨ws,hw,ew⟩:=uW (k:=fun p:Keyed=>p.1) (fun a=>rfl) hp
 rw[ew] at hs;obtain ⟨xs',px,vx⟩:=u3 hw.symm rv;have so:Rs (xs'.map f):=zk vx (fun x hx=>keyv x (px.mem_iff.mp hx)) hs
 have eo:((arrOf st').map (·.2))=ws.toArray:=by
  apply FP.mp;rw[Array.toList_map,ew,En];exact List.map_id ws
 have sl:s.heap.objs.size<=h'.objs.size:=Nat.le_of_lt hlt;refine wpAny_pure ⟨_,rfl,.ref h'.objs.size,_,I.laid (a:=h'.objs.size) (o:= .lst xs') (h':=sortedHeap (h'.push (seqObj "list" its.toArray 0)) h'.objs.size its ((arrOf st').map (·.2))) (t':=s.toks) (fun b o eo=>?_) sl ?_,rfl,q _ xs' (I.hok.fresh sl) px so⟩
 ·have eo':=hk b o eo;have bl:=Heap.lt_size eo';rw[sortedHeap_old (DI bl) (by rw[size_push'];exact EN bl)]
  exact Heap.get?_push_of_some _ eo'
 ·obtain ⟨e,he⟩:=sortedHeap_at (out:=(arrOf st').map (·.2)) hoL;refine ⟨by rw[px.length_eq];exact z,ws,e,vx,?_⟩
  rw[<-eo];exact he
section
variable {X:Cx} {scope:Scope} {cl:List (Str×Addr)} {own:Str} {ys:GV} {js:List Nat} {elt iter:Expr} {px pos:Pos} {wi:TI} {te:TE}
theorem iG {i:Nat} {y:Str} {py spos:Pos} (hN:X.N.Nodup) (hi':X.N[i]?=some y) (hy:X.env.scope.names.lookup y=some .local) (hc:X.calm=true) (ok:gW X scope cl own ys js) (hi:PI X (.Name own px) iter wi)
  (he:∀(C:Addr) (fp:GW) (s:Shared) (H:Hp),PE (X.block scope cl C (own::ys) own fp s H) elt te)
  (hsw:swapsWith (.ListComp elt [⟨.Name own px,iter,[],0⟩] scope pos) (some (.Name y py)) spos.line X.env=pure true:=by rfl) (hs:∀x,foldedSetIterable iter X.env x=pure x:=by intro _;rfl):
  PS X (.Assign [.Name y py] (.ListComp elt [⟨.Name own px,iter,[],0⟩] scope pos) spos) (vQ (wt wi js te) (aT i)):=by
 intro pins s σ H D I h;have ncell:∀y∈scope.names,y.2≠ .cell:=fun y hy z=>by
  have q:=EY.mp ok.nocell y hy;rw[z] at q;simp at q
 have nloc:∀y∈scope.names,y.2= .local->scope.names.lookup y.1=some .local:=fun y hy z=>by
  have q:=EY.mp ok.loc y hy;rw[z] at q
  simpa using q
 show wpAny _ _ (exec _ X.env) _ _ _;rw[exec_Assign_Name_used _ _ _ _ hsw];refine wpAny_bind (wpAny_standAt (wpAny_bind ?_));show wpAny _ X.A (do let _<-comprehension (.ListComp elt [⟨.Name own px,iter,[],0⟩] scope pos) scope X.env _ (newList []) false (eval iter X.env) (some (assign (.Name y py) X.env))) _ _ s
 refine wpAny_bind (wpAny_mono (wpAny_comprehension_free (use:=some (assign (.Name y py) X.env)) (Q:=fun _ s'=>SP X pins D .next s') rfl hs ok.clos ok.kind nloc (a9 (hi pins s σ H _ I h) fun v s1 h1=>a9 h1 fun itv s2 h2=>?_)) (fun _ s' hq=>wpAny_pure (wpAny_pure hq)) fun _ _ e=>e)
 obtain ⟨it,fp,tn,J,H2,rfl,I2,T,st2,f2,q2⟩:=h2;obtain ⟨W,⟨m0,w0⟩,turn⟩:=q2 s2.heap.objs.size (I2.hok.fresh (D8 _));refine wpAny_newObj_type (wpAny_newFunctionEnv ncell (by intro y hy;simp at hy) (fun h1 hns hsb=>?_) ok.kind)
 have I3:=I2.laid (a:=s2.heap.objs.size) (o:= .lst []) (h':=s2.heap.push {cls:= .type "list",dict:=none,data:= .seq ([]:GX).toArray}) (t':=s2.toks) (fun b u q=>Heap.get?_push_of_some _ q) (D8 _)
  ⟨EC _,[],0,.nil,Heap.get?_push_size _ rfl⟩
 have fpo:∀b∈fp,b<s2.heap.objs.size:=fun b hb=>by
  obtain ⟨o,e,_⟩:=T.obj 0 _ st2 b hb;exact Heap.lt_size e
 have f3:∀b∈fp,df X pins (av H2 s2.heap.objs.size (.lst [])) b:=fun b hb=>⟨by rw[ar (DI (fpo b hb))];exact (f2 b hb).1,(f2 b hb).2⟩
 generalize hs3:({s2 with heap:=s2.heap.push {cls:= .type "list",dict:=none,data:= .seq ([]:GX).toArray},toks:=s2.toks}:Shared)=s3 at I3
 have e3:s3.heap=s2.heap.push {cls:= .type "list",dict:=none,data:= .seq ([]:GX).toArray}:=by rw[<-hs3]
 have lt3:∀b∈fp,b<s3.heap.objs.size:=fun b hb=>by rw[e3,Heap.size_push];exact EN (fpo b hb)
 dsimp only at hns hsb⊢;rw[<-e3] at hns hsb;have hk:∀b o,s3.heap.get? b=some o->h1.get? b=some o:=fun b o e=>hsb.extBut b o (DI (Heap.lt_size e)) (Heap.get?_push_of_some _ e)
 have J0:=dL (h1:=h1) ok I3 f3 lt3 hns hk (s2.toks+0);have t0:tn 0 h1:=T.keep 0 _ _ st2 fun b hb o e=>hk b o (by rw[e3];exact Heap.get?_push_of_some _ e)
 have fpB:∀{H':Hp},(∀b∈fp,H' b=none)->∀b∈fp,df (X.block scope cl s3.heap.objs.size (own::ys) own fp s3 (av H2 s2.heap.objs.size (.lst []))) [] H' b:=fun {H'} hn b hb=>
  ⟨hn b hb,DI (lt3 b hb),fun z=>(DM.mp (I3.stkSub b z)).elim (f3 b hb).2.1 (f3 b hb).2.2.1,.inl hb,fun x c e=>(f3 b hb).2.2.2.2.1 x c (ok.sub (x,c) (ER e)),fun p hp=>absurd (show p∈([]:GT) from hp) (by simp)⟩
 have loop:codeAny (model X.prog X.w) X.A (.compLoop (.ListComp elt [⟨.Name own px,iter,[],0⟩] scope pos) 0 (.ref it) (.ref s2.heap.objs.size) (compEnvC scope cl s3.heap.objs.size X.env))
   (compPost (model X.prog X.w) X.A X.xe (some (assign (.Name y py) X.env)) (fun _ s'=>SP X pins D .next s') (.ref s2.heap.objs.size) s3.heap.objs.size) {s3 with heap:=h1,toks:=s2.toks+0}:=by
  refine dY (fun n s'=>∃i zs o0 H',aE (X.block scope cl s3.heap.objs.size (own::ys) own fp s3 (av H2 s2.heap.objs.size (.lst []))) [] (o0::aM js σ) H' s'/\tn i s'.heap/\(∀b∈fp,H' b=none)/\W i n zs H') ?_ m0
   ⟨0,[],none,_,J0,t0,fun b hb=>(f3 b hb).1,w0⟩
  rintro n s5 ⟨i,zs,o0,H5,I5,t5,n5,w5⟩;obtain ⟨hD,hw⟩:=turn i n zs H5 w5;rcases hw with ⟨stop,qn⟩|⟨go,hz,step⟩
  ·refine a9 (T.done (X.block scope cl s3.heap.objs.size (own::ys) own fp s3 (av H2 s2.heap.objs.size (.lst []))) rfl rfl rfl hc i [] s5 _ H5 (fun _ _=>False) I5 (fpB n5) t5 stop) fun r s6 ⟨hr,I6⟩=>?_
   subst hr;obtain ⟨m,hn,_⟩:=id I6.loc;have J:aE X pins σ H5 s6:=fo (h':=s6.heap) I3 f3 I6 (Heap.SameBut.refl _ _);have fC:=I3.fpOk (D8 _) (show H5 s3.heap.objs.size=none from I6.free)
   obtain ⟨k0,k1,k2,k3,k4,k5⟩:=fC;show wpAny _ X.A (assign (.Name y py) X.env (.ref s2.heap.objs.size)) _ _ _;refine wpAny_assign_Name (iO (v:= .ref s2.heap.objs.size) J hN hi' (.inl hy) rfl (fun s7 I7 hsb=>?_) (.inr hy))
   obtain ⟨a',sb,ha⟩:=hsb;have ne:s3.heap.objs.size≠a':=by
    rcases ha with z|z
    ·rw[z];exact k1
    ·exact fun w=>k4 _ _ z w.symm
   exact ⟨m,hn.sameBut sb ne,fun h' hs'=>⟨_,H5,I7.turned (t':=s7.toks) (fun b o hb e=>(hs'.2 b hb).trans e) k0 k1 k3 k4 k5,qn⟩⟩
  ·refine a9 (T.item (X.block scope cl s3.heap.objs.size (own::ys) own fp s3 (av H2 s2.heap.objs.size (.lst []))) rfl rfl rfl hc i [] s5 _ H5 (fun _ _=>False) I5 (fpB n5) t5 go) fun r s6 ⟨u,hr,h6⟩=>?_
   subst hr;refine a9 h6 fun _ s7 ⟨x,H7,I7,r7,y7,t7,n7⟩=>?_
   have I7':=I7.pinned (fpB n7) (T.obj _ _ t7);have hst:=step x H7 y7;have own':(relabel scope X.env).names.lookup own=some .local:=lookup_relabel_local ok.ownL;refine a9 (fL (X:=X.block scope cl s3.heap.objs.size (own::ys) own fp s3 (av H2 s2.heap.objs.size (.lst []))) (i:=0) (x:=own) (pos:=px) ok.nd rfl (.inl own') (.inr own') _ s7 _ H7 x u (fun σ' H'=>σ'=some x::aM js σ/\H'=H7) I7' r7 ⟨rfl,rfl⟩) fun _ s8 ⟨σ8,H8,I8,e8,eH8⟩=>?_
   subst e8 eH8;refine a9 (he _ _ _ _ _ s8 _ H8 _ I8 hst) fun yv s9 ⟨y,H9,I9,r9,hD9,m',hm,w9⟩=>?_
   refine a9 (bo _ s9 _ H9 (.ref s2.heap.objs.size) [y] (.ref s2.heap.objs.size) [yv] (fun _ H'=>H'=av H9 s2.heap.objs.size (.lst (zs++ [y]))) I9 rfl (.cons r9 .nil) ⟨_,zs,y,rfl,rfl,hD9,hz,rfl⟩) fun _ s10 ⟨_,H10,I10,_,e10⟩=>?_
   subst e10;refine ⟨m',hm,i+1,zs++ [y],some x,_,I10.unpinned,T.keep _ _ _ t7 fun b hb o e=>(I10.pin (b,o) (DJ _ (DJ _ (bu hb e)))).1,fun b hb=>?_,w9⟩
   obtain ⟨o,e,d⟩:=T.obj _ _ t7 b hb;exact (I10.pin (b,o) (DJ _ (DJ _ (bu hb e)))).2.1
 subst hs3;exact codeAny_compStart_list loop (T.self _ 0 _ _ _ t0 loop)
end
end L2
namespace Sw
open PySem L2 XH PySem.NumText
end Sw
namespace L2
open PySem PySem.Spec PyProof.Rows XH Sw So Hm
theorem wS {X:Cx} (hu:X.A.units<cLine):fY X (compareOp .NotEq) (fun x y H Q=>∃a b zs,x= .ref a/\y= .ref b/\aK X.K H a zs/\aK X.K H b []/\Q (.bl (!zs.isEmpty)) H):=by
 intro pins s σ H x y v u Q I rx ry h;obtain ⟨a,b,zs,rfl,rfl,h1,h2,hq⟩:=h;cases rx;cases ry;obtain ⟨i1,r1,p1,_⟩:=I.list h1;obtain ⟨i2,r2,p2,_⟩:=I.list h2;cases r2;cases zs with
 |nil=>
  cases r1;refine SeqAt.RcNeAt.lists (e:=fun _=>true) p1.isList p2.isList rfl hu (fun j g1 g2=>absurd g1 (by simp)) _ _ _ _ ?_
  exact ⟨.bl false,H,I,by show Value.bool _=Value.bool _;simp,hq⟩
 |cons z zs=>
  cases r1 with
  |cons r rr=>
   refine SeqAt.RcNeAt.lists_lengths p1.isList p2.isList (by simp) hu _ _ _ _ ?_
   exact ⟨.bl true,H,I,rfl,hq⟩
theorem pT {xs:List V} {c:Nat} (h:c<=xs.length):ip xs (some (c:Int)) none=xs.drop c:=by
 have e1:HT.eV xs.length 0 (some (c:Int))=c:=by
  show (if (c:Int)<0 then ((c:Int)+(xs.length:Int)).toNat else min (c:Int).toNat xs.length)=c
  rw[if_neg (by lia)]
  lia
 have e2:HT.eV xs.length xs.length none=xs.length:=rfl;unfold ip;rw[e1,e2,ET (by rw[Ec];lia)]
end L2
namespace Sw
open PySem L2 XH Hm
theorem jR {n j:Nat} (h:j<n):xO n (j:Int)=some j:=by
 unfold xO;rw[if_pos (by lia),if_pos (by lia)]
 rfl
theorem gM {xs:List V} {i:Nat} {v:V} (h:xs[i]?=some v):iU xs (0+(i:Int))=some v:=by
 rw[FD];exact aU h
def Fl (l:Addr) (H H':Hp):Prop:=∀a o,a≠l->H a=some o->H' a=some o
theorem Fl.refl (l:Addr) (H:Hp):Fl l H H:=fun _ _ _ h=>h
theorem Fl.trans {l:Addr} {H H1 H2:Hp} (a:Fl l H H1) (b:Fl l H1 H2):Fl l H H2:=fun c o n h=>b c o n (a c o n h)
theorem Fl.of {l:Addr} {H H':Hp} (g:az H H'):Fl l H H':=fun a o _ h=>g a o h
theorem Fl.put (l:Addr) (H:Hp) (o:HO):Fl l H (av H l o):=fun a u n h=>by rw[ar n];exact h
end Sw
namespace L2
open PySem PySem.Spec PyProof.Rows XH Sw Hm
end L2
namespace Sw
open PySem L2 XH Hm
def cX {α:Type} (R:Addr->α->Prop) (as:GW) (xs:List α):Prop:=as.length=xs.length/\∀(i:Nat) (a:Addr) (x:α),as[i]?=some a->xs[i]?=some x->R a x
theorem cX.imp {α:Type} {R S:Addr->α->Prop} {as:GW} {xs:List α} (h:cX R as xs) (f:∀a x,R a x->S a x):cX S as xs:=⟨h.1,fun i a x e1 e2=>f a x (h.2 i a x e1 e2)⟩
theorem cX.get {α:Type} {R:Addr->α->Prop} {as:GW} {xs:List α} (h:cX R as xs) {i:Nat} {x:α} (e:xs[i]?=some x):∃a,as[i]?=some a/\R a x:=by
 have il:i<as.length:=by rw[h.1];exact (D4.mp e).1
 exact ⟨_,D0 il,h.2 i _ x (D0 il) e⟩
theorem cX.nil {α:Type} {R:Addr->α->Prop}:cX R [] ([]:List α):=⟨rfl,fun i a x e=>by simp at e⟩
def cy (H:Hp) (l:Addr) (ks:List Ky):Prop:=∃as:GW,H l=some (.lst (as.map V.ref))/\cX (fun t k=>H t=some (.tup (k.map V.int))) as ks
theorem cy.same {H H':Hp} {l:Addr} {ks:List Ky} (h:cy H l ks) (g:az H H'):cy H' l ks:=by
 obtain ⟨as,e,r⟩:=h;exact ⟨as,g _ _ e,r.imp fun a k q=>g _ _ q⟩
end Sw
namespace L2
open PySem PySem.Spec PyProof.Rows XH
theorem gZ {X:Cx}:c4 X (.builtin "len") (fun xs H Q=>∃(d:Addr) (kvs:List (Key×V)),xs= [.ref d]/\H d=some (.dK kvs)/\Q (.int kvs.length) H):=by
 intro pins s σ H xs us Q I r h;obtain ⟨d,kvs,rfl,hd,q⟩:=h;obtain ⟨u,rfl,ru⟩:=vals1 r;cases ru;exact Bj I (.inl hd) fun t s' I'=>⟨.int kvs.length,H,I',⟨t,rfl⟩,q⟩
theorem cN {X:Cx} {K:D5} (h:X.K=K):AR X (Bg K):=by
 subst h;exact aD
theorem ke {X:Cx} {K:D5} (h:X.K=K):AR X (Bf K):=by
 subst h;exact aO
theorem rN {X:Cx} {K:D5} (h:X.K=K):c4 X (.type "list") (fun xs H Q=>∃p ys,xs= [.ref p]/\(aK K H p ys∨bH K H p ys)/\∀l,H l=none->Q (.ref l) (av H l (.lst ys))):=by
 subst h;exact c6
theorem rQ:bootBuiltins "dict" =some (.type "dict"):=by kernel_rfl
end L2
namespace Sw
open PySem L2 XH Hm
def kg (td tl al pl n:V):List (Str×V):=aW "moments" n (aW "apart" pl (aW "arcs" al (aW "tasks" tl (aW "tools" td []))))
theorem yD {td tl al pl n:V}:(kg td tl al pl n).lookup ("tools" :Str)=some td/\(kg td tl al pl n).lookup ("tasks" :Str)=some tl/\(kg td tl al pl n).lookup ("arcs" :Str)=some al/\(kg td tl al pl n).lookup ("apart" :Str)=some pl/\(kg td tl al pl n).lookup ("moments" :Str)=some n:=by
 unfold kg;refine ⟨?_,?_,?_,?_,?_⟩
 ·rw[aX,if_neg (by decide),aX,if_neg (by decide),aX,if_neg (by decide),aX,if_neg (by decide),aX,if_pos rfl]
 ·rw[aX,if_neg (by decide),aX,if_neg (by decide),aX,if_neg (by decide),aX,if_pos rfl]
 ·rw[aX,if_neg (by decide),aX,if_neg (by decide),aX,if_pos rfl]
 ·rw[aX,if_neg (by decide),aX,if_pos rfl]
 ·rw[aX,if_pos rfl]
def Fx (x:Addr) (H H':Hp):Prop:=∀a o,a≠x->H a=some o->H' a=some o
theorem Fx.of {x:Addr} {H H':Hp} (g:az H H'):Fx x H H':=fun a o _ h=>g a o h
theorem Fx.put (x:Addr) (H:Hp) (o:HO):Fx x H (av H x o):=fun a u n h=>by rw[ar n];exact h
theorem Fx.trans {x:Addr} {H H1 H2:Hp} (a:Fx x H H1) (b:Fx x H1 H2):Fx x H H2:=fun c o n h=>b c o n (a c o n h)
theorem cy.fx {x:Addr} {H H':Hp} {l:Addr} {ks:List Ky} {C dx:Addr} {fs:List (Str×V)} (h:cy H l ks) (ex:H x=some (.ins C dx fs)) (g:Fx x H H'):cy H' l ks:=by
 obtain ⟨as,e,r⟩:=h;exact ⟨as,g _ _ (jp e ex (by intro z;cases z)) e,r.imp fun a k q=>g _ _ (jp q ex (by intro z;cases z)) q⟩
def tF:Sp:=fun vs H Q _=>∃(al:Addr) (m:Int) (A:List Ky),vs= [.ref al,.int m]/\cy H al A/\A.length<=600/\(∀k∈A,∃p q g:Int,k= [p,q,g]/\0<=p/\p<m/\0<=q/\q<m/\ -1000000000<=g/\g<=1000000000)/\Q .non H
end Sw
namespace L2
open PySem PySem.Spec PyProof.Rows XH
abbrev Cx.blockT (X:Cx) (scope:Scope) (cl:List (Str×Addr)) (C:Addr) (N:GV) (os:GV) (fp:GW) (s:Shared) (H:Hp):Cx:=
 {X with env:=compEnvC scope cl C X.env,N:=N,s₀:=s,H₀:=H,outer:=X.stack,stack:=X.stack,ex:=fp,fn:=fun y=>os.contains y,pn:= [],xe:=fun _ _=>False}
structure nU (X:Cx) (scope:Scope) (cl:List (Str×Addr)) (os:GV) (ys:GV) (js:List Nat):Prop where
 clos:closureFor scope X.env=pure cl
 nocell:(scope.names.all fun p=> !(p.2== .cell))=true
 kind:scope.kind= .function
 loc:(scope.names.all fun p=> !(p.2== .local)||scope.names.lookup p.1==some .local)=true
 sub:∀p∈cl,X.env.cells.lookup p.1=some p.2
 has:((relabel scope X.env).names.all fun p=> !(p.2== .cell||p.2== .free)||(cl.lookup p.1).isSome)=true
 noown:∀x∈os,cl.lookup x=none
 at_:Sw.iX X scope ys js
 len:js.length=ys.length
def wT (n:Nat) (g:TG) (js:List Nat) (te:TE) (σ:St) (Q:VK):It->Hp->Prop:=fun J H1=>∀p,H1 p=none->∃W:Nat->Nat->List V->Hp->Prop,(∃m,W 0 m [] (av H1 p (.lst [])))/\
 ∀i m ys H2,W i m ys H2->H2 p=some (.lst ys)/\((J.stop i H2/\Q (.ref p) H2)∨(J.go i H2/\ys.length<sizeLine/\∀x H3,J.yld i H2 x H3->∀o:St,o.length=n->g x (o++aM js σ) H3 fun σ4 H4=>(∃o':St,o'.length=n/\σ4=o'++aM js σ)/\
  te σ4 H4 fun y H5=>H5 p=some (.lst ys)/\∃m',m'<m/\W (i+1) m' (ys++ [y]) (av H5 p (.lst (ys++ [y])))))
def Ab (wi:TI) (n:Nat) (g:TG) (js:List Nat) (te:TE):TE:=fun σ H Q=>wi σ H (wT n g js te σ Q)
section
variable {X:Cx} {scope:Scope} {cl:List (Str×Addr)} {os:GV} {ys:GV} {js:List Nat} {fp:GW} {pins:GT} {σ:St} {H:Hp} {s s4:Shared}
theorem nV {h1:Heap} (ok:nU X scope cl os ys js) (I:aE X pins σ H s) (hf:∀b∈fp,df X pins H b) (hlt:∀b∈fp,b<s.heap.objs.size) (hns:h1.Ns s.heap.objs.size (fun _=>none))
  (hk:∀b o,s.heap.get? b=some o->h1.get? b=some o) (tk:Nat):
  aE (X.blockT scope cl s.heap.objs.size (os++ys) os fp s H) [] (os.map (fun _=>none)++aM js σ) H {s with heap:=h1,toks:=tk}:=by
 have sub:∀y c,cl.lookup y=some c->X.env.cells.lookup y=some c:=fun y c e=>ok.sub (y,c) (ER e)
 refine ⟨⟨I.ok.mod,ok.kind,I.ok.glob,I.ok.blt,D8 _,fun x y c e1 e2=>I.ok.inj x y c (sub x c e1) (sub y c e2),fun x hx=>?_,fun x c e1 e2=>?_,I.ok.hd,I.ok.frames,.inl rfl,fun b hb=>⟨DI (hlt b hb),fun x c e=>(hf b hb).2.2.2.2.1 x c (sub x c e)⟩,
  I.bs,ED I.ok.bsz I.sz,fun b o e hb=>?_,fun b hb z=>?_,I.stack,I.stkFree⟩,rfl,I.bare,Un.kept hk,⟨_,hns,fun i y v e1 e2 e3=>?_⟩,fun y c e=>?_,I.hok.fresh (D8 _),fun y c e=>I.freeC y c (sub y c e),fun p hp=>absurd (show p∈([]:GT) from hp) (by simp),I.hok.kept hk,?_⟩
 ·have hx':(relabel scope X.env).names.lookup x=some .cell∨(relabel scope X.env).names.lookup x=some .free:=hx;rcases hx' with z|z
  ·have q:=lookup_all ok.has z;simp only[beq_self_eq_true,Bool.true_or,FE,FF] at q;exact EI.mp q
  ·have q:=lookup_all ok.has z;simp only[beq_self_eq_true,Bool.or_true,FE,FF] at q;exact EI.mp q
 ·have e1':os.contains x=true:=e1;have e2':cl.lookup x=some c:=e2;rw[ok.noown x (List.contains_iff_mem.mp e1')] at e2';cases e2'
 ·rcases (hf b hb).2.2.2.1 with z|z
  ·exact I.ok.noex b o e z
  ·exact absurd (EB (Heap.lt_size (I.ok.bs b o e).1) z) (FW _)
 ·rcases DM.mp (I.stkSub b z) with q|q
  ·exact (hf b hb).2.1 q
  ·exact (hf b hb).2.2.1 q
 ·by_cases hi:i<os.length
  ·have e2':(os.map (fun _=>(none:Option V))++aM js σ)[i]?=some (some v):=e2
   rw[DQ (by rw[D3];exact hi),D9,D0 hi] at e2'
   cases e2'
  ·have e1'':(os++ys)[i]?=some y:=e1;have e2'':(os.map (fun _=>(none:Option V))++aM js σ)[i]?=some (some v):=e2
   rw[DH (by lia)] at e1''
   rw[DH (by rw[D3];lia),D3] at e2''
   have e1':=e1'';have e2:=e2'';clear e1 e1'' e2'';generalize i-os.length=i at e1' e2;obtain ⟨j,hj,hN,hX,hc⟩:=ok.at_ i y e1';have e2':(aM js σ)[i]?=some (some v):=e2;unfold aM at e2';rw[D9,hj] at e2';have hs:σ[j]?=some (some v):=by
    cases q:σ[j]? with
    |none=>rw[Ek,q] at e2';cases e2'
    |some o=>rw[Ek,q] at e2';exact e2'
   obtain ⟨m,hn,hl⟩:=I.loc;obtain ⟨u,r,l⟩:=hl j y v hN hs (hX.elim (fun z=> .inr (.inl z)) fun z=> .inr (.inr z))
   refine ⟨u,r,.inr ⟨hc,?_⟩⟩;rcases l with ⟨k,_⟩|⟨k,c,hcl,hcell⟩
   ·have k':X.env.scope.names.lookup y=some .local:=k;rcases hX with z|z<;>(rw[z] at k';cases k')
   ·have ex:∃c',cl.lookup y=some c':=by
     rcases hc with z|z
     ·have q:=lookup_all ok.has z;simp only[beq_self_eq_true,Bool.true_or,FE,FF] at q;exact EI.mp q
     ·have q:=lookup_all ok.has z;simp only[beq_self_eq_true,Bool.or_true,FE,FF] at q;exact EI.mp q
    obtain ⟨c',hc'⟩:=ex;have e:=sub y c' hc';rw[hcl] at e;cases e;obtain ⟨oc,hoc,hd⟩:=hcell;exact ⟨c,hc',oc,hk _ _ hoc,hd⟩
 ·obtain ⟨v,oc,hoc,hd⟩:=I.cell y c (sub y c e);exact ⟨v,oc,hk _ _ hoc,hd⟩
 ·show (os.map (fun _=>(none:Option V))++aM js σ).length=(os++ys).length
  simp[aM,ok.len]
theorem rS {H':Hp} {h':Heap} {σ':St} (I:aE X pins σ H s) (hf:∀b∈fp,df X pins H b) (J:aE (X.blockT scope cl s.heap.objs.size (os++ys) os fp s H) [] σ' H' s4) (hs:Heap.SameBut s.heap.objs.size s4.heap h'):
  aE X pins σ H' {s4 with heap:=h'}:=by
 have low:∀b o,s.heap.get? b=some o->b≠s.heap.objs.size:=fun b o e=>DI (Heap.lt_size e)
 have B:=J.base;have u:Un (jH X.stack) fp H H' s.heap h':={
  keep:=fun b o q n hb hx=>(hs.2 b (low b o q)).trans (B.keep b o q n hb hx)
  slot:=fun b o q n hb hx=>by
   obtain ⟨sl,e⟩:=B.slot b o q n hb hx;exact ⟨sl,(hs.2 b (low b o q)).trans e⟩
  free:=B.free
  there:=fun b o q hx=>by
   obtain ⟨o',e⟩:=B.there b o q hx;exact ⟨o',(hs.2 b (low b o q)).trans e⟩
  tups:=B.tups
  frzs:=B.frzs
  tbls:=B.tbls}
 have hn:H' s.heap.objs.size=none:=J.free;have hk:fG X.prog X.w H' h':=fun a o e=>(J.hok a o e).stay (fun b v hb q=>(hs.2 b (by
  intro z;rcases hb with z'|z'
  ·rw[<-z',z,hn] at e;cases e
  ·rw[z,hn] at z';cases z')).trans q) (fun _ q=>q) fun _ _ q=>q
 exact I.call' (s':={s4 with heap:=h'}) (ch:=fp) J.os u hk J.bare fun b hb=>⟨(hf b hb).2.2.2.1,(hf b hb).2.1,(hf b hb).2.2.2.2.1,(hf b hb).2.2.2.2.2⟩
end
section
variable {X:Cx} {scope:Scope} {cl:List (Str×Addr)} {os:GV} {ys:GV} {js:List Nat} {elt iter tg:Expr} {px pos:Pos} {wi:TI} {te:TE} {g:TG}
theorem wU (hc:X.calm=true) (ok:nU X scope cl os ys js) (hi:PI X tg iter wi)
  (hg:∀(C:Addr) (fp:GW) (s:Shared) (H:Hp),PG (X.blockT scope cl C (os++ys) os fp s H) tg g)
  (he:∀(C:Addr) (fp:GW) (s:Shared) (H:Hp),PE (X.blockT scope cl C (os++ys) os fp s H) elt te)
  (hs:∀x,foldedSetIterable iter X.env x=pure x:=by intro _;rfl):PE X (.ListComp elt [⟨tg,iter,[],0⟩] scope pos) (Ab wi os.length g js te):=by
 intro pins s σ H Q I h;rw[eval_ListComp];have ncell:∀y∈scope.names,y.2≠ .cell:=fun y hy z=>by
  have q:=EY.mp ok.nocell y hy;rw[z] at q;simp at q
 have nloc:∀y∈scope.names,y.2= .local->scope.names.lookup y.1=some .local:=fun y hy z=>by
  have q:=EY.mp ok.loc y hy;rw[z] at q
  simpa using q
 refine wpAny_comprehension_free (use:=none) rfl hs ok.clos ok.kind nloc (a9 (hi pins s σ H _ I h) fun v s1 h1=>a9 h1 fun itv s2 h2=>?_)
 obtain ⟨it,fp,tn,J,H2,rfl,I2,T,st2,f2,q2⟩:=h2;obtain ⟨W,⟨m0,w0⟩,turn⟩:=q2 s2.heap.objs.size (I2.hok.fresh (D8 _));refine wpAny_newObj_type (wpAny_newFunctionEnv ncell (by intro y hy;simp at hy) (fun h1 hns hsb=>?_) ok.kind)
 have I3:=I2.laid (a:=s2.heap.objs.size) (o:= .lst []) (h':=s2.heap.push {cls:= .type "list",dict:=none,data:= .seq ([]:GX).toArray}) (t':=s2.toks) (fun b u q=>Heap.get?_push_of_some _ q) (D8 _)
  ⟨EC _,[],0,.nil,Heap.get?_push_size _ rfl⟩
 have fpo:∀b∈fp,b<s2.heap.objs.size:=fun b hb=>by
  obtain ⟨o,e,_⟩:=T.obj 0 _ st2 b hb;exact Heap.lt_size e
 have f3:∀b∈fp,df X pins (av H2 s2.heap.objs.size (.lst [])) b:=fun b hb=>⟨by rw[ar (DI (fpo b hb))];exact (f2 b hb).1,(f2 b hb).2⟩
 generalize hs3:({s2 with heap:=s2.heap.push {cls:= .type "list",dict:=none,data:= .seq ([]:GX).toArray},toks:=s2.toks}:Shared)=s3 at I3
 have e3:s3.heap=s2.heap.push {cls:= .type "list",dict:=none,data:= .seq ([]:GX).toArray}:=by rw[<-hs3]
 have lt3:∀b∈fp,b<s3.heap.objs.size:=fun b hb=>by rw[e3,Heap.size_push];exact EN (fpo b hb)
 dsimp only at hns hsb⊢;rw[<-e3] at hns hsb;have hk:∀b o,s3.heap.get? b=some o->h1.get? b=some o:=fun b o e=>hsb.extBut b o (DI (Heap.lt_size e)) (Heap.get?_push_of_some _ e)
 have J0:=nV (h1:=h1) ok I3 f3 lt3 hns hk (s2.toks+0);have t0:tn 0 h1:=T.keep 0 _ _ st2 fun b hb o e=>hk b o (by rw[e3];exact Heap.get?_push_of_some _ e)
 have fpB:∀{H':Hp},(∀b∈fp,H' b=none)->∀b∈fp,df (X.blockT scope cl s3.heap.objs.size (os++ys) os fp s3 (av H2 s2.heap.objs.size (.lst []))) [] H' b:=fun {H'} hn b hb=>
  ⟨hn b hb,DI (lt3 b hb),fun z=>(DM.mp (I3.stkSub b z)).elim (f3 b hb).2.1 (f3 b hb).2.2.1,.inl hb,fun x c e=>(f3 b hb).2.2.2.2.1 x c (ok.sub (x,c) (ER e)),fun p hp=>absurd (show p∈([]:GT) from hp) (by simp)⟩
 have loop:codeAny (model X.prog X.w) X.A (.compLoop (.ListComp elt [⟨tg,iter,[],0⟩] scope pos) 0 (.ref it) (.ref s2.heap.objs.size) (compEnvC scope cl s3.heap.objs.size X.env))
   (compPost (model X.prog X.w) X.A X.xe none (EP X pins σ Q) (.ref s2.heap.objs.size) s3.heap.objs.size) {s3 with heap:=h1,toks:=s2.toks+0}:=by
  refine dY (fun n s'=>∃i zs o0 H',aE (X.blockT scope cl s3.heap.objs.size (os++ys) os fp s3 (av H2 s2.heap.objs.size (.lst []))) [] (o0++aM js σ) H' s'/\o0.length=os.length/\tn i s'.heap/\(∀b∈fp,H' b=none)/\W i n zs H') ?_ m0
   ⟨0,[],os.map (fun _=>none),_,J0,D3 _,t0,fun b hb=>(f3 b hb).1,w0⟩
  rintro n s5 ⟨i,zs,o0,H5,I5,l5,t5,n5,w5⟩;obtain ⟨hD,hw⟩:=turn i n zs H5 w5;rcases hw with ⟨stop,qn⟩|⟨go,hz,step⟩
  ·refine a9 (T.done (X.blockT scope cl s3.heap.objs.size (os++ys) os fp s3 (av H2 s2.heap.objs.size (.lst []))) rfl rfl rfl hc i [] s5 _ H5 (fun _ _=>False) I5 (fpB n5) t5 stop) fun r s6 ⟨hr,I6⟩=>?_
   subst hr;obtain ⟨m,hn,_⟩:=id I6.loc;exact ⟨m,hn,fun h' hs'=>⟨V.ref s2.heap.objs.size,H5,rS I3 f3 I6 hs',rfl,qn⟩⟩
  ·refine a9 (T.item (X.blockT scope cl s3.heap.objs.size (os++ys) os fp s3 (av H2 s2.heap.objs.size (.lst []))) rfl rfl rfl hc i [] s5 _ H5 (fun _ _=>False) I5 (fpB n5) t5 go) fun r s6 ⟨u,hr,h6⟩=>?_
   subst hr;refine a9 h6 fun _ s7 ⟨x,H7,I7,r7,y7,t7,n7⟩=>?_
   have I7':=I7.pinned (fpB n7) (T.obj _ _ t7);have hst:=step x H7 y7;refine a9 (hg _ _ _ _ _ s7 _ H7 x u _ I7' r7 (hst o0 l5)) fun _ s8 ⟨σ8,H8,I8,⟨o8,l8,e8⟩,hst⟩=>?_
   subst e8;refine a9 (he _ _ _ _ _ s8 _ H8 _ I8 hst) fun yv s9 ⟨y,H9,I9,r9,hD9,m',hm,w9⟩=>?_
   refine a9 (bo _ s9 _ H9 (.ref s2.heap.objs.size) [y] (.ref s2.heap.objs.size) [yv] (fun _ H'=>H'=av H9 s2.heap.objs.size (.lst (zs++ [y]))) I9 rfl (.cons r9 .nil) ⟨_,zs,y,rfl,rfl,hD9,hz,rfl⟩) fun _ s10 ⟨_,H10,I10,_,e10⟩=>?_
   subst e10;refine ⟨m',hm,i+1,zs++ [y],o8,_,I10.unpinned,l8,T.keep _ _ _ t7 fun b hb o e=>(I10.pin (b,o) (DJ _ (DJ _ (bu hb e)))).1,fun b hb=>?_,w9⟩
   obtain ⟨o,e,d⟩:=T.obj _ _ t7 b hb;exact (I10.pin (b,o) (DJ _ (DJ _ (bu hb e)))).2.1
 subst hs3;exact codeAny_compStart_list loop (T.self _ 0 _ _ _ t0 loop)
end
end L2
namespace Sw
open PySem L2 XH
theorem CY {X:Cx} {scope:Scope} {cl:List (Str×Addr)} {os ys:GV} {js:List Nat} (a:iX X scope ys js) (s:rq X cl) (len:js.length=ys.length) (clos:closureFor scope X.env=pure cl) (nocell:(scope.names.all fun p=> !(p.2== .cell))=true) (kind:scope.kind= .function)
  (loc:(scope.names.all fun p=> !(p.2== .local)||scope.names.lookup p.1==some .local)=true) (has:((relabel scope X.env).names.all fun p=> !(p.2== .cell||p.2== .free)||(cl.lookup p.1).isSome)=true) (noown:(os.all fun x=>(cl.lookup x).isNone)=true):nU X scope cl os ys js:=
 ⟨clos,nocell,kind,loc,s.all,has,fun x hx=>by have:=EY.mp noown x hx;simpa using this,a,len⟩
theorem yE {X:Cx} {K:D5} {es:List Expr} {k:Nat} {t:y4} {n:Nat} {pos:Pos} (hK:X.K=K) (hc:X.calm=true) (h:A1 X es t) (hn:(assignEach es X.env).length=n:=by rfl) (hst:(assignEach es X.env).findIdx? (·.1)=none:=by rfl):PG X (.Tuple es k pos) (A5 K n t):=by
 subst hK;exact c5 hc h hn hst
theorem pU {X:Cx} {scope:Scope} {cl:List (Str×Addr)} {C:Addr} {fp:GW} {s:Shared} {H:Hp} {os ys:GV} {i:Nat} {x:Str} {pos:Pos} (nd:(os++ys).Nodup) (hi:(os++ys)[i]?=some x) (hl:(relabel scope X.env).names.lookup x=some .local):PG (X.blockT scope cl C (os++ys) os fp s H) (.Name x pos) (aT i):=
 fL (X:=X.blockT scope cl C (os++ys) os fp s H) nd hi (.inl hl) (.inr hl)
end Sw
namespace L2
open PySem PySem.Spec PyProof.Rows XH
end L2
namespace Sw
open PySem L2 XH
end Sw
namespace L2
open PySem PySem.Spec PyProof.Rows
end L2
namespace Sw
open PySem L2 XH
end Sw
namespace L2
open PySem PySem.Spec PyProof.Rows
end L2
namespace Sw
open PySem L2 XH
end Sw
namespace L2
open PySem PySem.Spec PyProof.Rows XH
def lC (R:V->V->Prop):List V->List V->Prop
 | [],[]=>True
 |x::xs,y::ys=>R x y/\lC R xs ys
 |_,_=>False
theorem lC.len {R:V->V->Prop}:∀{xs ys:List V},lC R xs ys->xs.length=ys.length
 | [],[],_=>rfl
 |_::_,_::_,h=>by simp[lC.len h.2]
 | [],_::_,h=>h.elim
 |_::_,[],h=>h.elim
def vH (K:D5) (H:Hp):Nat->V->V->Prop
 |0,x,y=>x=y/\CP x
 |n+1,x,y=>vH K H n x y∨∃a b xs ys,x= .ref a/\y= .ref b/\((bH K H a xs/\bH K H b ys)∨(aK K H a xs/\aK K H b ys))/\lC (vH K H n) xs ys
theorem jS {A:Around} {s:Shared} {R:V->V->Prop} (hR:∀x y u w,R x y->RelV x u->RelV y w->SeqAt.EqAt A s u w true):∀{xs ys:List V} {us ws:GX},lC R xs ys->aS xs us->aS ys ws->∀j (h1:j<us.length) (h2:j<ws.length),SeqAt.EqAt A s us[j] ws[j] true
 | [],[],_,_,_,.nil,.nil,j,h1,_=>absurd h1 (by simp)
 |_::_,_::_,_,_,h,.cons r1 _,.cons r2 _,0,_,_=>hR _ _ _ _ h.1 r1 r2
 |_::_,_::_,_,_,h,.cons _ t1,.cons _ t2,j+1,h1,h2=>jS hR h.2 t1 t2 j (by simpa using h1) (by simpa using h2)
theorem nW {X:Cx} {pins:GT} {σ:St} {H:Hp} {s:Shared} (I:aE X pins σ H s):∀(n:Nat) (A:Around) (x y:V) (u w:Value),A.units+n<cLine->vH X.K H n x y->RelV x u->RelV y w->SeqAt.EqAt A s u w true
 |0,A,x,y,u,w,_,h,r1,r2=>by
  obtain ⟨rfl,hs⟩:=h;exact wu hs r1 r2
 |n+1,A,x,y,u,w,hu,h,r1,r2=>by
  rcases h with h|⟨a,b,xs,ys,rfl,rfl,hq,hA⟩
  ·exact nW I n A x y u w (by lia) h r1 r2
  cases r1;cases r2
  by_cases e:a=b
  ·subst e;exact SeqAt.EqAt.same _
  refine SeqAt.EqAt.of_refs e ?_;have ih:=fun x y u w=>nW I n A.in1 x y u w (by show A.units+1+n<_;lia)
  rcases hq with ⟨h1,h2⟩|⟨h1,h2⟩
  ·obtain ⟨i1,v1,p1,_⟩:=I.tuple h1;obtain ⟨i2,v2,p2,_⟩:=I.tuple h2;have k:=SeqAt.RcAt.tuples (A:=A) (e:=fun _=>true) p1 p2 (by lia) fun j g1 g2=>jS (A:=A.in1) (s:=s) ih hA v1 v2 j (by simpa using g1) (by simpa using g2)
   have e1:∀m,((DT m).all fun _=>true)=true:=fun m=>by simp
   rw[e1] at k
   simpa [<-v1.length,<-v2.length,hA.len] using k
  ·obtain ⟨i1,v1,p1,_⟩:=I.list h1;obtain ⟨i2,v2,p2,_⟩:=I.list h2;have k:=SeqAt.RcAt.lists (A:=A) (e:=fun _=>true) p1.isList p2.isList (by simp[<-v1.length,<-v2.length,hA.len]) (by lia) fun j g1 g2=>jS (A:=A.in1) (s:=s) ih hA v1 v2 j (by simpa using g1) (by simpa using g2)
   have e1:∀m,((DT m).all fun _=>true)=true:=fun m=>by simp
   rw[e1] at k;exact k
end L2
namespace Sw
open PySem L2 XH
end Sw
namespace L2
open PySem PySem.Spec PyProof.Rows XH Sw So
theorem yF {X:Cx} (n:Nat) (hu:X.A.units+(n+1)<cLine):fY X (compareOp .NotEq) (fun x y H Q=>∃a b xs ys,x= .ref a/\y= .ref b/\bH X.K H a xs/\bH X.K H b ys/\lC (vH X.K H n) xs ys/\Q (.bl false) H):=by
 intro pins s σ H x y v u Q I rx ry h;obtain ⟨a,b,xs,ys,rfl,rfl,h1,h2,hA,hq⟩:=h;cases rx;cases ry;obtain ⟨i1,v1,p1,_⟩:=I.tuple h1;obtain ⟨i2,v2,p2,_⟩:=I.tuple h2;refine SeqAt.RcNeAt.tuples (e:=fun _=>true) p1 p2 (by lia) (fun j g1 g2=>?_) _ _ _ _ ⟨.bl false,H,I,by show Value.bool _=Value.bool _;simp[<-v1.length,<-v2.length,hA.len],hq⟩
 exact jS (A:=X.A.in1) (s:=s) (fun x y u w=>nW I n X.A.in1 x y u w (by show X.A.units+1+n<_;lia)) hA v1 v2 j (by simpa using g1) (by simpa using g2)
end L2
namespace Sw
open PySem L2 XH Hm
theorem cX.append {α:Type} {R:Addr->α->Prop} {as bs:GW} {xs ys:List α} (h:cX R as xs) (k:cX R bs ys):cX R (as++bs) (xs++ys):=by
 refine ⟨by simp[h.1,k.1],fun i a x e1 e2=>?_⟩
 by_cases c:i<as.length
 ·rw[DQ c] at e1;rw[DQ (by rw[<-h.1];exact c)] at e2
  exact h.2 i a x e1 e2
 ·rw[DH (by lia)] at e1
  rw[DH (by rw[<-h.1];lia),<-h.1] at e2
  exact k.2 _ a x e1 e2
end Sw
namespace L2
open PySem PySem.Spec PyProof.Rows XH Sw Hm
end L2
namespace Sw
open PySem L2 XH Hm
abbrev Rn:=Int×Int×Int
def rk (r:Rn):Ky:= [r.1,r.2.1,r.2.2]
def fU (H:Hp) (t:Addr) (R:List Rn) (M:List Int):Prop:=∃rl ml:Addr,H t=some (.tup [.ref rl,.ref ml])/\cy H rl (R.map rk)/\H ml=some (.lst (M.map V.int))
theorem fU.same {H H':Hp} {t:Addr} {R:List Rn} {M:List Int} (h:fU H t R M) (g:az H H'):fU H' t R M:=by
 obtain ⟨rl,ml,a,b,c⟩:=h;exact ⟨rl,ml,g _ _ a,b.same g,g _ _ c⟩
def cO:List Rn->List Int->List Int
 | [],M=>M
 |r::R,M=>r.1::r.2.1::cO R M
theorem mn (M:List Int):∀R:List Rn,(cO R M).length=2*R.length+M.length
 | []=>by simp[cO]
 |r::R=>by simp[cO,mn M R];lia
theorem pV (M:List Int):∀(R:List Rn) (i:Nat),(cO R M)[2*R.length+i]?=M[i]?
 | [],i=>by simp[cO]
 |r::R,i=>by
  have e:2*(r::R).length+i=(2*R.length+i)+1+1:=by simp;lia
  rw[e];show (cO R M)[2*R.length+i]?=_;exact pV M R i
theorem pW (M:List Int):∀(R:List Rn) (i:Nat) (r:Rn),R[i]?=some r->(cO R M)[2*i]?=some r.1/\(cO R M)[2*i+1]?=some r.2.1
 | [],i,r,h=>by simp at h
 |q::R,0,r,h=>by
  simp at h;subst h;exact ⟨rfl,rfl⟩
 |q::R,i+1,r,h=>by
  have ih:=pW M R i r (by simpa using h)
  exact ih
def wV (M:List Int) (k:Nat):Bool:=decide (M.getD k 0<0)
def yG (A:List Ky) (S:List Int) (k:Nat):Bool:=
 let a:=A.getD k []
 decide (S.getD (a.getD 1 0).toNat 0-S.getD (a.getD 0 0).toNat 0<a.getD 2 0)
def pY:Sp:=fun vs H Q _=>∃(t:Addr) (p:Int) (R:List Rn) (M:List Int) (v:Int),vs= [.ref t,.int p]/\fU H t R M/\0<=p/\(cO R M)[p.toNat]?=some v/\Q (.int v) H
theorem n2 {p A B:Prop} [Decidable p] (h1:¬p->A) (h2:p->B):if (!decide p)=true then A else B:=by
 by_cases h:p
 ·rw[if_neg (by simp[h])];exact h2 h
 ·rw[if_pos (by simp[h])];exact h1 h
theorem bR {α:Type} {xs:List α} {i:Nat} {v d:α} (h:xs[i]?=some v):xs.getD i d=v:=by rw[DN,h];rfl
theorem d0 {as:GW} {i:Nat} {y:V} (h:(as.map V.ref)[i]?=some y):∃a,as[i]?=some a/\y= .ref a:=by
 rw[D9] at h;obtain ⟨a,e,rfl⟩:=DV.mp h;exact ⟨a,e,rfl⟩
theorem cJ {α:Type} {f:α->V} {xs:List α} {i:Nat} {x:α} (h:xs[i]?=some x):(xs.map f)[i]?=some (f x):=by rw[D9,h];rfl
theorem i7 {H:Hp} {bs:GW} {R:List Rn} (h:cX (fun t k=>H t=some (.tup (k.map V.int))) bs (R.map rk)) {i:Nat} {b:Addr} (e:bs[i]?=some b):∃r:Rn,R[i]?=some r/\H b=some (.tup [.int r.1,.int r.2.1,.int r.2.2]):=by
 have il:i<R.length:=by
  have:=(D4.mp e).1;rw[h.1,D3] at this;exact this
 exact ⟨_,D0 il,h.2 i b (rk R[i]) e (by rw[D9,D0 il];rfl)⟩
theorem run_get {H:Hp} {bs:GW} {R:List Rn} (h:cX (fun t k=>H t=some (.tup (k.map V.int))) bs (R.map rk)) {i:Nat} {r:Rn} (e:R[i]?=some r):∃b,bs[i]?=some b/\H b=some (.tup [.int r.1,.int r.2.1,.int r.2.2]):=by
 obtain ⟨b,hb,_⟩:=h.get (i:=i) (x:=rk r) (by rw[D9,e];rfl)
 obtain ⟨r',e',q⟩:=i7 h hb;rw[e] at e';cases e';exact ⟨b,hb,q⟩
theorem yH {R:List Rn} {M:List Int} {p v:Int} (p0:0<=p) (c:p<2*(R.length:Int)) (ev:(cO R M)[p.toNat]?=some v):∃(i:Nat) (r:Rn),p.fdiv 2=(i:Int)/\R[i]?=some r/\iU [V.int r.1,.int r.2.1,.int r.2.2] (p.fmod 2)=some (.int v):=by
 have e1:p.fdiv 2=p/2:=Int.fdiv_eq_ediv_of_nonneg p (by decide)
 have e2:p.fmod 2=p % 2:=Int.fmod_eq_emod_of_nonneg p (by decide)
 have il:p.toNat/2<R.length:=by lia
 obtain ⟨s1,s2⟩:=pW M R _ _ (D0 il);refine ⟨p.toNat/2,_,by rw[e1];lia,D0 il,?_⟩
 rw[e2]
 by_cases h:p.toNat % 2=0
 ·have ep:p % 2=((0:Nat):Int):=by lia
  have en:p.toNat=2*(p.toNat/2):=by lia
  rw[en,s1] at ev;cases ev;rw[ep];exact aU rfl
 ·have ep:p % 2=((1:Nat):Int):=by lia
  have en:p.toNat=2*(p.toNat/2)+1:=by lia
  rw[en,s2] at ev;cases ev;rw[ep];exact aU rfl
theorem yI {R:List Rn} {M:List Int} {p v:Int} {n:Nat} (hn:n=R.length) (c:p-2*(n:Int)≥0) (ev:(cO R M)[p.toNat]?=some v):iU (M.map V.int) (p-2*(n:Int))=some (.int v):=by
 subst hn;obtain ⟨j,hj⟩:∃j:Nat,p.toNat=2*R.length+j:=⟨p.toNat-2*R.length,by lia⟩
 rw[hj,pV] at ev;have e:p-2*(R.length:Int)=(j:Int):=by lia
 rw[e];exact aU (cJ ev)
def AT (z:Int):Prop:=0<=z/\z<2147483629
def ki:Sp:=fun vs H Q _=>∃(c m:Int),vs= [.int c,.int m]/\0<=m/\m<=1000/\∀(p:Addr) (ns:List Int) (H':Hp),H p=none->az H H'->ns.length=m.toNat->(∀z∈ns,AT z)->H' p=some (.lst (ns.map V.int))->Q (.ref p) H'
theorem mq {ns:List Int} {i:Nat} (h:∀z∈ns,AT z) (hi:i<ns.length):∃z,ns[i]?=some z/\AT z:=⟨_,D0 hi,h _ (Ed hi)⟩
theorem fm {a n:Int} (h:0<n):0<=a.fmod n/\a.fmod n<n:=⟨Int.fmod_nonneg_of_pos a h,Int.fmod_lt_of_pos a h⟩
theorem jT {R:V->V->Prop}:∀{xs ys:List V},xs.length=ys.length->(∀(i:Nat) (x y:V),xs[i]?=some x->ys[i]?=some y->R x y)->lC R xs ys
 | [],[],_,_=>trivial
 |x::xs,y::ys,hl,h=>⟨h 0 x y rfl rfl,jT (by simpa using hl) fun i a b e1 e2=>h (i+1) a b (by simpa using e1) (by simpa using e2)⟩
 | [],_::_,hl,_=>by simp at hl
 |_::_,[],hl,_=>by simp at hl
theorem kj {H1 H':Hp} {x dx:Addr} {C:Addr} (nx:H1 x=none) (nd:H1 dx=none) (h:∀a o,a≠x->av (av H1 dx (.own x)) x (.ins C dx []) a=some o->H' a=some o):az H1 H':=fun a o e=>by
 have ax:a≠x:=fun z=>by rw[z,nx] at e;cases e
 have ad:a≠dx:=fun z=>by rw[z,nd] at e;cases e
 exact h a o ax (by rw[ar ax,ar ad];exact e)
end Sw
namespace L2
open PySem PySem.Spec PyProof.Rows XH Sw Hm
end L2
namespace Sw
open PySem L2 XH Hm
end Sw
namespace L2
open PySem PySem.Spec PyProof.Rows XH Sw Hm
theorem u5 {xs:List V} {c:Nat}:ip xs (some (c:Int)) none=xs.drop c:=by
 by_cases h:c<=xs.length
 ·exact pT h
 ·rw[List.drop_eq_nil_of_le (by lia)]
  apply Eb;unfold ip;rw[DK,Ec];have:HT.eV xs.length 0 (some (c:Int))=xs.length:=by
   show (if (c:Int)<0 then ((c:Int)+(xs.length:Int)).toNat else min (c:Int).toNat xs.length)=xs.length
   rw[if_neg (by lia)]
   lia
  rw[this]
  lia
end L2
namespace Sw
open PySem L2 XH Hm
theorem cX.take {α:Type} {R:Addr->α->Prop} {as:GW} {xs:List α} (h:cX R as xs) (n:Nat):cX R (as.take n) (xs.take n):=by
 refine ⟨by rw[DK,DK,h.1],fun i a x e1 e2=>?_⟩
 have il:=(D4.mp e1).1;rw[DK] at il;rw[Ee (by lia)] at e1 e2
 exact h.2 i a x e1 e2
theorem cX.drop {α:Type} {R:Addr->α->Prop} {as:GW} {xs:List α} (h:cX R as xs) (n:Nat):cX R (as.drop n) (xs.drop n):=by
 refine ⟨by rw[Ec,Ec,h.1],fun i a x e1 e2=>?_⟩
 rw[F6] at e1 e2;exact h.2 _ a x e1 e2
end Sw
namespace L2
open PySem PySem.Spec PyProof.Rows XH Sw Hm
end L2
namespace Sw
open PySem L2 XH Hm
theorem hG {α:Type} {P:List α->Prop} (h:∀a,P [a]):∀us:List α,us.length=1->P us
 | [a],_=>h a
theorem bZ {α:Type} {P:List α->Prop} (h:∀a b,P [a,b]):∀us:List α,us.length=2->P us
 | [a,b],_=>h a b
theorem ko {α:Type} {P:List α->Prop} (h:∀a b c,P [a,b,c]):∀us:List α,us.length=3->P us
 | [a,b,c],_=>h a b c
theorem rV {α:Type} {P:List α->Prop} (h:∀a b c d,P [a,b,c,d]):∀us:List α,us.length=4->P us
 | [a,b,c,d],_=>h a b c d
theorem Ac {α:Type} {P:List α->Prop} (h:∀a b c d e,P [a,b,c,d,e]):∀us:List α,us.length=5->P us
 | [a,b,c,d,e],_=>h a b c d e
abbrev FnAt (K:D5) (f:Addr) (n q:Str) (st:Stmt) (dV:Value):Prop:=∃(oc:Value) (od:GY) (kV dc pm:Value) (an:GY) (cd ct:Value) (sl:GU),K.lookup f=some ⟨oc,od,.func (Ez n q (dX st) (c7 st) (aw st) dV kV dc pm an cd ct),sl⟩/\PySem.W.codeIn K cd q=true/\FG K (.ref f)=true
abbrev cz (K:D5) (f:Addr) (x:Str) (st:Stmt) (dV:Value):Prop:=E5 K mainGlobals x=some (some (.ref f))/\FnAt K f x x st dV
abbrev CZ (n q:Str) (st:Stmt) (dV:Value) (ps:GV):Prop:=∀(kV doc pm:Value) (an:GY) (cdv ct:Value) (us:GX),us.length=ps.length->bindArgs (Ez n q (dX st) (c7 st) (aw st) dV kV doc pm an cdv ct) ⟨us,[]⟩=pure (ps.zip us)
theorem fO {N P:GV} {sc:Scope} (h:N.Nodup/\(∀x∈P,sc.names.lookup x=some .local∨sc.names.lookup x=some .cell)/\∀y∈sc.names,y.2≠ .free) (h1:sc.kind= .function:=by rfl) (h2:sc.isCoroutine=false:=by rfl) (h3:sc.isGenerator=false:=by rfl) (h4:N.take P.length=P:=by rfl):aI N P sc:=⟨h1,h2,h3,h.1,h4,h.2.1,h.2.2⟩
section
variable {P:Program} {w:World} {K:D5} {mg:GS} {base h:Heap} {CX:qZ} {k:Nat} {f c:Addr} {x m q:Str} {st:Stmt} {ps:GV} {sp:Sp}
theorem FnAt.ex {n q:Str} {dV:Value} (a:FnAt K f n q st dV):∃fd,bN K n q st dV f fd/\FG K (.ref f)=true:=by
 obtain ⟨_,_,_,_,_,_,_,_,_,l,c,k⟩:=a;exact ⟨_,nK (st:=st) l c k,k⟩
structure Bx (P:Program) (w:World) (base:Heap):Prop
noncomputable def fZ (_:Bx P w base) (X:K.In h) (G:h.Ns mainGlobals mg) (a:cz K f x st .none) (b:CZ x x st .none ps) (ok:∀{fd:FuncData},bN K x x st .none f fd->bv P w K mg base CX k f fd ps sp):Dx P w K mg base CX k x ps [] sp:=
 have e:=a.2.ex
 ⟨f,e.choose,ok e.choose_spec.1,Ea X G a.1,e.choose_spec.2,e.choose_spec.1.binds0 b,[],e.choose_spec.1.binds0 b,.nil⟩
end
end Sw
namespace L2
open PySem PySem.Spec PyProof.Rows XH
theorem lD (t:SetTable) (n:Nat):(t.orStandIn n).led=t.led:=by
 unfold SetTable.orStandIn
 by_cases h:t.fits n=true
 ·rw[if_pos h]
 ·rw[if_neg h];rfl
theorem rW (t:SetTable) (es:Array (Int×Value)) (h:Int) (x:Value):(layNew t es h x).2.1.led=t.led:=by
 cases e:t.freeSlot h with
 |none=>simp only[layNew,e];rfl
 |some r=>
  obtain ⟨slot,d⟩:=r;simp only[layNew,e];rw[lD]
  rfl
theorem pZ {t t':SetTable} {hs:Array Int} {n:Nat} {order:Array Nat} (e:t.relaid hs n=some (t',order)):t'.led=t.led/\t'.plain=t.plain:=by
 unfold SetTable.relaid SetTable.laid at e;obtain ⟨o,_,e2⟩:=Ex.mp e;simp only[pure,Option.some.injEq,Prod.mk.injEq] at e2;rw[<-e2.1];exact ⟨rfl,rfl⟩
theorem nX (t:SetTable) (es:Array (Int×Value)) (n:Nat):(relayAll t es n).2.1.led=t.led:=by
 cases e:t.relaid (es.map (·.1)) n with
 |none=>simp only[relayAll,e];rfl
 |some r=>
  obtain ⟨t',order⟩:=r;simp only[relayAll,e]
  by_cases c:(coversAll order es.size&&t'.fits (order.filterMap (es[·]?)).size)=true
  ·rw[if_pos c];exact (pZ e).1
  ·rw[if_neg c];rfl
section
variable {prog:Program} {w:World} {A:Around} {E:GR} {s:Shared}
theorem lE (a:Value) {Q₁:GR}
  (h:∀led:Bool,(w.params.followText "set-order" =false->led=true)->Q₁ (.ref s.heap.objs.size) {s with heap:=s.heap.push {cls:= .type "set",dict:=none,data:= .set #[] 0 (.fresh 0 0 led)}}):
  codeAny (model prog w) A (.call (.builtin "set.__new__") ⟨[.type "set",a],[]⟩) (wants Q₁ E) s:=by
 refine codeAny_of_tree ?_;show wpAny _ A.in1 (do checkBuiltinCall "set.__new__" ⟨[.type "set",a],[]⟩;again (.builtin "set.__new__" ⟨[.type "set",a],[]⟩)) _ _ s
 refine wpAny_bind (wpAny_of_eq (F.newCall_set_1 a) (wpAny_pure ⟨plainId_quiet F.plain_set_new _,codeAny_builtin F.entry_set_new ?_⟩));rw[Around.under_plainId F.plain_set_new _];unfold Builtin.«set.__new__» Builtin.Frozenset.newClass;have hsub:=sub_set_self;obtain ⟨hp,g,d,tk,os⟩:=s;dsimp only
 wp_walk
 refine wpAny_askSetting (wpAny_pure ?_);dsimp only;simp only[newObj];refine wpAny_bind (wpAny_alloc (wpAny_pure ?_));refine wpAny_pure (h _ fun e=>?_)
 show (!(model prog w).w.params.followText "set-order")=true;rw[show (model prog w).w=w from rfl,e]
 rfl
end
theorem qa:Manifest.owners.lookup (String.ofList ['r','o','t','a','r','e','t','i','_','t','e','s'].reverse)=some Manifest.sig_set_iterator:=by kernel_rfl
theorem a8:Slot "set_iterator" "__next__" "set_iterator.__next__" :=
 .of (owner:= "set_iterator") (n:= "__next__") (by rw[typeLookup_type,builtinLookup_eq_fast];kernel_rfl) (by decide+kernel) (by decide+kernel) (by decide+kernel)
  (by first|exact .inl (by decide+kernel)|exact .inr (by decide+kernel)) (by rw[isSubtype_type];kernel_rfl)
theorem dB:entryFor table "set_iterator.__next__" =some Builtin.«set_iterator.__next__» :=entryFor_of_tree (by kernel_rfl)
theorem eB (a:Value):argsOk "set_iterator.__next__" ⟨[a],[]⟩:=by
 unfold argsOk;rw[signature?_of (id:= "set_iterator.__next__") (n:= ['_','_','t','x','e','n','_','_']) (o:= ['r','o','t','a','r','e','t','i','_','t','e','s']) (by kernel_rfl) qa];kernel_rfl
theorem bW:Slot "set_iterator" "__iter__" "set_iterator.__iter__" :=
 .of (owner:= "set_iterator") (n:= "__iter__") (by rw[typeLookup_type,builtinLookup_eq_fast];kernel_rfl) (by decide+kernel) (by decide+kernel) (by decide+kernel)
  (by first|exact .inl (by decide+kernel)|exact .inr (by decide+kernel)) (by rw[isSubtype_type];kernel_rfl)
theorem eC (a:Value):argsOk "set_iterator.__iter__" ⟨[a],[]⟩:=by
 unfold argsOk;rw[signature?_of (id:= "set_iterator.__iter__") (n:= ['_','_','r','e','t','i','_','_']) (o:= ['r','o','t','a','r','e','t','i','_','t','e','s']) (by kernel_rfl) qa];kernel_rfl
theorem kq:entryFor table "set.__iter__" =some Builtin.«frozenset.__iter__» :=
 entryFor_alias (id':= "frozenset.__iter__") (by kernel_rfl) rfl (by decide+kernel) (by kernel_rfl)
theorem dC:entryFor table "set_iterator.__iter__" =some Builtin.«dict_keyiterator.__iter__» :=
 entryFor_alias (id':= "dict_keyiterator.__iter__") (by kernel_rfl) rfl (by decide+kernel) (by kernel_rfl)
section
variable {prog:Program} {w:World} {A:Around} {E:GR} {s:Shared}
theorem lF {M:Model} {src:Source} {n:Nat} {Q:Nat->Shared->Prop} (hn:n≠0) (h:∀i d,i<n->Q i {s with drawn:=d}):wpAny M A (choose src n) Q E s:=fun _ _ _=>by
 unfold choose;rw[Sem.wp_choose];exact ⟨hn,by simpa using h _ _ (Nat.mod_lt _ (Nat.pos_of_ne_zero hn))⟩
theorem i8 {α:Type}:∀(l:List α) (i:Nat) (h:i<l.length),(l[i]::l.eraseIdx i).Perm l
 | [],i,h=>by simp at h
 |x::xs,0,_=> .refl _
 |x::xs,i+1,h=>by
  have h':i<xs.length:=by simpa using h
  show (xs[i]::x::xs.eraseIdx i).Perm (x::xs);exact (List.Perm.swap _ _ _).trans ((i8 xs i h').cons x)
theorem gd {M:Model} {α:Type}:∀(n:Nat) (xs:List α) (s:Shared) (Q:List α->Shared->Prop),xs.length=n->(∀ys d,ys.Perm xs->Q ys {s with drawn:=d})->wpAny M A (drawOrder n xs) Q E s
 |0,xs,s,Q,hl,h=>by
  have:xs= []:=List.length_eq_zero_iff.mp hl;subst this;unfold drawOrder;exact wpAny_pure (h [] s.drawn .nil)
 |n+1,[],s,Q,hl,h=>by cases hl
 |n+1,x::xs,s,Q,hl,h=>by
  unfold drawOrder;refine wpAny_bind (lF (by simp) fun i d hi=>?_)
  have e:(x::xs)[i]?=some ((x::xs)[i]):=D0 hi;rw[e];dsimp only;refine wpAny_bind (gd n ((x::xs).eraseIdx i) {s with drawn:=d} _ (by rw[List.length_eraseIdx_of_lt hi,hl];rfl) fun ys d' hp=>wpAny_pure (h _ d' ?_))
  exact (hp.cons _).trans (i8 _ i hi)
def c9 (h:Heap) (a:Addr) (es:Array (Int×Value)) (ep:Nat) (t:SetTable):Prop:=∃o,h.get? a=some o/\o.ExactSet/\o.data= .set es ep t/\t.fits es.size=true
def qO (first:Value) (i:Nat) (S:Addr) (n ep:Nat):Obj:={cls:= .type "set_iterator",data:= .fields #[first,.int i 0,.ref S,.int n 0,.int ep 0]}
theorem nY {a:Addr} {es:Array (Int×Value)} {ep:Nat} {t:SetTable} (h:c9 s.heap a es ep t):s.TypeIs (.ref a) "set" :=let ⟨o,ho,hx,_⟩:=h;⟨o,ho,hx.1⟩
theorem wW {a:Addr} {es:Array (Int×Value)} {ep:Nat} {t:SetTable} {Q:GR} (hS:c9 s.heap a es ep t) (hz:es.size<=sizeLine)
  (h1:(!w.params.followText "set-order" &&(!t.plain&&decide (es.size>1)))=false->Q (.ref s.heap.objs.size) {s with heap:=s.heap.push (qO (.int 0 0) 0 a es.size ep)})
  (h2:(!w.params.followText "set-order" &&(!t.plain&&decide (es.size>1)))=true->∀(ys:List Nat) d,ys.Perm (DT es.size)->
   Q (.ref (s.heap.objs.size+1)) {s with heap:=(s.heap.push {cls:= .type "tuple",data:= .seq (ys.map fun (i:Nat)=>rawInt i).toArray}).push (qO (.ref s.heap.objs.size) 0 a es.size ep),drawn:=d}):
  wpAny (model prog w) A (pyIter (.ref a)) Q E s:=by
 have hT:=nY hS;obtain ⟨o,ho,hx,hd,hf⟩:=hS;refine wpAny_pyIter_slot hT F.slot_set_iter (wpAny_call_entry F.slot_set_iter hT kq ?_ (F.args_set_iter_1 _));unfold Builtin.«frozenset.__iter__»;refine wpAny_bind (m:=Builtin.Frozenset.slot0 _ _) ?_;show wpAny _ _ (pure a) _ _ s;refine wpAny_pure ?_;unfold Builtin.Frozenset.sizeOf setEntries;refine wpAny_bind (wpAny_bind (wpAny_bind (wpAny_setState_of ho hd hf (wpAny_pure ?_))));refine wpAny_pure ?_;unfold setDrawn setsByText;refine wpAny_bind (wpAny_bind (wpAny_setState_of ho hd hf ?_));dsimp only;refine wpAny_bind (wpAny_bind (wpAny_askSetting (wpAny_pure ?_)));show wpAny _ _ (pure (!w.params.followText "set-order" &&(!t.plain&&decide (es.size>1)))) _ _ s;refine wpAny_pure ?_;cases c:(!w.params.followText "set-order" &&(!t.plain&&decide (es.size>1))) with
 |false=>
  simp only[EX,if_false];refine wpAny_bind (wpAny_pure ?_);unfold setEpoch;refine wpAny_bind (wpAny_bind (wpAny_setState_of ho hd hf (wpAny_pure ?_)));refine wpAny_bind (wpAny_newObj_type (wpAny_pure ⟨_,rfl,"set_iterator",_,⟨_,Heap.get?_push_size _ rfl,rfl⟩,a8.lookup,?_⟩));exact h1 c
 |true=>
  simp only[if_true];refine wpAny_bind (gd es.size (DT es.size) s _ (by simp) fun ys d hp=>?_)
  refine wpAny_bind (wpAny_newTuple ?_ (by rw[D3,hp.length_eq,E1];exact hz))
  unfold setEpoch;have ho':(s.heap.push {cls:= .type "tuple",data:= .seq (ys.map fun (i:Nat)=>rawInt i).toArray}).get? a=some o:=Heap.get?_push_of_some _ ho
  refine wpAny_bind (wpAny_bind (wpAny_setState_of (s:={s with heap:=_,drawn:=d}) ho' hd hf (wpAny_pure ?_)))
  refine wpAny_bind (wpAny_newObj_type (wpAny_pure ⟨_,rfl,"set_iterator",_,⟨_,Heap.get?_push_size _ rfl,rfl⟩,a8.lookup,?_⟩));have:=h2 c ys d hp;rw[<-Heap.size_push s.heap {cls:= .type "tuple",data:= .seq (ys.map fun (i:Nat)=>rawInt i).toArray}] at this
  exact this
end
section
variable {prog:Program} {w:World} {A:Around} {E:GR} {s:Shared}
theorem c9.at {h h':Heap} {a:Addr} {es:Array (Int×Value)} {ep:Nat} {t:SetTable} (x:c9 h a es ep t) (k:∀o,h.get? a=some o->h'.get? a=some o):c9 h' a es ep t:=let ⟨o,ho,r⟩:=x;⟨o,k o ho,r⟩
theorem dD {a:Addr} {es:Array (Int×Value)} {ep:Nat} {t:SetTable} {Q:Array (Int×Value)->Shared->Prop} (hS:c9 s.heap a es ep t) (h:Q es s):wpAny (model prog w) A (setEntries a) Q E s:=by
 obtain ⟨o,ho,_,hd,hf⟩:=hS;unfold setEntries;exact wpAny_bind (wpAny_setState_of ho hd hf (wpAny_pure h))
theorem dM {a:Addr} {es:Array (Int×Value)} {ep:Nat} {t:SetTable} {Q:(Array (Int×Value)×Nat×SetTable)->Shared->Prop} (hS:c9 s.heap a es ep t) (h:Q (es,ep,t) s):wpAny (model prog w) A (setState a) Q E s:=by
 obtain ⟨o,ho,_,hd,hf⟩:=hS;exact wpAny_setState_of ho hd hf h
theorem i9 {I S:Addr} {es:Array (Int×Value)} {ep i slot nx:Nat} {t:SetTable} {x:Value} {Q:GZ->Shared->Prop} (hI:s.heap.get? I=some (qO (.int slot 0) i S es.size ep)) (hS:c9 s.heap S es ep t)
  (hn:∀(A:Around) (E:GR) (Q:Option (Value×Nat)->Shared->Prop),Q (some (x,nx)) s->wpAny (model prog w) A (setNext S slot i ep) Q E s)
  (h:∀h',h'.get? I=some (qO (.int nx 0) (i+1) S es.size ep)->Heap.SameBut I s.heap h'->Q (some x) {s with heap:=h'}):wpAny (model prog w) A (pyNext (.ref I)) Q E s:=by
 have hT:s.TypeIs (.ref I) "set_iterator" :=⟨_,hI,rfl⟩;unfold pyNext;refine wpAny_bind (wpAny_attempt (wpAny_callSpecial?_slot (name:=Str.ofString "__next__") hT a8 (wpAny_call_entry a8 hT dB ?_ (eB _))));unfold Builtin.«set_iterator.__next__»;refine wpAny_bind (m:=slotArgs _ _ _) ?_;show wpAny _ _ (pure (Value.ref I,[])) _ _ s;refine wpAny_pure ?_;refine wpAny_bind (wpAny_fieldsOf hI rfl ?_);show wpAny _ _ (setEntries S>>=_) _ _ s;refine wpAny_bind (dD hS ?_);rw[if_neg (by simp)]
 show wpAny _ _ (setNext S (Int.toNat slot) (Int.toNat i) (Int.toNat ep)>>=_) _ _ s;simp only[E9];refine wpAny_bind (hn _ _ _ ?_);dsimp only;refine wpAny_bind (wpAny_setField_rec (vs:= #[.int slot 0,.int i 0,.ref S,.int es.size 0,.int ep 0]) hI (by simp) fun h1 e1 s1=>?_)
 refine wpAny_bind (wpAny_setField_rec (s:={s with heap:=h1}) e1 (by simp) fun h2 e2 s2=>?_)
 exact wpAny_pure ⟨_,rfl,wpAny_pure (h h2 (by simpa [qO,rawInt] using e2) (s1.trans s2))⟩
theorem ja {I S:Addr} {es:Array (Int×Value)} {ep i slot:Nat} {t:SetTable} {Q:GZ->Shared->Prop} (hh:A.handled=none) (hI:s.heap.get? I=some (qO (.int slot 0) i S es.size ep)) (hS:c9 s.heap S es ep t)
  (hn:∀(A:Around) (E:GR) (Q:Option (Value×Nat)->Shared->Prop),Q none s->wpAny (model prog w) A (setNext S slot i ep) Q E s)
  (h:∀h',Heap.ExtBut I s.heap h'->Q none {s with heap:=h'}):wpAny (model prog w) A (pyNext (.ref I)) Q E s:=by
 have hT:s.TypeIs (.ref I) "set_iterator" :=⟨_,hI,rfl⟩;unfold pyNext;refine wpAny_bind (wpAny_attempt (wpAny_callSpecial?_slot (name:=Str.ofString "__next__") hT a8 (wpAny_call_entry a8 hT dB ?_ (eB _))));unfold Builtin.«set_iterator.__next__»;refine wpAny_bind (m:=slotArgs _ _ _) ?_;show wpAny _ _ (pure (Value.ref I,[])) _ _ s;refine wpAny_pure ?_;refine wpAny_bind (wpAny_fieldsOf hI rfl ?_);show wpAny _ _ (setEntries S>>=_) _ _ s;refine wpAny_bind (dD hS ?_);rw[if_neg (by simp)]
 show wpAny _ _ (setNext S (Int.toNat slot) (Int.toNat i) (Int.toNat ep)>>=_) _ _ s;simp only[E9];refine wpAny_bind (hn _ _ _ ?_);dsimp only;refine wpAny_bind (wpAny_setField_rec (vs:= #[.int slot 0,.int i 0,.ref S,.int es.size 0,.int ep 0]) hI (by simp) fun h1 e1 s1=>?_)
 show wpAny _ _ (newExc (.type "StopIteration") []>>=_) _ _ _;refine wpAny_bind ?_;simp only[newExc,newTuple];refine wpAny_bind (wpAny_newObj_type ?_ (by size_fits))
 refine wpAny_bind (m:=firstArgMember _ _) (wpAny_of_eq (a:=Value.none) (by first|rfl|(simp only[firstArgMember];rfl)) ?_)
 refine wpAny_newObj_type ?_ (by size_fits)
 simp only[raiseNew];refine wpAny_bind (wpAny_handled ?_);rw[show A.in1.handled=none from hh]
 refine wpAny_bind (wpAny_pure (wpAny_throw ?_));refine wpAny_bind (wpAny_isInstance (T:= "StopIteration") (b:=true) ⟨_,Heap.get?_push_size _ rfl,rfl⟩ isSubtype_stop ?_);exact wpAny_pure (h _ ((s1.extBut.push _).push _))
end
theorem jw {α:Type} (nx:Nat->Nat):∀(f k:Nat) (l:List α) (out:Array α),l.length=f->(pickOrder.go nx f k l out).toList.Perm (out.toList++l)
 |0,k,l,out,h=>by
  have:l= []:=List.length_eq_zero_iff.mp h;subst this;simp[pickOrder.go]
 |f+1,k,l,out,h=>by
  have hp:0<l.length:=by lia
  have hi:nx k % l.length<l.length:=Nat.mod_lt _ hp;have e:l[nx k % l.length]?=some (l[nx k % l.length]):=D0 hi;rw[pickOrder.go,e];dsimp only;refine (jw nx f (k+1) _ _ (by rw[List.length_eraseIdx_of_lt hi,h];rfl)).trans ?_
  rw[F9,DU];exact EZ _ (i8 l _ hi)
theorem ku {α:Type} (nx:Nat->Nat) (xs:Array α):(pickOrder nx xs).toList.Perm xs.toList:=by
 unfold pickOrder
 simpa using jw nx xs.size 0 xs.toList #[] (by simp)
section
variable {prog:Program} {w:World} {A:Around} {E:GR} {s:Shared}
theorem iH {S:Addr} {es:Array (Int×Value)} {ep i slot:Nat} {t:SetTable} {Q:Option (Value×Nat)->Shared->Prop} (hS:c9 s.heap S es ep t) (hb:w.params.followText "set-order" =true)
  (h:Q (((pickOrder (w.params.setOrder S ep) es)[i]?).map fun e=>(e.2,slot)) s):wpAny (model prog w) A (setNext S slot i ep) Q E s:=by
 unfold setNext setsByText;refine wpAny_bind (dM hS ?_);dsimp only;refine wpAny_bind (wpAny_bind (wpAny_askSetting (wpAny_pure ?_)));rw[show ((model prog w).w.params.followText "set-order")=true from hb]
 simp only[if_true];rw[if_neg (by simp)]
 unfold setWalk setsByText;refine wpAny_bind (wpAny_bind (dM hS ?_));dsimp only;refine wpAny_bind (wpAny_bind (wpAny_askSetting (wpAny_pure ?_)));rw[show ((model prog w).w.params.followText "set-order")=true from hb]
 simp only[if_true];refine wpAny_bind (wpAny_askSetting (wpAny_pure ?_));exact wpAny_pure h
theorem jx {S:Addr} {es:Array (Int×Value)} {ep i slot:Nat} {t:SetTable} {Q:Option (Value×Nat)->Shared->Prop} (hS:c9 s.heap S es ep t) (hb:w.params.followText "set-order" =false) (few:es.size<=1) (ld:t.led=true)
  (h:Q (match es[SetTable.below t.place slot]?,t.place[SetTable.below t.place slot]? with|some (_,x),some j=>some (x,j+1)|_,_=>none) s):wpAny (model prog w) A (setNext S slot i ep) Q E s:=by
 unfold setNext setsByText;refine wpAny_bind (dM hS ?_);dsimp only;refine wpAny_bind (wpAny_bind (wpAny_askSetting (wpAny_pure ?_)));rw[show ((model prog w).w.params.followText "set-order")=false from hb]
 simp only[EX,if_false];have d1:(!t.plain&&decide (es.size>1))=false:=by
  rw[decide_eq_false (by lia),Bool.and_false]
 have d2:(!t.led&& !es.isEmpty)=false:=by rw[ld];rfl
 show wpAny _ _ (if (!t.plain&&decide (es.size>1))=true then _ else _) _ _ s
 rw[d1];simp only[EX,if_false];refine wpAny_bind ?_;show wpAny _ _ (if (!t.led&& !es.isEmpty)=true then _ else _) _ _ s
 rw[d2];simp only[EX,if_false];refine wpAny_pure ?_;exact wpAny_pure h
theorem u6 (hh:A.handled=none) (hb:w.params.followText "set-order" =true) (I S:Addr) (ne:S≠I) (es:Array (Int×Value)) (ep:Nat) (t:SetTable):
  Walks prog w A I [I,S] [I] es.size (fun i v=>∃e,(pickOrder (w.params.setOrder S ep) es).toList[i]?=some e/\v=e.2) (fun i h=>h.get? I=some (qO (.int 0 0) i S es.size ep)/\c9 h S es ep t) where
 sub:=fun b hb=>by simp at hb;simp[hb]
 frame:=fun _ _ _ st hk=>⟨hk I (by simp) _ st.1,st.2.at fun o e=>hk S (by simp) o e⟩
 item:=fun i s Q E hi st hQ=>by
  have hz:(pickOrder (w.params.setOrder S ep) es).size=es.size:=by rw[<-DW,(ku _ es).length_eq,DW]
  obtain ⟨x,hx⟩:∃x,(pickOrder (w.params.setOrder S ep) es)[i]?=some x:=⟨_,DZ (by rw[hz];exact hi)⟩
  refine i9 (slot:=0) (nx:=0) (x:=x.2) st.1 st.2 (fun A E Q q=>iH st.2 hb ?_) fun h' e' sb=>?_
  ·rw[hx];exact q
  ·refine hQ _ h' s.toks ⟨_,by rw[E3];exact hx,rfl⟩ ⟨e',st.2.at fun o e=>(sb.2 S ne).trans e⟩ fun b o hb e=>(sb.2 b fun z=>hb (by simp[z])).trans e
 done:=fun s Q E st hQ=>by
  have hz:(pickOrder (w.params.setOrder S ep) es).size=es.size:=by rw[<-DW,(ku _ es).length_eq,DW]
  have hx:(pickOrder (w.params.setOrder S ep) es)[es.size]?=none:=FT (by lia)
  refine ja (slot:=0) hh st.1 st.2 (fun A E Q q=>iH st.2 hb ?_) fun h' xb=>hQ h' s.toks fun b o hb e=>xb b o (fun z=>hb (by simp[z])) e
  rw[hx];exact q
 self:=fun i s Q E st hQ=>by
  have hT:s.TypeIs (.ref I) "set_iterator" :=⟨_,st.1,rfl⟩;refine wpAny_pyIter_slot hT bW (wpAny_call_entry bW hT dC ?_ (eC _));show wpAny _ _ (ret (.ref I)) _ _ s;exact wpAny_pure ⟨_,rfl,"set_iterator",_,hT,a8.lookup,hQ⟩
theorem tG {α:Type}:∀{a:Array α},a.size=1->∃j,a= #[j]
 |⟨[j]⟩,_=>⟨j,rfl⟩
 |⟨[]⟩,h=>by simp at h
 |⟨_::_::_⟩,h=>by simp at h
theorem ms (j k:Nat):SetTable.below #[j] k=if j<k then 1 else 0:=by
 unfold SetTable.below;simp only[DX,EH,List.length_nil,SetTable.below.go]
 by_cases h:j<k<;>simp[h,SetTable.below.go]
theorem wX (hh:A.handled=none) (hb:w.params.followText "set-order" =false) (I S:Addr) (ne:S≠I) (es:Array (Int×Value)) (ep:Nat) (t:SetTable) (few:es.size<=1) (ld:t.led=true) (ft:t.fits es.size=true):
  Walks prog w A I [I,S] [I] es.size (fun i v=>∃e,es.toList[i]?=some e/\v=e.2) (fun i h=>(∃slot:Nat,(i=0->slot=0)/\(i≠0->∃j,t.place[0]?=some j/\slot=j+1)/\h.get? I=some (qO (.int slot 0) i S es.size ep))/\c9 h S es ep t) where
 sub:=fun b hb=>by simp at hb;simp[hb]
 frame:=fun _ _ _ st hk=>⟨let ⟨sl,a,b,c⟩:=st.1;⟨sl,a,b,hk I (by simp) _ c⟩,st.2.at fun o e=>hk S (by simp) o e⟩
 item:=fun i s Q E hi st hQ=>by
  obtain ⟨⟨slot,z1,z2,hI⟩,hS⟩:=st;have i0:i=0:=by lia
  subst i0;cases z1 rfl;have pz:t.place.size=1:=by
   simp only[SetTable.fits,Ey,beq_iff_eq] at ft
   lia
  obtain ⟨j,ej⟩:=tG pz;obtain ⟨x,hx⟩:∃x,es[0]?=some x:=⟨_,DZ hi⟩;refine i9 (slot:=0) (nx:=j+1) (x:=x.2) hI hS (fun A E Q q=>jx hS hb few ld ?_) fun h' e' sb=>?_
  ·rw[ej,ms];simp only[Nat.not_lt_zero,if_false,hx];exact q
  ·exact hQ _ h' s.toks ⟨_,by rw[E3];exact hx,rfl⟩ ⟨⟨j+1,fun z=>(by lia),fun _=>⟨j,by rw[ej];rfl,rfl⟩,e'⟩,hS.at fun o e=>(sb.2 S ne).trans e⟩ fun b o hb e=>(sb.2 b fun z=>hb (by simp[z])).trans e
 done:=fun s Q E st hQ=>by
  obtain ⟨⟨slot,z1,z2,hI⟩,hS⟩:=st;refine ja (slot:=slot) hh hI hS (fun A E Q q=>jx hS hb few ld ?_) fun h' xb=>hQ h' s.toks fun b o hb e=>xb b o (fun z=>hb (by simp[z])) e
  have hn:es[SetTable.below t.place slot]?=none:=by
   by_cases e0:es.size=0
   ·exact FT (by lia)
   ·obtain ⟨j,e1,e2⟩:=z2 e0;have pz:t.place.size=1:=by
     simp only[SetTable.fits,Ey,beq_iff_eq] at ft
     lia
    have ej:t.place= #[j]:=by
     obtain ⟨j',ej'⟩:=tG pz;rw[ej'] at e1;simp at e1;rw[ej',e1]
    rw[ej,ms,e2,if_pos (by lia)]
    exact FT (by lia)
  rw[hn];exact q
 self:=fun i s Q E st hQ=>by
  obtain ⟨⟨slot,z1,z2,hI⟩,hS⟩:=st;have hT:s.TypeIs (.ref I) "set_iterator" :=⟨_,hI,rfl⟩;refine wpAny_pyIter_slot hT bW (wpAny_call_entry bW hT dC ?_ (eC _));show wpAny _ _ (ret (.ref I)) _ _ s;exact wpAny_pure ⟨_,rfl,"set_iterator",_,hT,a8.lookup,hQ⟩
end
section
variable {prog:Program} {w:World} {A:Around} {E:GR} {s:Shared}
theorem rX {I S T:Addr} {es:Array (Int×Value)} {ep i j:Nat} {t:SetTable} {e:Int×Value} {ys:List Nat} {Q:GZ->Shared->Prop} (hI:s.heap.get? I=some (qO (.ref T) i S es.size ep)) (hS:c9 s.heap S es ep t)
  (hT:s.heap.get? T=some {cls:= .type "tuple",data:= .seq (ys.map fun (i:Nat)=>rawInt i).toArray}) (hj:ys[i]?=some j) (he:es[j]?=some e)
  (h:∀h',h'.get? I=some (qO (.ref T) (i+1) S es.size ep)->Heap.SameBut I s.heap h'->Q (some e.2) {s with heap:=h'}):wpAny (model prog w) A (pyNext (.ref I)) Q E s:=by
 have hT':s.TypeIs (.ref I) "set_iterator" :=⟨_,hI,rfl⟩;unfold pyNext;refine wpAny_bind (wpAny_attempt (wpAny_callSpecial?_slot (name:=Str.ofString "__next__") hT' a8 (wpAny_call_entry a8 hT' dB ?_ (eB _))));unfold Builtin.«set_iterator.__next__»;refine wpAny_bind (m:=slotArgs _ _ _) ?_;show wpAny _ _ (pure (Value.ref I,[])) _ _ s;refine wpAny_pure ?_;refine wpAny_bind (wpAny_fieldsOf hI rfl ?_);show wpAny _ _ (setEntries S>>=_) _ _ s;refine wpAny_bind (dD hS ?_);rw[if_neg (by simp)]
 show wpAny _ _ (seqItems? (.ref T)>>=_) _ _ s;refine wpAny_bind (wpAny_seqItems hT rfl ?_);have hp:((ys.map fun (i:Nat)=>rawInt i).toArray)[(i:Int).toNat]?=some (.int (j:Int) 0):=by
  simp[hj,rawInt]
 dsimp only;rw[hp];dsimp only;unfold setNextDrawn;refine wpAny_bind (wpAny_bind (dM hS ?_));dsimp only;rw[if_neg (by simp)]
 simp only[E9,he];refine wpAny_pure ?_;refine wpAny_bind (wpAny_setField_rec (vs:= #[.ref T,.int i 0,.ref S,.int es.size 0,.int ep 0]) hI (by simp) fun h1 e1 s1=>?_)
 exact wpAny_pure ⟨_,rfl,wpAny_pure (h h1 (by simpa [qO,rawInt] using e1) s1)⟩
theorem rY {I S T:Addr} {es:Array (Int×Value)} {ep i:Nat} {t:SetTable} {ys:List Nat} {Q:GZ->Shared->Prop} (hh:A.handled=none) (hI:s.heap.get? I=some (qO (.ref T) i S es.size ep)) (hS:c9 s.heap S es ep t)
  (hT:s.heap.get? T=some {cls:= .type "tuple",data:= .seq (ys.map fun (i:Nat)=>rawInt i).toArray}) (hj:ys[i]?=none)
  (h:∀h',Heap.ExtBut I s.heap h'->Q none {s with heap:=h'}):wpAny (model prog w) A (pyNext (.ref I)) Q E s:=by
 have hT':s.TypeIs (.ref I) "set_iterator" :=⟨_,hI,rfl⟩;unfold pyNext;refine wpAny_bind (wpAny_attempt (wpAny_callSpecial?_slot (name:=Str.ofString "__next__") hT' a8 (wpAny_call_entry a8 hT' dB ?_ (eB _))));unfold Builtin.«set_iterator.__next__»;refine wpAny_bind (m:=slotArgs _ _ _) ?_;show wpAny _ _ (pure (Value.ref I,[])) _ _ s;refine wpAny_pure ?_;refine wpAny_bind (wpAny_fieldsOf hI rfl ?_);show wpAny _ _ (setEntries S>>=_) _ _ s;refine wpAny_bind (dD hS ?_);rw[if_neg (by simp)]
 show wpAny _ _ (seqItems? (.ref T)>>=_) _ _ s;refine wpAny_bind (wpAny_seqItems hT rfl ?_);have hp:((ys.map fun (i:Nat)=>rawInt i).toArray)[(i:Int).toNat]?=none:=by
  have:=List.getElem?_eq_none_iff.mp hj
  simpa using this
 dsimp only;rw[hp];dsimp only;refine wpAny_bind (wpAny_setField_rec (vs:= #[.ref T,.int i 0,.ref S,.int es.size 0,.int ep 0]) hI (by simp) fun h1 e1 s1=>?_)
 refine wpAny_bind (wpAny_setField_rec (s:={s with heap:=h1}) e1 (by simp) fun h2 e2 s2=>?_)
 show wpAny _ _ (newExc (.type "StopIteration") []>>=_) _ _ _;refine wpAny_bind ?_;simp only[newExc,newTuple];refine wpAny_bind (wpAny_newObj_type ?_ (by size_fits))
 refine wpAny_bind (m:=firstArgMember _ _) (wpAny_of_eq (a:=Value.none) (by first|rfl|(simp only[firstArgMember];rfl)) ?_)
 refine wpAny_newObj_type ?_ (by size_fits)
 simp only[raiseNew];refine wpAny_bind (wpAny_handled ?_);rw[show A.in1.handled=none from hh]
 refine wpAny_bind (wpAny_pure (wpAny_throw ?_));refine wpAny_bind (wpAny_isInstance (T:= "StopIteration") (b:=true) ⟨_,Heap.get?_push_size _ rfl,rfl⟩ isSubtype_stop ?_);exact wpAny_pure (h _ (((s1.trans s2).extBut.push _).push _))
theorem u7 (hh:A.handled=none) (I S T:Addr) (ne:S≠I) (nT:T≠I) (es:Array (Int×Value)) (ep:Nat) (t:SetTable) (ys:List Nat) (hy:ys.Perm (DT es.size)):
  Walks prog w A I [I,S,T] [I] es.size (fun i v=>∃j e,ys[i]?=some j/\es[j]?=some e/\v=e.2)
   (fun i h=>h.get? I=some (qO (.ref T) i S es.size ep)/\c9 h S es ep t/\h.get? T=some {cls:= .type "tuple",data:= .seq (ys.map fun (i:Nat)=>rawInt i).toArray}) where
 sub:=fun b hb=>by simp at hb;simp[hb]
 frame:=fun _ _ _ st hk=>⟨hk I (by simp) _ st.1,st.2.1.at fun o e=>hk S (by simp) o e,hk T (by simp) _ st.2.2⟩
 item:=fun i s Q E hi st hQ=>by
  have hl:ys.length=es.size:=by rw[hy.length_eq,E1]
  obtain ⟨j,hj⟩:∃j,ys[i]?=some j:=⟨_,D0 (by rw[hl];exact hi)⟩
  have jl:j<es.size:=Ep.mp (hy.mem_iff.mp (D6 hj));obtain ⟨e,he⟩:∃e,es[j]?=some e:=⟨_,DZ jl⟩;refine rX st.1 st.2.1 st.2.2 hj he fun h' e' sb=>?_
  exact hQ _ h' s.toks ⟨j,e,hj,he,rfl⟩ ⟨e',st.2.1.at fun o e=>(sb.2 S ne).trans e,(sb.2 T nT).trans st.2.2⟩ fun b o hb e=>(sb.2 b fun z=>hb (by simp[z])).trans e
 done:=fun s Q E st hQ=>by
  have hl:ys.length=es.size:=by rw[hy.length_eq,E1]
  exact rY hh st.1 st.2.1 st.2.2 (EL (by lia)) fun h' xb=>hQ h' s.toks fun b o hb e=>xb b o (fun z=>hb (by simp[z])) e
 self:=fun i s Q E st hQ=>by
  have hT:s.TypeIs (.ref I) "set_iterator" :=⟨_,st.1,rfl⟩;refine wpAny_pyIter_slot hT bW (wpAny_call_entry bW hT dC ?_ (eC _));show wpAny _ _ (ret (.ref I)) _ _ s;exact wpAny_pure ⟨_,rfl,"set_iterator",_,hT,a8.lookup,hQ⟩
end
open Sw So
theorem aE.drew {X:Cx} {pins:GT} {σ:List (Option V)} {H:Hp} {s:Shared} {d:Drawn} (I:aE X pins σ H s):aE X pins σ H {s with drawn:=d}:=
 ⟨I.ok,I.os,I.bare,I.base,I.loc,I.cell,I.free,I.freeC,I.pin,I.hok,I.len⟩
section
variable {prog:Program} {w:World} {A:Around} {E:GR} {s:Shared}
theorem wY {r:Addr} {Q:Bool->Shared->Prop} (hT:s.TypeIs (.ref r) "set") (h:Q false s):wpAny (model prog w) A (Builtin.List.listLengthHint (.ref r)) Q E s:=by
 unfold Builtin.List.listLengthHint;refine wpAny_bind (wpAny_specialOf hT PySem.F.slot_set_len.lookup ?_);generalize hid:("set.__len__" :String)=id0
 wp_delta
 rw[show splitId id0=some ("set","__len__") from by subst hid;decide+kernel]
 subst hid;refine wpAny_bind (wpAny_isInstance (T:= "set") (b:=true) hT (by rw[isSubtype_type];kernel_rfl) ?_)
 refine wpAny_ite_split (fun hab=>absurd hab (by decide)) (fun _=>?_)
 refine wpAny_ite_split (fun _=>?_) (fun hab=>absurd (by decide+kernel) hab)
 refine wpAny_bind (wpAny_typeOf hT ?_);exact wpAny_pure h
end
def Ri (xs:Array Nat):Prop:=xs.toList.Pairwise (· < ·)
theorem Ri.lt {xs:Array Nat} (h:Ri xs) {i k:Nat} (ik:i<k) (hk:k<xs.size):xs[i]'(Nat.lt_trans ik hk)<xs[k]:=by
 have:=FI.mp h i k (by simpa using Nat.lt_trans ik hk) (by simpa using hk) ik
 simpa using this
theorem Ri.le {xs:Array Nat} (h:Ri xs) {i k:Nat} (ik:i<=k) (hk:k<xs.size):xs[i]'(Nat.lt_of_le_of_lt ik hk)<=xs[k]:=by
 rcases Nat.lt_or_eq_of_le ik with q|q
 ·exact Nat.le_of_lt (h.lt q hk)
 ·subst q;exact D8 _
theorem kz {xs:Array Nat} (hr:Ri xs) (j:Nat):∀(f lo hi:Nat),hi<=xs.size->lo<=hi->hi-lo<=f->(∀i (h:i<xs.size),i<lo->xs[i]<j)->(∀i (h:i<xs.size),hi<=i->j<=xs[i])->
  SetTable.below.go xs j f lo hi<=xs.size/\(∀i (h:i<xs.size),i<SetTable.below.go xs j f lo hi->xs[i]<j)/\(∀i (h:i<xs.size),SetTable.below.go xs j f lo hi<=i->j<=xs[i])
 |0,lo,hi,h1,h2,h3,h4,h5=>by
  have e:lo=hi:=by lia
  subst e;exact ⟨h1,h4,h5⟩
 |f+1,lo,hi,h1,h2,h3,h4,h5=>by
  unfold SetTable.below.go
  by_cases c:lo<hi
  ·rw[if_pos c];have hm:(lo+hi)/2<xs.size:=by lia
   have eg:xs.getD ((lo+hi)/2) j=xs[(lo+hi)/2]:=by simp[Array.getD,hm]
   dsimp only;rw[eg]
   by_cases c2:xs[(lo+hi)/2]<j
   ·rw[if_pos c2];exact kz hr j f _ _ h1 (by lia) (by lia) (fun i h q=>Nat.lt_of_le_of_lt (hr.le (Nat.le_of_lt_succ q) hm) c2) h5
   ·rw[if_neg c2];exact kz hr j f _ _ (by lia) (by lia) (by lia) h4 fun i h q=>ED (Nat.not_lt.mp c2) (hr.le q h)
  ·rw[if_neg c];have e:lo=hi:=by lia
   subst e;exact ⟨h1,h4,h5⟩
theorem qb {xs:Array Nat} (hr:Ri xs) (j:Nat):SetTable.below xs j<=xs.size/\(∀i (h:i<xs.size),i<SetTable.below xs j->xs[i]<j)/\(∀i (h:i<xs.size),SetTable.below xs j<=i->j<=xs[i]):=
 kz hr j xs.size 0 xs.size (D8 _) (EC _) (by lia) (fun i h q=>absurd q (Nat.not_lt_zero _)) fun i h q=>absurd h (Nat.not_lt.mpr q)
theorem u9 {t:SetTable} {j:Nat} (hr:Ri t.place) (nl:t.place[SetTable.below t.place j]?≠some j):Ri (t.put j).1.place:=by
 obtain ⟨b1,b2,b3⟩:=qb hr j;show (SetTable.insertAt t.place (SetTable.below t.place j) j).toList.Pairwise (· < ·);generalize SetTable.below t.place j=p at*;have tl:(SetTable.insertAt t.place p j).toList=t.place.toList.take p++j::t.place.toList.drop p:=by
  simp[SetTable.insertAt,EU,List.extract_eq_drop_take];rw[ET (by simp)]
 rw[tl,DL];have hp:(t.place.toList.take p++t.place.toList.drop p).Pairwise (· < ·):=by rw[E6];exact hr
 rw[DL] at hp;have up:∀y∈t.place.toList.drop p,j<y:=fun y hy=>by
  obtain ⟨i,hi⟩:=DP.mp hy;rw[F6,E3] at hi;obtain ⟨hl,rfl⟩:=F1.mp hi;have:=b3 _ hl (Nat.le_add_right _ _);rcases Nat.lt_or_eq_of_le this with q|q
  ·exact q
  ·rcases Nat.eq_zero_or_pos i with z|z
   ·subst z;exact absurd (show t.place[p]?=some j from hi.trans (congrArg some q.symm)) nl
   ·have hpl:p<t.place.size:=by lia
    have l1:=b3 p hpl (D8 _);have l2:=hr.lt (i:=p) (k:=p+i) (by lia) hl
    lia
 refine ⟨hp.1,EF.mpr ⟨up,hp.2.1⟩,fun x hx y hy=>?_⟩
 have xl:x<j:=by
  obtain ⟨i,hi⟩:=DP.mp hx;rw[List.getElem?_take] at hi
  split at hi
  ·rename_i q;rw[E3] at hi;obtain ⟨hl,rfl⟩:=F1.mp hi;exact b2 _ hl q
  ·cases hi
 rcases DM.mp hy with q|q
 ·rw[q];exact xl
 ·exact Nat.lt_trans xl (up y q)
theorem wZ {t:SetTable} {j:Nat} (h:∀i,t.slot j≠ .live i):t.place[SetTable.below t.place j]?≠some j:=fun e=>by
 refine h (SetTable.below t.place j) ?_;unfold SetTable.slot;simp[e]
theorem jb {t:SetTable} {hs:Nat->Int} {h:Int}:∀(f:Nat) (p:SetTable.Probe),(∀d,p.dummy=some d->∀i,t.slot d≠ .live i)->∀{j:Nat} {dm:Option Nat},SetTable.probe.go t hs h f p=some (.empty j dm)->∀i,t.slot (dm.getD j)≠ .live i
 |0,p,hd,j,dm,e=>by cases e
 |f+1,p,hd,j,dm,e=>by
  unfold SetTable.probe.go at e;cases c:t.slot p.j with
  |empty=>
   rw[c] at e;cases e;cases q:p.dummy with
   |none=>intro i;show t.slot p.j≠_;rw[c];exact fun z=>nomatch z
   |some d=>exact hd d q
  |dummy=>
   rw[c] at e;refine jb f _ (fun d hd'=>?_) e
   have:d=p.j:=by
    unfold SetTable.advance at hd'
    split at hd'<;>(cases hd';rfl)
   subst this;intro i;rw[c];exact fun z=>nomatch z
  |live i=>
   rw[c] at e;dsimp only at e
   split at e
   ·cases e
   ·refine jb f _ (fun d hd'=>?_) e
    refine hd d ?_;unfold SetTable.advance at hd'
    split at hd'<;>exact hd'
theorem nZ {t:SetTable} {h:Int} {j:Nat} {b:Bool} (e:t.freeSlot h=some (j,b)):t.place[SetTable.below t.place j]?≠some j:=by
 unfold SetTable.freeSlot at e;cases q:t.probe (fun _=>h+1) h (t.probeStart h) with
 |none=>rw[q] at e;cases e
 |some m=>
  rw[q] at e;cases m with
  |empty k dm=>
   cases e;exact wZ (jb _ _ (fun d hd=>by cases (show (none:Option Nat)=some d from hd)) q)
  |candidate _ _ _=>cases e
theorem n4 {t:SetTable} {es:Array (Int×Value)} {h:Int} {x:Value} (hr:t.plain=true->Ri t.place):(layNew t es h x).2.1.plain=true->Ri (layNew t es h x).2.1.place:=by
 cases e:t.freeSlot h with
 |none=>simp only[layNew,e];intro z;cases z
 |some r=>
  obtain ⟨j,b⟩:=r;simp only[layNew,e];unfold SetTable.orStandIn
  split
  ·intro z;exact u9 (hr z) (nZ e)
  ·intro z;cases z
theorem rZ {mask finger moves:Nat} {led plain:Bool} {hs:Array Int} {t:SetTable} {o:Array Nat} (e:SetTable.laid mask finger moves led plain hs=some (t,o)):Ri t.place:=by
 unfold SetTable.laid at e;obtain ⟨ow,_,e2⟩:=Ex.mp e;simp only[pure,Option.some.injEq,Prod.mk.injEq] at e2;rw[<-e2.1];show List.Pairwise (· < ·) _;dsimp only;rw[FX,List.pairwise_filterMap];refine List.pairwise_lt_range.imp fun {a b} ab x hx y hy=>?_
 obtain ⟨k,_,rfl⟩:=DV.mp hx;obtain ⟨k',_,rfl⟩:=DV.mp hy;exact ab
theorem kA {t:SetTable} {es:Array (Int×Value)} {n:Nat} (h:(relayAll t es n).2.1.plain=true):Ri (relayAll t es n).2.1.place:=by
 cases e:t.relaid (es.map (·.1)) n with
 |none=>simp only[relayAll,e] at h;cases h
 |some r=>
  obtain ⟨t',order⟩:=r;simp only[relayAll,e] at h⊢
  by_cases c:(coversAll order es.size&&t'.fits (order.filterMap (es[·]?)).size)=true
  ·rw[if_pos c];exact rZ e
  ·rw[if_neg c] at h;cases h
def jy:Value->Int
 | .int y _=>y
 |_=>default
def Ad (prog:Program) (w:World) (e:Int×Value):Prop:=∃y t,e=((aF prog w).hash (.inl y),.int y t)
def qP (prog:Program) (w:World) (h:Heap) (a:Addr) (ys:List Int):Prop:=
 ∃o es ep t,h.get? a=some o/\o.ExactSet/\o.data= .set es ep t/\(∀e∈es.toList,Ad prog w e)/\(es.toList.map fun e=>jy e.2).Perm ys/\es.size<scanBound/\t.fits es.size=true/\
  (w.params.followText "set-order" =false->t.led=true)/\(t.plain=true->Ri t.place)
theorem tH {prog:Program} {w:World} {y:Int} {t:Tok}:(aF prog w).is (.inl y) (.int y t)=true:=lY (k:= .inl y) ⟨t,rfl⟩
theorem kB {prog:Program} {w:World} {l:List (Int×Value)} (h:∀e∈l,Ad prog w e):ElemsOf (aF prog w) l:=fun e he=>by
 obtain ⟨y,t,rfl⟩:=h e he;exact ⟨⟨.inl y,tH,rfl⟩,rfl⟩
def insI (ys:List Int) (y:Int):List Int:=if y∈ys then ys else ys++ [y]
section
variable {prog:Program} {w:World} {A:Around} {E:GR} {s:Shared}
theorem w6 {h:Heap} {a:Addr} {ys:List Int} {es:Array (Int×Value)} (te:∀e∈es.toList,Ad prog w e) (pm:(es.toList.map fun e=>jy e.2).Perm ys) (y:Int):
  (∃e∈es.toList,(aF prog w).is (.inl y) e.2=true)↔y∈ys:=by
 rw[<-pm.mem_iff,ES];constructor
 ·rintro ⟨e,he,q⟩;obtain ⟨z,t,rfl⟩:=te e he;obtain ⟨t',e'⟩:=pe q;cases e';exact ⟨_,he,rfl⟩
 ·rintro ⟨e,he,q⟩;obtain ⟨z,t,rfl⟩:=te e he;cases q;exact ⟨_,he,tH⟩
theorem tI {g:Bool->Sem Unit} (hg:∀(b:Bool) (s₁:Shared) (Q':Unit->Shared->Prop),Q' () s₁->wpAny (model prog w) A (g b) Q' E s₁)
  {a:Addr} {o:Obj} {es:Array (Int×Value)} {ep:Nat} {t:SetTable} (ho:s.heap.get? a=some o) (hex:o.ExactSet) (hd:o.data= .set es ep t)
  {es1:Array (Int×Value)} {t2:SetTable} {ys:List Int} (te:∀e∈es1.toList,Ad prog w e) (pm:(es1.toList.map fun e=>jy e.2).Perm ys)
  (hb1:es1.size<scanBound) (hf2:t2.fits es1.size=true) (ld:w.params.followText "set-order" =false->t2.led=true) (pl:t2.plain=true->Ri t2.place) {wasDummy:Bool} {R:Option Bool->Shared->Prop}
  (h:∀h',Heap.SameBut a s.heap h'->qP prog w h' a ys->R (some true) {s with heap:=h'}):
  wpAny (model prog w) A (do
    storeSet a es1 t2
    if (!wasDummy&&t2.tooFull)=true then do
      g (relayAll t2 es1 (SetTable.grown es1.size)).2.2
      storeSet a (relayAll t2 es1 (SetTable.grown es1.size)).1 (relayAll t2 es1 (SetTable.grown es1.size)).2.1
      pure (some true)
     else pure (some true)) R E s:=by
 refine wpAny_bind (wpAny_storeSet_of ho hd ?_ (fits_of_scanBound hb1));obtain ⟨ho1,_⟩:=SetOf_store (knd:=aF prog w) (S':=fun k=>decide (∃e∈es1.toList,(aF prog w).is k e.2=true)) ho hex hd (kB te) (fun k=>by simp) hb1 hf2
 have hsb1:=Heap.SameBut.update s.heap a (Obj.putSet es1 t2)
 split
 ·have hp:=relayAll_perm t2 es1 (SetTable.grown es1.size);have hfr:=relayAll_fits t2 es1 (SetTable.grown es1.size);have hl:=nX t2 es1 (SetTable.grown es1.size);have hpl:= @kA t2 es1 (SetTable.grown es1.size);generalize hRl:relayAll t2 es1 (SetTable.grown es1.size)=Rl at hp hfr hl hpl⊢;obtain ⟨es2,t3,gave2⟩:=Rl;dsimp only at hp hfr hl hpl⊢;have te2:∀e∈es2.toList,Ad prog w e:=fun e he=>te e (hp.mem_iff.mp he)
  have hsz:es2.size=es1.size:=by rw[<-DW,hp.length_eq,DW]
  have hb2:es2.size<scanBound:=by rw[hsz];exact hb1
  refine wpAny_bind (hg _ _ _ ?_);refine wpAny_bind (wpAny_storeSet_of ho1 rfl ?_ (fits_of_scanBound hb2));obtain ⟨ho2,_⟩:=SetOf_store (knd:=aF prog w) (S':=fun k=>decide (∃e∈es2.toList,(aF prog w).is k e.2=true)) ho1 hex rfl (kB te2) (fun k=>by simp) hb2 hfr
  exact wpAny_pure (h _ (hsb1.trans (Heap.SameBut.update _ a _)) ⟨_,es2,_,t3,ho2,hex,rfl,te2,(hp.map _).trans pm,hb2,hfr,fun b=>hl.trans (ld b),hpl⟩)
 ·exact wpAny_pure (h _ hsb1 ⟨_,es1,_,t2,ho1,hex,rfl,te,pm,hb1,hf2,ld,pl⟩)
theorem Ae {a:Addr} {ys:List Int} {y:Int} {tk:Tok} {Q:Bool->Shared->Prop} (hS:qP prog w s.heap a ys) (room:ys.length+1<scanBound)
  (h:∀h',Heap.SameBut a s.heap h'->qP prog w h' a (insI ys y)->∀b,Q b {s with heap:=h'}):
  wpAny (model prog w) A (setAddHashed a (.int y tk) ((aF prog w).hash (.inl y))) Q E s:=by
 obtain ⟨o,es,ep,t,ho,hex,hd,te,pm,hb,hf,ld,pl⟩:=hS;have hel:=kB te;have hsz:es.size=ys.length:=by rw[<-DW,<-D3 (fun e:Int×Value=>jy e.2),pm.length_eq]
 unfold setAddHashed setAddHashedIn;refine wpAny_holding (wpAny_bind (wpAny_setState_of ho hd hf ?_));dsimp only;rw[byScan_of (knd:=aF prog w) (x:= .int y tk) rfl hb hel];simp only[↓reduceIte];unfold setAddByScan;refine wpAny_bind ?_;refine wpAny_bind (wpAny_rule ?_);refine wpAny_bind (wpAny_setScan_of (knd:=aF prog w) (k:= .inl y) tH ho hd hf hel ?_);cases hr:List.findIdx? (fun e=>(aF prog w).is (.inl y) e.2) es.toList with
 |some j=>
  dsimp only;obtain ⟨hj,hpj,_⟩:=List.findIdx?_eq_some_iff_getElem.mp hr;have hm:y∈ys:=(w6 (h:=s.heap) (a:=a) te pm y).mp ⟨es.toList[j],Ed hj,hpj⟩;refine wpAny_pure (wpAny_pure ?_);have e:s={s with heap:=s.heap}:=by cases s;rfl
  rw[e];refine h s.heap (Heap.SameBut.refl a s.heap) ?_ _;rw[insI,if_pos hm];exact ⟨o,es,ep,t,ho,hex,hd,te,pm,hb,hf,ld,pl⟩
 |none=>
  dsimp only;have hm:y∉ys:=fun hm=>by
   obtain ⟨e,he,q⟩:=(w6 (h:=s.heap) (a:=a) te pm y).mpr hm;have:=List.findIdx?_eq_none_iff.mp hr e he;rw[q] at this;cases this
  have hgw:∀(b:Bool) {s₁:Shared} {Q':Unit->Shared->Prop},Q' () s₁->wpAny (model prog w) A (match b with|true=>rule "set.scan.the-table-gave-way" |false=>pure ()) Q' E s₁:=
   fun b s₁ Q' hq=>by cases b<;>first|exact wpAny_pure hq|exact wpAny_rule hq
  have hperm:=layNew_perm t es ((aF prog w).hash (.inl y)) (.int y tk);have hfits:=layNew_fits t es ((aF prog w).hash (.inl y)) (.int y tk);have hled:=rW t es ((aF prog w).hash (.inl y)) (.int y tk);have hri:=n4 (es:=es) (h:=(aF prog w).hash (.inl y)) (x:= .int y tk) pl;generalize hL:layNew t es ((aF prog w).hash (.inl y)) (.int y tk)=L at hperm hfits hled hri⊢;obtain ⟨es1,t1,wasDummy,gave⟩:=L;dsimp only at hperm hfits hled hri⊢;rw[F9] at hperm;have te1:∀e∈es1.toList,Ad prog w e:=fun e he=>by
   rcases DO.mp (hperm.mem_iff.mp he) with q|q
   ·exact te e q
   ·rw[DR.mp q];exact ⟨y,tk,rfl⟩
  have pm1:(es1.toList.map fun e=>jy e.2).Perm (insI ys y):=by
   rw[insI,if_neg hm];refine (hperm.map _).trans ?_;rw[EA];exact pm.append_right _
  have hb1':es1.size<scanBound:=by
   rw[<-DW,hperm.length_eq,D7,DW,hsz];exact room
  refine wpAny_bind (hgw _ ?_)
  split
  ·refine wpAny_bind ?_;rw[hashByValue_scannable 8 (x:= .int y tk) rfl];refine wpAny_pure ?_;simp only[show plainKind (Value.int y tk)=true from rfl,if_true]
   refine tI ?_ ho hex hd te1 pm1 hb1' hfits ?_ hri ?_
   ·intro b s₁ Q' hq;cases b<;>first|exact wpAny_pure hq|exact wpAny_rule hq
   ·exact fun b=>hled.trans (ld b)
   ·intro h' hsb hS';dsimp only;exact wpAny_pure (h h' hsb hS' _)
  ·rename_i np;refine wpAny_bind (wpAny_pure ?_);simp only[↓reduceIte];refine tI ?_ ho hex hd te1 pm1 hb1' hfits ?_ hri ?_
   ·intro b s₁ Q' hq;cases b<;>first|exact wpAny_pure hq|exact wpAny_rule hq
   ·exact fun b=>hled.trans (ld b)
   ·intro h' hsb hS';dsimp only;exact wpAny_pure (h h' hsb hS' _)
end
def qc (xs:List Int) (i:Nat):List Int:=(xs.take i).foldl insI []
theorem qd {xs:List Int} {i:Nat} {y:Int} (h:xs[i]?=some y):qc xs (i+1)=insI (qc xs i) y:=by
 unfold qc;rw[E8,h,EV,List.foldl_append]
 rfl
theorem qe (ys:List Int) (y:Int):(insI ys y).length<=ys.length+1:=by
 unfold insI
 split
 ·lia
 ·simp
theorem oa (xs:List Int):∀i,(qc xs i).length<=i
 |0=>by simp[qc]
 |i+1=>by
  have ih:=oa xs i;cases h:xs[i]? with
  |none=>
   have:xs.take (i+1)=xs.take i:=by rw[E8,h];simp
   unfold qc at ih⊢;rw[this]
   lia
  |some y=>
   rw[qd h];have:=qe (qc xs i) y
   lia
theorem sd {ys:List Int} (y:Int) (h:ys.Nodup):(insI ys y).Nodup:=by
 unfold insI
 split
 ·exact h
 ·rename_i n;exact FN.mpr ⟨h,by simp,fun a ha b hb e=>n (by rw[DR] at hb;rw[<-hb,<-e];exact ha)⟩
theorem xc {ys:List Int} {y z:Int}:z∈insI ys y↔z∈ys∨z=y:=by
 unfold insI
 split
 ·rename_i h;exact ⟨.inl,fun h'=>h'.elim id fun e=>e▸h⟩
 ·simp
theorem fu:∀(xs ys:List Int),ys.Nodup->(xs.foldl insI ys).Nodup
 | [],_,h=>h
 |x::xs,ys,h=>fu xs _ (sd x h)
theorem gj {z:Int}:∀(xs ys:List Int),z∈xs.foldl insI ys↔z∈ys∨z∈xs
 | [],ys=>by simp
 |x::xs,ys=>by
  rw[List.foldl_cons,gj xs,xc,DM,or_assoc]
section
variable {prog:Program} {w:World} {A:Around} {R:Result->Shared->Prop} {I:Addr} {fp wr:GW} {G:Array GenState->Array GenState->Prop} {n:Nat} {P:Nat->Value->Prop} {St:Nat->Shared->Prop}
theorem vc (W:WalksS prog w A.in1 I fp wr G n P St) (S:Addr) (out:S∉fp) (xs:List Int) (hv:∀i v,P i v->∃y t,xs[i]?=some y/\v= .int y t)
  (hn:n<=xs.length) (hb:n+1<scanBound):∀(m i:Nat) (s:Shared),n-i=m->i<=n->St i s->qP prog w s.heap S (qc xs i)->
   (∀s',Moved (S::wr) G s s'->qP prog w s'.heap S (qc xs n)->R (.ok (.ret .none)) s')->codeAny (model prog w) A (.builtin "set.update.loop" ⟨[.ref S,.ref I],[]⟩) R s:=by
 have nw:S∉wr:=fun h=>out (W.sub _ h)
 have up:∀b∈wr,b∈S::wr:=fun b hb=> .tail _ hb
 have stay:∀{s1 s2:Shared} {ys:List Int},qP prog w s1.heap S ys->Moved wr G s1 s2->qP prog w s2.heap S ys:=by
  rintro s1 s2 ys ⟨o,es,ep,t,ho,z⟩ mv;exact ⟨o,es,ep,t,mv.heap S _ nw ho,z⟩
 intro m
 induction m with
 |zero=>
  intro i s hm hi st hS fin;have e:i=n:=by lia
  subst e;apply codeAny_builtin F.entry_set_update_loop;rw[Around.under_plainId F.plain_set_update_loop _];show wpAny _ _ (pyNext (.ref I)>>=_) _ _ s;apply wpAny_bind;refine W.done s _ _ st fun s' mv=>?_
  exact wpAny_pure (fin s' (mv.mono up) (stay hS mv))
 |succ m ih=>
  intro i s hm hi st hS fin;have lt:i<n:=by lia
  apply codeAny_builtin F.entry_set_update_loop;rw[Around.under_plainId F.plain_set_update_loop _];show wpAny _ _ (pyNext (.ref I)>>=_) _ _ s;apply wpAny_bind;refine W.item i s _ _ lt st fun v s' pv st' mv=>?_
  obtain ⟨y,tk,ey,rfl⟩:=hv i v pv;show wpAny _ _ (holding [.int y tk] (setAdd S (.int y tk))>>=_) _ _ s';apply wpAny_bind;apply wpAny_holding;unfold setAdd;apply wpAny_holding;apply wpAny_bind;refine (aF prog w).pyHash (k:= .inl y) tH ?_;have rm:(qc xs i).length+1<scanBound:=by
   have:=oa xs i
   lia
  refine Ae (s:={s' with toks:=s'.toks+1}) (show qP prog w s'.heap S (qc xs i) from stay hS mv) rm fun h' same S2 b=>?_
  rw[<-qd ey] at S2;apply wpAny_pure;refine ⟨plainId_quiet F.plain_set_update_loop _,ih (i+1) _ (by lia) lt (W.frame _ s' _ _ st' (Fe _) fun b hb o e=>?_) S2 fun s'' mv2 S4=>?_⟩
  ·exact (same.2 b fun z=>out (z▸hb)).trans e
  ·exact fin s'' (Moved.trans W.gtrans ((mv.mono up).then_heap (Fe _) fun b o hb e=>(same.2 b fun z=>hb (z▸E7)).trans e) mv2) S4
end
section
variable {prog:Program} {w:World} {A:Around} {E:GR} {s:Shared}
set_option maxHeartbeats 3200000 in
theorem vd {l:Addr} {items:Array Value} {xs:List Int} {Q:GR} (hh:A.handled=none) (hl:s.heap.IsList l items) (hv:∀(i:Nat) (v:Value),items[i]?=some v->∃(y:Int) (t:Tok),xs[i]?=some y/\v=Value.int y t)
  (hn:items.size=xs.length) (hb:items.size+1<scanBound)
  (fin:∀(h':Heap) (tk:Nat),qP prog w h' s.heap.objs.size (qc xs items.size)->(∀b o,b<s.heap.objs.size->s.heap.get? b=some o->h'.get? b=some o)->Q (.ref s.heap.objs.size) {s with heap:=h',toks:=tk}):
  wpAny (model prog w) A (call (.type "set") [.ref l]) Q E s:=by
 obtain ⟨c0,tl0,mro⟩:=F.called_set.mro;have made:=F.called_set.made;have subt:=F.called_set.sub;apply wpAny_call;apply codeAny_of_tree;show wpAny _ _ (callAny (.type "set") _) _ _ _;apply wpAny_pure;refine ⟨Code.quiet_builtin _ (by decide+kernel),codeAny_builtin F.entry_type_call ?_⟩
 rw[Around.under_plain (weight_type_call_type "set" [.ref l] []) rfl];have nt:=F.called_set.notType;have cc:=F.called_set.canCreate;have tc:=F.typeCall_set_1 (.ref l)
 repeat any_goals first|assumption|wp_step
 refine codeAny_mono (lE (.ref l) (E:=E) (Q₁:=fun v s1=>∃led:Bool,(w.params.followText "set-order" =false->led=true)/\v= .ref s.heap.objs.size/\s1={s with heap:=s.heap.push {cls:= .type "set",dict:=none,data:= .set #[] 0 (.fresh 0 0 led)}}) fun led eld=>⟨led,eld,rfl,rfl⟩) fun r s1 hr=>?_
 cases r with
 |error e=>exact hr
 |ok fl=>
  cases fl with
  |ret v=>
   obtain ⟨led,eld,rfl,rfl⟩:=hr;have e0:(s.heap.push {cls:= .type "set",dict:=none,data:= .set #[] 0 (.fresh 0 0 led)}).get? s.heap.objs.size=some {cls:= .type "set",dict:=none,data:= .set #[] 0 (.fresh 0 0 led)}:=Heap.get?_push_size _ rfl;have tS:Shared.TypeIs {s with heap:=s.heap.push {cls:= .type "set",dict:=none,data:= .set #[] 0 (.fresh 0 0 led)}} (.ref s.heap.objs.size) "set" :=⟨_,e0,rfl⟩
   have lk:=F.called_set.init.lookup;have bd:=F.called_set.init.bind (.ref s.heap.objs.size)
   repeat any_goals first|assumption|wp_step
   refine codeAny_mono (codeAny_call_builtin (R:=wants (fun r s2=>r= .none/\∃h' tk,s2={s with heap:=h',toks:=tk}/\qP prog w h' s.heap.objs.size (qc xs items.size)/\∀b o,b<s.heap.objs.size->s.heap.get? b=some o->h'.get? b=some o) E) F.called_set.init.plain F.entry_set_init (check_set_init_1 tS ?_)) fun r2 s2 hr2=>?_
   ·obtain ⟨⟨lc,ld,lx,ls⟩,hol,hcl,nl,hdl⟩:=hl;simp only at hcl hdl;subst hcl hdl;have el:(s.heap.push {cls:= .type "set",dict:=none,data:= .set #[] 0 (.fresh 0 0 led)}).get? l=some {cls:= .type "list",dict:=ld,data:= .seq items nl,slots:=ls}:=Heap.get?_push_of_some _ hol;have n1:=F.sub_list_set;have n2:=F.sub_list_frozenset;have n3:(Value.type "list" ==Value.type "dict")=false:=by decide
    have il:(s.heap.push {cls:= .type "set",dict:=none,data:= .set #[] 0 (.fresh 0 0 led)}).IsList l items:=⟨_,el,rfl,nl,rfl⟩;unfold Builtin.«set.__init__» noKeywords Builtin.Frozenset.updateFrom;generalize hit:pyIter=PI
    wp_walk
    subst hit;apply wpAny_pyIter_list il;apply wpAny_bind;apply wpAny_runValue;have ll:l<s.heap.objs.size:=Heap.lt_size hol;have h3:A.in1.in1.in1.handled=none:=by simpa using hh
    have nI:l≠(s.heap.push {cls:= .type "set",dict:=none,data:= .set #[] 0 (.fresh 0 0 led)}).objs.size:=by
     rw[Heap.size_push];exact DI (EN ll)
    have out:s.heap.objs.size∉ [(s.heap.push {cls:= .type "set",dict:=none,data:= .set #[] 0 (.fresh 0 0 led)}).objs.size,l]:=by
     rw[Heap.size_push];simp only[DM,not_or];exact ⟨DI (FS _),Ew ll,Eh⟩
    refine vc ((Walks.list h3 _ l nI items).toS) s.heap.objs.size out xs hv (Nat.le_of_eq hn) hb items.size 0 _ rfl (EC _) ⟨⟨_,Heap.get?_push_size _ rfl,rfl,rfl⟩,il.push _⟩ ?_ ?_
    ·have e1:((s.heap.push {cls:= .type "set",dict:=none,data:= .set #[] 0 (.fresh 0 0 led)}).push {cls:= .type "list_iterator",data:= .fields #[.ref l,.int 0 0]}).get? s.heap.objs.size=some {cls:= .type "set",dict:=none,data:= .set #[] 0 (.fresh 0 0 led)}:=
      Heap.get?_push_of_some _ e0
     exact ⟨_,#[],0,_,e1,⟨rfl,rfl,rfl⟩,rfl,(fun e he=>by simp at he),by simp[qc],by decide,rfl,eld,fun _=>(List.Pairwise.nil:List.Pairwise (· < ·) ([]:List Nat))⟩
    ·intro s' mv S2;obtain ⟨h',g',d',tk',os'⟩:=s';have eg:g'=s.gens:=mv.gens;have ed:d'=s.drawn:=mv.drawn;have eo:os'=s.os:=mv.os;subst eg ed eo;show wpAny _ _ _ _ _ _;apply wpAny_pure;show wpAny _ _ (ret Value.none) _ _ _;apply wpAny_pure;refine ⟨rfl,h',tk',rfl,S2,fun b o hb' e=>?_⟩
     refine mv.heap b o ?_ (Heap.get?_push_of_some _ (Heap.get?_push_of_some _ e));rw[Heap.size_push];simp only[DM,not_or];exact ⟨DI hb',DI (EN hb'),Eh⟩
   ·cases r2 with
    |error e=>exact hr2
    |ok fl2=>
     cases fl2 with
     |ret r=>
      obtain ⟨rfl,h',tk,rfl,S2,kp⟩:=hr2
      repeat any_goals first|assumption|wp_step
      exact fin _ _ S2 kp
     |_=>exact hr2.elim
  |_=>exact hr.elim
end
theorem qf:∀{acc:GX} {ks:List Int},acc.length=ks.length->(∀(j:Nat) (v:Value),acc[j]?=some v->∃y t,ks[j]?=some y/\v= .int y t)->IntsAre acc ks
 | [],[],_,_=> .nil
 |v::acc,k::ks,hl,h=>by
  obtain ⟨y,t,e,rfl⟩:=h 0 v rfl;simp at e;subst e;exact .cons _ _ (qf (by simpa using hl) fun j u hu=>h (j+1) u (by simpa using hu))
 | [],_::_,hl,_=>by simp at hl
 |_::_,[],hl,_=>by simp at hl
section
variable {prog:Program} {w:World} {A:Around} {E:GR} {s:Shared}
theorem gP {S:Addr} {es:Array (Int×Value)} {ep i slot:Nat} {t:SetTable} {Q:Option (Value×Nat)->Shared->Prop} (hS:c9 s.heap S es ep t) (hb:w.params.followText "set-order" =false) (pl:t.plain=true) (ld:t.led=true)
  (h:Q (match es[SetTable.below t.place slot]?,t.place[SetTable.below t.place slot]? with|some (_,x),some j=>some (x,j+1)|_,_=>none) s):wpAny (model prog w) A (setNext S slot i ep) Q E s:=by
 unfold setNext setsByText;refine wpAny_bind (dM hS ?_);dsimp only;refine wpAny_bind (wpAny_bind (wpAny_askSetting (wpAny_pure ?_)));rw[show ((model prog w).w.params.followText "set-order")=false from hb]
 simp only[EX,if_false];have d1:(!t.plain&&decide (es.size>1))=false:=by rw[pl];rfl
 have d2:(!t.led&& !es.isEmpty)=false:=by rw[ld];rfl
 show wpAny _ _ (if (!t.plain&&decide (es.size>1))=true then _ else _) _ _ s
 rw[d1];simp only[EX,if_false];refine wpAny_bind ?_;show wpAny _ _ (if (!t.led&& !es.isEmpty)=true then _ else _) _ _ s
 rw[d2];simp only[EX,if_false];refine wpAny_pure ?_;exact wpAny_pure h
theorem below_at {xs:Array Nat} (hr:Ri xs) {i slot:Nat} (hi:i<=xs.size) (z1:i=0->slot=0) (z2:∀k,i=k+1->∃j,xs[k]?=some j/\slot=j+1):SetTable.below xs slot=i:=by
 obtain ⟨b1,b2,b3⟩:=qb hr slot;rcases Nat.eq_zero_or_pos i with e|e
 ·cases z1 e;subst e;rcases Nat.eq_zero_or_pos (SetTable.below xs 0) with q|q
  ·exact q
  ·exact absurd (b2 0 (by lia) q) (Nat.not_lt_zero _)
 ·obtain ⟨k,rfl⟩:∃k,i=k+1:=⟨i-1,by lia⟩
  obtain ⟨j,hj,rfl⟩:=z2 k rfl;obtain ⟨hk,rfl⟩:=F1.mp hj;have l1:¬SetTable.below xs (xs[k]+1)<=k:=fun q=>by
   have:=b3 k hk q
   lia
  rcases F2 (k+1) (SetTable.below xs (xs[k]+1)) with q|q
  ·have h1:k+1<xs.size:=by lia
   have h2:=b2 (k+1) h1 q;have h3:=hr.lt (i:=k) (k:=k+1) (by lia) h1
   lia
  ·lia
theorem se (hh:A.handled=none) (hb:w.params.followText "set-order" =false) (I S:Addr) (ne:S≠I) (es:Array (Int×Value)) (ep:Nat) (t:SetTable) (pl:t.plain=true) (ld:t.led=true) (ft:t.fits es.size=true) (hr:Ri t.place):
  Walks prog w A I [I,S] [I] es.size (fun i v=>∃e,es.toList[i]?=some e/\v=e.2) (fun i h=>(∃slot:Nat,(i=0->slot=0)/\(i≠0->∃j,t.place[i-1]?=some j/\slot=j+1)/\h.get? I=some (qO (.int slot 0) i S es.size ep))/\c9 h S es ep t) where
 sub:=fun b hb=>by simp at hb;simp[hb]
 frame:=fun _ _ _ st hk=>⟨let ⟨sl,a,b,c⟩:=st.1;⟨sl,a,b,hk I (by simp) _ c⟩,st.2.at fun o e=>hk S (by simp) o e⟩
 item:=fun i s Q E hi st hQ=>by
  obtain ⟨⟨slot,z1,z2,hI⟩,hS⟩:=st;have pz:t.place.size=es.size:=by
   simp only[SetTable.fits,Ey,beq_iff_eq] at ft;exact ft.1
  have bi:SetTable.below t.place slot=i:=below_at hr (by lia) z1 fun k hk=>by
   have:=z2 (by lia)
   rwa [show i-1=k by lia] at this
  obtain ⟨x,hx⟩:∃x,es[i]?=some x:=⟨_,DZ hi⟩;obtain ⟨j,hj⟩:∃j,t.place[i]?=some j:=⟨_,DZ (by lia)⟩
  refine i9 (slot:=slot) (nx:=j+1) (x:=x.2) hI hS (fun A E Q q=>gP hS hb pl ld ?_) fun h' e' sb=>?_
  ·rw[bi,hx,hj];exact q
  ·exact hQ _ h' s.toks ⟨_,by rw[E3];exact hx,rfl⟩ ⟨⟨j+1,fun z=>(by lia),fun _=>⟨j,hj,rfl⟩,e'⟩,hS.at fun o e=>(sb.2 S ne).trans e⟩ fun b o hb e=>(sb.2 b fun z=>hb (by simp[z])).trans e
 done:=fun s Q E st hQ=>by
  obtain ⟨⟨slot,z1,z2,hI⟩,hS⟩:=st;have pz:t.place.size=es.size:=by
   simp only[SetTable.fits,Ey,beq_iff_eq] at ft;exact ft.1
  have bi:SetTable.below t.place slot=es.size:=below_at hr (by lia) z1 fun k hk=>by
   have:=z2 (by lia)
   rwa [show es.size-1=k by lia] at this
  refine ja (slot:=slot) hh hI hS (fun A E Q q=>gP hS hb pl ld ?_) fun h' xb=>hQ h' s.toks fun b o hb e=>xb b o (fun z=>hb (by simp[z])) e
  rw[bi,FT (D8 _)];exact q
 self:=fun i s Q E st hQ=>by
  obtain ⟨⟨slot,z1,z2,hI⟩,hS⟩:=st;have hT:s.TypeIs (.ref I) "set_iterator" :=⟨_,hI,rfl⟩;refine wpAny_pyIter_slot hT bW (wpAny_call_entry bW hT dC ?_ (eC _));show wpAny _ _ (ret (.ref I)) _ _ s;exact wpAny_pure ⟨_,rfl,"set_iterator",_,hT,a8.lookup,hQ⟩
end
theorem iI {prog:Program} {w:World} {es:List (Int×Value)} (te:∀e∈es,Ad prog w e) {acc:GX} (hl:acc.length=es.length) (h:∀(j:Nat) (v:Value),acc[j]?=some v->∃e,es[j]?=some e/\v=e.2):IntsAre acc (es.map fun e=>jy e.2):=
 qf (by rw[hl,D3]) fun j v hv=>by
  obtain ⟨e,he,rfl⟩:=h j v hv;obtain ⟨y,t,rfl⟩:=te e (D6 he);exact ⟨y,t,by rw[D9,he];rfl,rfl⟩
section
variable {prog:Program} {w:World} {A:Around} {E:GR} {s:Shared}
theorem yJ {a:Addr} {ys:List Int} {Q:GR} (hh:A.handled=none) (hS:qP prog w s.heap a ys)
  (h:∀(s1:Shared) (I:Addr) (fp:GW) (n:Nat) (P:Nat->Value->Prop) (St:Nat->Heap->Prop),Walks prog w A I fp [I] n P St->St 0 s1.heap->s.heap.objs.size<=I->I∈fp->(∀b∈fp,b=a∨s.heap.objs.size<=b)->n<=sizeLine->
   (∀b o,s.heap.get? b=some o->s1.heap.get? b=some o)->(∃d,s1={s with heap:=s1.heap,drawn:=d})->(∀acc:Array Value,PySem.ItemsOf P acc n->∃zs:List Int,zs.Perm ys/\IntsAre acc.toList zs)->Q (.ref I) s1):
  wpAny (model prog w) A (pyIter (.ref a)) Q E s:=by
 obtain ⟨o,es,ep,t,ho,hex,hd,te,pm,hb,hf,ld,pl⟩:=hS;have SA:c9 s.heap a es ep t:=⟨o,ho,hex,hd,hf⟩;have al:=Heap.lt_size ho;have nz:es.size<=sizeLine:=fits_of_scanBound hb;refine wW SA nz (fun c=>?_) fun c zs d hz=>?_
 ·cases hb':w.params.followText "set-order" with
  |true=>
   refine h _ s.heap.objs.size _ _ _ _ (u6 hh hb' s.heap.objs.size a (DI al) es ep t) ⟨Heap.get?_push_size _ rfl,SA.at fun o e=>Heap.get?_push_of_some _ e⟩ (D8 _) (by simp) (by simp) nz (fun b o e=>Heap.get?_push_of_some _ e) ⟨s.drawn,rfl⟩ fun acc ha=>?_
   have pp:=ku (w.params.setOrder a ep) es;refine ⟨_,(pp.map fun e=>jy e.2).trans pm,iI (fun e he=>te e (pp.mem_iff.mp he)) (by rw[DW,ha.1,pp.length_eq,DW]) fun j v hv=>ha.2 j v (by rw[<-E3];exact hv)⟩
  |false=>
   cases hpl:t.plain with
   |false=>
    have few:es.size<=1:=by
     rcases F2 1 es.size with q|q
     ·rw[hb',hpl] at c;simp at c
      lia
     ·exact q
    refine h _ s.heap.objs.size _ _ _ _ (wX hh hb' s.heap.objs.size a (DI al) es ep t few (ld hb') hf) ⟨⟨0,fun _=>rfl,fun z=>absurd rfl z,Heap.get?_push_size _ rfl⟩,SA.at fun o e=>Heap.get?_push_of_some _ e⟩ (D8 _) (by simp) (by simp) nz (fun b o e=>Heap.get?_push_of_some _ e) ⟨s.drawn,rfl⟩ fun acc ha=>?_
    exact ⟨_,pm,iI te (by rw[DW,ha.1,DW]) fun j v hv=>ha.2 j v (by rw[<-E3];exact hv)⟩
   |true=>
    refine h _ s.heap.objs.size _ _ _ _ (se hh hb' s.heap.objs.size a (DI al) es ep t hpl (ld hb') hf (pl hpl)) ⟨⟨0,fun _=>rfl,fun z=>absurd rfl z,Heap.get?_push_size _ rfl⟩,SA.at fun o e=>Heap.get?_push_of_some _ e⟩ (D8 _) (by simp) (by simp) nz (fun b o e=>Heap.get?_push_of_some _ e) ⟨s.drawn,rfl⟩ fun acc ha=>?_
    exact ⟨_,pm,iI te (by rw[DW,ha.1,DW]) fun j v hv=>ha.2 j v (by rw[<-E3];exact hv)⟩
 ·have e1:(s.heap.push {cls:= .type "tuple",data:= .seq (zs.map fun (i:Nat)=>rawInt i).toArray}).objs.size=s.heap.objs.size+1:=Heap.size_push ..
  refine h _ (s.heap.objs.size+1) _ _ _ _ (u7 hh (s.heap.objs.size+1) a s.heap.objs.size (DI (EN al)) (DI (FS _)) es ep t zs hz)
   ⟨(show ((s.heap.push _).push (qO (.ref s.heap.objs.size) 0 a es.size ep)).get? (s.heap.objs.size+1)=_ from e1▸Heap.get?_push_size (s.heap.push {cls:= .type "tuple",data:= .seq (zs.map fun (i:Nat)=>rawInt i).toArray}) (o:=qO (.ref s.heap.objs.size) 0 a es.size ep) rfl),SA.at fun o e=>Heap.get?_push_of_some _ (Heap.get?_push_of_some _ e),Heap.get?_push_of_some _ (Heap.get?_push_size _ rfl)⟩ (Fe _) (by simp) (fun b hb=>by
    simp only[DM,Eh,or_false] at hb;rcases hb with rfl|rfl|rfl
    ·exact .inr (Fe _)
    ·exact .inl rfl
    ·exact .inr (D8 _)) nz (fun b o e=>Heap.get?_push_of_some _ (Heap.get?_push_of_some _ e)) ⟨d,rfl⟩ fun acc ha=>?_
  have hl:zs.length=es.size:=by rw[hz.length_eq,E1]
  let es':List (Int×Value):=zs.map fun j=>es.getD j (0,.none)
  have pp:es'.Perm es.toList:=by
   refine (hz.map _).trans ?_;have:(DT es.size).map (fun j=>es.getD j (0,Value.none))=es.toList:=by
    apply FA;intro i;rw[D9,E3 (xs:=es)];rcases F2 i es.size with q|q
    ·rw[Eg q,DZ q];simp[Array.getD,q]
    ·rw[EL (by simpa using q),FT q]
     rfl
   rw[this]
  refine ⟨_,(pp.map fun e=>jy e.2).trans pm,iI (fun e he=>te e (pp.mem_iff.mp he)) (by rw[DW,ha.1,pp.length_eq,DW]) fun j v hv=>?_⟩
  obtain ⟨k,e,e2,e3,e4⟩:=ha.2 j v (by rw[<-E3];exact hv)
  refine ⟨e,?_,e4⟩;show (zs.map _)[j]?=_;rw[D9,e2];simp[Array.getD_eq_getD_getElem?,e3]
theorem ve {a L:Addr} {c:Nat} {ys:List Int} (hh:A.handled=none) (hS:qP prog w s.heap a ys) (hL:s.heap.get? L=some {cls:= .type "list",data:= .seq #[] c}) (ne:L≠a) {RR:Result->Shared->Prop}
  (hR:∀(h':Heap) (tk:Nat) (d:Drawn) (acc:Array Value) (c:Nat) (zs:List Int),(∀b o,b≠L->s.heap.get? b=some o->h'.get? b=some o)->h'.get? L=some {cls:= .type "list",dict:=none,data:= .seq acc c,slots:= #[]}->zs.Perm ys->IntsAre acc.toList zs->RR (.ok (.ret (.ref L))) {s with heap:=h',drawn:=d,toks:=tk}):
  wpAny (model prog w) A.in1 (Builtin.List.listExtendWith (.ref L) (.ref a) (.ref L))
   (fun fin s'=>match fin with| .done f=>RR (.ok f) s'| .again c'=>c'.quiet=true/\codeAny (model prog w) A c' RR s') (fun e s'=>RR (.error e) s') s:=by
 have Ll:L<s.heap.objs.size:=Heap.lt_size hL;have tyS:∀{s':Shared},qP prog w s'.heap a ys->s'.TypeIs (.ref a) "set" :=fun ⟨o,_,_,_,ho,hex,_⟩=>⟨o,ho,hex.1⟩
 unfold Builtin.List.listExtendWith;refine wpAny_bind (wpAny_typeOf (T:= "set") (tyS hS) ?_);have h1:Builtin.List.listSameRef (.ref L) (.ref a)=false:=by simp[Builtin.List.listSameRef,ne]
 simp only[h1,show (Value.type "set" ==Value.type "list")=false by decide,show (Value.type "set" ==Value.type "tuple")=false by decide,Bool.or_false,EX,if_false]
 refine wpAny_bind (yJ (A:=A.in1) hh hS fun s1 I fp n P St W st hI hIf hfp hn kp hd out=>?_)
 have Lf:L∉fp:=fun z=>(hfp _ z).elim ne fun q=>absurd Ll (Nat.not_lt.mpr q)
 obtain ⟨d,es1⟩:=hd;have hL1:=kp _ _ hL;have hS2:qP prog w s1.heap a ys:=let ⟨o,es,ep,t,ho,r⟩:=hS;⟨o,es,ep,t,kp _ _ ho,r⟩;refine wpAny_bind (wpAny_holding (wY (tyS hS2) ?_));have key:∀(hp:Heap) (c₁ tk:Nat),St 0 hp->(∀b o,b≠L->s1.heap.get? b=some o->hp.get? b=some o)->hp.get? L=some {cls:= .type "list",data:= .seq #[] c₁}->
   codeAny (model prog w) A (.builtin "list.extend.loop" ⟨[.ref L,.ref I,.ref L],[]⟩) RR {s1 with heap:=hp,toks:=tk}:=by
  intro hp c₁ tk hst hk hLp;refine codeAny_extend_loopS W.toS hn L Lf (.ref L) n 0 _ #[] c₁ rfl (EC _) hst hLp (ItemsOf.nil _) fun s' acc' c' hm hS' hacc=>?_
  obtain ⟨zs,z1,z2⟩:=out acc' hacc;have e':=Moved.eq_with hm;rw[es1] at e';rw[e'];refine hR s'.heap s'.toks d acc' c' zs (fun b o nb e=>hm.heap b o (fun hmem=>?_) (hk b o nb (kp b o e))) hS' z1 z2
  rcases DM.mp hmem with q|q
  ·exact nb q
  ·have bl:=Heap.lt_size e;rw[DR.mp q] at bl;exact absurd bl (Nat.not_lt.mpr hI)
 refine wpAny_ite_split (fun _=>?_) (fun _=>wpAny_pure ⟨plainId_quiet PySem.F.plain_extend_loop _,key s1.heap c s1.toks st (fun b o _ e=>e) hL1⟩)
 refine wpAny_bind (wpAny_rule ?_);refine wpAny_bind ?_;show wpAny _ _ (updateSeq L (·.push .none)>>=fun _=>updateSeq L (·.pop)) _ _ _
 refine wpAny_bind (wpAny_updateSeq hL1 rfl ?_);have hS₂:=Heap.get?_update_self (Obj.mapSeq (·.push Value.none)) hL1 rfl;refine wpAny_updateSeq (hz:=by seq_fits) hS₂ rfl ?_
 have hS₃:=Heap.get?_update_self (Obj.mapSeq (·.pop)) hS₂ rfl;refine wpAny_pure ⟨plainId_quiet PySem.F.plain_extend_loop _,key _ _ _ (W.frame _ _ _ st fun b hb o e=>?_) (fun b o nb e=>?_) hS₃⟩
 ·have nb:b≠L:=fun z=>Lf (z▸hb)
  exact (Heap.get?_update_other _ _ (Ne.symm nb)).trans ((Heap.get?_update_other _ _ (Ne.symm nb)).trans e)
 ·exact (Heap.get?_update_other _ _ (Ne.symm nb)).trans ((Heap.get?_update_other _ _ (Ne.symm nb)).trans e)
theorem sg {a:Addr} {ys:List Int} {R:GX->Shared->Prop} (hh:A.handled=none) (hS:qP prog w s.heap a ys)
  (h:∀(h':Heap) (tk:Nat) (d:Drawn) (acc:GX) (zs:List Int),s.heap.objs.size<h'.objs.size->(∀b o,s.heap.get? b=some o->h'.get? b=some o)->zs.Perm ys->IntsAre acc zs->R acc {s with heap:=h',drawn:=d,toks:=tk}):
  wpAny (model prog w) A (collect (.ref a)) R E s:=by
 have al:a<s.heap.objs.size:=let ⟨o,_,_,_,ho,_⟩:=hS;Heap.lt_size ho;unfold collect;refine wpAny_bind (wpAny_runValue (codeAny_builtin entry_proto_collect' ?_));rw[Around.under_plainId PySem.F.plain_proto_collect _];show wpAny _ A.in1 (newList []>>=fun l=>again (.builtin "list.__iadd__" ⟨[l,.ref a],[]⟩)) _ _ s
 refine wpAny_bind (wpAny_newObj_type (wpAny_pure ⟨plainId_quiet F8 _,codeAny_builtin entry_list_iadd' ?_⟩));rw[Around.under_plainId F8 _];have fresh:(s.heap.push {cls:= .type "list",data:= .seq ([]:GX).toArray}).get? s.heap.objs.size=some {cls:= .type "list",data:= .seq #[]}:=Heap.get?_push_size _ rfl;have hS1:qP prog w (s.heap.push {cls:= .type "list",data:= .seq ([]:GX).toArray}) a ys:=let ⟨o,es,ep,t,ho,r⟩:=hS;⟨o,es,ep,t,Heap.get?_push_of_some _ ho,r⟩;show wpAny _ A.in1 (Builtin.List.listExtendWith (.ref s.heap.objs.size) (.ref a) (.ref s.heap.objs.size)) _ _ _;have key:=ve (A:=A) (s:={s with heap:=s.heap.push {cls:= .type "list",data:= .seq ([]:GX).toArray}})
  (RR:=fun (q:Result) (s':Shared)=>∃(h':Heap) (tk:Nat) (d:Drawn) (acc:Array Value) (c:Nat) (zs:List Int),q= .ok (.ret (.ref s.heap.objs.size))/\s'={s with heap:=h',drawn:=d,toks:=tk}/\(∀b o,s.heap.get? b=some o->h'.get? b=some o)/\h'.get? s.heap.objs.size=some {cls:= .type "list",dict:=none,data:= .seq acc c,slots:= #[]}/\zs.Perm ys/\IntsAre acc.toList zs)
  hh hS1 fresh (Ew al) (fun h' tk d acc c zs hk hS' z1 z2=>⟨h',tk,d,acc,c,zs,rfl,rfl,fun b o e=>hk b o (DI (Heap.lt_size e)) (Heap.get?_push_of_some _ e),hS',z1,z2⟩)
 refine wpAny_mono key (fun f s' x=>?_) fun e s' x=>?_
 ·cases f with
  |done f=>
   obtain ⟨h',tk,d,acc,c,zs,e,rfl,hk,hS',z1,z2⟩:=x;cases e;show wpAny _ A (load s.heap.objs.size>>=_) _ _ _;exact wpAny_bind (wpAny_load hS' (wpAny_pure (h h' tk d acc.toList zs (Heap.lt_size hS') hk z1 z2)))
  |again c₁=>
   refine ⟨x.1,codeAny_mono x.2 fun q s₂ y=>?_⟩
   obtain ⟨h',tk,d,acc,c,zs,rfl,rfl,hk,hS',z1,z2⟩:=y;show wpAny _ A (load s.heap.objs.size>>=_) _ _ _;exact wpAny_bind (wpAny_load hS' (wpAny_pure (h h' tk d acc.toList zs (Heap.lt_size hS') hk z1 z2)))
 ·obtain ⟨_,_,_,_,_,_,e',_⟩:=x;cases e'
end
def vf (K:D5) (te:TE):TE:=fun σ H Q=>te σ H fun x H1=>∃(a:Addr) (xs:List Int),x= .ref a/\aK K H1 a (xs.map V.int)/\xs.length<4000/\(xs.foldl insI []).length<64/\
 ∀(p:Addr) (ys:List Int),H1 p=none->ys.Nodup->(∀z,z∈ys↔z∈xs)->ys.Pairwise (· <= ·)->Q (.ref p) (av H1 p (.lst (ys.map V.int)))
theorem qg:∀{xs:List Int} {us:GX},aS (xs.map V.int) us->∀(i:Nat) (v:Value),us[i]?=some v->∃(y:Int) (t:Tok),xs[i]?=some y/\v=Value.int y t
 | [],_,.nil,i,v,h=>by simp at h
 |x::xs,_,.cons r t,0,v,h=>by
  simp at h;subst h;obtain ⟨k,rfl⟩:=r;exact ⟨x,k,rfl,rfl⟩
 |x::xs,_,.cons r t,i+1,v,h=>qg t i v (by simpa using h)
section
variable {X:Cx} {e:Expr} {te:TE} {p1 p2 pos pos2:Pos}
theorem qh (hc:X.calm=true) (g1:Gl X "sorted") (m1:X.mg "sorted" =none) (g2:Gl X "set") (m2:X.mg "set" =none) (b1:bootBuiltins "sorted" =some (.builtin "sorted")) (b2:bootBuiltins "set" =some (.type "set")) (he:PE X e te)
  (hs:starEach [e] X.env= [(false,eval e X.env)]:=by rfl):
  PE X (.Call (.Name "sorted" p1) [.Call (.Name "set" p2) [e] [] pos2] [] pos) (vf X.K te):=by
 intro pins s σ H Q I h;apply wpAny_Call_Name_kw;refine cW I g1 m1 b1 ?_ (by decide) (by decide)
 refine Calls.callWith_builtin rfl (Calls.evalArgs_plain ?_);refine Calls.spliced_cons (x:=eval (.Call (.Name "set" p2) [e] [] pos2) X.env) (rest:= []) ?_;apply wpAny_Call_Name_kw;refine cW I g2 m2 b2 ?_ (by decide) (by decide)
 refine EE ?_ hs rfl;rw[hs];refine Calls.spliced_cons (x:=eval e X.env) (rest:= []) (a9 (he pins s σ H _ I h) fun v s1 ⟨x,H1,I1,r1,a,xs,ex,hq,few,fw,q⟩=>?_)
 subst ex;cases r1;apply Calls.spliced_nil;obtain ⟨its,rv,pl,hz⟩:=I1.list hq;have sz:its.toArray.size=xs.length:=by rw[DX,<-rv.length,D3]
 have hli:s1.heap.IsList a its.toArray:=pl.isList;refine vd (xs:=xs) (I.ok.hd hc) hli (fun i v hv=>qg rv i v (by simpa using hv)) sz (by rw[sz];show xs.length+1<4096;lia) fun h' tk S2 kp=>?_
 apply Calls.spliced_nil;have dl:(qc xs its.toArray.size).length<=its.toArray.size:=oa xs _;have dz:qc xs its.toArray.size=xs.foldl insI []:=by unfold qc;rw[sz,EM]
 have I2:=I1.kept (t':=tk) (h':=h') (fun b o e=>kp b o (Heap.lt_size e) e)
 refine Calls.call_function_entry kind_sorted plain_sorted entry_sorted (args_sorted1 _) ?_;unfold Builtin.«sorted»;refine wpAny_bind (m:=checkCount "sorted" 1 1 _) (wpAny_pure ?_);refine wpAny_bind (sg (A:=X.A.in1) (s:={s1 with heap:=h',toks:=tk}) (I.ok.hd hc) S2 fun h2 tk2 d acc ks hlt hkp hp SA=>?_)
 have nd:ks.Nodup:=hp.nodup_iff.mpr (dz▸fu xs [] (by simp))
 have mm:∀z,z∈ks↔z∈xs:=fun z=>by rw[hp.mem_iff,dz,gj];simp
 have la:acc.length=ks.length:=SA.length;have lz:acc.length<=sizeLine:=by
  rw[la,hp.length_eq];refine ED dl ?_;rw[sz];have:=fits_of_scanBound (n:=xs.length) (by show xs.length<4096;lia)
  exact this
 refine wpAny_bind (wpAny_newList ?_ lz);have hoL:(h2.push (seqObj "list" acc.toArray 0)).get? h2.objs.size=some (seqObj "list" acc.toArray 0):=Heap.get?_push_size _ rfl;refine wpAny_bind (wpAny_holding (wpAny_call_entry slot_list_sort ⟨_,hoL,rfl⟩ entry_list_sort (list_sort_tree hoL SA (by rw[la,hp.length_eq,dz];exact fw) fun out ys o1 o2 o3=>⟨_,rfl,?_⟩) (args_list_sort _)))
 have I3:aE X pins σ H1 {s1 with heap:=h',drawn:=d,toks:=tk}:=I2.drew (d:=d)
 have sl:h'.objs.size<=h2.objs.size:=Nat.le_of_lt hlt;refine wpAny_pure ⟨_,rfl,.ref h2.objs.size,_,I3.laid (a:=h2.objs.size) (o:= .lst (ys.map V.int)) (h':=sortedHeap (h2.push (seqObj "list" acc.toArray 0)) h2.objs.size acc out) (t':=tk2) (fun b o eo=>?_) sl ?_,rfl,q _ ys (I3.hok.fresh sl) (o2.nodup_iff.mpr nd) (fun z=>(o2.mem_iff).trans (mm z)) o3⟩
 ·have eo':=hkp b o eo;have bl:=Heap.lt_size eo';rw[sortedHeap_old (DI bl) (by rw[size_push'];exact EN bl)]
  exact Heap.get?_push_of_some _ eo'
 ·obtain ⟨e,he⟩:=sortedHeap_at (out:=out) hoL;refine ⟨by rw[D3,o2.length_eq,<-la];exact lz,out.toList,e,iW o1,?_⟩
  rw[Array.toArray_toList];exact he
end
theorem jz {X:Cx} (hc:X.calm=true):c4 X (.builtin "sorted") (fun xs H Q=>∃d ks kvs,xs= [.ref d]/\H d=some (.dK kvs)/\kvs.map (·.1)=ks.map (fun y=>(.inr y:Key))/\ks.Nodup/\ks.length<64/\
  ∀p ys,H p=none->ys.Perm ks->sortedS ys=true->Q (.ref p) (av H p (.lst (ys.map V.str)))):=by
 intro pins s σ H xs us Q I r h;obtain ⟨d,ks,kvs,rfl,hk,ek,nd,l64,q⟩:=h;obtain ⟨u,rfl,ru⟩:=vals1 r;cases ru;obtain ⟨z,hS,ws,rel,D⟩:=j6 I.hok hk;obtain ⟨ep,hat⟩:=D.dictAt;have lw:ws.length=ks.length:=by
  rw[<-rel.length];have:=congrArg List.length ek
  simpa using this
 refine Calls.call_function_entry kind_sorted plain_sorted entry_sorted (args_sorted1 _) ?_;unfold Builtin.«sorted»;refine wpAny_bind (m:=checkCount "sorted" 1 1 _) (wpAny_pure ?_);refine wpAny_bind (pO (A:=X.A.in1) (PySem.W.kdl_dict (knd:=aF X.prog X.w) (kvs:=ws) (ep:=ep) hS) (I.ok.hd hc) hat (by rw[<-rel.length];exact z) fun h' tk acc hlt hkp hacc=>?_)
 have la:acc.toList.length=ks.length:=by rw[DW,hacc.1,lw]
 have SA:StrsAre acc.toList ks:=tD la fun j v hv=>by
  obtain ⟨k,x,e1,e2⟩:=hacc.2 j v (by rw[<-E3];exact hv)
  obtain ⟨⟨k',v'⟩,e3,rfl,_⟩:=i6 rel e1;have e4:(kvs.map (·.1))[j]?=some k':=by rw[D9,e3];rfl
  rw[ek,D9] at e4;cases e5:ks[j]? with
  |none=>rw[e5] at e4;cases e4
  |some y=>
   rw[e5] at e4;cases e4;obtain ⟨t,ht⟩:=pe e2;exact ⟨y,t,rfl,ht⟩
 refine wpAny_bind (wpAny_newList ?_ (by rw[la,<-lw,<-rel.length];exact z))
 have hoL:(h'.push (seqObj "list" acc.toList.toArray 0)).get? h'.objs.size=some (seqObj "list" acc.toList.toArray 0):=Heap.get?_push_size _ rfl;refine wpAny_bind (wpAny_holding (wpAny_call_entry slot_list_sort ⟨_,hoL,rfl⟩ entry_list_sort (list_sort_treeK strKind_oneLt hoL SA.keysOf (fun v₁ v₂ rest e=>keyKind_strs (by rw[<-e];exact SA)) (by rw[la];exact l64) fun st' hp hs=>⟨_,rfl,?_⟩) (args_list_sort _)))
 obtain ⟨ys,h1,h2,h3⟩:=sorted_out_str SA hp hs;have sl:s.heap.objs.size<=h'.objs.size:=Nat.le_of_lt hlt;refine wpAny_pure ⟨_,rfl,.ref h'.objs.size,_,I.laid (a:=h'.objs.size) (o:= .lst (ys.map V.str)) (h':=sortedHeap (h'.push (seqObj "list" acc.toList.toArray 0)) h'.objs.size acc.toList ((arrOf st').map (·.2))) (t':=tk) (fun b o eo=>?_) sl ?_,rfl,q _ ys (I.hok.fresh sl) h2 h3⟩
 ·have eo':=hkp b o eo;have bl:=Heap.lt_size eo';rw[sortedHeap_old (DI bl) (by rw[size_push'];exact EN bl)]
  exact Heap.get?_push_of_some _ eo'
 ·obtain ⟨e,he⟩:=sortedHeap_at (out:=(arrOf st').map (·.2)) hoL;refine ⟨by rw[D3,h2.length_eq,<-lw,<-rel.length];exact z,((arrOf st').map (·.2)).toList,e,iF h1,?_⟩
  rw[Array.toArray_toList];exact he
end L2
namespace Sw
open PySem L2 XH Hm
def qi:HO->Bool
 | .lst _=>true
 | .tup _=>true
 |_=>false
abbrev RA (α:Type):=(Addr->Prop)->Hp->V->α->Prop
def An:Addr->Prop:=fun _=>True
class Mv {α:Type} (R:RA α):Prop where
 mv:∀{P P':Addr->Prop} {H H':Hp} {v:V} {x:α},(∀a o,P a->qi o=true->H a=some o->P' a/\H' a=some o)->R P H v x->R P' H' v x
theorem k7 {α:Type} {R:RA α} [Mv R] {P:Addr->Prop} {H H':Hp} {v:V} {x:α} (h:R P H v x) (g:az H H'):R P H' v x:=Mv.mv (fun a o p _ e=>⟨p,g a o e⟩) h
theorem xf {α:Type} {R:RA α} [Mv R] {P P':Addr->Prop} {H:Hp} {v:V} {x:α} (h:R P H v x) (g:∀a,P a->P' a):R P' H v x:=Mv.mv (fun a o p _ e=>⟨g a p,e⟩) h
theorem C0 {α:Type} {R:RA α} [Mv R] {P:Addr->Prop} {H:Hp} {v:V} {x:α} (h:R P H v x):R An H v x:=xf h fun _ _=>trivial
theorem DF {α:Type} {R:RA α} [Mv R] {P:Addr->Prop} {H H':Hp} {v:V} {x:α} (h:R P H v x) (g:∀a o,qi o=true->H a=some o->H' a=some o):R P H' v x:=Mv.mv (fun a o p s e=>⟨p,g a o s e⟩) h
theorem Af {α:Type} {R:RA α} [Mv R] {P:Addr->Prop} {H:Hp} {v:V} {x:α} (h:R P H v x):R (fun a=>P a/\H a≠none) H v x:=Mv.mv (fun a o p _ e=>⟨⟨p,by rw[e];exact nofun⟩,e⟩) h
theorem yK {α:Type} {R:RA α} [Mv R] {P:Addr->Prop} {H:Hp} {v:V} {x:α} {l:Addr} (h:R P H v x) (n:¬P l) (o:HO):R P (av H l o) v x:=Mv.mv (fun a u p _ e=>⟨p,by
  have:a≠l:=fun z=>n (by rw[<-z];exact p)
  rw[ar this];exact e⟩) h
def A2 {α:Type} (R:V->α->Prop) (vs:List V) (xs:List α):Prop:=vs.length=xs.length/\∀(i:Nat) (v:V) (x:α),vs[i]?=some v->xs[i]?=some x->R v x
theorem A2.imp {α:Type} {R S:V->α->Prop} {vs:List V} {xs:List α} (h:A2 R vs xs) (f:∀v x,R v x->S v x):A2 S vs xs:=⟨h.1,fun i v x e1 e2=>f v x (h.2 i v x e1 e2)⟩
theorem A2.get {α:Type} {R:V->α->Prop} {vs:List V} {xs:List α} (h:A2 R vs xs) {i:Nat} {x:α} (e:xs[i]?=some x):∃v,vs[i]?=some v/\R v x:=by
 have il:i<vs.length:=by rw[h.1];exact (D4.mp e).1
 exact ⟨_,D0 il,h.2 i _ x (D0 il) e⟩
theorem A2.at_ {α:Type} {R:V->α->Prop} {vs:List V} {xs:List α} (h:A2 R vs xs) {i:Nat} {v:V} (e:vs[i]?=some v):∃x,xs[i]?=some x/\R v x:=by
 have il:i<xs.length:=by rw[<-h.1];exact (D4.mp e).1
 exact ⟨_,D0 il,h.2 i v _ e (D0 il)⟩
theorem A2.nil {α:Type} {R:V->α->Prop}:A2 R [] ([]:List α):=⟨rfl,fun i a x e=>by simp at e⟩
theorem A2.append {α:Type} {R:V->α->Prop} {as bs:List V} {xs ys:List α} (h:A2 R as xs) (k:A2 R bs ys):A2 R (as++bs) (xs++ys):=by
 refine ⟨by simp[h.1,k.1],fun i a x e1 e2=>?_⟩
 by_cases c:i<as.length
 ·rw[DQ c] at e1;rw[DQ (by rw[<-h.1];exact c)] at e2
  exact h.2 i a x e1 e2
 ·rw[DH (by lia)] at e1
  rw[DH (by rw[<-h.1];lia),<-h.1] at e2
  exact k.2 _ a x e1 e2
theorem A2.one {α:Type} {R:V->α->Prop} {v:V} {x:α} (h:R v x):A2 R [v] [x]:=⟨rfl,fun i a y e1 e2=>by
 cases i with
 |zero=>simp at e1 e2;subst e1 e2;exact h
 |succ n=>simp at e1⟩
theorem A2.snoc {α:Type} {R:V->α->Prop} {vs:List V} {xs:List α} (h:A2 R vs xs) {v:V} {x:α} (r:R v x):A2 R (vs++ [v]) (xs++ [x]):=h.append (.one r)
def bJ {α:Type} (R:RA α) (P:Addr->Prop) (H:Hp) (l:Addr) (xs:List α):Prop:=∃vs,H l=some (.lst vs)/\A2 (R P H) vs xs
def qj {α:Type} (R:RA α):RA (List α):=fun P H v xs=>∃l,v= .ref l/\P l/\bJ R P H l xs
instance {α:Type} {R:RA α} [Mv R]:Mv (qj R) where
 mv:=fun {P P' H H' v x} g h=>by
  obtain ⟨l,rfl,p,vs,e,r⟩:=h;obtain ⟨p',e'⟩:=g l _ p rfl e;exact ⟨l,rfl,p',vs,e',r.imp fun v x q=>Mv.mv g q⟩
def vg {α:Type} (f:α->List V):RA α:=fun P H v x=>∃t,v= .ref t/\P t/\H t=some (.tup (f x))
instance {α:Type} {f:α->List V}:Mv (vg f) where
 mv:=fun {P P' H H' v x} g h=>by
  obtain ⟨t,rfl,p,e⟩:=h;obtain ⟨p',e'⟩:=g t _ p rfl e;exact ⟨t,rfl,p',e'⟩
def og {α:Type} (f:α->V):RA α:=fun _ _ v x=>v=f x
instance {α:Type} {f:α->V}:Mv (og f) where
 mv:=fun _ h=>h
theorem A2.val {α:Type} {f:α->V} {P:Addr->Prop} {H:Hp} {vs:List V} {xs:List α} (h:A2 (og f P H) vs xs):vs=xs.map f:=by
 apply List.ext_getElem (by rw[D3];exact h.1)
 intro i h1 h2;rw[List.getElem_map];exact h.2 i _ _ (D0 h1) (D0 (by rw[D3] at h2;exact h2))
theorem A2.ofVal {α:Type} (f:α->V) (P:Addr->Prop) (H:Hp) (xs:List α):A2 (og f P H) (xs.map f) xs:=⟨D3 _,fun i v x e1 e2=>by
 rw[D9,e2] at e1;cases e1
 rfl⟩
theorem bJ.same {α:Type} {R:RA α} [Mv R] {P:Addr->Prop} {H H':Hp} {l:Addr} {xs:List α} (h:bJ R P H l xs) (g:az H H'):bJ R P H' l xs:=let ⟨vs,e,r⟩:=h;⟨vs,g _ _ e,r.imp fun _ _ q=>k7 q g⟩
theorem bJ.any {α:Type} {R:RA α} [Mv R] {P:Addr->Prop} {H:Hp} {l:Addr} {xs:List α} (h:bJ R P H l xs):bJ R An H l xs:=let ⟨vs,e,r⟩:=h;⟨vs,e,r.imp fun _ _ q=>C0 q⟩
theorem bJ.mono {α:Type} {R:RA α} [Mv R] {P P':Addr->Prop} {H:Hp} {l:Addr} {xs:List α} (h:bJ R P H l xs) (g:∀a,P a->P' a):bJ R P' H l xs:=let ⟨vs,e,r⟩:=h;⟨vs,e,r.imp fun _ _ q=>xf q g⟩
theorem bJ.sq {α:Type} {R:RA α} [Mv R] {P:Addr->Prop} {H H':Hp} {l:Addr} {xs:List α} (h:bJ R P H l xs) (g:∀a o,qi o=true->H a=some o->H' a=some o):bJ R P H' l xs:=let ⟨vs,e,r⟩:=h;⟨vs,g _ _ rfl e,r.imp fun _ _ q=>DF q g⟩
theorem bJ.v {α:Type} {R:RA α} {P:Addr->Prop} {H:Hp} {l:Addr} {xs:List α} (h:bJ R P H l xs) (p:P l):qj R P H (.ref l) xs:=⟨l,rfl,p,h⟩
theorem bJ.upd {α:Type} {R:RA α} [Mv R] {P:Addr->Prop} {H:Hp} {l x:Addr} {xs:List α} (h:bJ R P H l xs) (n:¬P x) (lx:l≠x) (o:HO):bJ R P (L2.av H x o) l xs:=by
 obtain ⟨vs,e,r⟩:=h;exact ⟨vs,by rw[ar lx];exact e,r.imp fun _ _ q=>yK q n o⟩
theorem bJ.put {α:Type} {R:RA α} [Mv R] {P:Addr->Prop} {H:Hp} {l:Addr} {vs:List V} {xs:List α} {v:V} {x:α} (n:¬P l) (r:A2 (R P H) vs xs) (h:R P H v x):bJ R P (L2.av H l (.lst (vs++ [v]))) l (xs++ [x]):=
 ⟨_,ag,(r.snoc h).imp fun _ _ q=>yK q n _⟩
theorem bJ.ext {α:Type} {R:RA α} [Mv R] {P:Addr->Prop} {H:Hp} {l:Addr} {vs us:List V} {xs ys:List α} (n:¬P l) (r:A2 (R P H) vs xs) (h:A2 (R P H) us ys):bJ R P (L2.av H l (.lst (vs++us))) l (xs++ys):=
 ⟨_,ag,(r.append h).imp fun _ _ q=>yK q n _⟩
theorem bJ.new {α:Type} {R:RA α} {P:Addr->Prop} {H:Hp} {l:Addr}:bJ R P (L2.av H l (.lst [])) l ([]:List α):=⟨[],ag,A2.nil⟩
end Sw
namespace L2
open PySem PySem.Spec PyProof.Rows XH Sw Hm
def cu {β:Type} (n:Nat) (pr:Nat->Bool) (f:Nat->β):List β:=((DT n).filter pr).map f
theorem hJ {β:Type} (n:Nat) (pr:Nat->Bool) (f:Nat->β):cu (n+1) pr f=cu n pr f++(if pr n=true then [f n] else []):=by
 unfold cu;rw[FU,List.filter_append,EA]
 congr 1
 cases h:pr n<;>simp[List.filter_cons,h]
theorem cB {β:Type} (n:Nat) (pr:Nat->Bool) (f:Nat->β):(cu n pr f).length<=n:=by
 unfold cu;rw[D3];have:=List.length_filter_le pr (DT n)
 rwa [E1] at this
theorem hU {β:Type} {n:Nat} {pr:Nat->Bool} {f:Nat->β} (h:∀i,i<n->pr i=false):cu n pr f= []:=by
 unfold cu;rw[List.map_eq_nil_iff,List.filter_eq_nil_iff];intro i hi;rw[h i (Ep.mp hi)]
 decide
theorem qk {J:It} {β:Type} {n:Nat} {js:List Nat} {tc:TT} {te:TE} {σ:L2.St} {H1:Hp} {Q:VK} (R:RA β) [Mv R] (Z:Addr->Prop) (pr:Nat->Bool) (f:Nat->β) (hz:n<=sizeLine) (hZ:∀a,Z a->H1 a≠none)
  (hgo:∀i H2,az H1 H2->i<n->J.go i H2) (hst:∀H2,az H1 H2->J.stop n H2)
  (step:∀i,i<n->∀H2 x H3,az H1 H2->J.yld i H2 x H3->H3=H2/\(∀S:Bool->Hp->Prop,(∀H4,az H2 H4->S (pr i) H4)->tc (some x::aM js σ) H2 S)/\(pr i=true->∀H4,az H2 H4->∀Q':VK,(∀y H5,az H4 H5->R (fun a=>H4 a=none∨Z a) H5 y (f i)->Q' y H5)->te (some x::aM js σ) H4 Q'))
  (fin:∀p H',H1 p=none->az H1 H'->bJ R (fun a=>a≠p/\(H1 a=none∨Z a)) H' p (cu n pr f)->Q (.ref p) H'):nS js tc te σ Q J H1:=by
 intro p hp;refine ⟨fun i m ys H2=>i<=n/\m=n-i/\az H1 H2/\H2 p=some (.lst ys)/\A2 (R (fun a=>a≠p/\(H1 a=none∨Z a)) H2) ys (cu i pr f),⟨n,EC _,rfl,Sw.ai hp _,ag,A2.nil⟩,?_⟩
 rintro i m ys H2 ⟨hi,rfl,g,e,r⟩;refine ⟨e,?_⟩
 by_cases hin:i<n
 ·refine .inr ⟨hgo i H2 g hin,?_,fun x H3 hy=>?_⟩
  ·have:=cB i pr f;have:=r.1
   lia
  obtain ⟨rfl,h1,h2⟩:=step i hin H2 x H3 g hy;refine h1 _ fun H4 g4=>?_
  have tk:=hJ i pr f;cases hpr:pr i with
  |true=>
   rw[hpr,if_pos rfl] at tk;rw[if_pos rfl];refine h2 hpr H4 g4 _ fun y H5 g5 ry=>⟨g5 _ _ (g4 _ _ e),n-(i+1),by lia,hin,rfl,Sw.dZ ((g.trans g4).trans g5) hp _,ag,?_⟩
   rw[tk];have np:¬(p≠p/\(H1 p=none∨Z p)):=fun z=>z.1 rfl
   refine ((r.imp fun v b q=>k7 q (g4.trans g5)).snoc (xf ry fun a ha=>?_)).imp fun v b q=>yK q np _
   rcases ha with h|h
   ·exact ⟨(fun z=>by rw[z,g4 _ _ e] at h;cases h),.inl ((g.trans g4).free h)⟩
   ·exact ⟨fun z=>hZ a h (z▸hp),.inr h⟩
  |false=>
   rw[hpr,if_neg (by decide),FK] at tk
   rw[if_neg (by decide)]
   exact ⟨n-(i+1),by lia,hin,rfl,g.trans g4,g4 _ _ e,by rw[tk];exact r.imp fun v b q=>k7 q g4⟩
 ·have e2:i=n:=by lia
  subst e2;exact .inl ⟨hst H2 g,fin p H2 hp g ⟨ys,e,r⟩⟩
theorem xg {J:It} {β:Type} {n:Nat} {js:List Nat} {te:TE} {σ:L2.St} {H1:Hp} {Q:VK} (R:RA β) [Mv R] (Z:Addr->Prop) (f:Nat->β) (hz:n<=sizeLine) (hZ:∀a,Z a->H1 a≠none)
  (hgo:∀i H2,az H1 H2->i<n->J.go i H2) (hst:∀H2,az H1 H2->J.stop n H2)
  (step:∀i,i<n->∀H2 x H3,az H1 H2->J.yld i H2 x H3->H3=H2/\∀Q':VK,(∀y H5,az H2 H5->R (fun a=>H2 a=none∨Z a) H5 y (f i)->Q' y H5)->te (some x::aM js σ) H2 Q')
  (fin:∀p H',H1 p=none->az H1 H'->bJ R (fun a=>a≠p/\(H1 a=none∨Z a)) H' p ((DT n).map f)->Q (.ref p) H'):sZ js te σ Q J H1:=by
 intro p hp;refine ⟨fun i m ys H2=>i<=n/\m=n-i/\az H1 H2/\H2 p=some (.lst ys)/\A2 (R (fun a=>a≠p/\(H1 a=none∨Z a)) H2) ys ((DT i).map f),⟨n,EC _,rfl,Sw.ai hp _,ag,A2.nil⟩,?_⟩
 rintro i m ys H2 ⟨hi,rfl,g,e,r⟩;refine ⟨e,?_⟩
 by_cases hin:i<n
 ·refine .inr ⟨hgo i H2 g hin,?_,fun x H3 hy=>?_⟩
  ·have:=r.1;rw[D3,E1] at this
   lia
  obtain ⟨rfl,h2⟩:=step i hin H2 x H3 g hy;refine h2 _ fun y H5 g5 ry=>⟨g5 _ _ e,n-(i+1),by lia,hin,rfl,Sw.dZ (g.trans g5) hp _,ag,?_⟩
  rw[FU,EA];have np:¬(p≠p/\(H1 p=none∨Z p)):=fun z=>z.1 rfl
  refine ((r.imp fun v b q=>k7 q g5).snoc (xf ry fun a ha=>?_)).imp fun v b q=>yK q np _
  rcases ha with h|h
  ·exact ⟨(fun z=>by rw[z,e] at h;cases h),.inl (g.free h)⟩
  ·exact ⟨fun z=>hZ a h (z▸hp),.inr h⟩
 ·have e2:i=n:=by lia
  subst e2;exact .inl ⟨hst H2 g,fin p H2 hp g ⟨ys,e,r⟩⟩
section
variable {K:D5} {β:Type} {a:Addr} {xs:List V} {n:Nat} {js:List Nat} {tc:TT} {te:TE} {σ:L2.St} {H1:Hp} {Q:VK}
theorem mw (R:RA β) [Mv R] (Z:Addr->Prop) (pr:Nat->Bool) (f:Nat->β) (hS:aK K H1 a xs) (hz:xs.length<=sizeLine) (hZ:∀a,Z a->H1 a≠none)
  (s1:∀i x,xs[i]?=some x->∀H2,az H1 H2->∀S:Bool->Hp->Prop,(∀H4,az H2 H4->S (pr i) H4)->tc (some x::aM js σ) H2 S)
  (s2:∀i x,xs[i]?=some x->pr i=true->∀H2,az H1 H2->∀Q':VK,(∀y H5,az H2 H5->R (fun a=>H2 a=none∨Z a) H5 y (f i)->Q' y H5)->te (some x::aM js σ) H2 Q')
  (fin:∀p H',H1 p=none->az H1 H'->bJ R (fun a=>a≠p/\(H1 a=none∨Z a)) H' p (cu xs.length pr f)->Q (.ref p) H'):nS js tc te σ Q (zA K a) H1:=by
 refine qk R Z pr f hz hZ (fun i H2 g hi=>⟨xs,xs[i],g.seq hS,D0 hi⟩) (fun H2 g=>⟨xs,g.seq hS,D8 _⟩) (fun i hi H2 x H3 g hy=>?_) fin
 obtain ⟨rfl,hx⟩:=hy;have ex:=hx xs (g.seq hS);exact ⟨rfl,s1 i x ex _ g,fun h H4 g4=>s2 i x ex h _ (g.trans g4)⟩
theorem jc (R:RA β) [Mv R] (Z:Addr->Prop) (pr:Nat->Bool) (f:Nat->β) (hz:n<=sizeLine) (hZ:∀a,Z a->H1 a≠none)
  (s1:∀i:Nat,i<n->∀H2,az H1 H2->∀S:Bool->Hp->Prop,(∀H4,az H2 H4->S (pr i) H4)->tc (some (.int (0+(i:Int)))::aM js σ) H2 S)
  (s2:∀i:Nat,i<n->pr i=true->∀H2,az H1 H2->∀Q':VK,(∀y H5,az H2 H5->R (fun a=>H2 a=none∨Z a) H5 y (f i)->Q' y H5)->te (some (.int (0+(i:Int)))::aM js σ) H2 Q')
  (fin:∀p H',H1 p=none->az H1 H'->bJ R (fun a=>a≠p/\(H1 a=none∨Z a)) H' p (cu n pr f)->Q (.ref p) H'):nS js tc te σ Q (y6 0 n) H1:=by
 refine qk R Z pr f hz hZ (fun i H2 g hi=>hi) (fun H2 g=>D8 n) (fun i hi H2 x H3 g hy=>?_) fin
 obtain ⟨rfl,rfl⟩:=hy;exact ⟨rfl,s1 i hi _ g,fun h H4 g4=>s2 i hi h _ (g.trans g4)⟩
theorem eI (R:RA β) [Mv R] (Z:Addr->Prop) (f:Nat->β) (hS:aK K H1 a xs) (hz:xs.length<=sizeLine) (hZ:∀a,Z a->H1 a≠none)
  (s2:∀i x,xs[i]?=some x->∀H2,az H1 H2->∀Q':VK,(∀y H5,az H2 H5->R (fun a=>H2 a=none∨Z a) H5 y (f i)->Q' y H5)->te (some x::aM js σ) H2 Q')
  (fin:∀p H',H1 p=none->az H1 H'->bJ R (fun a=>a≠p/\(H1 a=none∨Z a)) H' p ((DT xs.length).map f)->Q (.ref p) H'):sZ js te σ Q (zA K a) H1:=by
 refine xg R Z f hz hZ (fun i H2 g hi=>⟨xs,xs[i],g.seq hS,D0 hi⟩) (fun H2 g=>⟨xs,g.seq hS,D8 _⟩) (fun i hi H2 x H3 g hy=>?_) fin
 obtain ⟨rfl,hx⟩:=hy;exact ⟨rfl,s2 i x (hx xs (g.seq hS)) _ g⟩
theorem ql {hd:GZ} (R:RA β) [Mv R] (Z:Addr->Prop) (f:Nat->β) (hok:oV hd H1) (hz:n<=sizeLine) (hZ:∀a,Z a->H1 a≠none)
  (s2:∀i:Nat,i<n->∀H2,az H1 H2->∀Q':VK,(∀y H5,az H2 H5->R (fun a=>H2 a=none∨Z a) H5 y (f i)->Q' y H5)->te (some (.int (0+(i:Int)))::aM js σ) H2 Q')
  (fin:∀p H',H1 p=none->az H1 H'->bJ R (fun a=>a≠p/\(H1 a=none∨Z a)) H' p ((DT n).map f)->Q (.ref p) H'):sZ js te σ Q (yn hd 0 n) H1:=by
 refine xg R Z f hz hZ (fun i H2 g hi=>hi) (fun H2 g=>⟨D8 n,zV hok g⟩) (fun i hi H2 x H3 g hy=>?_) fin
 obtain ⟨rfl,rfl⟩:=hy;exact ⟨rfl,s2 i hi _ g⟩
end
end L2
namespace Sw
open PySem L2 XH Hm
def xh (xs:List V):Prop:=∀x∈xs,CP x
theorem xj {K:D5} {H:Hp} {xs:List V} (h:xh xs):lC (vH K H 0) xs xs:=jT rfl fun i x y h1 h2=>by
 rw[h1] at h2;cases h2;exact ⟨rfl,h x (D6 h1)⟩
theorem Ag {α:Type} {R:RA α} {K:D5} {P P':Addr->Prop} {H:Hp} {n:Nat} {vs ws:List V} {xs:List α} (f:∀v w x,x∈xs->R P H v x->R P' H w x->vH K H n v w) (h:A2 (R P H) vs xs) (k:A2 (R P' H) ws xs):lC (vH K H n) vs ws:=
 jT (h.1.trans k.1.symm) fun i v w e1 e2=>by
  obtain ⟨x,hx,q⟩:=h.at_ e1;exact f v w x (D6 hx) q (k.2 i w x e2 hx)
theorem tJ {α:Type} {R:RA α} {K:D5} {P P':Addr->Prop} {H:Hp} {n:Nat} {v w:V} {xs:List α} (f:∀v w x,x∈xs->R P H v x->R P' H w x->vH K H n v w) (h:qj R P H v xs) (k:qj R P' H w xs):vH K H (n+1) v w:=by
 obtain ⟨l,rfl,_,vs,e,r⟩:=h;obtain ⟨l',rfl,_,ws,e',r'⟩:=k;exact .inr ⟨l,l',_,_,rfl,rfl,.inr ⟨aK.of e,aK.of e'⟩,Ag f r r'⟩
open PySem.NumText
def Ah:Str:= "abcdefghijklmnopqrstuvwxyz"
def Nm (z:Str):Prop:=1<=(sL z).length/\(sL z).length<=12/\∀c∈sL z,97<=c/\c<=122
theorem tK (c:Nat):(!(Builtin.Str.occurrences Ah (Dp [c]) 0 Ah.length 1).isEmpty)=decide (97<=c/\c<=122):=by
 rw[z8];have e:sL Ah=(DT 26).map (97+ ·):=by decide
 rw[e];apply decide_eq_decide.mpr;constructor
 ·intro h;obtain ⟨i,hi,rfl⟩:=ES.mp h;have:=Ep.mp hi
  lia
 ·intro h;exact ES.mpr ⟨c-97,Ep.mpr (by lia),by lia⟩
def qm (K:D5):Sp:=fun vs H Q _=>∃x:V,vs= [x]/\((∃z:Str,x= .str z/\z.length<=1000000/\(Nm z->Q (.bl true) H)/\(¬Nm z->Q (.bl false) H))∨∃ty,io K H x ty/\Ef K ty (.type "str")=some false/\Q (.bl false) H)
abbrev Us:=Str×Int×Int
abbrev Wy:=Int×Int×List Us
abbrev Tk:=List (List Wy)
abbrev Tl:=List (Str×Int)
def Ai (u:Us):List V:= [.str u.1,.int u.2.1,.int u.2.2]
abbrev gk:RA Us:=vg Ai
abbrev xP:RA (List V):=vg id
def eW:RA Wy:=fun P H v w=>∃t u:Addr,v= .ref t/\P t/\P u/\H t=some (.tup [.int w.1,.int w.2.1,.ref u])/\bJ gk P H u w.2.2
instance:Mv eW where
 mv:=fun {P P' H H' v x} g h=>by
  obtain ⟨t,u,rfl,p,p2,e,vs,e2,r⟩:=h;obtain ⟨q,e'⟩:=g t _ p rfl e;obtain ⟨q2,e2'⟩:=g u _ p2 rfl e2;exact ⟨t,u,rfl,q,q2,e',vs,e2',r.imp fun _ _ k=>Mv.mv g k⟩
abbrev jA:RA (List Wy):=qj eW
def aC (D:Tl):List (Key×V):=D.map fun p=>(.inr p.1,.int p.2)
def bV (D:Tl) (z:Str):Option Int:=(D.find? fun p=>decide (p.1=z)).map (·.2)
theorem fv (D:Tl):(aC D).length=D.length:=D3 _
theorem gm {D:Tl} {i:Nat} {k:Key} {x:V} (h:(aC D)[i]?=some (k,x)):∃p,D[i]?=some p/\k= .inr p.1/\x= .int p.2:=by
 unfold aC at h;rw[D9] at h;obtain ⟨p,e,q⟩:=DV.mp h;cases q;exact ⟨p,e,rfl,rfl⟩
theorem ff (p:Str×Int) (D:Tl) (z:Str):bV (p::D) z=if p.1=z then some p.2 else bV D z:=by
 unfold bV;rw[El]
 by_cases h:p.1=z
 ·rw[decide_eq_true h,if_pos h];rfl
 ·rw[decide_eq_false h,if_neg h]
theorem mz (z:Str):∀D:Tl,dI (aC D) (.inr z)=(bV D z).map V.int
 | []=>rfl
 |p::D=>by
  rw[ff];show dI (((.inr p.1:Key),V.int p.2)::aC D) _=_
  by_cases h:p.1=z
  ·rw[if_pos h,cj (by show (Sum.inr p.1:Key)=_;rw[h])];rfl
  ·rw[if_neg h,cr (by intro e;exact h (by injection e)),mz z D]
theorem dv {z:Str} {n:Int}:∀{D:Tl},bV D z=some n->(z,n)∈D
 | [],h=>by cases h
 |p::D,h=>by
  rw[ff] at h
  by_cases e:p.1=z
  ·rw[if_pos e] at h;cases h;subst e;exact E7
  ·rw[if_neg e] at h;exact E2 _ (dv h)
theorem fA {z:Str} {n:Int}:∀{D:Tl},(D.map (·.1)).Nodup->(z,n)∈D->bV D z=some n
 | [],_,h=>by cases h
 |p::D,nd,h=>by
  rw[EW,FJ] at nd;rw[ff];rcases DM.mp h with e|e
  ·subst e;rw[if_pos rfl]
  ·have hn:¬p.1=z:=fun q=>nd.1 (by rw[q];exact FC (f:=Prod.fst) e)
   rw[if_neg hn,fA nd.2 e]
theorem hV {z:Str}:∀{D:Tl},z∈D.map (·.1)->∃n,bV D z=some n
 | [],h=>by cases h
 |p::D,h=>by
  rw[ff]
  by_cases e:p.1=z
  ·exact ⟨_,if_pos e⟩
  ·rw[if_neg e];rw[EW] at h;rcases DM.mp h with q|q
   ·exact absurd q.symm e
   ·exact hV q
theorem vh {D:Tl} {z:Str} {n:Int}:∃E:Tl,putK (aC D) (.inr z) (.int n)=aC E/\((D.map (·.1)).Nodup->(E.map (·.1)).Nodup)/\E.length<=D.length+1/\1<=E.length/\∀p∈E,p∈D∨p=(z,n):=by
 unfold putK
 by_cases h:((aC D).any fun kv=>decide (kv.1=(.inr z:Key)))=true
 ·rw[if_pos h];refine ⟨D.map fun p=>if p.1=z then (p.1,n) else p,?_,fun nd=>?_,?_,?_,fun p hp=>?_⟩
  ·unfold aC;rw[En,En];apply F3;intro p _;simp only[Function.comp_apply]
   by_cases e:p.1=z
   ·rw[if_pos (by rw[e]),if_pos e]
   ·rw[if_neg (by intro q;exact e (by injection q)),if_neg e]
  ·rw[En];have:((fun x:Str×Int=>x.1) ∘ fun p:Str×Int=>if p.1=z then (p.1,n) else p)=fun x=>x.1:=by
    funext p
    simp only[Function.comp_apply]
    split<;>rfl
   rw[this];exact nd
  ·rw[D3];lia
  ·rw[D3];cases D with
   |nil=>simp[aC] at h
   |cons a b=>simp
  ·obtain ⟨q,hq,rfl⟩:=ES.mp hp
   by_cases e:q.1=z
   ·rw[if_pos e,e];exact .inr rfl
   ·rw[if_neg e];exact .inl hq
 ·rw[if_neg h];refine ⟨D++ [(z,n)],?_,fun nd=>?_,?_,?_,fun p hp=>?_⟩
  ·unfold aC;rw[EA];rfl
  ·rw[EA,EW,List.map_nil,FN];refine ⟨nd,by simp,fun a ha b hb e=>h ?_⟩
   simp at hb;subst hb;rw[List.any_eq_true];obtain ⟨q,hq,hz⟩:=ES.mp ha;exact ⟨(.inr q.1,.int q.2),FC (f:=fun p:Str×Int=>((.inr p.1:Key),V.int p.2)) hq,by rw[decide_eq_true_eq];show (Sum.inr q.1:Key)=_;rw[hz,e]⟩
  ·rw[D7];simp
  ·rw[D7];simp
  ·rcases DO.mp hp with q|q
   ·exact .inl q
   ·exact .inr (DR.mp q)
def vk (D:Tl) (us:List Us):Prop:=(us.map (·.1)).Nodup/\us.length<=100/\∀e∈us,∃m,bV D e.1=some m/\1<=e.2.1/\e.2.1<=m/\0<=e.2.2/\e.2.2<=1000000000
def BD (D:Tl) (ws:List Wy):Prop:=1<=ws.length/\ws.length<=2/\∀w∈ws,1<=w.1/\w.1<=w.2.1/\w.2.1<=1000000000/\vk D w.2.2
structure oh (D:Tl) (T:Tk) (A B:List Ky) (n:Int):Prop where
 d12:D.length<=12
 dnd:(D.map (·.1)).Nodup
 tool:∀p∈D,Nm p.1/\1<=p.2/\p.2<=8
 t24:T.length<=24
 ways:∀ws∈T,BD D ws
 n0:0<=n
 n8:n<=8
 a600:A.length<=600
 arcs:∀k∈A,∃p q g:Int,k= [p,q,g]/\0<=p/\p<2*(T.length:Int)+n/\0<=q/\q<2*(T.length:Int)+n/\ -1000000000<=g/\g<=1000000000
 b300:B.length<=300
 pairs:∀k∈B,∃p q:Int,k= [p,q]/\0<=p/\p<(T.length:Int)/\0<=q/\q<(T.length:Int)/\p≠q
def TD (f:Bool) (H:Hp) (a:Addr) (u:HO):Prop:=H a=some u∨(f=true/\∃o,H a=some (.frz o u))
theorem TD.same {f:Bool} {H H':Hp} {a:Addr} {u:HO} (h:TD f H a u) (g:az H H'):TD f H' a u:=h.elim (fun e=> .inl (g _ _ e)) fun ⟨e,o,k⟩=> .inr ⟨e,o,g _ _ k⟩
theorem TD.rd {f:Bool} {H:Hp} {a:Addr} {u:HO} (h:TD f H a u):Rd H a u:=h.elim .inl fun ⟨_,o,k⟩=> .inr ⟨o,k⟩
theorem TD.no {H:Hp} {a:Addr} {u:HO} (h:TD false H a u):H a=some u:=h.elim id fun ⟨e,_⟩=>by cases e
structure jd (C:Addr) (f:Bool) (H:Hp) (x:Addr) (D:Tl) (T:Tk) (A B:List Ky) (n:Int):Prop where
 ex:∃(dx td tl al pl:Addr) (fs:List (Str×V)),H x=some (.ins C dx fs)/\fs.lookup ("tools" :Str)=some (.ref td)/\fs.lookup ("tasks" :Str)=some (.ref tl)/\fs.lookup ("arcs" :Str)=some (.ref al)/\fs.lookup ("apart" :Str)=some (.ref pl)/\fs.lookup ("moments" :Str)=some (.int n)/\
  TD f H td (.dK (aC D))/\bJ jA An H tl T/\cy H al A/\cy H pl B
theorem jd.same {C:Addr} {f:Bool} {H H':Hp} {x:Addr} {D:Tl} {T:Tk} {A B:List Ky} {n:Int} (h:jd C f H x D T A B n) (g:az H H'):jd C f H' x D T A B n:=by
 obtain ⟨dx,td,tl,al,pl,fs,a,b1,b2,b3,b4,b5,c,d,e,k⟩:=h.ex;exact ⟨dx,td,tl,al,pl,fs,g _ _ a,b1,b2,b3,b4,b5,c.same g,d.same g,e.same g,k.same g⟩
theorem jd.any {C:Addr} {f:Bool} {H:Hp} {x:Addr} {D:Tl} {T:Tk} {A B:List Ky} {n:Int} (h:jd C f H x D T A B n):jd C true H x D T A B n:=by
 obtain ⟨dx,td,tl,al,pl,fs,a,b1,b2,b3,b4,b5,c,d,e,k⟩:=h.ex;exact ⟨dx,td,tl,al,pl,fs,a,b1,b2,b3,b4,b5,c.elim .inl (fun ⟨_,o,q⟩=> .inr ⟨rfl,o,q⟩),d,e,k⟩
theorem cy.sq {H H':Hp} {l:Addr} {ks:List Ky} (h:cy H l ks) (g:∀a o,qi o=true->H a=some o->H' a=some o):cy H' l ks:=by
 obtain ⟨as,e,r⟩:=h;exact ⟨as,g _ _ rfl e,r.imp fun a k q=>g _ _ rfl q⟩
theorem fP {H:Hp} {d:Addr} {kvs:List (Key×V)} {o:Obj} (e:H d=some (.dK kvs)):∀a u,qi u=true->H a=some u->av H d (.frz o (.dK kvs)) a=some u:=fun a u s h=>by
 rw[ar (fun z=>by rw[z,e] at h;cases h;cases s)]
 exact h
theorem eK {H H':Hp} {d:Addr} {kvs:List (Key×V)} {o:Obj} (e:H d=some (.dK kvs)) (g:az (av H d (.frz o (.dK kvs))) H'):az H (av H' d (.dK kvs)):=fun a u h=>by
 by_cases z:a=d
 ·subst z;rw[e] at h;cases h;exact ag
 ·rw[ar z];exact g a u (by rw[ar z];exact h)
theorem jd.walk {C:Addr} {H:Hp} {x:Addr} {D:Tl} {T:Tk} {A B:List Ky} {n:Int} {d:Addr} {kvs:List (Key×V)} {o:Obj} (h:jd C true H x D T A B n) (e:H d=some (.dK kvs)):jd C true (av H d (.frz o (.dK kvs))) x D T A B n:=by
 obtain ⟨dx,td,tl,al,pl,fs,a,b1,b2,b3,b4,b5,c,dd,ee,k⟩:=h.ex;refine ⟨dx,td,tl,al,pl,fs,by rw[ar (jp a e (by intro z;cases z))];exact a,b1,b2,b3,b4,b5,?_,dd.sq (fP e),ee.sq (fP e),k.sq (fP e)⟩
 by_cases z:td=d
 ·subst z;rcases c with c|⟨_,o',c⟩
  ·rw[e] at c;cases c;exact .inr ⟨rfl,o,ag⟩
  ·rw[e] at c;cases c
 ·unfold TD;rw[ar z];exact c
def tL:Sp:=fun vs H Q _=>∃(l:Addr) (ws:List Wy) (P0:Addr->Prop),vs= [.ref l]/\bJ eW P0 H l ws/\ws.length<=2/\∀(p:Addr) (H':Hp),az H H'->H p=none->jA (fun a=>H a=none∨P0 a) H' (.ref p) ws->Q (.ref p) H'
def mB:Sp:=fun vs H Q _=>∃(td:Addr) (D:Tl),vs= [.ref td]/\H td=some (.dK (aC D))/\D.length<=12/\(∀p∈D,Nm p.1/\1<=p.2/\p.2<=8)/\∀H',az H H'->Q .non H'
def qo:Sp:=fun vs H Q _=>∃(u td:Addr) (D:Tl) (us:List Us),vs= [.ref u,.ref td]/\bJ gk An H u us/\H td=some (.dK (aC D))/\vk D us/\∀H',az H H'->Q .non H'
def mC:Sp:=fun vs H Q _=>∃(tl td:Addr) (D:Tl) (T:Tk),vs= [.ref tl,.ref td]/\bJ jA An H tl T/\H td=some (.dK (aC D))/\T.length<=24/\(∀ws∈T,BD D ws)/\∀H',az H H'->Q .non H'
def mD:Sp:=fun vs H Q _=>∃(pl:Addr) (m:Int) (B:List Ky),vs= [.ref pl,.int m]/\cy H pl B/\B.length<=300/\(∀k∈B,∃p q:Int,k= [p,q]/\0<=p/\p<m/\0<=q/\q<m/\p≠q)/\Q .non H
def mE (C:Addr):Sp:=fun vs H Q _=>∃(x:Addr) (n:Int) (f:Bool) (D:Tl) (T:Tk) (A B:List Ky),vs= [.ref x]/\jd C f H x D T A B n/\Q (.int (2*(T.length:Int)+n)) H
def DG (H:Hp) (v:V) (B:List Ky):Prop:=(v= .non/\B= [])∨∃pl,v= .ref pl/\cy H pl B
def sh (C:Addr):Sp:=fun vs H Q _=>∃(x dx td tl al:Addr) (v:V) (n:Int) (D:Tl) (T:Tk) (A B:List Ky),vs= [.ref x,.ref td,.ref tl,.ref al,v,.int n]/\H x=some (.ins C dx [])/\H td=some (.dK (aC D))/\bJ jA An H tl T/\cy H al A/\DG H v B/\oh D T A B n/\
 ∀H',(∀a o,a≠x->H a=some o->H' a=some o)->jd C false H' x D T A B n->Q .non H'
theorem bJ.fx {α:Type} {R:RA α} [Mv R] {x:Addr} {H H':Hp} {l:Addr} {T:List α} {C dx:Addr} {fs:List (Str×V)} (h:bJ R An H l T) (ex:H x=some (.ins C dx fs)) (g:Fx x H H'):bJ R An H' l T:=
 h.sq fun a o s e=>g a o (fun z=>by rw[z,ex] at e;cases e;cases s) e
structure oj (T:Tk) (R:List Rn):Prop where
 len:R.length=T.length
 way:∀(i:Nat) (r:Rn) (ws:List Wy),R[i]?=some r->T[i]?=some ws->0<=r.2.2/\r.2.2<(ws.length:Int)
structure eP (C:Addr) (f:Bool) (H:Hp) (x t:Addr) (D:Tl) (T:Tk) (A B:List Ky) (R:List Rn) (M:List Int):Prop where
 net:jd C f H x D T A B M.length
 plan:fU H t R M
 ok:oh D T A B M.length
 pok:oj T R
theorem eP.same {C:Addr} {f:Bool} {H H':Hp} {x t:Addr} {D:Tl} {T:Tk} {A B:List Ky} {R:List Rn} {M:List Int} (h:eP C f H x t D T A B R M) (g:az H H'):eP C f H' x t D T A B R M:=⟨h.net.same g,h.plan.same g,h.ok,h.pok⟩
theorem eP.any {C:Addr} {f:Bool} {H:Hp} {x t:Addr} {D:Tl} {T:Tk} {A B:List Ky} {R:List Rn} {M:List Int} (h:eP C f H x t D T A B R M):eP C true H x t D T A B R M:=⟨h.net.any,h.plan,h.ok,h.pok⟩
def gO (w:Wy) (z:Str):Option Us:=w.2.2.find? fun u=>decide (u.1=z)
def bj (w:Wy) (z:Str):Int:=match gO w z with
 |some u=>u.2.1
 |none=>0
def dw (T:Tk) (R:List Rn) (i:Nat):Wy:=(T.getD i []).getD (R.getD i (0,0,0)).2.2.toNat (0,0,[])
def dU (r:Rn) (t:Int):Bool:=decide (r.1<=t)&&decide (t<r.2.1)
def fV (r s:Rn):Bool:=decide (r.1<s.2.1)&&decide (s.1<r.2.1)
def fW (T:Tk) (R:List Rn) (z:Str) (t:Int):Nat->Int
 |0=>0
 |n+1=>fW T R z t n+(if dU (R.getD n (0,0,0)) t=true then bj (dw T R n) z else 0)
def jB (T:Tk) (R:List Rn) (i:Nat):Bool:=
 let r:=R.getD i (0,0,0)
 let w:=dw T R i
 decide (r.1<0∨¬(w.1<=r.2.1-r.1/\r.2.1-r.1<=w.2.1))
def yL (B:List Ky) (R:List Rn) (k:Nat):Bool:=
 let b:=B.getD k []
 fV (R.getD (b.getD 0 0).toNat (0,0,0)) (R.getD (b.getD 1 0).toNat (0,0,0))
def je (x:Int):List Int->List Int
 | []=> [x]
 |y::ys=>if x<y then x::y::ys else if x=y then y::ys else y::je x ys
def kD (xs:List Int):List Int:=xs.foldr je []
theorem kF {x z:Int}:∀{l:List Int},z∈je x l↔z=x∨z∈l
 | []=>by simp[je]
 |y::ys=>by
  unfold je
  by_cases h1:x<y
  ·rw[if_pos h1];simp
  ·rw[if_neg h1]
   by_cases h2:x=y
   ·rw[if_pos h2];subst h2;simp
   ·rw[if_neg h2,DM,kF (l:=ys),DM];constructor
    ·rintro (h|h|h)
     ·exact .inr (.inl h)
     ·exact .inl h
     ·exact .inr (.inr h)
    ·rintro (h|h|h)
     ·exact .inr (.inl h)
     ·exact .inl h
     ·exact .inr (.inr h)
theorem tM {x:Int}:∀{l:List Int},l.Pairwise (· < ·)->(je x l).Pairwise (· < ·)
 | [],_=>by simp[je]
 |y::ys,h=>by
  have hc:=EF.mp h;unfold je
  by_cases h1:x<y
  ·rw[if_pos h1];refine EF.mpr ⟨fun z hz=>?_,h⟩
   rcases DM.mp hz with e|e
   ·rw[e];exact h1
   ·exact Int.lt_trans h1 (hc.1 z e)
  ·rw[if_neg h1]
   by_cases h2:x=y
   ·rw[if_pos h2];exact h
   ·rw[if_neg h2];refine EF.mpr ⟨fun z hz=>?_,tM hc.2⟩
    rcases kF.mp hz with e|e
    ·rw[e];lia
    ·exact hc.1 z e
theorem qp {z:Int}:∀{xs:List Int},z∈kD xs↔z∈xs
 | []=>by simp[kD]
 |x::xs=>by
  show z∈je x (kD xs)↔_;rw[kF,qp,DM]
theorem tN:∀xs:List Int,(kD xs).Pairwise (· < ·)
 | []=>by simp[kD]
 |x::xs=>tM (tN xs)
theorem tO:∀{l m:List Int},l.Pairwise (· < ·)->m.Pairwise (· < ·)->(∀z,z∈l↔z∈m)->l=m
 | [],[],_,_,_=>rfl
 | [],y::ys,_,_,h=>absurd ((h y).mpr E7) (by simp)
 |x::xs,[],_,_,h=>absurd ((h x).mp E7) (by simp)
 |x::xs,y::ys,h1,h2,h=>by
  have c1:=EF.mp h1;have c2:=EF.mp h2;have e:x=y:=by
   have a:=(h x).mp E7;have b:=(h y).mpr E7;rcases DM.mp a with q|q
   ·exact q
   ·rcases DM.mp b with q'|q'
    ·exact q'.symm
    ·have:=c2.1 x q;have:=c1.1 y q'
     lia
  subst e
  congr 1
  refine tO c1.2 c2.2 fun z=>⟨fun hz=>?_,fun hz=>?_⟩
  ·rcases DM.mp ((h z).mp (E2 _ hz)) with q|q
   ·have:=c1.1 z hz
    lia
   ·exact q
  ·rcases DM.mp ((h z).mpr (E2 _ hz)) with q|q
   ·have:=c2.1 z hz
    lia
   ·exact q
theorem yM {xs ys:List Int} (nd:ys.Nodup) (hm:∀z,z∈ys↔z∈xs) (hp:ys.Pairwise (· <= ·)):ys=kD xs:=by
 refine tO ?_ (tN xs) fun z=>by rw[hm,qp]
 have:ys.Pairwise (· ≠ ·):=nd;exact (hp.and this).imp fun h=>by lia
theorem qq (x:Int):∀l:List Int,(je x l).length<=l.length+1
 | []=>by simp[je]
 |y::ys=>by
  unfold je
  split
  ·simp
  ·split
   ·simp
   ·have:=qq x ys;simp;omega
theorem kG:∀xs:List Int,(kD xs).length<=xs.length
 | []=>by simp[kD]
 |x::xs=>by
  have:=qq x (kD xs);have:=kG xs;show (je x (kD xs)).length<=_;simp;omega
theorem gQ:∀(xs ys:List Int),(xs.foldl insI ys).length<=ys.length+xs.length
 | [],ys=>by simp
 |x::xs,ys=>by
  have:=gQ xs (insI ys x);have:=qe ys x;rw[List.foldl_cons,EH]
  lia
def jK (R:List Rn):List Int:=kD (R.map (·.1))
def iJ (D:Tl) (T:Tk) (R:List Rn) (z:Str):List (List V):=cu (jK R).length (fun i=>decide ((bV D z).getD 0<fW T R z ((jK R).getD i 0) R.length)) (fun i=> [.str "tool",.str z,.int ((jK R).getD i 0)])
def bD (T:Tk) (R:List Rn) (z:Str):List Nat:=cu R.length (fun i=>(gO (dw T R i) z).isSome) id
def fg (T:Tk) (R:List Rn) (z:Str) (i j:Nat):Bool:=match gO (dw T R i) z,gO (dw T R j) z with
 |some u,some v=>(!decide (u.2.2=v.2.2))&&fV (R.getD i (0,0,0)) (R.getD j (0,0,0))
 |_,_=>false
def fQ (T:Tk) (R:List Rn) (z:Str) (us:List Nat) (k:Nat):List (List V):=((us.drop (k+1)).filter (fg T R z (us.getD k 0))).map fun j=> [.str "heat",.str z,.int (us.getD k 0:Nat),.int (j:Nat)]
def jC (T:Tk) (R:List Rn) (z:Str) (us:List Nat) (n:Nat):List (List V):=(DT n).flatMap (fQ T R z us)
def jD (T:Tk) (R:List Rn) (z:Str):List (List V):=jC T R z (bD T R z) (bD T R z).length
def cY (T:Tk) (R:List Rn) (n:Nat):List (List V):=cu n (jB T R) fun i=> [.str "turns",.int (i:Nat)]
def si (M:List Int) (n:Nat):List (List V):=cu n (wV M) fun i=> [.str "moment",.int (i:Nat)]
def gq (A:List Ky) (R:List Rn) (M:List Int) (n:Nat):List (List V):=cu n (yG A (cO R M)) fun i=> [.str "arc",.int (i:Nat)]
def eQ (B:List Ky) (R:List Rn) (n:Nat):List (List V):=cu n (yL B R) fun i=> [.str "apart",.int (i:Nat)]
def jL (ys:GV) (D:Tl) (T:Tk) (A B:List Ky) (R:List Rn) (M:List Int):List (List V):=cY T R T.length++si M M.length++gq A R M A.length++eQ B R B.length++ys.flatMap (iJ D T R)++ys.flatMap (jD T R)
theorem gR {α:Type} (p:α->Bool) (l:List α):(l.filter p).length<=l.length:=List.length_filter_le p l
theorem gr {α β:Type} {f:α->List β} {m:Nat} (h:∀a,(f a).length<=m):∀l:List α,(l.flatMap f).length<=m*l.length
 | []=>by simp
 |a::l=>by
  rw[List.flatMap_cons,D7,EH,Nat.mul_add];have:=gr h l;have:=h a
  lia
theorem jf (D:Tl) (T:Tk) (R:List Rn) (z:Str):(iJ D T R z).length<=R.length:=by
 refine ED (cB _ _ _) ?_;have:=kG (R.map (·.1))
 rwa [D3] at this
theorem mF (T:Tk) (R:List Rn) (z:Str) (us:List Nat) (n:Nat):(jC T R z us n).length<=us.length*n:=by
 have:=gr (f:=fQ T R z us) (m:=us.length) (fun k=>by
  unfold fQ;rw[D3];refine ED (gR _ _) ?_;rw[Ec]
  lia) (DT n)
 rwa [E1] at this
theorem mG (T:Tk) (R:List Rn) (z:Str):(bD T R z).length<=R.length:=cB _ _ _
theorem mH {T:Tk} {R:List Rn} (z:Str) (h:R.length<=24):(jD T R z).length<=576:=by
 have h1:=mF T R z (bD T R z) (bD T R z).length;have h2:=mG T R z;refine ED h1 ?_;exact ED (Nat.mul_le_mul (ED h2 h) (ED h2 h)) (by decide)
theorem kH {H0 H2:Hp} {l a:Addr} {vs:List V} {pr:Nat->Bool} {f:Nat->List V} {i:Nat} {pre:List (List V)} (nl:H0 l=none) (g:az H0 H2) (e:H2 l=some (.lst vs)) (r:A2 (xP (fun a=>a≠l/\H0 a=none) H2) vs (pre++cu i pr f)) (hb:pr i=true) (na:H2 a=none) {o:HO} (ho:o= .tup (f i)):
  az H0 (av (av H2 a o) l (.lst (vs++ [.ref a])))/\bJ xP (fun a=>a≠l/\H0 a=none) (av (av H2 a o) l (.lst (vs++ [.ref a]))) l (pre++cu (i+1) pr f):=by
 subst ho;have ga:=ai na (.tup (f i));refine ⟨dZ (g.trans ga) nl _,?_⟩;rw[hJ,hb,if_pos rfl,<-DU];exact bJ.put (fun z=>z.1 rfl) (r.imp fun _ _ q=>k7 q ga) ⟨a,rfl,⟨(fun z=>by rw[z,e] at na;cases na),g.free na⟩,ag⟩
theorem xk {P:Addr->Prop} {H2:Hp} {l:Addr} {pr:Nat->Bool} {f:Nat->List V} {i:Nat} {pre:List (List V)} (h:bJ xP P H2 l (pre++cu i pr f)) (hb:pr i=false):bJ xP P H2 l (pre++cu (i+1) pr f):=by
 rw[hJ,hb,if_neg (by decide),FK]
 exact h
abbrev ToldN (H0 H:Hp) (l:Addr) (xs:List (List V)):Prop:=bJ xP (fun a=>a≠l/\H0 a=none) H l xs
theorem xm {H0 H2:Hp} {l p:Addr} {vs us:List V} {xs ys:List (List V)} {P:Addr->Prop} (nl:H0 l=none) (g:az H0 H2) (r:A2 (xP (fun a=>a≠l/\H0 a=none) H2) vs xs) (k:A2 (xP P H2) us ys) (hP:∀a,P a->a≠l/\H0 a=none):
  az H0 (av H2 l (.lst (vs++us)))/\ToldN H0 (av H2 l (.lst (vs++us))) l (xs++ys):=
 ⟨dZ g nl _,bJ.ext (fun z=>z.1 rfl) r (k.imp fun _ _ q=>xf q hP)⟩
section
variable (C:Addr)
def tP:Sp:=fun vs H Q _=>∃(v:V) (z:Str) (w:Wy) (P0:Addr->Prop),vs= [v,.str z]/\eW P0 H v w/\(∀(u:Us) (a:Addr),gO w z=some u->P0 a->H a=some (.tup (Ai u))->Q (.ref a) H)/\(gO w z=none->Q .non H)
def kI:Sp:=fun vs H Q _=>∃(t:Addr) (r:Rn) (n:Int),vs= [.ref t,.int n]/\H t=some (.tup ((rk r).map V.int))/\Q (.bl (dU r n)) H
def sj:Sp:=fun vs H Q _=>∃(t u:Addr) (r s:Rn),vs= [.ref t,.ref u]/\H t=some (.tup ((rk r).map V.int))/\H u=some (.tup ((rk s).map V.int))/\Q (.bl (fV r s)) H
def dN (f:Bool) (H:Hp) (x t:Addr) (Q:Tl->Tk->List Ky->List Ky->List Rn->List Int->Prop):Prop:=∃(D:Tl) (T:Tk) (A B:List Ky) (R:List Rn) (M:List Int),eP C f H x t D T A B R M/\Q D T A B R M
def jU:Sp:=fun vs H Q _=>∃(x t:Addr) (i:Nat) (z:Str) (H0:Hp),vs= [.ref x,.ref t,.int i,.str z]/\az H0 H/\dN C true H0 x t fun D T A B R M=>i<R.length/\(∀(u:Us) (a:Addr),gO (dw T R i) z=some u->H0 a=some (.tup (Ai u))->Q (.ref a) H)/\(gO (dw T R i) z=none->Q .non H)
def mI:Sp:=fun vs H Q _=>∃(x t:Addr),vs= [.ref x,.ref t]/\dN C true H x t fun D T A B R M=>∀H',az H H'->Q (.bl true) H'
def eM (F:Tk->List Ky->List Ky->List Rn->List Int->List (List V)):Sp:=fun vs H Q _=>∃(x t:Addr),vs= [.ref x,.ref t]/\dN C true H x t fun D T A B R M=>∀(l:Addr) (H':Hp),az H H'->H l=none->ToldN H H' l (F T A B R M)->Q (.ref l) H'
def tQ:Sp:=fun vs H Q _=>∃(x t:Addr) (z:Str) (n:Int),vs= [.ref x,.ref t,.str z,.int n]/\dN C true H x t fun D T A B R M=>∀H',az H H'->Q (.int (fW T R z n R.length)) H'
def tR:Sp:=fun vs H Q _=>∃(x t:Addr) (z:Str),vs= [.ref x,.ref t,.str z]/\dN C true H x t fun D T A B R M=>z∈D.map (·.1)/\∀(l:Addr) (H':Hp),az H H'->H l=none->ToldN H H' l (iJ D T R z)->Q (.ref l) H'
def tT:Sp:=fun vs H Q _=>∃(x t:Addr) (z:Str),vs= [.ref x,.ref t,.str z]/\dN C true H x t fun D T A B R M=>∀(l:Addr) (H':Hp),az H H'->H l=none->ToldN H H' l (jD T R z)->Q (.ref l) H'
def mJ:Sp:=fun vs H Q _=>∃(x t:Addr),vs= [.ref x,.ref t]/\dN C false H x t fun D T A B R M=>∀(ys:GV) (l:Addr) (H':Hp),ys.Perm (D.map (·.1))->PyProof.Rows.sortedS ys=true->az H H'->H l=none->ToldN H H' l (jL ys D T A B R M)->Q (.ref l) H'
def tU:Sp:=fun vs H Q _=>∃(x t:Addr),vs= [.ref x,.ref t]/\dN C false H x t fun D T A B R M=>∀(ys:GV) (H':Hp),ys.Perm (D.map (·.1))->PyProof.Rows.sortedS ys=true->az H H'->Q (.bl (jL ys D T A B R M).isEmpty) H'
end
end Sw
namespace L2
open PySem PySem.Spec PyProof.Rows XH Sw
theorem vm {a:Addr} {o:Obj} {kvs:List (Key×V)} {g:TG} {tb:TS} {D:Ends} {σ:St} {H:Hp} (Pv:Nat->St->Hp->Prop) (h0:Pv 0 σ H) (hz:∀i σ H,i<=kvs.length->Pv i σ H->H a=some (.frz o (.dK kvs)))
  (hs:∀i k x σ H T,kvs[i]?=some (k,x)->Pv i σ H->H T=none->g (.ref T) σ (av H T (.tup [kV k,x])) fun σ2 H2=>tb {D with nx:=Pv (i+1),ct:=Pv (i+1),bk:=D.nx} σ2 H2) (hd:∀σ H,Pv kvs.length σ H->D.nx σ H):
  ∃W:Nat->Nat->St->Hp->Prop,(∃m,W 0 m σ H)/\∀i m σ H,W i m σ H->
   ((Itm a o kvs).stop i H/\D.nx σ H)∨((Itm a o kvs).go i H/\∃N:St->Hp->Prop,(∀σ' H',N σ' H'->∃m',m'<m/\W (i+1) m' σ' H')/\∀x H',(Itm a o kvs).yld i H x H'->g x σ H' fun σ2 H2=>tb {D with nx:=N,ct:=N,bk:=D.nx} σ2 H2):=by
 refine ⟨fun i m σ H=>m=kvs.length-i/\i<=kvs.length/\Pv i σ H,⟨kvs.length,by simp,EC _,h0⟩,?_⟩
 rintro i m σ H ⟨rfl,hi,p⟩
 by_cases hlt:i<kvs.length
 ·refine .inr ⟨⟨hz i σ H hi p,hlt⟩,Pv (i+1),fun σ' H' p'=>⟨kvs.length-(i+1),by lia,rfl,hlt,p'⟩,fun x H' y=>?_⟩
  obtain ⟨T,k,v,rfl,nT,hk,rfl⟩:=y;exact hs i k v σ H T hk p nT
 ·have e:i=kvs.length:=by lia
  subst e;exact .inl ⟨⟨hz _ σ H hi p,rfl⟩,hd σ H p⟩
end L2
namespace Sw
open PySem L2 XH Hm
theorem kJ {α:Type} (xs:List α) (d:α):(DT xs.length).map (fun i=>xs.getD i d)=xs:=by
 apply List.ext_getElem
 ·rw[D3,E1]
 ·intro i h1 h2;rw[List.getElem_map,List.getElem_range,bR (D0 h2)]
theorem mK {α:Type} {n:Nat} (xs:List α) (d:α) (h:n=xs.length):(DT n).map (fun i=>xs.getD i d)=xs:=by
 subst h;exact kJ xs d
theorem jg {H:Hp} {td:Addr} {D:Tl} {z:Str} {m:Int} (e:Rd H td (.dK (aC D))) (h:bV D z=some m):gN H td (.str z) (some (.int m)):=
 .inl ⟨_,.inr z,e,rfl,by rw[mz,h];rfl⟩
theorem tV {us:List Us} {z:Str}:∀{us:List Us} {i:Nat} {e:Us},us[i]?=some e->e.1=z->(∀(j:Nat) (u:Us),j<i->us[j]?=some u->u.1≠z)->us.find? (fun u=>decide (u.1=z))=some e
 | [],i,e,h,_,_=>by simp at h
 |u::us,0,e,h,hz,_=>by
  simp at h;subst h;rw[El,decide_eq_true hz]
 |u::us,i+1,e,h,hz,hn=>by
  rw[El,decide_eq_false (hn 0 u (by lia) rfl)]
  exact tV (us:=us) (by simpa using h) hz fun j v hj hv=>hn (j+1) v (by lia) (by simpa using hv)
theorem yN {z:Str} {us:List Us} (hn:∀(j:Nat) (u:Us),us[j]?=some u->u.1≠z):us.find? (fun u=>decide (u.1=z))=none:=by
 rw[List.find?_eq_none];intro u hu;obtain ⟨j,hj⟩:=DP.mp hu;simp[hn j u hj]
theorem xn {H:Hp} {T:Tk} {R:List Rn} {vs:List V} {bs:GW} (rT:A2 (jA An H) vs T) (rR:cX (fun t k=>H t=some (.tup (k.map V.int))) bs (R.map rk)) (pok:oj T R) {i:Nat} (il:i<R.length):
  ∃(wl b:Addr) (ts:List V) (v:V) (r:Rn) (j:Nat),vs[i]?=some (.ref wl)/\H wl=some (.lst ts)/\ts[j]?=some v/\eW An H v (dw T R i)/\bs[i]?=some b/\H b=some (.tup [.int r.1,.int r.2.1,.int r.2.2])/\R[i]?=some r/\r.2.2=(j:Int)/\R.getD i (0,0,0)=r:=by
 have hr:=D0 il;have iT:i<T.length:=by rw[<-pok.len];exact il
 have hT:=D0 iT;obtain ⟨b,hb,eb⟩:=run_get rR hr;obtain ⟨y,hy,wl,rfl,_,ts,ew,rw'⟩:=rT.get hT;have pk:=pok.way i _ _ hr hT;generalize R[i]=r at hr eb pk;generalize T[i]=ws at hT rw' pk;obtain ⟨j,hj⟩:∃j:Nat,r.2.2=(j:Int):=⟨r.2.2.toNat,by lia⟩
 have hw:=D0 (show j<ws.length by lia)
 obtain ⟨v,hv,q⟩:=rw'.get hw;have e:dw T R i=ws[j]'(by lia):=by
  unfold dw;rw[bR hT,bR hr,hj,E9,bR hw]
 exact ⟨wl,b,ts,v,r,j,hy,ew,hv,by rw[e];exact q,hb,eb,hr,hj,bR hr⟩
def kK:RA (Option Us):=fun P H v o=>match o with
 |none=>v= .non
 |some u=>gk P H v u
instance:Mv kK where
 mv:=fun {P P' H H' v x} g h=>by
  cases x with
  |none=>exact h
  |some u=>exact Mv.mv (R:=gk) g h
theorem kK.isN {P:Addr->Prop} {H:Hp} {v:V} {o:Option Us} (h:kK P H v o):(!decide (v=V.non))=o.isSome:=by
 cases o with
 |none=>
  have:v= .non:=h;rw[this]
  rfl
 |some u=>
  obtain ⟨t,rfl,_⟩:=(show gk P H v u from h)
  rfl
theorem qr {T:Tk} {R:List Rn} {z:Str} {k i:Nat} (h:(bD T R z)[k]?=some i):i<R.length/\∃u,gO (dw T R i) z=some u:=by
 have hm:=D6 h;unfold bD cu at hm;rw[List.map_id,Fj] at hm;exact ⟨Ep.mp hm.1,EI.mp hm.2⟩
theorem ss (T:Tk) (R:List Rn) (z:Str) (us:List Nat) (n:Nat):jC T R z us (n+1)=jC T R z us n++fQ T R z us n:=by
 unfold jC;rw[FU,List.flatMap_append];simp
def cS (T:Tk) (R:List Rn) (z:Str) (us:List Nat) (k m:Nat):List (List V):=(((us.drop (k+1)).take m).filter (fg T R z (us.getD k 0))).map fun j=> [.str "heat",.str z,.int (us.getD k 0:Nat),.int (j:Nat)]
theorem lG (T:Tk) (R:List Rn) (z:Str) (us:List Nat) (k:Nat):cS T R z us k 0= []:=by simp[cS]
theorem lH {T:Tk} {R:List Rn} {z:Str} {us:List Nat} {k m j:Nat} (h:(us.drop (k+1))[m]?=some j):cS T R z us k (m+1)=cS T R z us k m++(if fg T R z (us.getD k 0) j=true then [[.str "heat",.str z,.int (us.getD k 0:Nat),.int (j:Nat)]] else []):=by
 unfold cS;have e:(us.drop (k+1)).take (m+1)=(us.drop (k+1)).take m++ [j]:=by
  rw[E8,h]
  rfl
 rw[e,List.filter_append,EA]
 congr 1
 rw[List.filter_cons,List.filter_nil];cases hb:fg T R z (us.getD k 0) j
 ·rfl
 ·rfl
theorem om (T:Tk) (R:List Rn) (z:Str) (us:List Nat) (k:Nat):cS T R z us k (us.drop (k+1)).length=fQ T R z us k:=by
 unfold cS fQ;rw[EM]
theorem oq (T:Tk) (R:List Rn) (z:Str) (us:List Nat) (k m:Nat):(cS T R z us k m).length<=us.length:=by
 unfold cS;rw[D3];refine ED (gR _ _) ?_;rw[DK,Ec]
 lia
theorem xp {w:Wy} {z:Str} (h:gO w z=none):bj w z=0:=by unfold bj;rw[h]
theorem xq {w:Wy} {z:Str} {u:Us} (h:gO w z=some u):bj w z=u.2.1:=by unfold bj;rw[h]
theorem xr {H0 H2:Hp} {l a:Addr} {vs:List V} {xs:List (List V)} {b:List V} (nl:H0 l=none) (g:az H0 H2) (e:H2 l=some (.lst vs)) (r:A2 (xP (fun a=>a≠l/\H0 a=none) H2) vs xs) (na:H2 a=none):
  az H0 (av (av H2 a (.tup b)) l (.lst (vs++ [.ref a])))/\ToldN H0 (av (av H2 a (.tup b)) l (.lst (vs++ [.ref a]))) l (xs++ [b]):=by
 have ga:=ai na (.tup b);exact ⟨dZ (g.trans ga) nl _,bJ.put (fun z=>z.1 rfl) (r.imp fun _ _ q=>k7 q ga) ⟨a,rfl,⟨(fun z=>by rw[z,e] at na;cases na),g.free na⟩,ag⟩⟩
theorem fB {H H1 H2:Hp} {l p:Addr} {xs ys:List (List V)} (nl:H l=none) (g1:az H H1) (h1:ToldN H H1 l xs) (g2:az H1 H2) (np:H1 p=none) (h2:ToldN H1 H2 p ys):
  ∃vs us:List V,H1 l=some (.lst vs)/\H2 l=some (.lst vs)/\H2 p=some (.lst us)/\vs.length=xs.length/\us.length=ys.length/\az H (av H2 l (.lst (vs++us)))/\ToldN H (av H2 l (.lst (vs++us))) l (xs++ys):=by
 obtain ⟨vs,e,r⟩:=h1;obtain ⟨us,e2,r2⟩:=h2;refine ⟨vs,us,e,g2 _ _ e,e2,r.1,r2.1,xm (p:=p) nl (g1.trans g2) (r.imp fun _ _ q=>k7 q g2) r2 fun a h=>⟨fun z=>?_,g1.free h.2⟩⟩
 have:=h.2;rw[z,e] at this;cases this
theorem su (D:Tl):(aC D).map (·.1)=(D.map (·.1)).map (fun y=>(.inr y:Key)):=by
 unfold aC;rw[En,En]
 rfl
theorem mL {α β:Type} {f:α->List β} {l:List α} {i:Nat} {a:α} (h:l[i]?=some a):(l.take (i+1)).flatMap f=(l.take i).flatMap f++f a:=by
 rw[E8,h,List.flatMap_append];simp
theorem yO {T:Tk} {R:List Rn} {z:Str} {i j:Nat} {u v:Us} {r s:Rn} (hu:gO (dw T R i) z=some u) (hv:gO (dw T R j) z=some v) (hr:R[i]?=some r) (hs:R[j]?=some s):fg T R z i j=((!decide (u.2.2=v.2.2))&&fV r s):=by
 unfold fg;rw[hu,hv,bR hr,bR hs]
open PyProof.Rows So
end Sw
namespace L2
open PySem PySem.Spec PyProof.Rows XH Sw
end L2
namespace Sw
open PySem L2 XH PyProof.Rows
end Sw
namespace L2
open PySem PySem.Spec PyProof.Rows XH Sw
end L2
namespace Sw
open PySem L2 XH PyProof.Rows
def Lt (z:Str):Prop:=∀c∈sL z,97<=c/\c<=122
theorem Lt.app {x y:Str} (h:Lt x) (k:Lt y):Lt (x++y):=fun c hc=>by
 rw[z7] at hc;rcases DO.mp hc with q|q
 ·exact h c q
 ·exact k c q
theorem Lt.cut {x:Str} (h:Lt x) (lo hi:Option Int):Lt (gX x lo hi):=fun c hc=>by
 have hc':c∈((sL x).drop (HT.eV x.length 0 lo)).take (HT.eV x.length x.length hi-HT.eV x.length 0 lo):=by simpa [sL,gX] using hc
 exact h c (List.mem_of_mem_drop (FO hc'))
theorem Lt.nil:Lt "" :=fun c hc=>by
 have:c∈([]:List Nat):=hc;simp at this
theorem Lt.one {c:Nat} (h:97<=c/\c<=122):Lt ⟨#[c]⟩:=fun d hd=>by
 have:d∈ [c]:=hd;rw[DR.mp this];exact h
theorem yP {x:Str} {i:Int} (h:0<=i):(gX x none (some i)).length=min i.toNat x.length:=by
 have e1:HT.eV x.length 0 none=0:=rfl;have e2:HT.eV x.length x.length (some i)=min i.toNat x.length:=by
  unfold HT.eV;simp;omega
 show ((x.cps.toList.drop _).take _).toArray.size=_;rw[e1,e2,DX,DK,Ec];have:x.cps.toList.length=x.length:=by simp[Str.length]
 lia
theorem yQ {x:Str} {i:Int} (h:0<=i):(gX x (some i) none).length=x.length-i.toNat:=by
 have e1:HT.eV x.length 0 (some i)=min i.toNat x.length:=by
  unfold HT.eV;simp;omega
 have e2:HT.eV x.length x.length none=x.length:=rfl;show ((x.cps.toList.drop _).take _).toArray.size=_;rw[e1,e2,DX,DK,Ec];have:x.cps.toList.length=x.length:=by simp[Str.length]
 lia
theorem Lt.nm {z:Str} (h:Lt z) (h1:1<=z.length) (h2:z.length<=12):Nm z:=⟨by rw[nR];exact h1,by rw[nR];exact h2,h⟩
end Sw
namespace L2
open PySem PySem.Spec PyProof.Rows XH Sw
theorem yR {X:Cx}:fY X (binaryOp .Mult) (fun x y H Q=>∃z n,x= .str z/\y= .int n/\z.length<=16/\0<=n/\n<=1048576/\Q (.str (Txt.mul z n)) H):=by
 intro pins s σ H x y v u Q I rx ry h;obtain ⟨z,n,rfl,rfl,hz,h0,hn,q⟩:=h;obtain ⟨t,rfl⟩:=rx;obtain ⟨t',rfl⟩:=ry;exact SB.mul (mulOk_of 16 1048576 hz hn (by lia) (by decide) (by decide)) fun t' k=>⟨.str _,H,I.tok _,⟨_,rfl⟩,q⟩
end L2
namespace Sw
open PySem L2 XH Hm PySem.NumText
theorem yS {z:Str} {n:Int} (h:0<=n):((Txt.mul z n).length:Int)=(z.length:Int)*n:=by
 have:=PyProof.Rows.len_mul z n;rw[this,if_neg (by simp;lia)]
theorem mM (c:Nat) (h:97<=c/\c<=122):∀(n:Nat) (a:Array Nat),(∀x∈a.toList,97<=x/\x<=122)->∀x∈((EK n #[c]).foldl (· ++ ·) a).toList,97<=x/\x<=122
 |0,a,ha,x,hx=>ha x hx
 |n+1,a,ha,x,hx=>by
  rw[FQ,List.foldl_cons] at hx;refine mM c h n (a++ #[c]) (fun y hy=>?_) x hx
  rw[DS,DO] at hy;rcases hy with q|q
  ·exact ha y q
  ·simp at q;rw[q];exact h
theorem Lt.mul {c:Nat} (h:97<=c/\c<=122) (n:Int):Lt (Txt.mul ⟨#[c]⟩ n):=by
 unfold Txt.mul
 split
 ·exact Lt.nil
 ·split
  ·exact Lt.one h
  ·intro x hx;exact mM c h _ #[] (fun y hy=>by simp at hy) x hx
def fR (n:Nat) (D:Tl):Prop:=D.length<=n/\(D.map (·.1)).Nodup/\∀p∈D,Nm p.1/\1<=p.2/\p.2<=8
def qt:Sp:=fun vs H Q _=>∃(l:Addr) (ns:List Int),vs= [.ref l]/\H l=some (.lst (ns.map V.int))/\ns.length=4/\(∀z∈ns,AT z)/\∀(td:Addr) (D:Tl) (H':Hp),az H H'->H td=none->H' td=some (.dK (aC D))->fR 3 D->Q (.ref td) H'
theorem fR.put {n:Nat} {D:Tl} {z:Str} {m:Int} (h:fR n D) (hz:Nm z) (m1:1<=m) (m8:m<=8):∃E:Tl,putK (aC D) (.inr z) (.int m)=aC E/\fR (n+1) E:=by
 obtain ⟨E,e,nd,l,_,k⟩:=vh (D:=D) (z:=z) (n:=m);refine ⟨E,e,by have:=h.1;lia,nd h.2.1,fun p hp=>?_⟩
 rcases k p hp with q|q
 ·exact h.2.2 p q
 ·rw[q];exact ⟨hz,m1,m8⟩
theorem BE {i:Int} (h0:0<=i) (h:i<2):∃c,iU (Str.ofString "az").cps.toList i=some c/\97<=c/\c<=122:=by
 have:i=((0:Nat):Int)∨i=((1:Nat):Int):=by lia
 rcases this with e|e
 ·rw[e];exact ⟨97,aU (by decide),by decide,by decide⟩
 ·rw[e];exact ⟨122,aU (by decide),by decide,by decide⟩
theorem Aj {i:Nat} (h:i<3):∃c,iU (Str.ofString "mfs").cps.toList (0+(i:Int))=some c/\97<=c/\c<=122:=by
 rw[FD];have:i=0∨i=1∨i=2:=by lia
 rcases this with e|e|e
 ·rw[e];exact ⟨109,aU (by decide),by decide,by decide⟩
 ·rw[e];exact ⟨102,aU (by decide),by decide,by decide⟩
 ·rw[e];exact ⟨115,aU (by decide),by decide,by decide⟩
end Sw
namespace L2
open PySem PySem.Spec PyProof.Rows XH Sw
theorem tW:∀{xs:List V} {us:GX},xs.length=us.length->(∀(j:Nat) (x:V) (u:Value),xs[j]?=some x->us[j]?=some u->RelV x u)->aS xs us
 | [],[],_,_=> .nil
 |x::xs,u::us,h,f=> .cons (f 0 x u rfl rfl) (tW (by simpa using h) fun j y w e1 e2=>f (j+1) y w (by simpa using e1) (by simpa using e2))
 | [],_::_,h,_=>by simp at h
 |_::_,[],h,_=>by simp at h
theorem sw {X:Cx} (hc:X.calm=true):c4 X (.type "list") (fun xs H Q=>∃(d:Addr) (kvs:List (Key×V)),xs= [.ref d]/\H d=some (.dK kvs)/\∀l,H l=none->Q (.ref l) (av H l (.lst (kvs.map fun p=>kV p.1)))):=by
 intro pins s σ H xs us Q I r h;obtain ⟨d,kvs,rfl,hk,q⟩:=h;obtain ⟨u,rfl,ru⟩:=vals1 r;cases ru;obtain ⟨z,hS,ws,rel,D⟩:=j6 I.hok hk;obtain ⟨ep,hat⟩:=D.dictAt;refine PySem.W.kdl_call (PySem.W.kdl_dict (knd:=aF X.prog X.w) (kvs:=ws) (ep:=ep) hS) (I.ok.hd hc) hat (by rw[<-rel.length];exact z) fun h' tk acc' c' kp hS' hacc=>?_
 have hv:aS (kvs.map fun p=>kV p.1) acc'.toList:=tW (by
   have el:acc'.toList.length=acc'.size:=by simp
   rw[D3,el,hacc.1,rel.length]) fun j x u e1 e2=>by
  rw[D9] at e1;obtain ⟨⟨k,v⟩,e3,rfl⟩:=DV.mp e1;obtain ⟨k',x',e4,e5⟩:=hacc.2 j u (by rw[<-E3];exact e2)
  obtain ⟨u',e6,_⟩:=tq rel j e3;rw[e6] at e4;cases e4;exact pe e5
 exact ⟨.ref s.heap.objs.size,_,I.laid (t':=tk) kp (D8 _) (show bn X.prog X.w _ h' _ (.lst _) from ⟨by rw[D3];exact z,acc'.toList,c',hv,by simpa using hS'⟩),rfl,q _ (I.hok.fresh (D8 _))⟩
end L2
namespace Sw
open PySem L2 XH Hm
theorem A2.rev {α:Type} {R:V->α->Prop} {vs:List V} {xs:List α} (h:A2 R vs xs):A2 R vs.reverse xs.reverse:=by
 refine ⟨by simp[h.1],fun i v x e1 e2=>?_⟩
 have il:i<vs.length:=by
  have:=(D4.mp e1).1
  simpa using this
 rw[List.getElem?_reverse il] at e1;rw[List.getElem?_reverse (by rw[<-h.1];exact il),<-h.1] at e2
 exact h.2 _ v x e1 e2
theorem mO:∀{l m:List Int},l.Nodup->(∀y∈l,y∈m)->l.length<=m.length
 | [],_,_,_=>EC _
 |x::l,m,nd,h=>by
  obtain ⟨nx,nl⟩:=FJ.mp nd;have hx:=h x E7;have:=mO (l:=l) (m:=m.erase x) nl fun y hy=>(List.mem_erase_of_ne (fun z:y=x=>nx (z▸hy))).mpr (h y (E2 _ hy))
  rw[List.length_erase_of_mem hx] at this;have:=List.length_pos_of_mem hx;simp;omega
theorem yT {n:Nat} {q:Int} (h0:0<=q) (h1:q<(n:Int)):xO n q=some q.toNat:=by
 obtain ⟨j,rfl⟩:∃j:Nat,q=(j:Int):=⟨q.toNat,by lia⟩
 rw[E9];exact jR (by lia)
end Sw
namespace L2
open PySem PySem.Spec PyProof.Rows XH Sw Hm
end L2
namespace Sw
open PySem L2 XH Hm
end Sw
namespace Hm
open PySem PySem.SeqAt PySem.MeetsSeq PySem.MeetsSeq3
end Hm
namespace Wo
open PySem Hm So
end Wo
namespace L2
open PySem PySem.Spec PyProof.Rows XH
open Hm
end L2
namespace Sw
open PySem L2 XH Hm Wo So PyProof.Rows
def w0:Wy:=(0,0,[])
def lg (p:Wy) (z:Str) (t:Int):Int:=if p.1<=t/\t<p.2.1 then bj p z else 0
def cA:List Wy->Str->Int->Int
 | [],_,_=>0
 |p::ps,z,t=>lg p z t+cA ps z t
theorem eR (p:Wy) (z:Str) (t:Int):∀ps:List Wy,cA (ps++ [p]) z t=cA ps z t+lg p z t
 | []=>by simp[cA]
 |q::ps=>by
  show lg q z t+cA (ps++ [p]) z t=lg q z t+cA ps z t+lg p z t;rw[eR p z t ps]
  lia
def dW (c:Int) (PL:List Wy):Tk:=PL.map fun p=> [(1,5*c,p.2.2)]
def dP (a c:Int) (PL:List Wy):List Rn:=PL.map fun p=>(a+c*p.1,a+c*p.2.1,0)
theorem jE {a c:Int} {PL:List Wy} {i:Nat} {p:Wy} (h:PL[i]?=some p):(dP a c PL).getD i (0,0,0)=(a+c*p.1,a+c*p.2.1,0):=by
 unfold dP;rw[DN,D9,h]
 rfl
theorem jh {c:Int} {PL:List Wy} {R:List Rn} {i:Nat} {p:Wy} (h:PL[i]?=some p) (hr:(R.getD i (0,0,0)).2.2=0):dw (dW c PL) R i=(1,5*c,p.2.2):=by
 have e:(dW c PL).getD i []= [(1,5*c,p.2.2)]:=by
  unfold dW;rw[DN,D9,h]
  rfl
 unfold dw;rw[hr,e]
 rfl
theorem vn {p q:Wy} (h:p.2.2=q.2.2) (z:Str):bj p z=bj q z:=by
 unfold bj gO;rw[h]
theorem tX {a c b e t:Int} (hc:1<=c):dU (a+c*b,a+c*e,0) t=decide (b<=(t-a)/c/\(t-a)/c<e):=by
 unfold dU;rw[Bool.decide_and]
 congr 1
 ·rw[decide_eq_decide,Int.le_ediv_iff_mul_le (by lia),Int.mul_comm b c]
  dsimp only
  lia
 ·rw[decide_eq_decide,Int.ediv_lt_iff_lt_mul (by lia),Int.mul_comm e c]
  dsimp only
  lia
theorem tY {a c:Int} {PL:List Wy} (hc:1<=c) (z:Str) (t:Int):∀n,n<=PL.length->fW (dW c PL) (dP a c PL) z t n=cA (PL.take n) z ((t-a)/c)
 |0,_=>rfl
 |n+1,h=>by
  have hp:PL[n]?=some PL[n]:=D0 (by lia)
  rw[fW,tY hc z t n (by lia),E8,hp,EV,eR,jE hp,jh hp (by rw[jE hp]),tX hc]
  congr 1
  unfold lg
  by_cases k:PL[n].1<=(t-a)/c/\(t-a)/c<PL[n].2.1
  ·rw[if_pos (decide_eq_true k),if_pos k];exact vn rfl z
  ·rw[if_neg (by simpa using k),if_neg k]
structure gu (D:Tl) (p:Wy):Prop where
 b0:0<=p.1
 lt:p.1<p.2.1
 five:p.2.1<=p.1+5
 top:p.2.1<=140
 us:vk D p.2.2
 heat:∀u∈p.2.2,u.2.2=3
def fX (D:Tl) (PL:List Wy):Prop:=∀z m,bV D z=some m->∀t,cA PL z t<=m
theorem fS {w:Wy} {z:Str} {u:Us} (h:gO w z=some u):u∈w.2.2/\u.1=z:=by
 unfold gO at h;exact ⟨List.mem_of_find?_eq_some h,by simpa using List.find?_some h⟩
theorem jj {D:Tl} {w:Wy} {z:Str} {m:Int} (h:vk D w.2.2) (hm:bV D z=some m) (m0:0<=m):0<=bj w z/\bj w z<=m:=by
 unfold bj;cases e:gO w z with
 |none=>exact ⟨Int.le_refl _,m0⟩
 |some u=>
  obtain ⟨k,rfl⟩:=fS e;obtain ⟨m',h1,h2,h3,_⟩:=h.2.2 u k;rw[hm] at h1;cases h1;exact ⟨by show 0<=u.2.1;lia,h3⟩
theorem sA {D:Tl} {PL:List Wy} {a c:Int} {z:Str} (hc:1<=c) (cap:fX D PL) (hz:z∈D.map (·.1)):iJ D (dW c PL) (dP a c PL) z= []:=by
 refine hU fun i _=>decide_eq_false ?_
 obtain ⟨m,hm⟩:=hV hz;have l:(dP a c PL).length=PL.length:=D3 _;rw[hm,l,tY hc z _ _ (D8 _),EM];have:=cap z m hm (((jK (dP a c PL)).getD i 0-a)/c);show ¬m<_
 lia
theorem sB {PL:List Wy} {R:List Rn} {c:Int} {z:Str} (hl:R.length=PL.length) (hr:∀i,(R.getD i (0,0,0)).2.2=0) (ht:∀p∈PL,∀u∈p.2.2,u.2.2=(3:Int)):jD (dW c PL) R z= []:=by
 have bad:∀i j,i<PL.length->j<PL.length->fg (dW c PL) R z i j=false:=fun i j hi hj=>by
  have h1:PL[i]?=some PL[i]:=D0 hi;have h2:PL[j]?=some PL[j]:=D0 hj;unfold fg;rw[jh h1 (hr i),jh h2 (hr j)]
  split
  ·rename_i u v e1 e2;have k1:=ht _ (Ed hi) u (fS e1).1;have k2:=ht _ (Ed hj) v (fS e2).1;rw[k1,k2]
   rfl
  ·rfl
 have um:∀i∈bD (dW c PL) R z,i<PL.length:=fun i hi=>by
  unfold bD cu at hi;obtain ⟨j,hj,rfl⟩:=ES.mp hi;have:=Ep.mp (Fj.mp hj).1;rw[hl] at this;exact this
 unfold jD jC;rw[List.flatMap_eq_nil_iff];intro k hk;have hk':=Ep.mp hk;unfold fQ;rw[List.map_eq_nil_iff,List.filter_eq_nil_iff];intro j hj;have g:(bD (dW c PL) R z).getD k 0=(bD (dW c PL) R z)[k]:=by rw[DN,D0 hk'];rfl
 rw[g,bad _ _ (um _ (Ed hk')) (um _ (List.mem_of_mem_drop hj))];exact DY
theorem xt {D:Tl} {PL:List Wy} {a c:Int} (ok:∀p∈PL,gu D p) (hc:1<=c) (a0:0<=a) {i:Nat} (hi:i<PL.length):jB (dW c PL) (dP a c PL) i=false:=by
 have hp:PL[i]?=some PL[i]:=D0 hi;have k:=ok _ (Ed hi);generalize PL[i]=p at hp k;unfold jB;rw[jh hp (by rw[jE hp]),jE hp]
 refine decide_eq_false ?_;dsimp only;have e:a+c*p.2.1-(a+c*p.1)=c*(p.2.1-p.1):=by rw[Int.mul_sub];lia
 have h1:0<=c*p.1:=Int.mul_nonneg (by lia) k.b0
 have h2:c*1<=c*(p.2.1-p.1):=Int.mul_le_mul_of_nonneg_left (by have:=k.lt;lia) (by lia)
 have h3:c*(p.2.1-p.1)<=c*5:=Int.mul_le_mul_of_nonneg_left (by have:=k.five;lia) (by lia)
 rw[e]
 lia
theorem yU {D:Tl} {PL:List Wy} {a c:Int} {ys:GV} (ok:∀p∈PL,gu D p) (cap:fX D PL) (hc:1<=c) (a0:0<=a) (hy:ys.Perm (D.map (·.1))):jL ys D (dW c PL) [] [] (dP a c PL) []= []:=by
 have l1:(dW c PL).length=PL.length:=D3 _;have l2:(dP a c PL).length=PL.length:=D3 _;have t1:cY (dW c PL) (dP a c PL) (dW c PL).length= []:=hU fun i hi=>xt ok hc a0 (by rw[l1] at hi;exact hi)
 have t2:ys.flatMap (iJ D (dW c PL) (dP a c PL))= []:=List.flatMap_eq_nil_iff.mpr fun z hz=>sA hc cap (hy.mem_iff.mp hz)
 have t3:ys.flatMap (jD (dW c PL) (dP a c PL))= []:=List.flatMap_eq_nil_iff.mpr fun z _=>sB l2 (fun i=>by
  unfold dP;rw[DN,D9];cases PL[i]?<;>rfl) fun p hp=>(ok p hp).heat
 unfold jL;rw[t1,t2,t3]
 rfl
theorem xu {D:Tl} {PL:List Wy} {R:List Rn} {c:Int} {ys:GV} {i:Nat} (hi:i<PL.length) {b:Int} (hr:R.getD i (0,0,0)=(b,b+5*c+1,0)):jL ys D (dW c PL) [] [] R []≠ []:=by
 have hp:PL[i]?=some PL[i]:=D0 hi;have bad:jB (dW c PL) R i=true:=by
  unfold jB;rw[jh hp (by rw[hr]),hr]
  refine decide_eq_true (.inr fun k=>?_)
  dsimp only at k
  lia
 have m: [V.str "turns",V.int (i:Nat)]∈cY (dW c PL) R (dW c PL).length:=by
  unfold cY cu;refine ES.mpr ⟨i,Fj.mpr ⟨Ep.mpr ?_,bad⟩,rfl⟩;unfold dW;rw[D3];exact hi
 intro e;unfold jL at e;have:cY (dW c PL) R (dW c PL).length= []:=by
  simp only[List.append_eq_nil_iff] at e;exact e.1.1.1.1.1
 rw[this] at m;cases m
theorem xv {D:Tl} {PL:List Wy} {c:Int} (d12:D.length<=12) (dnd:(D.map (·.1)).Nodup) (dt:∀p∈D,Nm p.1/\1<=p.2/\p.2<=8) (l:PL.length<=24) (ok:∀p∈PL,gu D p) (hc:1<=c) (hc':c<=100000000):oh D (dW c PL) [] [] 0 where
 d12:=d12
 dnd:=dnd
 tool:=dt
 t24:=by unfold dW;rw[D3];exact l
 ways:=fun ws hw=>by
  obtain ⟨p,hp,rfl⟩:=ES.mp hw;refine ⟨D8 1,(show 1<=2 by decide),fun w hw'=>?_⟩
  rw[DR.mp hw'];exact ⟨Int.le_refl 1,by show (1:Int)<=5*c;lia,by show 5*c<=1000000000;lia,(ok p hp).us⟩
 n0:=by decide
 n8:=by decide
 a600:=by decide
 arcs:=fun k hk=>by cases hk
 b300:=by decide
 pairs:=fun k hk=>by cases hk
def cE:List Wy->Int
 | []=>0
 |p::ps=>(p.2.1-p.1)+cE ps
def cF:List Wy->List Wy
 | []=> []
 |p::ps=>(cE ps,cE ps+(p.2.1-p.1),p.2.2)::cF ps
theorem kN:∀PL,(cF PL).length=PL.length
 | []=>rfl
 |_::ps=>by rw[cF,EH,EH,kN ps]
theorem ou {D:Tl}:∀{PL:List Wy},(∀p∈PL,gu D p)->0<=cE PL/\cE PL<=5*PL.length
 | [],_=>⟨Int.le_refl _,by simp[cE]⟩
 |p::ps,h=>by
  have k:=h p E7;have r:=ou (PL:=ps) fun q hq=>h q (E2 _ hq)
  have h1:=k.lt;have h2:=k.five;rw[cE,EH]
  lia
theorem tZ {D:Tl}:∀{PL:List Wy},PL.length<=24->(∀p∈PL,gu D p)->∀q∈cF PL,gu D q/\q.2.1<=cE PL
 | [],_,_,q,hq=>by cases hq
 |p::ps,l,h,q,hq=>by
  have k:=h p E7;have h1:=k.lt;have h2:=k.five;have hs:=ou (PL:=ps) fun q hq=>h q (E2 _ hq)
  rw[EH] at l;rcases DM.mp hq with e|e
  ·subst e;refine ⟨⟨hs.1,?_,?_,?_,k.us,k.heat⟩,?_⟩
   ·show cE ps<cE ps+_;lia
   ·show cE ps+_<=cE ps+5;lia
   ·show cE ps+_<=140;lia
   ·show cE ps+(p.2.1-p.1)<=(p.2.1-p.1)+cE ps;lia
  ·have r:=tZ (PL:=ps) (by lia) (fun q hq=>h q (E2 _ hq)) q e
   refine ⟨r.1,?_⟩;rw[cE];have:=r.2
   lia
theorem qu {D:Tl} (dt:∀p∈D,1<=p.2):∀{PL:List Wy},PL.length<=24->(∀p∈PL,gu D p)->fX D (cF PL)/\∀z t,cE PL<=t->cA (cF PL) z t=0
 | [],_,_=>⟨fun z m hm t=>by have:=dt _ (dv hm);show (0:Int)<=m;dsimp only at this;lia,fun _ _ _=>rfl⟩
 |p::ps,l,h=>by
  have k:=h p E7;have hs:=ou (PL:=ps) fun q hq=>h q (E2 _ hq)
  rw[EH] at l;obtain ⟨r1,r2⟩:=qu dt (PL:=ps) (by lia) fun q hq=>h q (E2 _ hq)
  have h1:=k.lt;refine ⟨fun z m hm t=>?_,fun z t ht=>?_⟩
  ·have m1:=dt _ (dv hm);dsimp only at m1;have u:=jj (w:=(cE ps,cE ps+(p.2.1-p.1),p.2.2)) k.us hm (by lia)
   show lg (cE ps,cE ps+(p.2.1-p.1),p.2.2) z t+cA (cF ps) z t<=m;unfold lg
   split
   ·rename_i q;rw[r2 z t q.1]
    lia
   ·have:=r1 z m hm t
    lia
  ·rw[cE] at ht;show lg (cE ps,cE ps+(p.2.1-p.1),p.2.2) z t+cA (cF ps) z t=0;rw[r2 z t (by lia)]
   unfold lg;rw[if_neg (by dsimp only;lia)]
   rfl
def eU (PL:List Wy) (i:Nat):Int:=(PL.getD i w0).1
def sC (PL:List Wy) (i:Nat):Int:=(PL.getD i w0).2.1
theorem sD {β:Type} {g:Nat->β} {bs cs:List β} (h:bs.Perm cs):∀l:List Nat,cs=l.map g->∃l':List Nat,l'.Perm l/\bs=l'.map g:=by
 induction h with
 |nil=>exact fun l e=>⟨l,.refl _,e⟩
 |cons x _ ih=>
  intro l e;cases l with
  |nil=>cases e
  |cons a l=>
   injection e with e1 e2
   obtain ⟨l',p,q⟩:=ih l e2;exact ⟨a::l',p.cons a,by rw[EW,<-q,e1]⟩
 |swap x y l0=>
  intro l e;cases l with
  |nil=>cases e
  |cons a l=>
   injection e with e1 e2
   cases l with
   |nil=>cases e2
   |cons b l=>
    injection e2 with e3 e4
    exact ⟨b::a::l,.swap a b l,by rw[EW,EW,<-e1,<-e3,<-e4]⟩
 |trans _ _ ih1 ih2=>
  intro l e;obtain ⟨l2,p2,q2⟩:=ih2 l e;obtain ⟨l1,p1,q1⟩:=ih1 l2 q2;exact ⟨l1,p1.trans p2,q1⟩
structure eT (PL:List Wy) (os:List Nat):Prop where
 perm:os.Perm (DT PL.length)
 rs:Rs (os.map fun i=> [eU PL i,(i:Int)])
theorem t8 (a b c d:Int):fh [a,b] [c,d]=decide (a<c∨(a=c/\b<d)):=by
 unfold fh
 by_cases h:a=c
 ·rw[if_pos h];unfold fh
  by_cases k:b=d
  ·rw[if_pos k];unfold fh;rw[decide_eq_false (by lia)]
  ·rw[if_neg k];rw[decide_eq_decide]
   lia
 ·rw[if_neg h,decide_eq_decide]
  lia
theorem eT.le {PL:List Wy} {os:List Nat} (h:eT PL os) {k l i j:Nat} (kl:k<l) (hk:os[k]?=some i) (hl:os[l]?=some j):eU PL i<=eU PL j:=by
 have p:=FI.mp h.rs;obtain ⟨k1,rfl⟩:=D4.mp hk;obtain ⟨l1,rfl⟩:=D4.mp hl;have:=p k l (by rw[D3];exact k1) (by rw[D3];exact l1) kl
 rw[List.getElem_map,List.getElem_map,t8,decide_eq_false_iff_not] at this
 lia
theorem ub {f:Nat->Ky} (inj:∀i j,f i=f j->i=j):∀{xs ys:List Nat},xs.Perm ys->Rs (xs.map f)->Rs (ys.map f)->xs=ys
 | [],ys,p,_,_=>(List.nil_perm.mp p).symm
 |x::xs,[],p,_,_=>absurd p.length_eq (by simp)
 |x::xs,y::ys,p,h1,h2=>by
  have a1:=h1.head (f y) (FC (f:=f) (p.mem_iff.mpr E7));have a2:=h2.head (f x) (FC (f:=f) (p.mem_iff.mp E7));have e:x=y:=inj _ _ (gL a2 a1);subst e;rw[ub inj (List.Perm.cons_inv p) (EF.mp h1).2 (EF.mp h2).2]
theorem eT.of_scaled {PL:List Wy} {os:List Nat} {a c:Int} (hc:1<=c) (p:os.Perm (DT PL.length)) (h:Rs (os.map fun i=> [a+c*eU PL i,(i:Int)])):eT PL os:=by
 refine ⟨p,?_⟩;unfold Rs at h⊢;rw[FX] at h⊢;refine h.imp fun {i j} q=>?_
 rw[t8,decide_eq_false_iff_not] at q⊢;intro z;apply q;rcases z with z|⟨z1,z2⟩
 ·have:c*eU PL j<c*eU PL i:=Int.mul_lt_mul_of_pos_left z (by lia)
  left
  lia
 ·right;rw[z1];exact ⟨rfl,z2⟩
theorem eT.uniq {PL:List Wy} {os qs:List Nat} (h:eT PL os) (k:eT PL qs):os=qs:=
 ub (f:=fun i=> [eU PL i,(i:Int)]) (fun i j e=>by injection e with _ e;injection e with e;lia) (h.perm.trans k.perm.symm) h.rs k.rs
theorem eT.nodup {PL:List Wy} {os:List Nat} (h:eT PL os):os.Nodup:=h.perm.nodup_iff.mpr List.nodup_range
theorem eT.lt {PL:List Wy} {os:List Nat} (h:eT PL os) {i:Nat} (hi:i∈os):i<PL.length:=Ep.mp (h.perm.mem_iff.mp hi)
theorem eT.len {PL:List Wy} {os:List Nat} (h:eT PL os):os.length=PL.length:=by rw[h.perm.length_eq,E1]
def bg (S:Int->Bool) (m:Int):List Int:=((DT m.toNat).map fun k:Nat=>(k:Int)).filter fun p=> !S p
def qw (PL:List Wy) (f:Nat->List Int) (done:List Nat) (b p:Int):Bool:=done.any fun k=>decide (b<sC PL k)&&(f k).contains p
def bp (PL:List Wy) (z:Str) (m:Int):List Nat->Nat->List Int
 | [],_=> []
 |i::done,j=>if j=i then (match gO (PL.getD i w0) z with
   |none=> []
   |some u=>(bg (qw PL (bp PL z m done) done (eU PL i)) m).take u.2.1.toNat) else bp PL z m done j
theorem iK {PL:List Wy} {z:Str} {m:Int}:∀{done:List Nat} {j:Nat},j∉done->bp PL z m done j= []
 | [],_,_=>rfl
 |i::done,j,h=>by
  rw[bp,if_neg fun e=>h (by rw[e];exact E7)]
  exact iK fun k=>h (E2 _ k)
theorem fD {PL:List Wy} {z:Str} {m:Int}:∀(done:List Nat) (j:Nat),((bp PL z m done j).length:Int)<=max 0 (bj (PL.getD j w0) z)
 | [],j=>by show (0:Int)<=_;lia
 |i::done,j=>by
  rw[bp]
  split
  ·rename_i e;subst e;unfold bj
   split
   ·rename_i e';rw[e'];simp
   ·rename_i u e';rw[e',DK];dsimp only
    lia
  ·exact fD done j
theorem qx {S S':Int->Bool} {m:Int} (h:∀p,S p=S' p):bg S m=bg S' m:=by
 unfold bg
 congr 1
 funext p
 rw[h]
def jk (PL:List Wy) (f:Nat->List Int) (t:Int):Nat->List Int
 |0=> []
 |n+1=>jk PL f t n++(if eU PL n<=t/\t<sC PL n then f n else [])
theorem qy {PL:List Wy} {f:Nat->List Int} {t p:Int}:∀{n:Nat},p∈jk PL f t n↔∃j,j<n/\(eU PL j<=t/\t<sC PL j)/\p∈f j
 |0=>by simp[jk]
 |n+1=>by
  rw[jk,DO,qy (n:=n)];constructor
  ·rintro (⟨j,a,b,c⟩|h)
   ·exact ⟨j,by lia,b,c⟩
   ·split at h
    ·rename_i q;exact ⟨n,by lia,q,h⟩
    ·cases h
  ·rintro ⟨j,a,b,c⟩
   by_cases e:j=n
   ·subst e;rw[if_pos b];exact .inr c
   ·exact .inl ⟨j,by lia,b,c⟩
theorem xw {PL:List Wy} {z:Str} {m:Int} {os:List Nat} (ho:eT PL os) {k i:Nat} (hk:os[k]?=some i) (p:Int):
  (jk PL (bp PL z m (os.take k).reverse) (eU PL i) PL.length).contains p=qw PL (bp PL z m (os.take k).reverse) (os.take k).reverse (eU PL i) p:=by
 rw[Bool.eq_iff_iff,List.contains_iff_mem,qy];unfold qw;rw[List.any_eq_true];constructor
 ·rintro ⟨j,hj,⟨h1,h2⟩,h3⟩;have jm:j∈(os.take k).reverse:=by
   by_cases q:j∈(os.take k).reverse
   ·exact q
   ·rw[iK q] at h3;cases h3
  exact ⟨j,jm,by rw[decide_eq_true h2,Bool.true_and,List.contains_iff_mem];exact h3⟩
 ·rintro ⟨j,jm,h⟩;rw[Ey,List.contains_iff_mem] at h;have h2:=of_decide_eq_true h.1;rw[Em] at jm;obtain ⟨l,hl⟩:=DP.mp jm;rw[List.getElem?_take] at hl
  split at hl
  ·rename_i lk;exact ⟨j,ho.lt (D6 hl),⟨ho.le lk hl hk,h2⟩,h.2⟩
  ·cases hl
end Sw
namespace L2
open PySem PySem.Spec PyProof.Rows
def vo (lo:Int) (n:Nat):It:=⟨fun i _=>i<n,fun i H x H'=>H'=H/\x= .int (lo-i),fun i _=>n<=i⟩
theorem qz {P:Program} {w:World} {K:D5} {tg:Expr} (it:Addr) (lo:Int) (n:Nat):Turn P w K tg (vo lo n) [it] it (fun i h=>IsRangeIter h it (lo+(i:Nat)*(-1)) ((n:Int)-(i:Nat)) (-1)) where
 mem:=by simp
 obj:=fun i h st b hb=>by
  have e:b=it:=by simpa using hb
  subst e;exact ⟨_,st,fun v z=>by
   have z':Data.fields _=Data.cell v:=z;cases z'⟩
 keep:=fun i h h' st k=>k it (by simp) _ st
 item:=by
  intro X hP hw hK hc i pins s σ H E I hf st hg;subst hP hw hK;obtain ⟨f0,f1,f2,f3,f4,f5⟩:=hf it (by simp)
  have W:=Walks.range (prog:=X.prog) (w:=X.w) (I.ok.hd hc) it lo (-1) n;refine W.item i s _ _ hg st fun v h' tk hv st' kk=>?_
  obtain ⟨t,rfl⟩:=hv;have I1:aE X pins σ H {s with heap:=h',toks:=tk}:=I.turned (fun b o hb e=>kk b o (by simpa using hb) e) f0 f1 f3 f4 f5
  refine ⟨_,rfl,lO (s:={s with heap:=h',toks:=tk}) (n:= "range_iterator") st' rfl rfl (by decide) ⟨.int (lo-i),H,I1,⟨t,?_⟩,⟨rfl,rfl⟩,st',fun b hb=>(hf b hb).1⟩⟩
  rw[show lo+(i:Int)*(-1)=lo-i by lia]
 done:=by
  intro X hP hw hK hc i pins s σ H E I hf st hg;subst hP hw hK;obtain ⟨f0,f1,f2,f3,f4,f5⟩:=hf it (by simp)
  exact wpAny_pyNext_range_end (I.ok.hd hc) st (by have:n<=i:=hg;lia) fun h' eb=>⟨rfl,I.turned (t':=s.toks) (fun b o hb e=>eb b o hb e) f0 f1 f3 f4 f5⟩
 self:=fun _ _ _ _ _ st h=>wpAny_pyIter_rangeiter st h
variable {X:Cx} {tg:Expr}
theorem vq {a b:Int} (h1: -(2^62)<=a) (h2:a<2^62) (h3: -(2^62)<=b) (h4:b<2^62):Builtin.Range.small a b (-1)=true:=by
 have sz:0<=Builtin.Range.rangeSize a b (-1)/\Builtin.Range.rangeSize a b (-1)<2^63:=by
  unfold Builtin.Range.rangeSize;rw[if_neg (by decide)]
  split
  ·rw[show-(-1:Int)=1 by decide,Int.ediv_one];lia
  ·lia
 unfold Builtin.Range.small;generalize Builtin.Range.rangeSize a b (-1)=z at sz⊢;unfold Builtin.Range.rangeFitsLong;simp;omega
theorem vt {pins:GT} {σ:St} {H:Hp} {s:Shared} {R:It->Hp->Prop} {E:GR} {lo hi:Int} {t u v:Tok} {tk:Nat} (I:aE X pins σ H s) (h1: -(2^62)<=lo) (h2:lo<2^62) (h3: -(2^62)<=hi) (h4:hi<2^62)
  (q:R (vo lo (lo-hi).toNat) H):wpAny (model X.prog X.w) X.A (pyIter (.ref s.heap.objs.size)) (Cg X pins σ tg R) E {s with heap:=s.heap.push {cls:= .type "range",data:= .fields #[.int lo t,.int hi u,.int (-1) v]},toks:=tk}:=by
 refine wpAny_pyIter_range (IsRange.new ..) (vq h1 h2 h3 h4) ?_;have I1:aE X pins σ H {s with heap:=s.heap.push {cls:= .type "range",data:= .fields #[.int lo t,.int hi u,.int (-1) v]},toks:=tk}:=I.kept fun b o e=>Heap.get?_push_of_some _ e
 refine ⟨(s.heap.push {cls:= .type "range",data:= .fields #[.int lo t,.int hi u,.int (-1) v]}).objs.size,[(s.heap.push {cls:= .type "range",data:= .fields #[.int lo t,.int hi u,.int (-1) v]}).objs.size],_,_,H,rfl,
  I1.kept (t':=tk) fun b o e=>Heap.get?_push_of_some _ e,qz _ lo (lo-hi).toNat,?_,fun b hb=>?_,q⟩
 ·have e1:lo+((0:Nat):Int)*(-1)=lo:=by simp
  have e2:(((lo-hi).toNat:Nat):Int)-((0:Nat):Int)=Builtin.Range.rangeSize lo hi (-1):=by
   unfold Builtin.Range.rangeSize;rw[if_neg (by decide)]
   split
   ·rw[show-(-1:Int)=1 by decide,Int.ediv_one];lia
   ·lia
  show IsRangeIter _ _ (lo+((0:Nat):Int)*(-1)) ((((lo-hi).toNat:Nat):Int)-((0:Nat):Int)) (-1);rw[e1,e2];exact Heap.get?_push_size _ rfl
 ·have e:b=(s.heap.push {cls:= .type "range",data:= .fields #[.int lo t,.int hi u,.int (-1) v]}).objs.size:=by simpa using hb
  subst e;exact I1.fpOk (D8 _) (I1.hok.fresh (D8 _))
def BF (ta:TA):TI:=fun σ H R=>ta σ H fun vs H1=>∃i j:Int,vs= [.int i,.int j,.int (-1)]/\(-(2^62)<=i/\i<2^62/\ -(2^62)<=j/\j<2^62)/\R (vo i (i-j).toNat) H1
theorem vv {a b c:Expr} {ta:TA} {p pos:Pos} (hg:Gl X "range") (hm:X.mg "range" =none) (ha:PA X [a,b,c] ta) (hs:starEach [a,b,c] X.env=(false,eval a X.env)::starEach [b,c] X.env:=by rfl) (hp:((backTo pos (starEach [b,c] X.env)).any fun x=>x.fst)=false:=by rfl):
  PI X tg (.Call (.Name "range" p) [a,b,c] [] pos) (BF ta):=by
 intro pins s σ H R I h;refine Call_ (cW I hg hm boot_range (EE (a9 (ha pos pins s σ H _ I h) fun us s1 ⟨vs,H1,I1,r1,q1⟩=>?_) hs hp))
 obtain ⟨i,j,e,⟨q1,q2,q3,q4⟩,q⟩:=q1;subst e;cases r1 with
 |cons r rr=>
  cases rr with
  |cons r' rr=>
   cases rr with
   |cons r'' rr=>
    cases rr;obtain ⟨t,rfl⟩:=r;obtain ⟨t',rfl⟩:=r';obtain ⟨t'',rfl⟩:=r'';exact call_range_3 (by decide) (vt I1 q1 q2 q3 q4 q) (.inl (by
     unfold Builtin.divisionGoesByPylong;simp;exact fun z=>absurd z (by decide)))
theorem sE {lo:Int} {n:Nat} {g:TG} {tb:TS} {D:Ends} {σ:St} {H:Hp} (Pv:Nat->St->Hp->Prop) (h0:Pv 0 σ H)
  (hs:∀i σ H,i<n->Pv i σ H->g (.int (lo-i)) σ H fun σ2 H2=>tb {D with nx:=Pv (i+1),ct:=Pv (i+1),bk:=D.nx} σ2 H2) (hd:∀σ H,Pv n σ H->D.nx σ H):
  ∃W:Nat->Nat->St->Hp->Prop,(∃m,W 0 m σ H)/\∀i m σ H,W i m σ H->
   ((vo lo n).stop i H/\D.nx σ H)∨((vo lo n).go i H/\∃N:St->Hp->Prop,(∀σ' H',N σ' H'->∃m',m'<m/\W (i+1) m' σ' H')/\∀x H',(vo lo n).yld i H x H'->g x σ H' fun σ2 H2=>tb {D with nx:=N,ct:=N,bk:=D.nx} σ2 H2):=by
 refine ⟨fun i m σ H=>m=n-i/\i<=n/\Pv i σ H,⟨n,by simp,EC _,h0⟩,?_⟩
 rintro i m σ H ⟨rfl,hi,p⟩
 by_cases hlt:i<n
 ·refine .inr ⟨hlt,Pv (i+1),fun σ' H' p'=>⟨n-(i+1),by lia,rfl,hlt,p'⟩,fun x H' y=>?_⟩
  obtain ⟨e,y⟩:=y;subst e y;exact hs i σ _ hlt p
 ·have e:i=n:=by lia
  subst e;exact .inl ⟨D8 _,hd σ H p⟩
end L2
namespace Sw
open PySem L2 XH Hm PyProof.Rows So
theorem yV {X:Cx} (n:Nat) (hu:X.A.units+(n+1)<cLine):fY X (compareOp .Eq) (fun x y H Q=>∃(a b:Addr) (ka kb:List (Key×V)),x= .ref a/\y= .ref b/\H a=some (.dK ka)/\H b=some (.dK kb)/\ka.length=kb.length/\(∀(i:Nat) (k:Key) (v:V),ka[i]?=some (k,v)->∃v',dI kb k=some v'/\vH X.K H n v v')/\Q (.bl true) H):=by
 intro pins s σ H x y v u Q I rx ry h;obtain ⟨a,b,ka,kb,rfl,rfl,e1,e2,l,hv,hq⟩:=h;cases rx;cases ry;obtain ⟨z1,s1,w1,k1,o1⟩:=j6 I.hok e1;obtain ⟨z2,s2,w2,k2,o2⟩:=j6 I.hok e2;refine yw s1 s2 o1 o2 (Nat.lt_of_le_of_lt (Nat.le_add_right _ _) hu) (by rw[<-k1.length,<-k2.length,l]) (fun i k v hv'=>?_) ⟨.bl true,H,I,rfl,hq⟩
 obtain ⟨⟨k',v'⟩,hk,rfl,rv⟩:=i6 k1 hv';obtain ⟨y,hy,ak⟩:=hv i k' v' hk;have ro:=k2.val k';rw[hy] at ro;obtain ⟨u',hu',ru⟩:=ic.some_of ro;refine ⟨_,hu',fun E Q q=>nW I n X.A.in1 v' y v u' ?_ ak rv ru _ _ E Q q⟩
 show X.A.units+1+n<cLine
 lia
abbrev lJ:RA (List Int):=qj (og V.int)
def uc:Sp:=fun vs H Q _=>∃(hl:Addr) (k m:Int) (hs:List Int),vs= [.ref hl,.int k]/\H hl=some (.lst (hs.map V.int))/\hs.length<=1000/\0<=k/\m<=100/\k.toNat<=(bg hs.contains m).length/\
 ∀(p:Addr) (H':Hp),az H H'->H p=none->H' p=some (.lst (((bg hs.contains m).take k.toNat).map V.int))->Q (.ref p) H'
theorem sF (S:Int->Bool) (n:Nat):bg S ((n:Int)+1)=bg S n++(if S n=true then [] else [(n:Int)]):=by
 unfold bg;rw[show ((n:Int)+1).toNat=n+1 by lia,E9,FU,EA,List.filter_append]
 congr 1
 rw[EW,List.map_nil,List.filter_cons];cases S n<;>rfl
theorem mQ (S:Int->Bool) {n m:Nat} (h:n<=m):∃r,bg S m=bg S n++r:=by
 unfold bg;obtain ⟨d,rfl⟩:=Nat.le.dest h;rw[E9,E9,List.range_add,EA,List.filter_append];exact ⟨_,rfl⟩
theorem sH {S:Int->Bool} {n m k:Nat} (h:n<=m) (l:(bg S n).length=k):(bg S m).take k=bg S n:=by
 obtain ⟨r,e⟩:=mQ S h;rw[e,List.take_append,l,Fg,List.take_zero,FK,ET (by lia)]
theorem xz {S:Int->Bool} {n m:Nat} (h:(bg S n).length<(bg S m).length):n<m:=by
 rcases F2 n m with q|q
 ·exact q
 ·obtain ⟨r,e⟩:=mQ S q;rw[e,D7] at h
  lia
theorem vw (S:Int->Bool) (m:Int):bg S (max 0 m)=bg S m:=by
 unfold bg;rw[show (max 0 m).toNat=m.toNat by lia]
theorem vz (S:Int->Bool) (m:Int):bg S m=bg S ((m.toNat:Nat):Int):=rfl
theorem xA (S:Int->Bool) (n:Nat):(bg S n).length<=n:=by
 unfold bg;refine ED (List.length_filter_le _ _) ?_;rw[D3,E1,E9];exact D8 _
theorem vA (hs:List Int):(hs.map V.int).all iq=true:=by
 rw[EY];intro x hx;obtain ⟨y,_,rfl⟩:=ES.mp hx
 rfl
theorem qA (x:Int):∀hs:List Int,Cj (.int x) (hs.map V.int)=hs.contains x
 | []=>rfl
 |y::ys=>by
  have ih:=qA x ys;unfold Cj at ih⊢;rw[EW,FV,ih,List.contains_cons]
  congr 1
  simp[x6];exact BEq.comm
def jM (R:List Rn) (ps:List (List Int)) (t:Int):Nat->List Int
 |0=> []
 |n+1=>jM R ps t n++(if dU (R.getD n (0,0,0)) t=true then ps.getD n [] else [])
def xB:Sp:=fun vs H Q _=>∃(t pl:Addr) (n:Int) (R:List Rn) (M:List Int) (ps:List (List Int)),vs= [.ref t,.ref pl,.int n]/\fU H t R M/\bJ lJ An H pl ps/\ps.length=R.length/\R.length<=24/\(∀p∈ps,p.length<=8)/\
 ∀(l:Addr) (H':Hp),az H H'->H l=none->H' l=some (.lst ((jM R ps n R.length).map V.int))->Q (.ref l) H'
theorem kO {R:List Rn} {ps:List (List Int)} {t:Int} (h:∀p∈ps,p.length<=8):∀n,(jM R ps t n).length<=8*n
 |0=>by simp[jM]
 |n+1=>by
  rw[jM,D7];have ih:=kO h n (R:=R) (t:=t);have:(if dU (R.getD n (0,0,0)) t=true then ps.getD n [] else []).length<=8:=by
   split
   ·rw[DN];cases e:ps[n]? with
    |none=>simp
    |some p=>exact h p (D6 e)
   ·simp
  lia
def cK (PL:List Wy) (z:Str) (m:Int) (os:List Nat):List (List Int):=(DT PL.length).map (bp PL z m os.reverse)
def lK (a c:Int) (PL:List Wy):RA Nat:=vg fun i=> [.int (a+c*eU PL i),.int (i:Int)]
instance {a c:Int} {PL:List Wy}:Mv (lK a c PL):=inferInstanceAs (Mv (vg _))
def xC (C:Addr):Sp:=fun vs H Q _=>∃(x t ol:Addr) (z:Str) (D:Tl) (PL:List Wy) (a c m:Int) (os:List Nat),vs= [.ref x,.ref t,.str z,.ref ol]/\eP C true H x t D (dW c PL) [] [] (dP a c PL) []/\bJ (lK a c PL) An H ol os/\eT PL os/\(∀p∈PL,gu D p)/\fX D PL/\bV D z=some m/\1<=m/\m<=8/\1<=c/\
 ∀(p:Addr) (H':Hp),az H H'->H p=none->bJ lJ (fun q=>H q=none/\q≠p) H' p (cK PL z m os)->Q (.ref p) H'
theorem ue {PL:List Wy} {a c b:Int} {f:Nat->List Int} (hc:1<=c):∀n,n<=PL.length->jM (dP a c PL) ((DT PL.length).map f) (a+c*b) n=jk PL f b n
 |0,_=>rfl
 |n+1,h=>by
  have hp:PL[n]?=some PL[n]:=D0 (by lia)
  rw[jM,jk,ue hc n (by lia),jE hp,tX hc]
  have e:(a+c*b-a)/c=b:=by rw[show a+c*b-a=c*b by lia,Int.mul_ediv_cancel_left b (by lia)]
  have e2:((DT PL.length).map f).getD n []=f n:=by rw[DN,D9,Eg (by lia)];rfl
  have b1:eU PL n=PL[n].1:=by unfold eU;rw[DN,hp];rfl
  have b2:sC PL n=PL[n].2.1:=by unfold sC;rw[DN,hp];rfl
  rw[e,e2,b1,b2]
  congr 1
  by_cases q:PL[n].1<=b/\b<PL[n].2.1
  ·rw[if_pos (decide_eq_true q),if_pos q]
  ·rw[if_neg (by simpa using q),if_neg q]
theorem qB {PL:List Wy} {z:Str} {f:Nat->List Int} {t:Int} {i:Nat} (hf:∀j,((f j).length:Int)<=max 0 (bj (PL.getD j w0) z)) (h0:∀j,0<=bj (PL.getD j w0) z) (hi:f i= []) (gi:eU PL i<=t/\t<sC PL i):
  ∀n,n<=PL.length->((jk PL f t n).length:Int)+(if i<n then bj (PL.getD i w0) z else 0)<=cA (PL.take n) z t
 |0,_=>by simp[jk,cA]
 |n+1,h=>by
  have hp:PL[n]?=some PL[n]:=D0 (by lia)
  have ih:=qB hf h0 hi gi n (by lia)
  have gp:PL.getD n w0=PL[n]:=by rw[DN,hp];rfl
  have b1:eU PL n=PL[n].1:=by unfold eU;rw[gp]
  have b2:sC PL n=PL[n].2.1:=by unfold sC;rw[gp]
  have fn:=hf n;have hn:=h0 n;rw[gp] at fn hn;rw[jk,E8,hp,EV,eR,D7];unfold lg;rw[b1,b2]
  by_cases e:i=n
  ·subst e;rw[if_neg (FW _)] at ih;rw[b1,b2] at gi;rw[hi,if_pos (FS _),gp,if_pos gi];rw[if_pos gi];simp;omega
  ·have e2:(i<n+1)=(i<n):=by rw[eq_iff_iff];lia
   simp only[e2]
   by_cases q:PL[n].1<=t/\t<PL[n].2.1
   ·rw[if_pos q,if_pos q]
    lia
   ·rw[if_neg q,if_neg q,List.length_nil,Nat.add_zero,Int.add_zero];exact ih
theorem xD (hs:List Int) (m:Int):m<=((bg hs.contains m).length:Int)+hs.length:=by
 unfold bg
 let L:=(DT m.toNat).map fun k:Nat=>(k:Int)
 have nd:L.Nodup:=by
  show ((DT m.toNat).map fun k:Nat=>(k:Int)).Nodup
  unfold List.Nodup;rw[FX];exact List.nodup_range.imp fun h e=>h (by lia)
 have l1:L.length=m.toNat:=by show ((DT m.toNat).map _).length=_;rw[D3,E1]
 have c:=List.length_eq_countP_add_countP (fun p=> !hs.contains p) (l:=L)
 rw[List.countP_eq_length_filter,List.countP_eq_length_filter] at c;have k:(L.filter fun a=>decide ¬((!hs.contains a)=true)).length<=hs.length:=by
  refine mO (nd.filter _) fun y hy=>?_
  have:=(Fj.mp hy).2
  simpa using this
 show m<=((L.filter _).length:Int)+_
 lia
theorem qC {D:Tl} {PL:List Wy} {z:Str} {m:Int} {os:List Nat} {k i:Nat} {u:Us} (ho:eT PL os) (hk:os[k]?=some i) (ok:∀p∈PL,gu D p) (cap:fX D PL) (hm:bV D z=some m) (m0:0<=m) (hu:gO (PL.getD i w0) z=some u):
  u.2.1.toNat<=(bg (jk PL (bp PL z m (os.take k).reverse) (eU PL i) PL.length).contains m).length:=by
 have il:=ho.lt (D6 hk);have hp:PL[i]?=some PL[i]:=D0 il;have gp:PL.getD i w0=PL[i]:=by rw[DN,hp];rfl
 have pi:=ok _ (Ed il);have h0:∀j,0<=bj (PL.getD j w0) z:=fun j=>by
  cases e:PL[j]? with
  |none=>rw[DN,e];exact Int.le_refl _
  |some p=>rw[DN,e];exact (jj (ok p (D6 e)).us hm m0).1
 have nin:i∉(os.take k).reverse:=fun h=>by
  rw[Em] at h;obtain ⟨l,hl⟩:=DP.mp h;rw[List.getElem?_take] at hl
  split at hl
  ·rename_i lk;have:=(List.getElem?_inj (D4.mp hl).1 ho.nodup).mp (hl.trans hk.symm)
   lia
  ·cases hl
 have H:=qB (f:=bp PL z m (os.take k).reverse) (i:=i) (t:=eU PL i) (fD _) h0 (iK nin) (by unfold eU sC;rw[gp];exact ⟨Int.le_refl _,pi.lt⟩) PL.length (D8 _)
 rw[if_pos il,EM] at H;have c:=cap z m hm (eU PL i);have e:bj (PL.getD i w0) z=u.2.1:=by unfold bj;rw[hu]
 have fl:=xD (jk PL (bp PL z m (os.take k).reverse) (eU PL i) PL.length) m;rw[e] at H
 lia
theorem A2.set_ {α:Type} {R:V->α->Prop} {vs:List V} {xs:List α} (h:A2 R vs xs) {i:Nat} {v:V} {x:α} (r:R v x):A2 R (vs.set i v) (xs.set i x):=by
 refine ⟨by rw[List.length_set,List.length_set,h.1],fun j u y e1 e2=>?_⟩
 rw[List.getElem?_set] at e1 e2
 by_cases k:i=j
 ·rw[if_pos k] at e1 e2
  split at e1
  ·cases e1
   split at e2
   ·cases e2;exact r
   ·cases e2
  ·cases e1
 ·rw[if_neg k] at e1 e2;exact h.2 j u y e1 e2
theorem qD {os:List Nat} {k i:Nat} (h:os[k]?=some i):(os.take (k+1)).reverse=i::(os.take k).reverse:=by
 rw[E8,h,EV,List.reverse_append]
 rfl
theorem kP {PL:List Wy} {os:List Nat} (ho:eT PL os) {k i:Nat} (hk:os[k]?=some i):i∉(os.take k).reverse:=fun h=>by
 rw[Em] at h;obtain ⟨l,hl⟩:=DP.mp h;rw[List.getElem?_take] at hl
 split at hl
 ·rename_i lk;have:=(List.getElem?_inj (D4.mp hl).1 ho.nodup).mp (hl.trans hk.symm)
  lia
 ·cases hl
theorem mR {PL:List Wy} {z:Str} {m:Int} {done:List Nat} {i n:Nat} {u:Us} (hu:gO (PL.getD i w0) z=some u):
  (DT n).map (bp PL z m (i::done))=((DT n).map (bp PL z m done)).set i ((bg (qw PL (bp PL z m done) done (eU PL i)) m).take u.2.1.toNat):=by
 apply FA;intro j;rw[List.getElem?_set,D9,D9,D3,E1]
 by_cases jl:j<n
 ·rw[Eg jl];show some (bp PL z m (i::done) j)=_;rw[bp]
  by_cases e:j=i
  ·subst e;rw[if_pos rfl,if_pos rfl,if_pos jl,hu]
  ·rw[if_neg e,if_neg (Ne.symm e)]
   rfl
 ·rw[EL (by rw[E1];lia)]
  by_cases e:i=j
  ·rw[if_pos e,if_neg (by lia)];rfl
  ·rw[if_neg e];rfl
theorem kQ {PL:List Wy} {z:Str} {m:Int} {done:List Nat} {i n:Nat} (hu:gO (PL.getD i w0) z=none) (ni:i∉done):
  (DT n).map (bp PL z m (i::done))=(DT n).map (bp PL z m done):=by
 apply F3;intro j _;rw[bp]
 by_cases e:j=i
 ·subst e;rw[if_pos rfl,hu,iK ni]
 ·rw[if_neg e]
theorem xE {PL:List Wy} {a c:Int} {i:Nat} (hi:i<PL.length) (z:Str):gO (dw (dW c PL) (dP a c PL) i) z=gO (PL.getD i w0) z:=by
 have hp:PL[i]?=some PL[i]:=D0 hi;rw[jh hp (by rw[jE hp]),DN,hp]
 rfl
theorem jF {D:Tl} {PL:List Wy} {z:Str} {m:Int} (ok:∀p∈PL,gu D p) (hm:bV D z=some m) (m1:1<=m) (m8:m<=8) (done:List Nat) {n:Nat}:∀p∈(DT n).map (bp PL z m done),p.length<=8:=fun p hp=>by
 obtain ⟨j,_,rfl⟩:=ES.mp hp;have l:=fD (PL:=PL) (z:=z) (m:=m) done j;have:bj (PL.getD j w0) z<=m:=by
  cases e:PL[j]? with
  |none=>rw[DN,e];show (0:Int)<=m;lia
  |some p=>rw[DN,e];exact (jj (ok p (D6 e)).us hm (by lia)).2
 lia
theorem yW {K:D5} {β:Type} {l1:Addr} {xs:List V} {n:Nat} {g:TG} {js:List Nat} {te:TE} {σ:L2.St} {H1:Hp} {Q:VK} (R:RA β) [Mv R] (Z:Addr->Prop) (f:Nat->β) (q1:aK K H1 l1 xs) (hz:xs.length<=sizeLine) (hZ:∀a,Z a->H1 a≠none)
  (step:∀(i:Nat) (x:V),xs[i]?=some x->∀H2,az H1 H2->∀T,H2 T=none->∀o:L2.St,o.length=n->∀Q':VK,(∀v H5,az (L2.av H2 T (.tup [.int i,x])) H5->R (fun a=>H2 a=none∨Z a) H5 v (f i)->Q' v H5)->
   g (.ref T) (o++aM js σ) (L2.av H2 T (.tup [.int i,x])) fun σ4 H4=>(∃o':L2.St,o'.length=n/\σ4=o'++aM js σ)/\te σ4 H4 Q')
  (fin:∀p H',H1 p=none->az H1 H'->bJ R (fun a=>a≠p/\(H1 a=none∨Z a)) H' p ((DT xs.length).map f)->Q (.ref p) H'):wT n g js te σ Q (AS K l1) H1:=by
 intro p hp;refine ⟨fun i m zs H2=>i<=xs.length/\m=xs.length-i/\az H1 H2/\H2 p=some (.lst zs)/\A2 (R (fun a=>a≠p/\(H1 a=none∨Z a)) H2) zs ((DT i).map f),⟨xs.length,EC _,rfl,Sw.ai hp _,ag,A2.nil⟩,?_⟩
 rintro i m zs H2 ⟨hi,rfl,gg,e,r⟩;refine ⟨e,?_⟩;have s1:=gg.seq q1
 by_cases hin:i<xs.length
 ·refine .inr ⟨⟨xs,xs[i]'(by lia),s1,D0 _⟩,?_,fun x H3 hy o ho=>?_⟩
  ·have:=r.1;rw[D3,E1] at this
   lia
  obtain ⟨T,a,rfl,nT,ha,rfl⟩:=hy;have gT:=Sw.ai nT (.tup [.int i,a]);refine step i a (ha xs s1) H2 gg T nT o ho _ fun v H5 g5 ry=>?_
  have g25:=gT.trans g5;refine ⟨g25 _ _ e,xs.length-(i+1),by lia,hin,rfl,Sw.dZ (gg.trans g25) hp _,ag,?_⟩
  rw[FU,EA];have np:¬(p≠p/\(H1 p=none∨Z p)):=fun z=>z.1 rfl
  refine ((r.imp fun v b q=>k7 q g25).snoc (xf ry fun a ha=>?_)).imp fun v b q=>yK q np _
  rcases ha with h|h
  ·exact ⟨(fun z=>by rw[z,e] at h;cases h),.inl (gg.free h)⟩
  ·exact ⟨fun z=>hZ a h (z▸hp),.inr h⟩
 ·have e2:i=xs.length:=by lia
  subst e2;exact .inl ⟨⟨xs,s1,D8 _⟩,fin p H2 hp gg ⟨zs,e,r⟩⟩
def cT (D:Tl) (as:GW):List (Key×V):=List.zipWith (fun p a=>((.inr p.1:Key),V.ref a)) D as
structure dS (H0 H:Hp) (rd:Addr) (D:Tl) (F:Str×Int->List (List Int)) (as:GW):Prop where
 len:as.length=D.length
 e:H rd=some (.dK (cT D as))
 nd:as.Nodup
 new:∀a∈as,H0 a=none
 each:∀(i:Nat) (p:Str×Int) (a:Addr),D[i]?=some p->as[i]?=some a->bJ lJ (fun q=>H0 q=none/\q∉as) H a (F p)
theorem dO {D:Tl} {as:GW} (h:as.length=D.length):(cT D as).length=D.length:=by
 unfold cT;rw[List.length_zipWith,h,Nat.min_self]
theorem uf {D:Tl} {as:GW} {i:Nat} {k:Key} {v:V} (h:(cT D as)[i]?=some (k,v)):∃p a,D[i]?=some p/\as[i]?=some a/\k= .inr p.1/\v= .ref a:=by
 unfold cT at h;rw[List.getElem?_zipWith] at h;cases e1:D[i]? with
 |none=>rw[e1] at h;cases h
 |some p=>
  cases e2:as[i]? with
  |none=>rw[e1,e2] at h;cases h
  |some a=>
   rw[e1,e2] at h;cases h;exact ⟨p,a,rfl,rfl,rfl,rfl⟩
theorem fE:∀{D:Tl} {as:GW} {i:Nat} {p:Str×Int} {a:Addr},(D.map (·.1)).Nodup->D[i]?=some p->as[i]?=some a->dI (cT D as) (.inr p.1)=some (.ref a)
 | [],_,_,_,_,_,h,_=>by simp at h
 |_::_,[],_,_,_,_,_,h=>by simp at h
 |d::D,b::as,0,p,a,_,h1,h2=>by
  simp at h1 h2;subst h1 h2;exact cj rfl
 |d::D,b::as,i+1,p,a,nd,h1,h2=>by
  rw[EW,FJ] at nd;have h1':D[i]?=some p:=by simpa using h1
  have ne:(Sum.inr d.1:Key)≠ .inr p.1:=fun e=>nd.1 (by injection e with e;rw[e];exact FC (f:=Prod.fst) (D6 h1'))
  show dI (((.inr d.1:Key),V.ref b)::cT D as) _=_;rw[cr ne];exact fE nd.2 h1' (by simpa using h2)
theorem mS:∀{D:Tl} {as:GW} {z:Str},z∉D.map (·.1)->((cT D as).any fun kv=>decide (kv.1=(.inr z:Key)))=false
 | [],_,_,_=>rfl
 |_::_,[],_,_=>rfl
 |d::D,b::as,z,h=>by
  rw[EW,DM,not_or] at h;show (decide ((.inr d.1:Key)= .inr z)||_)=false;rw[decide_eq_false (fun e=>h.1 (by injection e with e;exact e.symm)),FF]
  exact mS h.2
theorem mT:∀{D:Tl} {as:GW} (p:Str×Int) (a:Addr),as.length=D.length->cT (D++ [p]) (as++ [a])=cT D as++ [(.inr p.1,.ref a)]
 | [],[],_,_,_=>rfl
 | [],_::_,_,_,h=>by cases h
 |_::_,[],_,_,h=>by cases h
 |d::D,b::as,p,a,h=>by
  show _::cT (D++ [p]) (as++ [a])=_;rw[mT p a (by simpa using h)]
  rfl
theorem qE {D:Tl} {as:GW} {p:Str×Int} {a:Addr} (l:as.length=D.length) (h:p.1∉D.map (·.1)):putK (cT D as) (.inr p.1) (.ref a)=cT (D++ [p]) (as++ [a]):=by
 rw[mT p a l];unfold putK;rw[if_neg (by rw[mS h];exact DY)]
theorem dS.put {H0 H H2:Hp} {rd:Addr} {D:Tl} {F:Str×Int->List (List Int)} {as:GW} {p:Str×Int} {a:Addr} (h:dS H0 H rd D F as) (nr:H0 rd=none) (g:az H H2) (ha:H a=none) (ga:az H0 H) (hl:bJ lJ (fun q=>H q=none/\q≠a) H2 a (F p)) (np:p.1∉D.map (·.1)):
  dS H0 (av H2 rd (.dK (putK (cT D as) (.inr p.1) (.ref a)))) rd (D++ [p]) F (as++ [a]):=by
 have ral:∀b∈as,H b≠none:=fun b hb=>by
  obtain ⟨i,hi⟩:=DP.mp hb;have il:=(D4.mp hi).1;obtain ⟨vs,e,_⟩:=h.each i _ b (D0 (by rw[<-h.len];exact il)) hi
  rw[e];exact nofun
 have ea:H rd≠none:=by rw[h.e];exact nofun
 have an:a∉as:=fun z=>ral a z ha
 have lr:∀b:Addr,(∃vs,H2 b=some (.lst vs))->b≠rd:=fun b ⟨vs,e⟩ z=>by
  rw[z,g _ _ h.e] at e;cases e
 refine ⟨by rw[D7,D7,h.len];rfl,by rw[qE h.len np];exact ag,?_,?_,?_⟩
 ·exact FN.mpr ⟨h.nd,by simp,fun x hx y hy e=>an (by rw[DR] at hy;rw[<-hy,<-e];exact hx)⟩
 ·intro b hb;rcases DO.mp hb with q|q
  ·exact h.new b q
  ·rw[DR.mp q];exact ga.free ha
 ·intro i q b h1 h2;rcases F2 i D.length with il|il
  ·rw[DQ il] at h1;rw[DQ (by rw[h.len];exact il)] at h2
   have L:=(h.each i q b h1 h2);obtain ⟨vs,e,r⟩:=L;have L2:bJ lJ (fun q=>(H0 q=none/\q∉as++ [a])/\q≠rd) H2 b (F q):=⟨vs,g _ _ e,r.imp fun v x k=>by
    obtain ⟨l,rfl,⟨p1,p2⟩,us,el,ru⟩:=k;refine ⟨l,rfl,⟨⟨p1,fun z=>?_⟩,lr l ⟨us,g _ _ el⟩⟩,us,g _ _ el,ru⟩
    rcases DO.mp z with k|k
    ·exact p2 k
    ·rw[DR.mp k,ha] at el;cases el⟩
   refine (bJ.upd L2 (fun z=>z.2 rfl) (lr b ⟨vs,g _ _ e⟩) _).mono fun _ k=>k.1
  ·have ie:i=D.length:=by
    rcases F2 D.length i with k|k
    ·rw[EL (by rw[D7];simp;lia)] at h1;cases h1
    ·lia
   subst ie;rw[DH (D8 _),Fg] at h1;rw[<-h.len,DH (D8 _),Fg] at h2;cases h1;cases h2;obtain ⟨vs,e,r⟩:=hl;have L2:bJ lJ (fun q=>(H0 q=none/\q∉as++ [a])/\q≠rd) H2 a (F p):=⟨vs,e,r.imp fun v x k=>by
    obtain ⟨l,rfl,⟨p1,p2⟩,us,el,ru⟩:=k;refine ⟨l,rfl,⟨⟨ga.free p1,fun z=>?_⟩,lr l ⟨us,el⟩⟩,us,el,ru⟩
    rcases DO.mp z with k|k
    ·exact ral l k p1
    ·exact p2 (DR.mp k)⟩
   exact (bJ.upd L2 (fun z=>z.2 rfl) (lr a ⟨vs,e⟩) _).mono fun _ k=>k.1
theorem dS.same {H0 H H':Hp} {rd:Addr} {D:Tl} {F:Str×Int->List (List Int)} {as:GW} (h:dS H0 H rd D F as) (g:az H H'):dS H0 H' rd D F as:=⟨h.len,g _ _ h.e,h.nd,h.new,fun i p a h1 h2=>(h.each i p a h1 h2).same g⟩
theorem dS.upd {H0 H:Hp} {rd:Addr} {D:Tl} {F:Str×Int->List (List Int)} {as:GW} (h:dS H0 H rd D F as) {x:Addr} (hx:H0 x≠none) (nr:rd≠x) (o:HO):dS H0 (L2.av H x o) rd D F as:=
 ⟨h.len,by rw[ar nr];exact h.e,h.nd,h.new,fun i p a h1 h2=>(h.each i p a h1 h2).upd (fun z=>hx z.1) (fun z=>hx (by rw[<-z];exact h.new a (D6 h2))) o⟩
def kS (C:Addr):Sp:=fun vs H Q _=>∃(x t:Addr) (D:Tl) (PL:List Wy) (a c:Int),vs= [.ref x,.ref t]/\eP C false H x t D (dW c PL) [] [] (dP a c PL) []/\(∀p∈PL,gu D p)/\fX D PL/\1<=c/\0<=a/\
 ∀(os:List Nat) (rd:Addr) (H':Hp) (as:GW),eT PL os->az H H'->H rd=none->dS H H' rd D (fun p=>cK PL p.1 p.2 os) as->Q (.ref rd) H'
theorem BG {PL:List Wy} {a c:Int} {i:Nat} {r:Rn} (h:(dP a c PL)[i]?=some r):i<PL.length/\r.1=a+c*eU PL i:=by
 unfold dP at h;rw[D9] at h;obtain ⟨p,hp,rfl⟩:=DV.mp h;refine ⟨(D4.mp hp).1,?_⟩;unfold eU;rw[DN,hp]
 rfl
def yX (H:Hp) (v:V):Ky:=match v with
 | .ref a=>(match H a with
  |some (.tup [.int x,.int y])=> [x,y]
  |_=> [])
 |_=> []
theorem xF {H:Hp} {P:Addr->Prop} {vs:List V} {PL:List Wy} {a c:Int} (hc:1<=c) (r:A2 (lK a c PL P H) vs (DT PL.length)):
  (∀v∈vs,Th true H v (yX H v))/\∀ws:List V,ws.Perm vs->Rs (ws.map (yX H))->∃os,eT PL os/\A2 (lK a c PL P H) ws os:=by
 have lv:vs.length=PL.length:=by rw[r.1,E1]
 have each:∀i,i<PL.length->lK a c PL P H (vs.getD i .non) i/\yX H (vs.getD i .non)= [a+c*eU PL i,(i:Int)]:=fun i hi=>by
  have hv:vs[i]?=some vs[i]:=D0 (by lia)
  have k:=r.2 i _ i hv (Eg hi);rw[bR hv];refine ⟨k,?_⟩;obtain ⟨t,e1,_,e2⟩:=k;rw[e1];show (match H t with
   |some (.tup [.int x,.int y])=> [x,y]
   |_=> [])=_
  rw[e2]
 have ev:vs=(DT PL.length).map fun i=>vs.getD i .non:=by
  apply FA;intro i;rw[D9];rcases F2 i PL.length with q|q
  ·rw[Eg q,D0 (by lia),Ek,bR (D0 (by lia))]
  ·rw[EL (by lia),EL (by rw[E1];lia)]
   rfl
 refine ⟨fun v hv=>?_,fun ws pw rs=>?_⟩
 ·rw[ev] at hv;obtain ⟨i,hi,rfl⟩:=ES.mp hv;obtain ⟨k,e⟩:=each i (Ep.mp hi);rw[e];obtain ⟨t,e1,_,e2⟩:=k;exact ⟨t,e1,e2,by simp,by show 2<=sizeLine;decide⟩
 ·obtain ⟨os,po,eo⟩:=sD (g:=fun i=>vs.getD i .non) pw (DT PL.length) ev
  have ol:∀i∈os,i<PL.length:=fun i hi=>Ep.mp (po.mem_iff.mp hi)
  refine ⟨os,eT.of_scaled (a:=a) hc po ?_,?_⟩
  ·rw[eo,En] at rs;rw[F3 (g:=(yX H) ∘ fun i=>vs.getD i .non) fun i hi=>((each i (ol i hi)).2).symm]
   exact rs
  ·rw[eo];refine ⟨D3 _,fun k v i h1 h2=>?_⟩
   rw[D9,h2] at h1;cases h1;exact (each i (ol i (D6 h2))).1
theorem yY:∀{o:L2.St},o.length=2->∃a b,o= [a,b]
 | [a,b],_=>⟨a,b,rfl⟩
 | [],h=>by cases h
 | [_],h=>by cases h
 |_::_::_::_,h=>by simp at h
theorem dS.h0 {H0 H1 H:Hp} {rd:Addr} {D:Tl} {F:Str×Int->List (List Int)} {as:GW} (h:dS H0 H rd D F as) (g:∀b,H0 b=none->H1 b=none):dS H1 H rd D F as:=
 ⟨h.len,h.e,h.nd,fun a ha=>g a (h.new a ha),fun i p a h1 h2=>(h.each i p a h1 h2).mono fun b k=>⟨g b k.1,k.2⟩⟩
theorem iL {D:Tl} (nd:(D.map (·.1)).Nodup) {i:Nat} {p:Str×Int} (h:D[i]?=some p):p.1∉(D.take i).map (·.1):=fun z=>by
 obtain ⟨q,hq,e⟩:=ES.mp z;obtain ⟨j,hj⟩:=DP.mp hq;rw[List.getElem?_take] at hj
 split at hj
 ·rename_i ji;have h1:(D.map (·.1))[j]?=some p.1:=by rw[D9,hj,Ek,e]
  have h2:(D.map (·.1))[i]?=some p.1:=by rw[D9,h,Ek]
  have:=(List.getElem?_inj (D4.mp h1).1 nd).mp (h1.trans h2.symm)
  lia
 ·cases hj
theorem fU.sq8 {H H':Hp} {t:Addr} {R:List Rn} {M:List Int} (h:fU H t R M) (g:∀a o,qi o=true->H a=some o->H' a=some o):fU H' t R M:=by
 obtain ⟨rl,ml,et,hr,em⟩:=h;exact ⟨rl,ml,g _ _ rfl et,hr.sq g,g _ _ rfl em⟩
def jn (C c0:Addr):Sp:=fun vs H Q E=>∃(x t:Addr),vs= [.ref x,.ref t]/\((∃(D:Tl) (PL:List Wy) (a c:Int),eP C false H x t D (dW c PL) [] [] (dP a c PL) []/\(∀p∈PL,gu D p)/\fX D PL/\1<=c/\0<=a/\
 ∀(os:List Nat) (rd:Addr) (H':Hp) (as:GW),eT PL os->az H H'->H rd=none->dS H H' rd D (fun p=>cK PL p.1 p.2 os) as->Q (.ref rd) H')∨
 ∃(D:Tl) (T:Tk) (R:List Rn),eP C false H x t D T [] [] R []/\(∀ys,jL ys D T [] [] R []≠ [])/\∀H',az H H'->E (.ref c0) none H')
theorem qF {C c0:Addr} {vs:List V} {H:Hp} {Q:VK} {E:XK} (h:kS C vs H Q E):jn C c0 vs H Q E0:=by
 obtain ⟨x,t,D,PL,a,c,rfl,r⟩:=h;exact ⟨x,t,rfl,.inl ⟨D,PL,a,c,r⟩⟩
structure vI (D:Tl) (i:Nat) (us:List Us):Prop where
 nd:(us.map (·.1)).Nodup
 mem:∀u∈us,u.1∈(D.take i).map (·.1)
 each:∀u∈us,∃m,bV D u.1=some m/\1<=u.2.1/\u.2.1<=m/\u.2.2=3
 len:us.length<=i
theorem vI.nil (D:Tl):vI D 0 []:=⟨FR,nofun,nofun,D8 _⟩
theorem qG {D:Tl} {i:Nat} {z:Str} (h:z∈(D.take i).map (·.1)):z∈(D.take (i+1)).map (·.1):=by
 obtain ⟨p,hp,e⟩:=ES.mp h;refine ES.mpr ⟨p,?_,e⟩;rw[E8];exact F7 _ hp
theorem vI.skip {D:Tl} {i:Nat} {us:List Us} (h:vI D i us):vI D (i+1) us:=⟨h.nd,fun u hu=>qG (h.mem u hu),h.each,Nat.le_succ_of_le h.len⟩
theorem vI.put {D:Tl} {i:Nat} {us:List Us} (h:vI D i us) (dn:(D.map (·.1)).Nodup) {p:Str×Int} (hp:D[i]?=some p) {m:Int} (m1:1<=m) (m2:m<=p.2):vI D (i+1) (us++ [(p.1,m,3)]):=by
 have ni:=iL dn hp;refine ⟨?_,fun u hu=>?_,fun u hu=>?_,?_⟩
 ·rw[EA];refine FN.mpr ⟨h.nd,by simp,fun a ha b hb e=>?_⟩
  obtain ⟨u,hu,rfl⟩:=ES.mp ha;simp at hb;exact ni (by rw[<-hb,<-e];exact h.mem u hu)
 ·rcases DO.mp hu with k|k
  ·exact qG (h.mem u k)
  ·rw[DR.mp k,E8,hp];simp
 ·rcases DO.mp hu with k|k
  ·exact h.each u k
  ·rw[DR.mp k];exact ⟨p.2,fA dn (D6 hp),m1,m2,rfl⟩
 ·rw[D7];have:=h.len;simp;omega
def C1 (D:Tl) (us:List Us):Prop:=vk D us/\∀u∈us,u.2.2=3
theorem vI.ok {D:Tl} {i:Nat} {us us':List Us} (h:vI D i us) (i3:i<=3) (e:us'=us∨us'=us.reverse):C1 D us':=by
 have m:∀u,u∈us'↔u∈us:=fun u=>by rcases e with rfl|rfl<;>simp
 refine ⟨⟨?_,?_,fun u hu=>?_⟩,fun u hu=>?_⟩
 ·rcases e with rfl|rfl
  ·exact h.nd
  ·rw[List.map_reverse];exact (List.reverse_perm _).nodup_iff.mpr h.nd
 ·have:=h.len;rcases e with rfl|rfl
  ·lia
  ·rw[Et];lia
 ·obtain ⟨k,h1,h2,h3,h4⟩:=h.each u ((m u).mp hu);exact ⟨k,h1,h2,h3,by lia,by lia⟩
 ·obtain ⟨k,h1,h2,h3,h4⟩:=h.each u ((m u).mp hu);exact h4
def qH:Sp:=fun vs H Q _=>∃(l td:Addr) (ns:List Int) (D:Tl),vs= [.ref l,.ref td]/\H l=some (.lst (ns.map V.int))/\ns.length=6/\(∀z∈ns,AT z)/\H td=some (.dK (aC D))/\fR 3 D/\
 ∀(u:Addr) (us:List Us) (H':Hp),az H H'->H u=none->bJ gk (fun a=>H a=none) H' u us->C1 D us->Q (.ref u) H'
structure bS (H0 H:Hp) (ld:Addr) (D:Tl) (F:Str->Int->Int) (as:GW):Prop where
 len:as.length=D.length
 e:H ld=some (.dK (cT D as))
 nd:as.Nodup
 new:∀a∈as,H0 a=none
 each:∀(i:Nat) (p:Str×Int) (a:Addr),D[i]?=some p->as[i]?=some a->H a=some (.lst ((DT 160).map fun t:Nat=>V.int (F p.1 t)))
theorem bS.same {H0 H H':Hp} {ld:Addr} {D:Tl} {F:Str->Int->Int} {as:GW} (h:bS H0 H ld D F as) (g:az H H'):bS H0 H' ld D F as:=⟨h.len,g _ _ h.e,h.nd,h.new,fun i p a h1 h2=>g _ _ (h.each i p a h1 h2)⟩
theorem bS.at_ {H0 H:Hp} {ld:Addr} {D:Tl} {F:Str->Int->Int} {as:GW} (h:bS H0 H ld D F as) (dn:(D.map (·.1)).Nodup) {z:Str} {m:Int} (hm:bV D z=some m):
  ∃(i:Nat) (a:Addr),D[i]?=some (z,m)/\as[i]?=some a/\gN H ld (.str z) (some (.ref a))/\H a=some (.lst ((DT 160).map fun t:Nat=>V.int (F z t))):=by
 obtain ⟨i,hi⟩:=DP.mp (dv hm);have il:=(D4.mp hi).1;have il2:i<as.length:=by rw[h.len];exact il
 have ha:as[i]?=some as[i]:=D0 il2;have dg:=gN.k (k:= .inr z) h.e;have rv:=fE dn hi ha;dsimp only at rv;rw[rv] at dg;exact ⟨i,_,hi,ha,dg,h.each i _ _ hi ha⟩
theorem xG {f:Nat->V} {n:Nat} {t:Int} (h0:0<=t) (h1:t<n):iU ((DT n).map f) t=some (f t.toNat):=by
 obtain ⟨k,rfl⟩:=Int.eq_ofNat_of_zero_le h0;rw[E9];exact aU (by rw[D9,Eg (by lia)];rfl)
def qI:Sp:=fun vs H Q _=>∃(td ld u:Addr) (b sz:Int) (D:Tl) (F:Str->Int->Int) (as:GW) (us:List Us) (H0:Hp),vs= [.ref td,.ref ld,.ref u,.int b,.int sz]/\H td=some (.dK (aC D))/\bS H0 H ld D F as/\bJ gk An H u us/\C1 D us/\(D.map (·.1)).Nodup/\0<=b/\0<=sz/\b+sz<=160/\
 ∀r:Bool,(r=true->∀e∈us,∀m,bV D e.1=some m->∀t,b<=t->t<b+sz->F e.1 t+e.2.1<=m)->Q (.bl r) H
theorem xH (n:Nat):(EK n [V.int 0]).flatten=(DT n).map fun _:Nat=>V.int 0:=by
 induction n with
 |zero=>rfl
 |succ n ih=>rw[List.replicate_succ',List.flatten_append,ih,FU,EA];rfl
theorem bS.ld_ne {H0 H:Hp} {ld:Addr} {D:Tl} {F:Str->Int->Int} {as:GW} (h:bS H0 H ld D F as):ld∉as:=fun hb=>by
 obtain ⟨i,hi⟩:=DP.mp hb;have il:=(D4.mp hi).1;have e:=h.each i _ ld (D0 (by rw[<-h.len];exact il)) hi
 rw[h.e] at e;cases e
theorem bS.put {H0 H H2:Hp} {ld:Addr} {D:Tl} {F:Str->Int->Int} {as:GW} {p:Str×Int} {a:Addr} (h:bS H0 H ld D F as) (g:az H H2) (ha:H a=none) (ga:az H0 H) (ea:H2 a=some (.lst ((DT 160).map fun t:Nat=>V.int (F p.1 t)))) (np:p.1∉D.map (·.1)):
  bS H0 (L2.av H2 ld (.dK (putK (cT D as) (.inr p.1) (.ref a)))) ld (D++ [p]) F (as++ [a]):=by
 have ral:∀b∈as,H b≠none:=fun b hb=>by
  obtain ⟨i,hi⟩:=DP.mp hb;have il:=(D4.mp hi).1;rw[h.each i _ b (D0 (by rw[<-h.len];exact il)) hi];exact nofun
 have an:a∉as:=fun z=>ral a z ha
 have lr:∀b:Addr,(∃vs,H2 b=some (.lst vs))->b≠ld:=fun b ⟨vs,e⟩ z=>by
  rw[z,g _ _ h.e] at e;cases e
 refine ⟨by rw[D7,D7,h.len];rfl,by rw[qE h.len np];exact ag,?_,?_,?_⟩
 ·exact FN.mpr ⟨h.nd,by simp,fun x hx y hy e=>an (by rw[DR] at hy;rw[<-hy,<-e];exact hx)⟩
 ·intro b hb;rcases DO.mp hb with q|q
  ·exact h.new b q
  ·rw[DR.mp q];exact ga.free ha
 ·intro i q b h1 h2;rcases F2 i D.length with il|il
  ·rw[DQ il] at h1;rw[DQ (by rw[h.len];exact il)] at h2
   have e:=g _ _ (h.each i q b h1 h2);rw[ar (lr b ⟨_,e⟩)];exact e
  ·have ie:i=D.length:=by
    rcases F2 D.length i with k|k
    ·rw[EL (by rw[D7];simp;lia)] at h1;cases h1
    ·lia
   subst ie;rw[DH (D8 _),Fg] at h1;rw[<-h.len,DH (D8 _),Fg] at h2;cases h1;cases h2;rw[ar (lr a ⟨_,ea⟩)];exact ea
theorem bS.h0 {H0 H1 H:Hp} {ld:Addr} {D:Tl} {F:Str->Int->Int} {as:GW} (h:bS H0 H ld D F as) (g:∀b,H0 b=none->H1 b=none):bS H1 H ld D F as:=⟨h.len,h.e,h.nd,fun a ha=>g a (h.new a ha),h.each⟩
theorem bS.upd {H0 H:Hp} {ld:Addr} {D:Tl} {F:Str->Int->Int} {as:GW} (h:bS H0 H ld D F as) {x:Addr} (hx:x∉as) (nr:ld≠x) (o:HO):bS H0 (L2.av H x o) ld D F as:=
 ⟨h.len,by rw[ar nr];exact h.e,h.nd,h.new,fun i p a h1 h2=>by rw[ar fun z=>hx (by rw[<-z];exact D6 h2)];exact h.each i p a h1 h2⟩
theorem bS.congr {H0 H:Hp} {ld:Addr} {D:Tl} {F F':Str->Int->Int} {as:GW} (h:bS H0 H ld D F as) (e:∀z (t:Int),0<=t->F z t=F' z t):bS H0 H ld D F' as:=
 ⟨h.len,h.e,h.nd,h.new,fun i p a h1 h2=>by
  rw[h.each i p a h1 h2]
  congr 2
  apply F3;intro t _;rw[e p.1 t (by lia)]⟩
theorem bS.set {H0 H:Hp} {ld:Addr} {D:Tl} {F:Str->Int->Int} {as:GW} (h:bS H0 H ld D F as) (dn:(D.map (·.1)).Nodup) {i:Nat} {z:Str} {m:Int} {a:Addr} (h1:D[i]?=some (z,m)) (h2:as[i]?=some a) (t0:Nat) (v:Int):
  bS H0 (L2.av H a (.lst (((DT 160).map fun t:Nat=>V.int (F z t)).set t0 (.int v)))) ld D (fun z' t'=>if z'=z/\t'=(t0:Int) then v else F z' t') as:=by
 refine ⟨h.len,by rw[ar fun e=>h.ld_ne (by rw[e];exact D6 h2)];exact h.e,h.nd,h.new,fun j p b k1 k2=>?_⟩
 by_cases e:b=a
 ·subst e;have ij:=(List.getElem?_inj (D4.mp h2).1 h.nd).mp (h2.trans k2.symm);subst ij;rw[h1] at k1;cases k1;rw[ag]
  congr 2
  apply FA;intro t;rw[List.getElem?_set,D9,D9,D3,E1]
  by_cases tt:t0=t
  ·subst tt;rw[if_pos rfl]
   by_cases tl:t0<160
   ·rw[if_pos tl,Eg tl];show _=some (V.int (if z=z/\(t0:Int)=t0 then v else _))
    rw[if_pos ⟨rfl,rfl⟩]
   ·rw[if_neg tl,EL (by rw[E1];lia)];rfl
  ·rw[if_neg tt]
   by_cases tl:t<160
   ·rw[Eg tl];show some (V.int (F z t))=some (V.int (if z=z/\(t:Int)=t0 then v else F z t))
    rw[if_neg fun q=>tt (by lia)]
   ·rw[EL (by rw[E1];lia)];rfl
 ·have ne:¬p.1=z:=fun q=>e (by
   have a1:(D.map (·.1))[j]?=some z:=by rw[D9,k1,Ek,q]
   have a2:(D.map (·.1))[i]?=some z:=by rw[D9,h1,Ek]
   have:=(List.getElem?_inj (D4.mp a1).1 dn).mp (a1.trans a2.symm);subst this;rw[h2] at k2;cases k2
   rfl)
  rw[ar e,h.each j p b k1 k2]
  congr 2
  apply F3;intro t _;rw[if_neg fun q=>ne q.1]
theorem xI {us:List Us} {e:Us} {b f:Int} {z:Str} {t:Int} (nd:((us++ [e]).map (·.1)).Nodup):lg (b,f,us++ [e]) z t=lg (b,f,us) z t+(if z=e.1/\b<=t/\t<f then e.2.1 else 0):=by
 have ni:∀u∈us,u.1≠e.1:=fun u hu q=>by
  rw[EA,FN] at nd;exact nd.2.2 u.1 (FC (f:=fun x:Us=>x.1) hu) e.1 (by simp) q
 have mi:bj (b,f,us++ [e]) z=bj (b,f,us) z+(if z=e.1 then e.2.1 else 0):=by
  unfold bj gO;rw[List.find?_append];cases h:us.find? (fun u=>decide (u.1=z)) with
  |some u=>
   have k:=List.find?_some h;have km:=List.mem_of_find?_eq_some h;have:¬z=e.1:=fun q=>ni u km (by rw[of_decide_eq_true k,q])
   rw[if_neg this];show u.2.1=u.2.1+0
   lia
  |none=>
   by_cases q:z=e.1
   ·subst q;rw[if_pos rfl,El,decide_eq_true rfl];show e.2.1=0+e.2.1
    lia
   ·rw[if_neg q,El,decide_eq_false (Ne.symm q)]
    rfl
 unfold lg;dsimp only
 by_cases q:b<=t/\t<f
 ·rw[if_pos q,if_pos q,mi]
  by_cases k:z=e.1
  ·rw[if_pos k,if_pos ⟨k,q⟩]
  ·rw[if_neg k,if_neg fun w=>k w.1]
 ·rw[if_neg q,if_neg q,if_neg fun w=>q w.2]
  rfl
theorem yZ (b f:Int) (z:Str) (t:Int):lg (b,f,[]) z t=0:=by
 unfold lg
 split<;>rfl
theorem vB {PL:List Wy} {L:Int} {z:Str} {t:Int} (h:∀p∈PL,p.2.1<=L) (ht:L<=t):cA PL z t=0:=by
 induction PL with
 |nil=>rfl
 |cons p ps ih=>
  show lg p z t+cA ps z t=0;rw[ih fun q hq=>h q (E2 _ hq)]
  unfold lg;have:=h p E7;rw[if_neg (by lia)]
  rfl
theorem fX.put {D:Tl} {PL:List Wy} {b f:Int} {us:List Us} (h:fX D PL) (ud:vk D us) (fr:∀e∈us,∀m,bV D e.1=some m->∀t,b<=t->t<f->cA PL e.1 t+e.2.1<=m):fX D (PL++ [(b,f,us)]):=fun z m hm t=>by
 rw[eR];have k:=h z m hm t;unfold lg;dsimp only
 split
 ·rename_i q;unfold bj;cases e:gO (b,f,us) z with
  |none=>show cA PL z t+0<=m;lia
  |some u=>
   obtain ⟨um,rfl⟩:=fS e;exact fr u um m hm t q.1 q.2
 ·lia
def kT (K:D5):Sp:=fun vs H Q _=>∃(a td:Addr) (n:Int) (ns:List Int) (D:Tl),vs= [.ref a,.ref td,.int n]/\aK K H a (ns.map V.int)/\0<=n/\n<=24/\H td=some (.dK (aC D))/\fR 3 D/\
 ∀(l:Addr) (PL:List Wy) (H':Hp),az H H'->H l=none->bJ eW (fun a=>H a=none) H' l PL->(PL.length:Int)=n->(∀p∈PL,gu D p)->fX D PL->Q (.ref l) H'
def kU:Sp:=fun vs H Q _=>∃(l:Addr) (PL:List Wy),vs= [.ref l]/\bJ eW An H l PL/\PL.length<=24/\
 ∀(p:Addr) (H':Hp),az H H'->H p=none->bJ eW An H' p (cF PL)->Q (.ref p) H'
theorem y3 {PL:List Wy} {i:Nat} {p:Wy} (h:PL[i]?=some p):(PL.take (i+1)++cF (PL.drop (i+1))).set i (cE (PL.drop (i+1)),cE (PL.drop (i+1))+(p.2.1-p.1),p.2.2)=PL.take i++cF (PL.drop i):=by
 have il:=(D4.mp h).1;have d:PL.drop i=p::PL.drop (i+1):=by rw[Ei il,(D4.mp h).2]
 have t:PL.take (i+1)=PL.take i++ [p]:=by rw[E8,h];rfl
 have lt:(PL.take i).length=i:=by rw[DK];lia
 rw[d,cF,t,DU,List.set_append_right i _ (by lia),lt,Fg]
 rfl
theorem xJ {PL:List Wy} {i:Nat} {p:Wy} (h:PL[i]?=some p):cE (PL.drop i)=cE (PL.drop (i+1))+(p.2.1-p.1):=by
 have il:=(D4.mp h).1;rw[Ei il,(D4.mp h).2,cE]
 lia
def mW:Sp:=fun vs H Q _=>∃(l:Addr) (z:Str) (m:Int) (PL:List Wy),vs= [.ref l,.str z,.int m]/\bJ eW An H l PL/\PL.length<=24/\(∀p∈PL,(p.2.2.map (·.1)).Nodup/\p.2.2.length<=100/\∀u∈p.2.2,1<=u.2.1/\u.2.1<=8)/\0<=m/\m<=8/\
 ∀(os:List Nat) (p:Addr) (H':Hp),eT PL os->az H H'->H p=none->bJ lJ (fun q=>H q=none/\q≠p) H' p (cK PL z m os)->Q (.ref p) H'
theorem vC (S:Int->Bool) (m:Int):cu m.toNat (fun k=> !S (k:Int)) (fun k=>(k:Int))=bg S m:=by
 unfold cu bg;rw[List.filter_map]
 rfl
def lL (kvs:List (Key×V)) (S:Int->Bool):Prop:=∀p:Int,(dI kvs (.inl p)).isSome=S p
theorem lL.put {kvs:List (Key×V)} {S:Int->Bool} (h:lL kvs S) (x:Int) (v:V):lL (putK kvs (.inl x) v) (fun p=>S p||p==x):=fun p=>by
 rw[we]
 by_cases e:p=x
 ·subst e;rw[if_pos rfl];simp
 ·rw[if_neg (fun q=>e (by injection q)),h p]
  simp[e]
theorem lL.congr {kvs:List (Key×V)} {S S':Int->Bool} (h:lL kvs S) (e:∀p,S p=S' p):lL kvs S':=fun p=>by rw[h p,e p]
theorem vD {PL:List Wy} {f:Nat->List Int} {os:List Nat} {k:Nat} {b p:Int}:qw PL f (os.take k).reverse b p=(os.take k).any fun j=>decide (b<sC PL j)&&(f j).contains p:=by
 unfold qw;rw[List.any_reverse]
def kW (X:List (List Int)) (Y:Us->List Int) (i:Nat) (us:List Us) (z:Str):List (List Int):=match us.find? (fun u=>decide (u.1=z)) with
 |none=>X
 |some u=>X.set i (Y u)
theorem vE {X:List (List Int)} {Y:Us->List Int} {i:Nat} {us:List Us} {e:Us} {z:Str} (nd:((us++ [e]).map (·.1)).Nodup):(e.1=z->kW X Y i us z=X/\kW X Y i (us++ [e]) z=X.set i (Y e))/\(e.1≠z->kW X Y i (us++ [e]) z=kW X Y i us z):=by
 constructor
 ·intro h;subst h;have ni:us.find? (fun u=>decide (u.1=e.1))=none:=List.find?_eq_none.mpr fun u hu q=>by
   rw[EA,FN] at nd;exact nd.2.2 u.1 (FC (f:=fun x:Us=>x.1) hu) e.1 (by simp) (of_decide_eq_true q)
  unfold kW;rw[List.find?_append,ni];refine ⟨rfl,?_⟩;rw[Option.none_or,El,decide_eq_true rfl]
 ·intro h;unfold kW;rw[List.find?_append,El,decide_eq_false h];cases us.find? (fun u=>decide (u.1=z))<;>rfl
theorem bJ.tt {α:Type} {R:RA α} [Mv R] {P:Addr->Prop} {H:Hp} {l:Addr} {xs:List α} (h:bJ R P H l xs):bJ R (fun a=>P a/\H a≠none) H l xs:=let ⟨vs,e,r⟩:=h;⟨vs,e,r.imp fun _ _ q=>Af q⟩
theorem mX (xs:List V) (c:Nat):ip xs none (some (c:Int))=xs.take c:=by
 have e1:HT.eV xs.length 0 none=0:=rfl;have e2:HT.eV xs.length xs.length (some (c:Int))=min c xs.length:=by
  show (if (c:Int)<0 then ((c:Int)+(xs.length:Int)).toNat else min (c:Int).toNat xs.length)=_
  rw[if_neg (by lia),E9]
 unfold ip;rw[e1,e2,List.drop_zero,Nat.sub_zero];rcases Nat.le_total c xs.length with q|q
 ·rw[FM q]
 ·rw[Nat.min_eq_right q,EM,ET q]
end Sw
namespace L2
open PySem PySem.Spec PyProof.Rows XH Sw So
end L2
namespace Sw
open PySem L2 XH PyProof.Rows
end Sw
namespace Wo
open PySem Hm So
end Wo
namespace L2
open PySem PySem.Spec PyProof.Rows XH Hm Wo
end L2
namespace Sw
open PySem L2 XH Hm Wo So PyProof.Rows
end Sw
namespace L2
open PySem PySem.Spec PyProof.Rows XH Sw
end L2
namespace Sw
open PySem L2 XH PyProof.Rows
end Sw
namespace L2
open PySem PySem.Spec PyProof.Rows XH Sw
open PySem.SeqAt PySem.AutoSeq1 PySem.MeetsSeq PySem.MeetsSeq2 PySem.MeetsSeq3
end L2
namespace Sw
open PySem L2 XH PyProof.Rows
theorem vF {kvs:List (Key×V)} {k:Key} {v:V}:(putK kvs k v).length<=kvs.length+1:=by
 unfold putK
 split
 ·rw[D3];lia
 ·rw[D7];simp
open Hm So
structure vG (H:Hp) (fd:Addr) (D:Tl) (F:Str×Int->List (List Int)) (as:GW):Prop where
 len:as.length=D.length
 e:H fd=some (.dK (cT D as))
 each:∀(i:Nat) (p:Str×Int) (a:Addr),D[i]?=some p->as[i]?=some a->bJ lJ An H a (F p)
theorem vG.same {H H':Hp} {fd:Addr} {D:Tl} {F:Str×Int->List (List Int)} {as:GW} (h:vG H fd D F as) (g:az H H'):vG H' fd D F as:=⟨h.len,g _ _ h.e,fun i p a h1 h2=>(h.each i p a h1 h2).same g⟩
theorem dS.dic {H0 H:Hp} {rd:Addr} {D:Tl} {F:Str×Int->List (List Int)} {as:GW} (h:dS H0 H rd D F as):vG H rd D F as:=⟨h.len,h.e,fun i p a h1 h2=>(h.each i p a h1 h2).any⟩
def qJ:Sp:=fun vs H Q _=>∃(fd dd:Addr) (D:Tl) (F:Str×Int->List (List Int)) (as bs:GW),vs= [.ref fd,.ref dd]/\vG H fd D F as/\vG H dd D F bs/\(D.map (·.1)).Nodup/\D.length<=3/\(∀p,(F p).length<=24/\∀x∈F p,x.length<=8)/\fd≠dd/\∀H',az H H'->Q (.bl true) H'
theorem xK {K:D5} {H:Hp} {P P':Addr->Prop} {v w:V} {xs:List (List Int)} (h:qj lJ P H v xs) (k:qj lJ P' H w xs):vH K H 2 v w:=
 tJ (fun v w x _ h k=>tJ (n:=0) (fun v w x _ h k=>⟨h.trans k.symm,by rw[show v=V.int x from h];trivial⟩) h k) h k
def jG (C:Addr):Sp:=fun vs H Q _=>∃(x t:Addr) (D:Tl) (T:Tk) (R:List Rn),vs= [.ref x,.ref t]/\eP C false H x t D T [] [] R []/\(∀ys,jL ys D T [] [] R []≠ [])/\∀H',az H H'->Q (.bl true) H'
abbrev Ak:RA Rn:=vg fun r=>(rk r).map V.int
theorem qK {P:Addr->Prop} {H:Hp} {l:Addr} {R:List Rn} (h:bJ Ak P H l R):cy H l (R.map rk):=by
 obtain ⟨vs,e,r⟩:=h;have ex:∀v∈vs,∃a,v=V.ref a:=fun v hv=>by
  obtain ⟨i,hi⟩:=DP.mp hv;obtain ⟨x,_,a,ea,_⟩:=r.at_ hi;exact ⟨a,ea⟩
 have ea:vs=(vs.map fun v=>match v with| .ref a=>a|_=>0).map V.ref:=by
  rw[En]
  conv=>lhs;rw[<-List.map_id vs]
  apply F3;intro v hv;obtain ⟨a,rfl⟩:=ex v hv
  rfl
 refine ⟨_,by rw[<-ea];exact e,by rw[D3,D3,r.1],fun i a k h1 h2=>?_⟩
 rw[D9] at h1 h2;obtain ⟨v,hv,rfl⟩:=DV.mp h1;obtain ⟨x,hx,rfl⟩:=DV.mp h2;obtain ⟨b,rfl,_,eb⟩:=r.2 i v x hv hx;exact eb
theorem xL (PL:List Wy):∃os,eT PL os:=by
 let key:Nat->Ky:=fun i=> [eU PL i,(i:Int)]
 let le:Nat->Nat->Bool:=fun i j=> !fh (key j) (key i)
 refine ⟨(DT PL.length).mergeSort le,List.mergeSort_perm _ _,?_⟩;have hp:=List.pairwise_mergeSort (le:=le) (fun a b c h1 h2=>by
  have k1:fh (key b) (key a)=false:=by simpa [le] using h1
  have k2:fh (key c) (key b)=false:=by simpa [le] using h2
  simpa [le] using mj k2 k1) (fun a b=>by
  simp only[le];cases e:fh (key b) (key a) with
  |false=>rfl
  |true=>rw[uX e];rfl) (DT PL.length)
 unfold Rs;rw[FX];exact hp.imp fun {a b} h=>by simpa [le] using h
theorem sI (c:Int):∀PL,dW c (cF PL)=dW c PL
 | []=>rfl
 |p::ps=>by
  show _::dW c (cF ps)=_::dW c ps;rw[sI c ps]
theorem dS.updD {H0 H:Hp} {rd:Addr} {D:Tl} {F:Str×Int->List (List Int)} {as:GW} (h:dS H0 H rd D F as) {x:Addr} {kvs:List (Key×V)} (e:H x=some (.dK kvs)) (ne:rd≠x) (o:HO):dS H0 (L2.av H x o) rd D F as:=by
 have sq:∀a u,qi u=true->H a=some u->L2.av H x o a=some u:=fun a u s k=>by
  rw[ar fun z=>by rw[z,e] at k;cases k;cases s]
  exact k
 exact ⟨h.len,by rw[ar ne];exact h.e,h.nd,h.new,fun i p a h1 h2=>(h.each i p a h1 h2).sq sq⟩
theorem kZ {D:Tl} {PL:List Wy} (ok:∀p∈PL,gu D p) (dt:∀p∈D,1<=p.2/\p.2<=8):∀p∈PL,(p.2.2.map (·.1)).Nodup/\p.2.2.length<=100/\∀u∈p.2.2,1<=u.2.1/\u.2.1<=8:=fun p hp=>by
 obtain ⟨h1,h2,h3⟩:=(ok p hp).us;refine ⟨h1,h2,fun u hu=>?_⟩
 obtain ⟨m,hm,k1,k2,_⟩:=h3 u hu;have:=dt _ (dv hm);dsimp only at this;exact ⟨k1,by lia⟩
theorem mY {D:Tl} {PL:List Wy} (ok:∀p∈PL,gu D p) (dt:∀p∈D,1<=p.2/\p.2<=8) (n24:PL.length<=24) (os:List Nat) (z:Str) (m:Int):(cK PL z m os).length<=24/\∀x∈cK PL z m os,x.length<=8:=by
 refine ⟨by unfold cK;rw[D3,E1];exact n24,fun x hx=>?_⟩
 unfold cK at hx;obtain ⟨j,_,rfl⟩:=ES.mp hx;have l:=fD (PL:=PL) (z:=z) (m:=m) os.reverse j;have:bj (PL.getD j w0) z<=8:=by
  cases e:PL[j]? with
  |none=>rw[DN,e];show (0:Int)<=8;decide
  |some p=>
   rw[DN,e];show bj p z<=8;unfold bj;cases u:gO p z with
   |none=>show (0:Int)<=8;decide
   |some v=>exact ((kZ ok dt p (D6 e)).2.2 v (fS u).1).2
 lia
theorem range_getD {α:Type} {xs:List α} {d:α} {n:Nat} (h:xs.length=n):(DT n).map (fun i=>xs.getD i d)=xs:=by
 apply FA;intro i;rw[D9];rcases F2 i n with q|q
 ·rw[Eg q,D0 (by lia)]
  simp[DN,D0 (show i<xs.length by lia)]
 ·rw[EL (by rw[E1];lia),EL (by lia)]
  rfl
theorem jo {c:Int} {PL:List Wy} {R:List Rn} (l:R.length=PL.length) (h:∀r∈R,r.2.2=0):oj (dW c PL) R where
 len:=by unfold dW;rw[D3];exact l
 way:=fun i r ws h1 h2=>by
  rw[h r (D6 h1)];unfold dW at h2;rw[D9] at h2;obtain ⟨p,_,rfl⟩:=DV.mp h2;exact ⟨Int.le_refl _,by show (0:Int)<1;decide⟩
theorem jV {a c:Int} {PL:List Wy}:∀r∈dP a c PL,r.2.2=0:=fun r hr=>by
 obtain ⟨p,_,rfl⟩:=ES.mp hr
 rfl
theorem xM:∀ks:List Int,xh (ks.map V.int):=fun ks x hx=>by
 obtain ⟨k,_,rfl⟩:=ES.mp hx
 trivial
theorem xN {K:D5} {H:Hp} {l m:Addr} {bs:GW} {ks:List Ky} (e1:H l=some (.lst (bs.map V.ref))) (e2:H m=some (.lst (bs.map V.ref))) (r:cX (fun t k=>H t=some (.tup (k.map V.int))) bs ks):vH K H 2 (.ref l) (.ref m):=by
 refine .inr ⟨l,m,_,_,rfl,rfl,.inr ⟨aK.of e1,aK.of e2⟩,jT rfl fun i x y h1 h2=>?_⟩
 rw[h1] at h2;cases h2;rw[D9] at h1;obtain ⟨b,hb,rfl⟩:=DV.mp h1;have il:i<ks.length:=by rw[<-r.1];exact (D4.mp hb).1
 have e:=r.2 i b _ hb (D0 il);exact .inr ⟨b,b,_,_,rfl,rfl,.inl ⟨bH.of e,bH.of e⟩,xj (xM _)⟩
structure fF (Hb H:Hp) (rd:Addr) (D:Tl) (as:GW) (B:Nat):Prop where
 len:as.length=D.length
 e:H rd=some (.dK (cT D as))
 new:∀a∈as,Hb a=none
 each:∀a∈as,∃vs,H a=some (.lst vs)/\vs.length<=B/\∀v∈vs,∃r xs,v=V.ref r/\Hb r=none/\r∉as/\H r=some (.lst xs)/\xs.length<=B
theorem fF.of {H0 Hb H:Hp} {rd:Addr} {D:Tl} {F:Str×Int->List (List Int)} {as:GW} (h:dS H0 H rd D F as) (f:∀p,(F p).length<=24/\∀x∈F p,x.length<=8) (g:∀b,H0 b=none->Hb b=none):fF Hb H rd D as 24:=by
 refine ⟨h.len,h.e,fun a ha=>g a (h.new a ha),fun a ha=>?_⟩
 obtain ⟨i,hi⟩:=DP.mp ha;have il:=(D4.mp hi).1;obtain ⟨vs,e,r⟩:=h.each i _ a (D0 (by rw[<-h.len];exact il)) hi
 refine ⟨vs,e,by rw[r.1];exact (f _).1,fun v hv=>?_⟩
 obtain ⟨j,hj⟩:=DP.mp hv;obtain ⟨x,hx,l,rfl,⟨p1,p2⟩,us,eu,ru⟩:=r.at_ hj;exact ⟨l,us,rfl,g l p1,p2,eu,by rw[ru.1];have:=(f _).2 x (D6 hx);lia⟩
theorem fF.same {Hb H H':Hp} {rd:Addr} {D:Tl} {as:GW} {B:Nat} (h:fF Hb H rd D as B) (g:az H H'):fF Hb H' rd D as B:=⟨h.len,g _ _ h.e,h.new,fun a ha=>by
 obtain ⟨vs,e,l,r⟩:=h.each a ha;refine ⟨vs,g _ _ e,l,fun v hv=>?_⟩
 obtain ⟨x,xs,a1,a2,a3,a4,a5⟩:=r v hv;exact ⟨x,xs,a1,a2,a3,g _ _ a4,a5⟩⟩
theorem fF.sq {Hb H H':Hp} {rd:Addr} {D:Tl} {as:GW} {B:Nat} (h:fF Hb H rd D as B) (ed:H' rd=some (.dK (cT D as))) (g:∀a o,qi o=true->H a=some o->H' a=some o):fF Hb H' rd D as B:=⟨h.len,ed,h.new,fun a ha=>by
 obtain ⟨vs,e,l,r⟩:=h.each a ha;refine ⟨vs,g _ _ rfl e,l,fun v hv=>?_⟩
 obtain ⟨x,xs,a1,a2,a3,a4,a5⟩:=r v hv;exact ⟨x,xs,a1,a2,a3,g _ _ rfl a4,a5⟩⟩
theorem fF.row {Hb H:Hp} {rd:Addr} {D:Tl} {as:GW} {B:Nat} (h:fF Hb H rd D as B) {r:Addr} {xs:List V} (nr:r∉as) (e:H r=some (.lst xs)) (l:xs.length<=B) (v:V):fF Hb (L2.av H r (.lst (xs++ [v]))) rd D as (B+1):=by
 have rne:rd≠r:=fun z=>by rw[<-z,h.e] at e;cases e
 refine ⟨h.len,by rw[ar rne];exact h.e,h.new,fun a ha=>?_⟩
 obtain ⟨vs,ea,la,ra⟩:=h.each a ha;refine ⟨vs,by rw[ar (show a≠r from fun z=>nr (by rw[<-z];exact ha))];exact ea,by lia,fun w hw=>?_⟩
 obtain ⟨x,ys,a1,a2,a3,a4,a5⟩:=ra w hw
 by_cases z:x=r
 ·subst z;exact ⟨x,_,a1,a2,a3,ag,by rw[D7];simp;lia⟩
 ·exact ⟨x,ys,a1,a2,a3,by rw[ar z];exact a4,by lia⟩
theorem fF.lst {Hb H:Hp} {rd:Addr} {D:Tl} {as:GW} {B:Nat} (h:fF Hb H rd D as B) {a r:Addr} {vs xs:List V} (ha:a∈as) (e:H a=some (.lst vs)) (l:vs.length<=B) (nr:r∉as) (br:Hb r=none) (er:H r=some (.lst xs)) (lx:xs.length<=B) (rv:∀v∈vs,∃r xs,v=V.ref r/\Hb r=none/\r∉as/\H r=some (.lst xs)/\xs.length<=B):fF Hb (L2.av H a (.lst (vs++ [.ref r]))) rd D as (B+1):=by
 have rne:rd≠a:=fun z=>by rw[<-z,h.e] at e;cases e
 refine ⟨h.len,by rw[ar rne];exact h.e,h.new,fun b hb=>?_⟩
 have mv':∀v,(∃r xs,v=V.ref r/\Hb r=none/\r∉as/\H r=some (.lst xs)/\xs.length<=B)->∃r' xs,v=V.ref r'/\Hb r'=none/\r'∉as/\L2.av H a (.lst (vs++ [.ref r])) r'=some (.lst xs)/\xs.length<=B+1:=fun v hv=>by
  obtain ⟨x,ys,a1,a2,a3,a4,a5⟩:=hv;exact ⟨x,ys,a1,a2,a3,by rw[ar (show x≠a from fun z=>a3 (by rw[z];exact ha))];exact a4,by lia⟩
 by_cases z:b=a
 ·subst z;refine ⟨_,ag,by rw[D7];simp;lia,fun v hv=>?_⟩
  rcases DO.mp hv with k|k
  ·exact mv' v (rv v k)
  ·exact mv' v ⟨r,xs,DR.mp k,br,nr,er,lx⟩
 ·obtain ⟨ws,ew,lw,rw_⟩:=h.each b hb;exact ⟨ws,by rw[ar z];exact ew,by lia,fun v hv=>mv' v (rw_ v hv)⟩
end Sw
namespace Lk58
open PySem L2 Sw XH PyProof.Rows Hm
abbrev G0 (x:Addr):Option V:=some (.ref x)
theorem dQ {X:Cx} {N P:GV} {sp:Scope} (i:Nat) (sc:aI N P sp) {x:Str} {e:Expr} {te:TE} {pos pos':Pos} (he:PE X e te) (hi:X.N[i]?=some x:=by rfl) (hx:Loc X.env.scope x:=by exact Or.inl rfl) (hn:X.N=N:=by rfl) (hs:swapsWith e (some (.Name x pos')) pos.line X.env=pure false:=by rfl) (hf:X.fn x=true∨X.env.scope.names.lookup x=some .local:=by first|exact .inl rfl|exact .inr rfl|assumption):PS X (.Assign [.Name x pos'] e pos) (vQ te (aT i)):=iP (hn▸sc.nd) hi hx he hs hf
theorem dy {X:Cx} {N P:GV} {sp:Scope} (i:Nat) (sc:aI N P sp) {x:Str} {pos:Pos} (hi:X.N[i]?=some x:=by rfl) (hx:Loc X.env.scope x:=by exact Or.inl rfl) (hn:X.N=N:=by rfl) (hf:X.fn x=true∨X.env.scope.names.lookup x=some .local:=by first|exact .inl rfl|exact .inr rfl|assumption):PG X (.Name x pos) (aT i):=fL (hn▸sc.nd) hi hx hf
theorem dE {X:Cx} {k j:Nat} {x:Str} {ps:GV} {dvs:List V} {sp:Sp} {e:Expr} {es:List Expr} {t:TA} {p pos:Pos} (D:Dx X.prog X.w X.K X.mg X.base bQ k x ps dvs sp) (hr:cQ j X.A) (ha:PA X (e::es) t) (hk:k<=j:=by decide) (hg:Gl X x:=by rfl) (hdb:(x==("__debug__" :Str))=false:=by decide) (he:starEach (e::es) X.env=(false,eval e X.env)::starEach es X.env:=by rfl) (hpl:(backTo pos (starEach es X.env)).any (·.1)=false:=by rfl):PE X (.Call (.Name x p) (e::es) [] pos) (v7 sp [] E0 t):=zT D hr hk hg ha hdb he hpl
def top (i:Nat):Stmt:=PySem.Challenge.pw_stovework_k58_roster_dealt.main.body.getD i (.Pass ⟨0,0,0,0⟩)
def clsAt (s:Stmt) (i:Nat):Stmt:=match s with| .ClassDef _ _ _ body _ _ _ _ _ _ _=>body.getD i (.Pass ⟨0,0,0,0⟩)|_=>s
abbrev C2:Stmt:=top 10
abbrev C3:Stmt:=top 20
abbrev C4:Stmt:=top 22
abbrev C5:Stmt:=top 23
abbrev C6:Stmt:=top 25
abbrev C7:Stmt:=top 24
abbrev C8:Stmt:=top 26
abbrev C9:Stmt:=top 27
abbrev Cl:Stmt:=clsAt (top 19) 0
abbrev Da:Stmt:=top 21
abbrev Al:Stmt:=top 29
abbrev Am:Stmt:=top 30
abbrev Ao:Stmt:=top 31
abbrev Ap:Stmt:=top 32
abbrev Aq:Stmt:=top 33
abbrev Ar:Stmt:=top 35
abbrev As:Stmt:=top 36
abbrev At:Stmt:=top 37
abbrev Au:Stmt:=top 39
abbrev Av:Stmt:=top 38
abbrev Aw:Stmt:=top 40
abbrev Ax:Stmt:=top 34
abbrev Ay:Stmt:=top 41
abbrev Az:Stmt:=top 46
abbrev AA:Stmt:=top 45
abbrev AB:Stmt:=top 44
abbrev AC:Stmt:=top 43
abbrev AD:Stmt:=top 48
abbrev AE:Stmt:=top 49
abbrev AF:Stmt:=top 50
abbrev AG:Stmt:=top 51
abbrev AH:Stmt:=top 52
abbrev AI:Stmt:=top 53
abbrev AJ:Stmt:=top 54
abbrev AK:Stmt:=top 55
abbrev AL:Stmt:=top 56
abbrev AM:Stmt:=top 57
abbrev AN:Stmt:=top 58
abbrev oz:Stmt:=top 59
structure Bn (K:D5) (mg:GS) (Fp mt Fw on Fk Fu Gq:Addr):Prop where
 GD:∃t,mg "LETTERS" =some (.str "abcdefghijklmnopqrstuvwxyz" t)
 Gn:∃t,mg "MOST_LETTERS" =some (.int 12 t)
 Gv:∃t,mg "MOST_TASKS" =some (.int 24 t)
 Gu:∃t,mg "MOST_TOOLS" =some (.int 12 t)
 Gp:∃t,mg "MOST_PIECES" =some (.int 8 t)
 GA:∃t,mg "MOST_WAYS" =some (.int 2 t)
 Gm:∃t,mg "MOST_MOMENTS" =some (.int 8 t)
 GB:∃t,mg "MOST_ARCS" =some (.int 600 t)
 Gw:∃t,mg "MOST_APART" =some (.int 300 t)
 Gg:∃t,mg "GREATEST" =some (.int 1000000000 t)
 Gx:mg "ValueError" =none
 GQ:mg "abs" =none
 GL:mg "bool" =none
 GG:mg "dict" =none
 Fs:mg "enumerate" =none
 GP:mg "int" =none
 Ev:mg "isinstance" =none
 Fn:mg "len" =none
 Fy:mg "list" =none
 GO:mg "max" =none
 Fr:mg "range" =none
 GC:mg "reversed" =none
 GJ:mg "set" =none
 Gc:mg "sorted" =none
 GN:mg "str" =none
 GI:mg "zip" =none
 Gz:mg "EmptyHeap" =some (.ref Fp)
 GM:mg "Net" =some (.ref mt)
 GH:mg "NoNet" =some (.ref Fw)
 Gy:mg "NoPlan" =some (.ref on)
 Gs:mg "StoveError" =some (.ref Fk)
 GF:mg "TooFew" =some (.ref Fu)
 GE:PySem.W.excIn K on CN "ValueError.__new__" =true
 Gb:XI K on
 Gr:XT K Fk
 Gd:PySem.W.subIn K (.ref on) (.ref Fk)=some true
 Gk:Ef K (.ref on) (.ref Fw)=some false
 Gf:Ef K (.ref on) (.ref Fp)=some false
 Gi:Ef K (.ref on) (.ref Fu)=some false
 Gj:Ef K (.ref on) (.ref on)=some true
 Ge:Ef K (.ref on) (.type "ValueError")=some true
 Fm:xV K mt
 GK:Mk K mt Gq
 Fq:bX K mt "tools"
 Fo:bX K mt "tasks"
 Ga:bX K mt "arcs"
 Fv:bX K mt "apart"
 Ft:bX K mt "moments"
section
variable {P:Program} {w:World} {K:D5} {mg:GS} {base:Heap} {f:Addr} {fd:FuncData} {Fp mt Fw on Fk Fu Gq:Addr}
variable (B:Bn K mg Fp mt Fw on Fk Fu Gq)
include B
theorem Db {dV:Value} (F:bN K "is_name" "is_name" C2 dV f fd):bv P w K mg base bQ 1 f fd ["thing"] (qm K):=by
 have sc:aI ["thing","sign"] ["thing"] (aw C2):=fO (by decide+kernel)
 refine F.ok sc (fun vs H Q E h=>?_) (fun cdv A outer s H vs Q E hr h=>?_)
 ·obtain ⟨_,rfl,_⟩:=h
  rfl
 obtain ⟨x,rfl,h⟩:=h;refine ⟨_,(ae (a7 (PW.pt (fT (bU (cw (aB (gH (K:=K) rfl) rfl B.Ev boot_isinstance (aa (pv 0) (aa (fJ (v:= .ty "str") rfl B.GN boot_str rfl) af))))) (fT (aP eZ (aB fM rfl B.Fn boot_len (aa (pv 0) af)) aj (aV _)) (fK (aP im (aB fM rfl B.Fn boot_len (aa (pv 0) af)) (cI rfl B.Gn) (aV _)))))) (ao (aN dG)) aG) (ae (aY PassesOwn.never rfl (zX (pv 0)) (dy 1 sc) (ao (a7 (aP nE (pv 1) (wC rfl B.GD) (by with_unfolding_all rfl)) (ao (aN dG)) aG))) (ao (aN dG)))),?_⟩
 try dsimp only[cxK]
 rcases h with ⟨z,rfl,hz,q1,q0⟩|⟨ty,hty,hk,q⟩
 ·have hz':z.length<=sizeLine:=ED hz (by decide)
  have hl:=nR z;try dsimp only[aT,aZ]
  refine cut (fun σ H'=>H=H'/\σ= [some (.str z),none]/\1<=z.length/\z.length<=12) (fun N hN=>?_) ?_
  ·refine ⟨_,rfl,aR _ _ _ true ⟨rfl,.str _,rfl,_,rfl,dR ⟨_,rfl,z,rfl,hz',aA _ _ ⟨rfl,rfl,_,rfl,d2 (fun c=>?_) (fun c1=>⟨_,rfl,z,rfl,hz',aA _ _ ⟨rfl,rfl,_,rfl,d2 (fun c=>?_) (fun c2=>?_)⟩⟩)⟩⟩⟩⟩
   ·exact q0 fun n=>by have:=n.1;lia
   ·exact q0 fun n=>by have:=n.2.1;lia
   ·exact hN _ _ ⟨rfl,rfl,by lia,by lia⟩
  rintro σ _ ⟨rfl,rfl,l1,l2⟩;refine ⟨_,rfl,z,rfl,yq (fun i σ H2=>H=H2/\(∃o,σ= [some (.str z),o])/\∀j c,j<i->z.cps[j]?=some c->97<=c/\c<=122) ⟨rfl,⟨_,rfl⟩,fun j c h=>absurd h (by lia)⟩ (fun i c σ H2 hc hP=>?_) (fun σ H2 hP=>?_)⟩
  ·obtain ⟨rfl,⟨o,rfl⟩,hP⟩:=hP;refine ⟨_,rfl,aA _ _ ⟨rfl,rfl,_,rfl,DE (fun e=>?_) (fun e=>?_)⟩⟩
   ·have e':=(tK c).symm.trans e;refine q0 fun n=>?_
    have:=n.2.2 c (D6 (show (sL z)[i]?=some c by rw[<-hc];exact E3))
    rw[decide_eq_true this] at e';cases e'
   ·have e':=(tK c).symm.trans e;refine ⟨rfl,⟨_,rfl⟩,fun j c' hj hc'=>?_⟩
    rcases Nat.lt_succ_iff_lt_or_eq.mp hj with k|k
    ·exact hP j c' k hc'
    ·subst k;rw[hc] at hc';cases hc';exact of_decide_eq_true e'
  ·obtain ⟨rfl,⟨o,rfl⟩,hP⟩:=hP;refine q1 ⟨by lia,by lia,fun c hc=>?_⟩
   obtain ⟨i,hi⟩:=DP.mp hc;have hi':z.cps[i]?=some c:=by rw[<-hi];exact E3.symm
   exact hP i c (by have:=(F1.mp hi').1;exact this) hi'
 ·exact ⟨_,rfl,aR _ _ _ false ⟨rfl,hty,hk,_,rfl,gS q⟩⟩
theorem Dc {dV:Value} (F:bN K "points_of" "points_of" C3 dV f fd):bv P w K mg base bQ 1 f fd ["net"] (mE mt):=by
 have sc:aI ["net"] ["net"] (aw C3):=fO (by decide+kernel)
 refine F.ok sc (fun vs H Q E h=>?_) (fun cdv A outer s H vs Q E hr h=>?_)
 ·obtain ⟨_,_,_,_,_,_,_,rfl,_⟩:=h
  rfl
 refine iM h fun x n fz D T A _hi=>?_
 refine cG _hi fun B2 _hj=>?_
 refine dA _hj fun _r1 N q=>?_
 clear h _hi _hj;subst _r1;refine ⟨_,(ao (aN (aH bz (aH cV aj (aB aJ rfl B.Fn boot_len (aa (ce (pv 0) rfl) af))) (ce (pv 0) rfl)))),?_⟩;try dsimp only[cxK]
 refine iM N.ex fun dx td tl al pl fs _hi=>?_
 refine qL _hi fun e0 l1 l2 l3 l4 l5 e1 _r1 _hj=>?_
 refine bK _hj fun e3 e4=>?_
 obtain ⟨as,e2,r2⟩:=_r1;refine ⟨_,rfl,aR x _ dx _ ⟨_,⟨rfl,e0,B.Fm,B.Fo,l2,aA tl _ ⟨rfl,.inl (aK.of e2),aA _ _ ⟨rfl,rfl,IntMulOk.of_left (by decide),_,rfl,aR x _ dx _ ⟨_,⟨rfl,e0,B.Fm,B.Ft,l5,aA _ _ ⟨rfl,rfl,?_⟩⟩⟩⟩⟩⟩⟩⟩
 rw[r2.1];exact q
theorem Dd {dV:Value} (F:bN K "copy_of_task" "copy_of_task" C4 dV f fd):bv P w K mg base bQ 1 f fd ["ways"] tL:=by
 have sc:aI ["ways"] ["ways"] (aw C4):=fO (by decide+kernel)
 refine F.ok sc (fun vs H Q E h=>?_) (fun cdv A outer s H vs Q E hr h=>?_)
 ·obtain ⟨_,_,_,rfl,_⟩:=h
  rfl
 refine hW h fun l ws P0 _hi=>?_
 refine cU _hi fun _r1 _r2 l2 q=>?_
 clear h _hi;subst _r1;obtain ⟨vs,el,r0⟩:=_r2;refine ⟨_,(ao (aN (iw (own:= "way") (ys:= []) (js:= []) rfl (qN oY .nil (by decide) rfl rfl rfl rfl rfl rfl rfl rfl) (ba (pv 0)) (fun C fp s H=>(cf (aa (au (cN (K:=K) rfl) (pv 0) aj (fun _ _=>rfl)) (aa (au (cN (K:=K) rfl) (pv 0) aj (fun _ _=>rfl)) (aa (dk (rN (K:=K) rfl) rfl B.Fy boot_list (aa (au (cN (K:=K) rfl) (pv 0) aj (fun _ _=>rfl)) af)) af)))))))),?_⟩
 try dsimp only[cxK]
 have sl:sizeLine=16777216:=sizeLine_eq;have r:=r0.imp fun _ _ q=>Af q
 refine ⟨_,rfl,l,rfl,⟨_,aK.of el⟩,eI eW (fun a=>P0 a/\H a≠none) (fun i=>ws.getD i (0,0,[])) (aK.of el) (by rw[r.1];lia) (fun a h=>h.2) (fun i y hy H3 g Q' hQ=>?_) fun p H' np g hp=>?_⟩
 ·refine cG (r.at_ hy) fun w _hi=>?_
  refine bK _hi fun hw _hj=>?_
  refine cL _hj fun t u _hk=>?_
  refine cU _hk fun _r1 _ _ _hl=>?_
  refine bK _hl fun et _hm=>?_
  refine cG _hm fun us _hn=>?_
  refine bK _hn fun eu ru=>?_
  clear _hi _hj _hk _hl _hm _hn;subst _r1;have et3:=g _ _ et;rw[bR hw] at hQ;refine ⟨_,rfl,aR t _ _ _ ⟨rfl,rfl,bH.of et3,rfl,_,rfl,aR t _ _ _ ⟨rfl,rfl,bH.of et3,rfl,_,rfl,aR t _ _ _ ⟨rfl,rfl,bH.of et3,rfl,aA u us ⟨rfl,.inl (aK.of (g _ _ eu)),fun u' nu=>⟨by show 3<=sizeLine;decide,fun t' nt=>?_⟩⟩⟩⟩⟩⟩
  have g1:=ai nu (.lst us);have g2:=ai nt (.tup [.int w.1,.int w.2.1,.ref u']);exact hQ _ _ (g1.trans g2) (aA t' u' ⟨rfl,.inl (g1.free nt),.inl nu,ag,us,g2 _ _ ag,ru.imp fun v e q=>xf (k7 q (g.trans (g1.trans g2))) fun a h=> .inr h⟩)
 ·rw[mK ws (0,0,[]) r.1] at hp;exact q p H' g np ⟨p,rfl,.inl np,hp.mono fun a h=>h.2.imp id fun z=>z.1⟩
theorem De {dV:Value} (F:bN K "refuse_wrong_tools" "refuse_wrong_tools" C5 dV f fd) (DZ0:Dx P w K mg base bQ 1 "is_name" ["thing"] [] (qm K)):bv P w K mg base bQ 2 f fd ["tools"] mB:=by
 have sc:aI ["tools","tool","many"] ["tools"] (aw C5):=fO (by decide+kernel)
 refine F.ok sc (fun vs H Q E h=>?_) (fun cdv A outer s H vs Q E hr h=>?_)
 ·obtain ⟨_,_,rfl,_⟩:=h
  rfl
 refine cL h fun td D _hi=>?_
 refine cU _hi fun _r1 e l12 _hj=>?_
 refine bK _hj fun ok q=>?_
 clear h _hi _hj;subst _r1;refine ⟨_,(ae (a7 (aP im (aB gZ rfl B.Fn boot_len (aa (pv 0) af)) (cI rfl B.Gu) (aV _)) (ao bG) aG) (ao (iY (aY PassesOwn.never rfl (wE (zG PySem.F.plainAttrs_dict PySem.F.slot_dict_items PySem.F.type_dict_items wD (pv 0))) (c5 rfl (aQ (dy 1 sc) (aQ (dy 2 sc) cD))) (ae (a7 (bU (cw (dE DZ0 hr (aa (pv 1) af)))) (ao bG) aG) (ao (a7 (bU (cH cR cR aj (pv 2) (cI rfl B.Gp))) (ao bG) aG))))))),?_⟩;try dsimp only[cxK]
 refine ⟨_,rfl,aA td _ ⟨rfl,e,aA _ _ ⟨rfl,rfl,_,rfl,dF (by rw[fv];lia) ?_⟩⟩⟩
 refine ⟨_,rfl,.inr (.inr (.inl ⟨rfl,.inl ⟨_,e⟩⟩)),aA td _ ⟨rfl,rfl,e,fun v nv=>?_⟩⟩
 have g:=ai nv (.ext fun h=>h.IsItemsView v td)
 refine (cC v td _ ⟨rfl,ag,g _ _ e,fun o nf=>?_⟩)
 have e1:=g _ _ e;generalize av H v (.ext fun h=>h.IsItemsView v td)=H1 at g e1⊢
 have ef:av H1 td (.frz o (.dK (aC D))) td=some (.frz o (.dK (aC D))):=ag;refine vm (fun i σ H'=>az (av H1 td (.frz o (.dK (aC D)))) H'/\∃o1 o2:Option V,σ= [G0 td,o1,o2]) ⟨.refl _,aA none none rfl⟩ (fun i σ H' _ h=>h.1 _ _ ef) ?_ ?_
 ·rintro i k y σ H2 T' hk ⟨g2,o1,o2,rfl⟩ nT;obtain ⟨p,hp,rfl,rfl⟩:=gm hk;obtain ⟨n1,n2,n3⟩:=ok p (D6 hp);have g3:=g2.trans (ai nT (.tup [kV (.inr p.1),.int p.2]));have zl:p.1.length<=1000000:=by have:=n1.2.1;rw[nR] at this;lia
  refine (aA T' _ ⟨rfl,bH.of ag,rfl,aA _ _ ⟨rfl,aA _ _ ⟨rfl,rfl,?_⟩⟩⟩);refine ⟨_,rfl,_,rfl,.inl ⟨p.1,rfl,zl,fun _=>⟨_,rfl,dR ?_⟩,fun z=>absurd n1 z⟩⟩
  exact ⟨_,rfl,aA _ _ ⟨rfl,rfl,_,rfl,dT n2 (aA _ _ ⟨rfl,rfl,_,rfl,nF n3 ⟨g3,aA _ _ rfl⟩⟩)⟩⟩
 ·rintro σ H2 ⟨g2,o1,o2,rfl⟩;exact (cC td o _ ⟨g2 _ _ ef,nf,q _ (g.trans (eK e1 g2))⟩)
theorem Df {dV:Value} (F:bN K "refuse_wrong_uses" "refuse_wrong_uses" C6 dV f fd):bv P w K mg base bQ 1 f fd ["uses","tools"] qo:=by
 have sc:aI ["uses","tools","use"] ["uses","tools"] (aw C6):=fO (by decide+kernel)
 refine F.ok sc (fun vs H Q E h=>?_) (fun cdv A outer s H vs Q E hr h=>?_)
 ·obtain ⟨_,_,_,_,rfl,_⟩:=h
  rfl
 refine oA h fun u td D us _hi=>?_
 refine cU _hi fun _r1 _r2 ed _hj=>?_
 refine bK _hj fun _r3 q=>?_
 clear h _hi _hj;subst _r1;obtain ⟨vs,eu,ru⟩:=_r2;obtain ⟨nd,l100,ok⟩:=_r3;refine ⟨_,(ae (a7 (aP lQ (uT rfl rfl B.Fn rfl B.GJ PyProof.Rows.Boot.«len» PyProof.Rows.Boot.«set» (iw (own:= "use") (ys:= []) (js:= []) rfl (qN oY .nil (by decide) rfl rfl rfl rfl rfl rfl rfl rfl) (ba (pv 0)) (fun C fp s H=>(au (cN (K:=K) rfl) (pv 0) aj (fun _ _=>rfl))))) (aB aJ rfl B.Fn boot_len (aa (pv 0) af)) (aV _)) (ao bG) aG) (ao (aY PassesOwn.never rfl (ba (pv 0)) (dy 2 sc) (ae (a7 (qR (iV (cx hr) (au aD (pv 2) aj (fun _ _=>rfl)) (pv 1)) (by with_unfolding_all rfl)) (ao bG) aG) (ae (a7 (bU (cH cR cR aj (au aD (pv 2) aj (fun _ _=>rfl)) (cb (cx hr) (pv 1) (au aD (pv 2) aj (fun _ _=>rfl)) (fun _ _=>rfl)))) (ao bG) aG) (ao (a7 (bU (cH cR cR aj (au aD (pv 2) aj (fun _ _=>rfl)) (cI rfl B.Gg))) (ao bG) aG))))))),?_⟩
 try dsimp only[cxK]
 have sl:sizeLine=16777216:=sizeLine_eq;refine ⟨_,rfl,u,rfl,⟨_,aK.of eu⟩,eI (og V.str) (fun _=>False) (fun i=>(us.getD i ("",0,0)).1) (aK.of eu) (by rw[ru.1];lia) (fun a h=>h.elim) (fun i y hy H3 g Q' hQ=>?_) fun p H' np g hp=>?_⟩
 ·refine cG (ru.at_ hy) fun e _hi=>?_
  refine bK _hi fun he _hj=>?_
  refine cG _hj fun t _hk=>?_
  refine dA _hk fun _r1 _ et=>?_
  clear _hi _hj _hk;subst _r1;rw[bR he] at hQ;exact ⟨_,rfl,aR t _ _ _ ⟨rfl,rfl,bH.of (g _ _ et),rfl,hQ _ _ (.refl _) rfl⟩⟩
 obtain ⟨ps,ep,rp⟩:=hp;have e1:ps=(us.map fun e=>(.inr e.1:Key)).map kV:=by
  rw[rp.val,En,En]
  conv=>rhs;rw[<-kJ us ("",0,0),En,<-ru.1]
  rfl
 rw[e1] at ep;refine (aA p (us.map fun e=>(.inr e.1:Key)) ⟨rfl,aK.of ep,?_,by rw[D3];lia,_,rfl,aA u _ ⟨rfl,.inl (aK.of (g _ _ eu)),rfl,_,rfl,Bp (by rw[D3,ru.1]) ?_⟩⟩)
 ·have:(us.map fun e=>(.inr e.1:Key))=(us.map (·.1)).map Sum.inr:=by rw[En];rfl
  rw[this];exact nd.map (f:=(Sum.inr:Str->Key)) fun a b h e=>h (by injection e)
 clear ep rp e1;refine ⟨_,rfl,u,rfl,⟨_,aK.of (g _ _ eu)⟩,bI (xs:=vs) (fun i σ H2=>H'=H2/\∃o2:Option V,σ= [G0 u,G0 td,o2]) ⟨rfl,none,rfl⟩ (fun i σ H2 _ h=>by rw[<-h.1];exact aK.of (g _ _ eu)) ?_ ?_⟩
 ·rintro i y σ H2 hy ⟨rfl,o2,rfl⟩;refine cG (ru.at_ hy) fun e _hi=>?_
  refine bK _hi fun he _hj=>?_
  refine cG _hj fun t _hk=>?_
  refine dA _hk fun _r1 _ et=>?_
  clear _hi _hj _hk;subst _r1;refine cG (ok e (D6 he)) fun m _hi=>?_
  refine cU _hi fun hm k1 k2 _hj=>?_
  refine bK _hj fun k3 k4=>?_
  have et':=g _ _ et;have dg:=jg (.inl (g _ _ ed)) hm;refine ⟨_,rfl,aR t _ _ _ ⟨rfl,rfl,bH.of et',rfl,_,rfl,aA td _ ⟨rfl,dg,_,rfl,dR ?_⟩⟩⟩;refine ⟨_,rfl,aR t _ _ _ ⟨rfl,rfl,bH.of et',rfl,aA _ _ ⟨rfl,rfl,_,rfl,dT k1 ⟨_,rfl,_,rfl,aR t _ _ _ ⟨rfl,rfl,bH.of et',rfl,aA td _ ⟨rfl,dg,aA _ _ ⟨rfl,rfl,_,rfl,nF k2 ?_⟩⟩⟩⟩⟩⟩⟩;exact ⟨_,rfl,aR t _ _ _ ⟨rfl,rfl,bH.of et',rfl,aA _ _ ⟨rfl,rfl,_,rfl,dT k3 (aA _ _ ⟨rfl,rfl,_,rfl,nF k4 ⟨rfl,_,rfl⟩⟩)⟩⟩⟩
 ·rintro σ H2 ⟨rfl,o2,rfl⟩;exact q _ g
theorem Dg {dV:Value} (F:bN K "refuse_wrong_tasks" "refuse_wrong_tasks" C7 dV f fd) (DZ4:Dx P w K mg base bQ 1 "refuse_wrong_uses" ["uses","tools"] [] qo):bv P w K mg base bQ 2 f fd ["tasks","tools"] mC:=by
 have sc:aI ["tasks","tools","ways","way"] ["tasks","tools"] (aw C7):=fO (by decide+kernel)
 refine F.ok sc (fun vs H Q E h=>?_) (fun cdv A outer s H vs Q E hr h=>?_)
 ·obtain ⟨_,_,_,_,rfl,_⟩:=h
  rfl
 refine oA h fun tl td D T _hi=>?_
 refine iN _hi fun _r1 _r2 ed l24 ok q=>?_
 clear h _hi;subst _r1;obtain ⟨as,el,r⟩:=_r2;refine ⟨_,(ae (a7 (aP im (aB aJ rfl B.Fn boot_len (aa (pv 0) af)) (cI rfl B.Gv) (aV _)) (ao bG) aG) (ao (aY PassesOwn.never rfl (ba (pv 0)) (dy 2 sc) (ae (a7 (bU (cH cR cR aj (aB aJ rfl B.Fn boot_len (aa (pv 2) af)) (cI rfl B.GA))) (ao bG) aG) (ao (aY PassesOwn.never rfl (ba (pv 2)) (dy 3 sc) (ae (a7 (bU (uM cR cR cR aj (au aD (pv 3) aj (fun _ _=>rfl)) (au aD (pv 3) aj (fun _ _=>rfl)) (cI rfl B.Gg))) (ao bG) aG) (ao (bt (dE DZ4 hr (aa (au aD (pv 3) aj (fun _ _=>rfl)) (aa (pv 1) af)))))))))))),?_⟩
 try dsimp only[cxK]
 have ll:as.length=T.length:=r.1;refine ⟨_,rfl,aA tl _ ⟨rfl,.inl (aK.of el),aA _ _ ⟨rfl,rfl,_,rfl,dF (by rw[ll];lia) ?_⟩⟩⟩
 refine ⟨_,rfl,tl,rfl,⟨_,aK.of el⟩,bI (xs:=as) (fun i σ H'=>az H H'/\∃o2 o3:Option V,σ= [G0 tl,G0 td,o2,o3]) ⟨.refl _,aA none none rfl⟩ (fun i σ H' _ h=>aK.of (h.1 _ _ el)) ?_ ?_⟩
 ·rintro i y σ H1 hy ⟨g1,o2,o3,rfl⟩;refine cG (r.at_ hy) fun ws _hi=>?_
  refine bK _hi fun hw _hj=>?_
  refine cG _hj fun wl _hk=>?_
  refine dA _hk fun _r1 _ _hl=>?_
  refine cG _hl fun ts _hm=>?_
  refine bK _hm fun ets0 rt0=>?_
  clear _hi _hj _hk _hl _hm;subst _r1;have ets:=g1 _ _ ets0;have rt:=rt0.imp fun _ _ q=>k7 q g1
  obtain ⟨o1,o2',ow⟩:=ok ws (D6 hw);have lw:ts.length=ws.length:=rt.1;refine ⟨_,rfl,aA wl _ ⟨rfl,.inl (aK.of ets),aA _ _ ⟨rfl,rfl,_,rfl,dT (by rw[lw];lia) (aA _ _ ⟨rfl,rfl,_,rfl,nF (by rw[lw];lia) ?_⟩)⟩⟩⟩
  refine ⟨_,rfl,wl,rfl,⟨_,aK.of ets⟩,bI (xs:=ts) (fun j σ H'=>az H H'/\az H1 H'/\∃o3:Option V,σ= [G0 tl,G0 td,G0 wl,o3]) ⟨g1,.refl _,o3,rfl⟩ (fun j σ H' _ h=>aK.of (h.2.1 _ _ ets)) ?_ ?_⟩
  ·rintro j z σ H2 hz ⟨g2,g12,o3,rfl⟩;refine cG (rt.at_ hz) fun w _hi=>?_
   refine bK _hi fun hw2 _hj=>?_
   refine cL _hj fun t u _hk=>?_
   refine cU _hk fun _r1 _ _ _hl=>?_
   refine bK _hl fun et0 lu0=>?_
   clear _hi _hj _hk _hl;subst _r1;have et:=g12 _ _ et0;obtain ⟨w1,w2,w3,w4⟩:=ow w (D6 hw2);refine ⟨_,rfl,aR t _ _ _ ⟨rfl,rfl,bH.of et,rfl,aA _ _ ⟨rfl,rfl,_,rfl,dT w1 ⟨_,rfl,aR t _ _ _ ⟨rfl,rfl,bH.of et,rfl,aA _ _ ⟨rfl,rfl,_,rfl,dT w2 (aA _ _ ⟨rfl,rfl,_,rfl,nF w3 ?_⟩)⟩⟩⟩⟩⟩⟩;exact ⟨_,rfl,aR t _ _ _ ⟨rfl,rfl,bH.of et,rfl,_,rfl,aR u td D w.2.2 ⟨rfl,lu0.same g12,g2 _ _ ed,w4,fun H3 g3=>⟨g2.trans g3,g12.trans g3,_,rfl⟩⟩⟩⟩
  ·rintro σ H2 ⟨g2,_,o3,rfl⟩;exact ⟨g2,aA _ _ rfl⟩
 ·rintro σ H1 ⟨g1,o2,o3,rfl⟩;exact q _ g1
theorem Dh {dV:Value} (F:bN K "refuse_wrong_arcs" "refuse_wrong_arcs" C8 dV f fd):bv P w K mg base bQ 1 f fd ["arcs","points"] tF:=by
 have sc:aI ["arcs","points","arc"] ["arcs","points"] (aw C8):=fO (by decide+kernel)
 refine F.ok sc (fun vs H Q E h=>?_) (fun cdv A outer s H vs Q E hr h=>?_)
 ·obtain ⟨_,_,_,rfl,_⟩:=h
  rfl
 refine hW h fun al m A _hi=>?_
 refine cU _hi fun _r1 _r2 l6 _hj=>?_
 refine bK _hj fun ok q=>?_
 clear h _hi _hj;subst _r1;obtain ⟨as,el,r⟩:=_r2;refine ⟨_,(ae (a7 (aP im (aB aJ rfl B.Fn boot_len (aa (pv 0) af)) (cI rfl B.GB) (aV _)) (ao bG) aG) (ao (aY PassesOwn.never rfl (ba (pv 0)) (dy 2 sc) (ae (a7 (bU (PW.pt (m3 (cH cR eZ aj (au aD (pv 2) aj (fun _ _=>rfl)) (pv 1)) (jN (cH cR eZ aj (au aD (pv 2) aj (fun _ _=>rfl)) (pv 1)))))) (ao bG) aG) (ao (a7 (aP im (aB v3 rfl B.GQ boot_abs (aa (au aD (pv 2) aj (fun _ _=>rfl)) af)) (cI rfl B.Gg) (aV _)) (ao bG) aG)))))),?_⟩
 try dsimp only[cxK]
 have ll:(as.map V.ref).length=A.length:=by rw[D3];exact r.1
 refine ⟨_,rfl,aA al _ ⟨rfl,.inl (aK.of el),aA _ _ ⟨rfl,rfl,_,rfl,dF (by rw[ll];lia) ?_⟩⟩⟩
 refine ⟨_,rfl,al,rfl,⟨_,aK.of el⟩,bI (xs:=as.map V.ref) (fun i σ H'=>H=H'/\∃o2:Option V,σ= [G0 al,some (.int m),o2]) ⟨rfl,none,rfl⟩ (fun i σ H' _ h=>by rw[<-h.1];exact aK.of el) ?_ ?_⟩
 ·rintro i x σ H1 hx ⟨rfl,o2,rfl⟩;rw[D9] at hx;obtain ⟨t,ht,rfl⟩:=DV.mp hx;have il:i<A.length:=by rw[<-r.1];exact (D4.mp ht).1
  have et:=r.2 i t _ ht (D0 il);refine hW (ok _ (Ed il)) fun a b g _hi=>?_
  refine iN _hi fun e a0 a1 b0 b1 _hj=>?_
  refine bK _hj fun g0 g1=>?_
  rw[e] at et;refine ⟨_,rfl,aR t _ _ _ ⟨rfl,rfl,bH.of et,rfl,aA _ _ ⟨rfl,rfl,_,rfl,dT a0 ⟨_,rfl,aA _ _ ⟨rfl,rfl,_,rfl,dT a1 ⟨_,rfl,aR t _ _ _ ⟨rfl,rfl,bH.of et,rfl,aA _ _ ⟨rfl,rfl,_,rfl,dT b0 ⟨_,rfl,aA _ _ ⟨rfl,rfl,_,rfl,nF b1 ?_⟩⟩⟩⟩⟩⟩⟩⟩⟩⟩;exact ⟨_,rfl,aR t _ _ _ ⟨rfl,rfl,bH.of et,rfl,g,rfl,aA _ _ ⟨rfl,rfl,_,rfl,dF (by split<;>lia) ⟨rfl,_,rfl⟩⟩⟩⟩
 ·rintro σ H1 ⟨rfl,o2,rfl⟩;exact q
theorem Di {dV:Value} (F:bN K "refuse_wrong_pairs" "refuse_wrong_pairs" C9 dV f fd):bv P w K mg base bQ 1 f fd ["pairs","many"] mD:=by
 have sc:aI ["pairs","many","pair"] ["pairs","many"] (aw C9):=fO (by decide+kernel)
 refine F.ok sc (fun vs H Q E h=>?_) (fun cdv A outer s H vs Q E hr h=>?_)
 ·obtain ⟨_,_,_,rfl,_⟩:=h
  rfl
 refine hW h fun pl m B2 _hi=>?_
 refine cU _hi fun _r1 _r2 l3 _hj=>?_
 refine bK _hj fun ok q=>?_
 clear h _hi _hj;subst _r1;obtain ⟨as,el,r⟩:=_r2;refine ⟨_,(ae (a7 (aP im (aB aJ rfl B.Fn boot_len (aa (pv 0) af)) (cI rfl B.Gw) (aV _)) (ao bG) aG) (ao (aY PassesOwn.never rfl (ba (pv 0)) (dy 2 sc) (ae (a7 (bU (PW.pt (m3 (cH cR eZ aj (au aD (pv 2) aj (fun _ _=>rfl)) (pv 1)) (jN (cH cR eZ aj (au aD (pv 2) aj (fun _ _=>rfl)) (pv 1)))))) (ao bG) aG) (ao (a7 (aP j0 (au aD (pv 2) aj (fun _ _=>rfl)) (au aD (pv 2) aj (fun _ _=>rfl)) (aV _)) (ao bG) aG)))))),?_⟩
 try dsimp only[cxK]
 have ll:(as.map V.ref).length=B2.length:=by rw[D3];exact r.1
 refine ⟨_,rfl,aA pl _ ⟨rfl,.inl (aK.of el),aA _ _ ⟨rfl,rfl,_,rfl,dF (by rw[ll];lia) ?_⟩⟩⟩
 refine ⟨_,rfl,pl,rfl,⟨_,aK.of el⟩,bI (xs:=as.map V.ref) (fun i σ H'=>H=H'/\∃o2:Option V,σ= [G0 pl,some (.int m),o2]) ⟨rfl,none,rfl⟩ (fun i σ H' _ h=>by rw[<-h.1];exact aK.of el) ?_ ?_⟩
 ·rintro i y σ H1 hy ⟨rfl,o2,rfl⟩;obtain ⟨t,ht,rfl⟩:=d0 hy;have il:i<B2.length:=by rw[<-r.1];exact (D4.mp ht).1
  have et:=r.2 i t _ ht (D0 il);refine cL (ok _ (Ed il)) fun a b _hi=>?_
  refine iN _hi fun e a0 a1 b0 b1 ab=>?_
  rw[e] at et;refine ⟨_,rfl,aR t _ _ _ ⟨rfl,rfl,bH.of et,rfl,aA _ _ ⟨rfl,rfl,_,rfl,dT a0 ⟨_,rfl,aA _ _ ⟨rfl,rfl,_,rfl,dT a1 ⟨_,rfl,aR t _ _ _ ⟨rfl,rfl,bH.of et,rfl,aA _ _ ⟨rfl,rfl,_,rfl,dT b0 ⟨_,rfl,aA _ _ ⟨rfl,rfl,_,rfl,nF b1 ?_⟩⟩⟩⟩⟩⟩⟩⟩⟩⟩;exact ⟨_,rfl,aR t _ _ _ ⟨rfl,rfl,bH.of et,rfl,_,rfl,aR t _ _ _ ⟨rfl,rfl,bH.of et,rfl,rfl,_,rfl,DD ab ⟨rfl,_,rfl⟩⟩⟩⟩
 ·rintro σ H1 ⟨rfl,o2,rfl⟩;exact q
theorem Dj {dV:Value} (F:bN K "__init__" "Net.__init__" Cl dV f fd) (DZ1:Dx P w K mg base bQ 1 "points_of" ["net"] [] (mE mt)) (DZ2:Dx P w K mg base bQ 1 "copy_of_task" ["ways"] [] tL) (DZ3:Dx P w K mg base bQ 2 "refuse_wrong_tools" ["tools"] [] mB) (DZ5:Dx P w K mg base bQ 2 "refuse_wrong_tasks" ["tasks","tools"] [] mC) (DZ6:Dx P w K mg base bQ 1 "refuse_wrong_arcs" ["arcs","points"] [] tF) (DZ7:Dx P w K mg base bQ 1 "refuse_wrong_pairs" ["pairs","many"] [] mD):bv P w K mg base bQ 3 f fd ["self","tools","tasks","arcs","apart","moments"] (sh mt):=by
 have sc:aI ["self","tools","tasks","arcs","apart","moments"] ["self","tools","tasks","arcs","apart","moments"] (aw Cl):=fO (by decide+kernel)
 refine F.ok sc (fun vs H Q E h=>?_) (fun cdv A outer s H vs Q E hr h=>?_)
 ·obtain ⟨_,_,_,_,_,_,_,_,_,_,_,rfl,_⟩:=h
  rfl
 refine AQ h fun x dx td tl al v n D T _hi=>?_
 refine cL _hi fun A B2 _hj=>?_
 refine iN _hj fun _r1 ex etd hT hA _hk=>?_
 refine dA _hk fun hv ok q=>?_
 clear h _hi _hj _hk;subst _r1;refine ⟨_,(ae (j3 (pv 0) (dk rD rfl B.GG rQ (aa (pv 1) af)) rfl) (ae (j3 (pv 0) (iw (own:= "ways") (ys:= []) (js:= []) rfl (qN oY .nil (by decide) rfl rfl rfl rfl rfl rfl rfl rfl) (ba (pv 2)) (fun C fp s H=>(dE DZ2 hr (aa (pv 0) af)))) rfl) (ae (j3 (pv 0) (dk c6 rfl B.Fy boot_list (aa (pv 3) af)) rfl) (ae (j3 (pv 0) (vP (aP zC (pv 4) jY (aV _)) (bM af) (dk c6 rfl B.Fy boot_list (aa (pv 4) af))) rfl) (ae (j3 (pv 0) (pv 5) rfl) (ae (bt (dE DZ3 hr (aa (ce (pv 0) rfl) af))) (ae (bt (dE DZ5 hr (aa (ce (pv 0) rfl) (aa (ce (pv 0) rfl) af)))) (ae (a7 (bU (cH cR cR aj (pv 5) (cI rfl B.Gm))) (ao bG) aG) (ae (bt (dE DZ6 hr (aa (ce (pv 0) rfl) (aa (dE DZ1 hr (aa (pv 0) af)) af)))) (ao (bt (dE DZ7 hr (aa (ce (pv 0) rfl) (aa (aB aJ rfl B.Fn boot_len (aa (ce (pv 0) rfl) af)) af)))))))))))))),?_⟩
 try dsimp only[cxK]
 have sl:sizeLine=16777216:=sizeLine_eq;refine ⟨_,rfl,aA td _ ⟨rfl,etd,fun td' ntd=>?_⟩⟩
 have g1:=ai ntd (.dK (aC D));refine ⟨_,rfl,aR x _ dx _ ⟨rfl,g1 _ _ ex,B.Fm,B.Fq,by decide,?_⟩⟩
 have e1:av (av H td' (.dK (aC D))) x (.ins mt dx (aW "tools" (.ref td') [])) x=some (.ins mt dx (aW "tools" (.ref td') [])):=ag;have f1:Fx x H (av (av H td' (.dK (aC D))) x (.ins mt dx (aW "tools" (.ref td') []))):=(Fx.of g1).trans (Fx.put x _ _);have d1:av (av H td' (.dK (aC D))) x (.ins mt dx (aW "tools" (.ref td') [])) td'=some (.dK (aC D)):=by
  rw[ar (fun z=>by rw[z,ex] at ntd;cases ntd)]
  exact ag
 generalize av (av H td' (.dK (aC D))) x (.ins mt dx (aW "tools" (.ref td') []))=H1 at e1 f1 d1⊢;obtain ⟨vs,el,rT⟩:=hT.fx ex f1;clear g1 ntd;refine ⟨_,rfl,tl,rfl,⟨_,aK.of el⟩,eI jA (fun a=>An a/\H1 a≠none) (fun i=>T.getD i []) (aK.of el) (by rw[rT.1];have:=ok.t24;lia) (fun a h=>h.2) (fun i y hy H3 g Q' hQ=>?_) fun p H2 np g2 hp=>?_⟩
 ·obtain ⟨ws,hw,hwl⟩:=rT.at_ hy;obtain ⟨l,rfl,_,lw⟩:=Af hwl;obtain ⟨w1,w2,w3⟩:=ok.ways ws (D6 hw);rw[bR hw] at hQ;exact ⟨_,rfl,cC l ws _ ⟨rfl,lw.same g,w2,fun p H4 g4 _ wf=>hQ _ _ g4 wf⟩⟩
 rw[mK T [] rT.1] at hp;have hT2:=hp.any;have e2:=g2 _ _ e1;have d2:=g2 _ _ d1;have f2:Fx x H H2:=f1.trans (Fx.of g2);clear hp g2 np rT el;refine ⟨_,rfl,x,_,dx,_,rfl,e2,B.Fm,B.Fo,by
  have:=bf "tools" (.ref td') [];simp at*
  lia,?_⟩
 have e3:av H2 x (.ins mt dx (aW "tasks" (.ref p) (aW "tools" (.ref td') []))) x=some (.ins mt dx (aW "tasks" (.ref p) (aW "tools" (.ref td') []))):=ag;have w3:Fx x H2 (av H2 x (.ins mt dx (aW "tasks" (.ref p) (aW "tools" (.ref td') [])))):=Fx.put x H2 _;generalize av H2 x (.ins mt dx (aW "tasks" (.ref p) (aW "tools" (.ref td') [])))=H3 at e3 w3⊢;have d3:=w3 _ _ (jp d2 e2 (by intro z;cases z)) d2
 have hT3:=hT2.fx e2 w3;have f3:=f2.trans w3;clear d2 hT2 f2 w3 e2 e1 d1 f1;obtain ⟨bs,eal,rA⟩:=cy.fx hA ex f3;refine ⟨_,rfl,aA al _ ⟨rfl,.inl (aK.of eal),fun al' nal=>?_⟩⟩
 have g4:=ai nal (.lst (bs.map V.ref));have hA4:cy (av H3 al' (.lst (bs.map V.ref))) al' A:=⟨bs,ag,rA.imp fun a k q=>g4 _ _ q⟩
 have e4:=g4 _ _ e3;have d4:=g4 _ _ d3;have hT4:=hT3.same g4;have f4:=f3.trans (Fx.of g4);generalize av H3 al' (.lst (bs.map V.ref))=H4 at hA4 e4 d4 hT4 f4⊢;clear g4 nal d3 hT3 f3 rA eal e3;refine ⟨_,rfl,x,_,dx,_,rfl,e4,B.Fm,B.Ga,by
  have:=bf "tools" (.ref td') [];have:=bf "tasks" (.ref p) (aW "tools" (.ref td') []);simp at*
  lia,?_⟩
 have e5:av H4 x (.ins mt dx (aW "arcs" (.ref al') (aW "tasks" (.ref p) (aW "tools" (.ref td') [])))) x=some (.ins mt dx (aW "arcs" (.ref al') (aW "tasks" (.ref p) (aW "tools" (.ref td') [])))):=ag;have w5:Fx x H4 (av H4 x (.ins mt dx (aW "arcs" (.ref al') (aW "tasks" (.ref p) (aW "tools" (.ref td') []))))):=Fx.put x H4 _;generalize av H4 x (.ins mt dx (aW "arcs" (.ref al') (aW "tasks" (.ref p) (aW "tools" (.ref td') []))))=H5 at e5 w5⊢;have d5:=w5 _ _ (jp d4 e4 (by intro z;cases z)) d4
 have hT5:=hT4.fx e4 w5;have hA5:=hA4.fx e4 w5;have f5:=f4.trans w5;clear d4 hT4 hA4 f4 w5 e4;try dsimp only[aT,aZ]
 refine cut (fun σ H'=>∃pl':Addr,σ= [G0 x,G0 td,G0 tl,G0 al,some v,some (.int n)]/\H' x=some (.ins mt dx (aW "apart" (.ref pl') (aW "arcs" (.ref al') (aW "tasks" (.ref p) (aW "tools" (.ref td') [])))))/\H' td'=some (.dK (aC D))/\bJ jA An H' p T/\cy H' al' A/\cy H' pl' B2/\Fx x H H') (fun N hN=>?_) ?_
 ·have fin:∀(cs:GW) (pl':Addr),H5 pl'=none->cX (fun t k=>H5 t=some (.tup (k.map V.int))) cs B2->N [some (.ref x),some (.ref td),some (.ref tl),some (.ref al),some v,some (.int n)] (av (av H5 pl' (.lst (cs.map V.ref))) x (.ins mt dx (aW "apart" (.ref pl') (aW "arcs" (.ref al') (aW "tasks" (.ref p) (aW "tools" (.ref td') [])))))):=fun cs pl' npl rB=>by
   have g6:=ai npl (.lst (cs.map V.ref));have hB6:cy (av H5 pl' (.lst (cs.map V.ref))) pl' B2:=⟨cs,ag,rB.imp fun a k q=>g6 _ _ q⟩
   have e6:=g6 _ _ e5;have d6:=g6 _ _ d5;have hT6:=hT5.same g6;have hA6:=hA5.same g6;have f6:=f5.trans (Fx.of g6);generalize av H5 pl' (.lst (cs.map V.ref))=H6 at hB6 e6 d6 hT6 hA6 f6⊢;have w7:Fx x H6 (av H6 x (.ins mt dx (aW "apart" (.ref pl') (aW "arcs" (.ref al') (aW "tasks" (.ref p) (aW "tools" (.ref td') [])))))):=Fx.put x H6 _;exact hN _ _ ⟨pl',rfl,ag,w7 _ _ (jp d6 e6 (by intro z;cases z)) d6,hT6.fx e6 w7,hA6.fx e6 w7,hB6.fx e6 w7,f6.trans w7⟩
  rcases hv with ⟨rfl,rfl⟩|⟨pl,rfl,hB⟩
  ·refine ⟨_,rfl,rfl,_,rfl,dT rfl ⟨by show 0<=sizeLine;decide,fun pl' npl=>?_⟩⟩
   have l3:(aW "arcs" (.ref al') (aW "tasks" (.ref p) (aW "tools" (.ref td') []))).length<1000:=by
    have:=bf "tools" (.ref td') [];have:=bf "tasks" (.ref p) (aW "tools" (.ref td') []);have:=bf "arcs" (.ref al') (aW "tasks" (.ref p) (aW "tools" (.ref td') []));simp at*
    lia
   exact ⟨_,rfl,aR x _ dx _ ⟨rfl,ai npl _ _ _ e5,B.Fm,B.Fv,l3,fin [] pl' npl cX.nil⟩⟩
  ·obtain ⟨cs,epl,rB⟩:=cy.fx hB ex f5;refine ⟨_,rfl,rfl,_,rfl,dF (by intro z;cases z) ⟨_,rfl,aA pl _ ⟨rfl,.inl (aK.of epl),fun pl' npl=>?_⟩⟩⟩
   have l3:(aW "arcs" (.ref al') (aW "tasks" (.ref p) (aW "tools" (.ref td') []))).length<1000:=by
    have:=bf "tools" (.ref td') [];have:=bf "tasks" (.ref p) (aW "tools" (.ref td') []);have:=bf "arcs" (.ref al') (aW "tasks" (.ref p) (aW "tools" (.ref td') []));simp at*
    lia
   exact ⟨_,rfl,aR x _ dx _ ⟨rfl,ai npl _ _ _ e5,B.Fm,B.Fv,l3,fin cs pl' npl rB⟩⟩
 clear d5 hT5 hA5 f5 e5;intro σ H7 h_;refine cG h_ fun pl' _hi=>?_
 refine iN _hi fun _r1 e7 d7 hT7 hA7 _hj=>?_
 refine bK _hj fun hB7 f7=>?_
 clear h_ _hi _hj;subst _r1;have l4:(aW "apart" (.ref pl') (aW "arcs" (.ref al') (aW "tasks" (.ref p) (aW "tools" (.ref td') [])))).length<1000:=by
  have:=bf "tools" (.ref td') [];have:=bf "tasks" (.ref p) (aW "tools" (.ref td') []);have:=bf "arcs" (.ref al') (aW "tasks" (.ref p) (aW "tools" (.ref td') []));have:=bf "apart" (.ref pl') (aW "arcs" (.ref al') (aW "tasks" (.ref p) (aW "tools" (.ref td') [])));simp at*
  lia
 refine ⟨_,rfl,_,rfl,aR x _ dx _ ⟨rfl,e7,B.Fm,B.Ft,l4,?_⟩⟩;have e8:av H7 x (.ins mt dx (kg (.ref td') (.ref p) (.ref al') (.ref pl') (.int n))) x=some (.ins mt dx (kg (.ref td') (.ref p) (.ref al') (.ref pl') (.int n))):=ag;have w8:Fx x H7 (av H7 x (.ins mt dx (kg (.ref td') (.ref p) (.ref al') (.ref pl') (.int n)))):=Fx.put x H7 _;change L2.zu _ _ _ _ (av H7 x (.ins mt dx (kg (.ref td') (.ref p) (.ref al') (.ref pl') (.int n))));generalize av H7 x (.ins mt dx (kg (.ref td') (.ref p) (.ref al') (.ref pl') (.int n)))=H8 at e8 w8⊢;have d8:=w8 _ _ (jp d7 e7 (by intro z;cases z)) d7
 have hT8:=hT7.fx e7 w8;have hA8:=hA7.fx e7 w8;have hB8:=hB7.fx e7 w8;have f8:=f7.trans w8;clear d7 hT7 hA7 hB7 f7 w8 e7;refine cU (yD (td:= .ref td') (tl:= .ref p) (al:= .ref al') (pl:= .ref pl') (n:= .int n)) fun k1 k2 k3 _hi=>?_
 refine bK _hi fun k4 k5=>?_
 have N8:jd mt false H8 x D T A B2 n:=⟨dx,td',p,al',pl',_,e8,k1,k2,k3,k4,k5,.inl d8,hT8,hA8,hB8⟩;refine ⟨_,rfl,aR x _ dx _ ⟨_,⟨rfl,e8,B.Fm,B.Fq,k1,aA td' D ⟨rfl,d8,ok.d12,ok.tool,fun H9 g9=>?_⟩⟩⟩⟩
 refine ⟨_,rfl,aR x _ dx _ ⟨_,⟨rfl,(g9 _ _ e8),B.Fm,B.Fo,k2,_,rfl,aR x _ dx _ ⟨_,⟨rfl,(g9 _ _ e8),B.Fm,B.Fq,k1,aR p td' D T ⟨rfl,hT8.same g9,g9 _ _ d8,ok.t24,ok.ways,fun H10 g10=>?_⟩⟩⟩⟩⟩⟩
 have g:=g9.trans g10;refine ⟨_,rfl,aA _ _ ⟨rfl,rfl,_,rfl,dT ok.n0 (aA _ _ ⟨rfl,rfl,_,rfl,nF ok.n8 ?_⟩)⟩⟩;refine ⟨_,rfl,aR x _ dx _ ⟨_,⟨rfl,(g _ _ e8),B.Fm,B.Ga,k3,_,rfl,jW x n false D T A ⟨B2,⟨rfl,N8.same g,cC al' _ A ⟨rfl,hA8.same g,ok.a600,ok.arcs,?_⟩⟩⟩⟩⟩⟩;obtain ⟨ps,ep8,rp8⟩:=hT8.same g;refine ⟨_,rfl,aR x _ dx _ ⟨_,⟨rfl,(g _ _ e8),B.Fm,B.Fv,k4,_,rfl,aR x _ dx _ ⟨_,⟨rfl,(g _ _ e8),B.Fm,B.Fo,k2,aA p _ ⟨rfl,.inl (aK.of ep8),cC pl' _ B2 ⟨rfl,hB8.same g,ok.b300,fun k hk=>?_,?_⟩⟩⟩⟩⟩⟩⟩
 ·rw[rp8.1];exact ok.pairs k hk
 exact q _ (f8.trans (Fx.of g)) (N8.same g)
theorem Dk {dV:Value} (F:bN K "use_in" "use_in" Da dV f fd):bv P w K mg base bQ 1 f fd ["way","tool"] tP:=by
 have sc:aI ["way","tool","use"] ["way","tool"] (aw Da):=fO (by decide+kernel)
 refine F.ok sc (fun vs H Q E h=>?_) (fun cdv A outer s H vs Q E hr h=>?_)
 ·obtain ⟨_,_,_,_,rfl,_⟩:=h
  rfl
 refine oA h fun v z w P0 _hi=>?_
 refine cU _hi fun _r1 _r2 q1 q0=>?_
 clear h _hi;subst _r1;obtain ⟨t,u,rfl,_,_,et,us,eu,ru⟩:=_r2;refine ⟨_,(ae (aY PassesOwn.never rfl (ba (au aD (pv 0) aj (fun _ _=>rfl))) (dy 2 sc) (ao (a7 (aP j0 (au aD (pv 2) aj (fun _ _=>rfl)) (pv 1) (aV _)) (ao (aN (pv 2))) aG))) (ao (aN jY))),?_⟩
 try dsimp only[cxK]
 refine ⟨_,rfl,aR t _ _ _ ⟨rfl,rfl,bH.of et,rfl,u,rfl,⟨_,aK.of eu⟩,bI (xs:=us) (fun i σ H'=>H=H'/\(∃o2:Option V,σ= [G0 t,some (.str z),o2])/\∀(j:Nat) (e:Us),j<i->w.2.2[j]?=some e->e.1≠z) ⟨rfl,⟨none,rfl⟩,fun j e h=>absurd h (by lia)⟩ (fun i σ H' _ h=>by rw[<-h.1];exact aK.of eu) ?_ ?_⟩⟩
 ·rintro i y σ H1 hy ⟨rfl,⟨o2,rfl⟩,hn⟩;refine cG (ru.at_ hy) fun e _hi=>?_
  refine bK _hi fun he _hj=>?_
  refine cG _hj fun a _hk=>?_
  refine dA _hk fun _r1 pa ea=>?_
  clear _hi _hj _hk;subst _r1;refine ⟨_,rfl,aR a _ _ _ ⟨rfl,rfl,bH.of ea,rfl,_,rfl,rfl,_,rfl,d2 (fun c=>?_) (fun c=>?_)⟩⟩
  ·exact ⟨_,rfl,q1 e a (tV (us:=w.2.2) he (by injection c) hn) pa ea⟩
  ·refine ⟨rfl,⟨_,rfl⟩,fun j e' hj he'=>?_⟩
   rcases Nat.lt_succ_iff_lt_or_eq.mp hj with h|h
   ·exact hn j e' h he'
   ·subst h;rw[he] at he';cases he';exact fun z=>c (by rw[z])
 ·rintro σ H1 ⟨rfl,⟨o2,rfl⟩,hn⟩;exact q0 (yN fun j e he=>hn j e (by rw[ru.1];exact (D4.mp he).1) he)
theorem BH {dV:Value} (F:bN K "is_plan" "is_plan" Al dV f fd):bv P w K mg base bQ 1 f fd ["net","plan"] (mI mt):=by
 have sc:aI ["net","plan","run","ways"] ["net","plan"] (aw Al):=fO (by decide+kernel)
 refine F.ok sc (fun vs H Q E h=>?_) (fun cdv A outer s H vs Q E hr h=>?_)
 ·obtain ⟨_,_,rfl,_⟩:=h
  rfl
 refine cL h fun x t _hi=>?_
 refine bK _hi fun _r1 _hj=>?_
 refine iM _hj fun D T A B2 R M _hk=>?_
 refine bK _hk fun N q=>?_
 clear h _hi _hj _hk;subst _r1;refine ⟨_,(ae (a7 (PW.pt (fT (aP lQ (aB aJ rfl B.Fn boot_len (aa (au aD (pv 1) aj (fun _ _=>rfl)) af)) (aB aJ rfl B.Fn boot_len (aa (ce (pv 0) rfl) af)) (aV _)) (fK (aP lQ (aB aJ rfl B.Fn boot_len (aa (au aD (pv 1) aj (fun _ _=>rfl)) af)) (ce (pv 0) rfl) (aV _))))) (ao (aN dG)) aG) (ae (aY PassesOwn.never rfl (wx rfl B.GI (aa (au aD (pv 1) aj (fun _ _=>rfl)) (aa (ce (pv 0) rfl) af))) (c5 rfl (aQ (dy 2 sc) (aQ (dy 3 sc) cD))) (ao (a7 (bU (cH cR eZ aj (au aD (pv 2) aj (fun _ _=>rfl)) (aB aJ rfl B.Fn boot_len (aa (pv 3) af)))) (ao (aN dG)) aG))) (ao (aN dG)))),?_⟩
 try dsimp only[cxK]
 have sl:sizeLine=16777216:=sizeLine_eq;refine iM N.net.ex fun dx td tl al pl fs _hi=>?_
 refine qL _hi fun e0 l1 l2 l3 l4 l5 ed _r1 _hj=>?_
 refine bK _hj fun hA hB=>?_
 obtain ⟨vs,el,rT⟩:=_r1;refine cL (id N.plan) fun rl ml _hi=>?_
 refine dA _hi fun et _r1 em=>?_
 obtain ⟨bs,er,rR⟩:=_r1;have lr:(bs.map V.ref).length=vs.length:=by rw[D3,rR.1,D3,N.pok.len,rT.1]
 refine ⟨_,rfl,aR t _ _ _ ⟨rfl,rfl,bH.of et,rfl,aA rl _ ⟨rfl,.inl (aK.of er),_,rfl,aR x _ dx _ ⟨_,⟨rfl,e0,B.Fm,B.Fo,l2,aA tl _ ⟨rfl,.inl (aK.of el),rfl,_,rfl,Bp (by rw[lr]) ?_⟩⟩⟩⟩⟩⟩
 refine ⟨_,rfl,aR t _ _ _ ⟨rfl,rfl,bH.of et,rfl,aA ml _ ⟨rfl,.inl (aK.of em),_,rfl,aR x _ dx _ ⟨_,⟨rfl,e0,B.Fm,B.Ft,l5,rfl,_,rfl,Bp (by rw[D3]) ?_⟩⟩⟩⟩⟩
 refine ⟨_,rfl,aR t _ _ _ ⟨rfl,rfl,bH.of et,rfl,_,rfl,aR x _ dx _ ⟨_,⟨rfl,e0,B.Fm,B.Fo,l2,aA rl tl ⟨rfl,⟨_,aK.of er⟩,⟨_,aK.of el⟩,tm (xs:=bs.map V.ref) (ys:=vs) (fun i σ H'=>az H H'/\∃o2 o3:Option V,σ= [G0 x,G0 t,o2,o3]) ⟨.refl _,aA none none rfl⟩ (fun i σ H' _ h=>⟨aK.of (h.1 _ _ er),aK.of (h.1 _ _ el)⟩) ?_ ?_⟩⟩⟩⟩⟩
 ·rintro i y z σ H1 T' hy hz ⟨g1,o2,o3,rfl⟩ nT;obtain ⟨b,hb,rfl⟩:=d0 hy;obtain ⟨r,hr',eb⟩:=i7 rR hb;refine cG (rT.at_ hz) fun ws _hi=>?_
  refine bK _hi fun hT _hj=>?_
  refine cG _hj fun wl _hk=>?_
  refine dA _hk fun _r1 _ _hl=>?_
  refine cG _hl fun ts _hm=>?_
  refine bK _hm fun ew rw'=>?_
  clear _hi _hj _hk _hl _hm;subst _r1;have pk:=N.pok.way i r _ hr' hT;have g2:=g1.trans (ai nT (.tup [.ref b,.ref wl]));refine (aA T' _ ⟨rfl,bH.of ag,rfl,aA _ _ ⟨rfl,aA _ _ ⟨rfl,rfl,?_⟩⟩⟩);refine ⟨_,rfl,aR b _ _ _ ⟨rfl,rfl,bH.of (g2 _ _ eb),rfl,aA _ _ ⟨rfl,rfl,_,rfl,dT pk.1 ⟨_,rfl,aA wl _ ⟨rfl,.inl (aK.of (g2 _ _ ew)),aA _ _ ⟨rfl,rfl,_,rfl,nF (by rw[rw'.1];exact pk.2) ⟨g2,aA _ _ rfl⟩⟩⟩⟩⟩⟩⟩
 ·rintro σ H1 ⟨g1,o2,o3,rfl⟩;exact q _ g1
theorem BI {dV:Value} (F:bN K "time_of" "time_of" Am dV f fd):bv P w K mg base bQ 1 f fd ["plan","point"] pY:=by
 have sc:aI ["plan","point","moment"] ["plan","point"] (aw Am):=fO (by decide+kernel)
 refine F.ok sc (fun vs H Q E h=>?_) (fun cdv A outer s H vs Q E hr h=>?_)
 ·obtain ⟨_,_,_,_,_,rfl,_⟩:=h
  rfl
 refine oA h fun t p R M _hi=>?_
 refine cG _hi fun v _hj=>?_
 refine cU _hj fun _r1 _r2 p0 _hk=>?_
 refine bK _hk fun ev q=>?_
 clear h _hi _hj _hk;subst _r1;obtain ⟨rl,ml,et,⟨bs,er,rR⟩,em⟩:=_r2;refine ⟨_,(ae (dQ 2 sc (aH jZ (pv 1) (aH cV aj (aB aJ rfl B.Fn boot_len (aa (au aD (pv 0) aj (fun _ _=>rfl)) af))))) (ae (a7 (aP Bb (pv 2) aj (aV _)) (ao (aN (au aO (au aD (pv 0) aj (fun _ _=>rfl)) (pv 2) (fun _ _=>rfl)))) aG) (ao (aN (au aD (au aO (au aD (pv 0) aj (fun _ _=>rfl)) (aH dJ (pv 1) aj) (fun _ _=>rfl)) (aH bO (pv 1) aj) (fun _ _=>rfl)))))),?_⟩
 try dsimp only[cxK]
 have lr:(bs.map V.ref).length=R.length:=by rw[D3,rR.1,D3]
 refine ⟨_,rfl,_,rfl,aR t _ _ _ ⟨rfl,rfl,bH.of et,rfl,aA rl _ ⟨rfl,.inl (aK.of er),aA _ _ ⟨rfl,rfl,IntMulOk.of_left (by decide),aA _ _ ⟨rfl,rfl,?_⟩⟩⟩⟩⟩
 refine ⟨_,rfl,aA _ _ ⟨rfl,rfl,_,rfl,d2 (fun c=>?_) (fun c=>?_)⟩⟩
 ·exact ⟨_,rfl,aR t _ _ _ ⟨rfl,rfl,bH.of et,rfl,_,rfl,aR ml _ _ _ ⟨rfl,rfl,aK.of em,yI lr c ev,q⟩⟩⟩
 ·refine cL (yH p0 (by rw[lr] at c;lia) ev) fun i r _hi=>?_
  refine dA _hi fun e1 e2 e3=>?_
  obtain ⟨b,hb,eb⟩:=run_get rR e2;exact ⟨_,rfl,aR t _ _ _ ⟨rfl,rfl,bH.of et,rfl,_,rfl,aA _ _ ⟨rfl,rfl,⟨by decide,Er (by decide)⟩,aR rl _ _ _ ⟨rfl,rfl,aK.of er,by rw[e1];exact aU (cJ hb),_,rfl,aA _ _ ⟨rfl,rfl,(by show (2:Int)≠0;decide),aR b _ _ _ ⟨rfl,rfl,bH.of eb,e3,q⟩⟩⟩⟩⟩⟩
theorem BJ {dV:Value} (F:bN K "runs_meet" "runs_meet" Ao dV f fd):bv P w K mg base bQ 1 f fd ["one","other"] sj:=by
 have sc:aI ["one","other"] ["one","other"] (aw Ao):=fO (by decide+kernel)
 refine F.ok sc (fun vs H Q E h=>?_) (fun cdv A outer s H vs Q E hr h=>?_)
 ·obtain ⟨_,_,_,_,rfl,_⟩:=h
  rfl
 refine oA h fun t u r s2 _hi=>?_
 refine cU _hi fun _r1 et eu q=>?_
 clear h _hi;subst _r1;refine ⟨_,(ao (aN (qT (jO eZ (au aD (pv 0) aj (fun _ _=>rfl)) (au aD (pv 1) aj (fun _ _=>rfl)) (aV _)) (qS (jO eZ (au aD (pv 1) aj (fun _ _=>rfl)) (au aD (pv 0) aj (fun _ _=>rfl)) (aV _)))))),?_⟩
 try dsimp only[cxK]
 refine ⟨_,rfl,aR t _ _ _ ⟨rfl,rfl,bH.of et,rfl,_,rfl,aR u _ _ _ ⟨rfl,rfl,bH.of eu,rfl,aA _ _ ⟨rfl,rfl,_,rfl,d2 (fun c=>⟨_,rfl,aR u _ _ _ ⟨rfl,rfl,bH.of eu,rfl,_,rfl,aR t _ _ _ ⟨rfl,rfl,bH.of et,rfl,aA _ _ ⟨rfl,rfl,?_⟩⟩⟩⟩) (fun c=>?_)⟩⟩⟩⟩
 ·have e:fV r s2=decide (s2.1<r.2.1):=by unfold fV;rw[decide_eq_true c,Bool.true_and]
  rw[e] at q;exact q
 ·have e:fV r s2=false:=by unfold fV;rw[decide_eq_false c,Bool.false_and]
  rw[e] at q;exact q
theorem BK {dV:Value} (F:bN K "goes_on" "goes_on" Ap dV f fd):bv P w K mg base bQ 1 f fd ["run","turn"] kI:=by
 have sc:aI ["run","turn"] ["run","turn"] (aw Ap):=fO (by decide+kernel)
 refine F.ok sc (fun vs H Q E h=>?_) (fun cdv A outer s H vs Q E hr h=>?_)
 ·obtain ⟨_,_,_,rfl,_⟩:=h
  rfl
 refine hW h fun t r n _hi=>?_
 refine dA _hi fun _r1 et q=>?_
 clear h _hi;subst _r1;refine ⟨_,(ao (aN (v0 cR eZ (au aD (pv 0) aj (fun _ _=>rfl)) (pv 1) (au aD (pv 0) aj (fun _ _=>rfl))))),?_⟩
 try dsimp only[cxK]
 refine ⟨_,rfl,aR t _ _ _ ⟨rfl,rfl,bH.of et,rfl,_,rfl,aA _ _ ⟨rfl,rfl,_,rfl,d2 (fun c=>⟨_,rfl,aR t _ _ _ ⟨rfl,rfl,bH.of et,rfl,aA _ _ ⟨rfl,rfl,?_⟩⟩⟩) (fun c=>?_)⟩⟩⟩
 ·have e:dU r n=decide (n<r.2.1):=by unfold dU;rw[decide_eq_true c,Bool.true_and]
  rw[e] at q;exact q
 ·have e:dU r n=false:=by unfold dU;rw[decide_eq_false c,Bool.false_and]
  rw[e] at q;exact q
theorem BL {dV:Value} (F:bN K "use_of" "use_of" Aq dV f fd) (DZ9:Dx P w K mg base bQ 1 "use_in" ["way","tool"] [] tP):bv P w K mg base bQ 2 f fd ["net","plan","task","tool"] (jU mt):=by
 have sc:aI ["net","plan","task","tool"] ["net","plan","task","tool"] (aw Aq):=fO (by decide+kernel)
 refine F.ok sc (fun vs H Q E h=>?_) (fun cdv A outer s H vs Q E hr h=>?_)
 ·obtain ⟨_,_,_,_,_,rfl,_⟩:=h
  rfl
 refine oA h fun x t i z _hi=>?_
 refine cG _hi fun H0 _hj=>?_
 refine dA _hj fun _r1 g _hk=>?_
 refine iM _hk fun D T A B2 R M _hl=>?_
 refine cU _hl fun N il q1 q0=>?_
 clear h _hi _hj _hk _hl;subst _r1;refine ⟨_,(ao (aN (dE DZ9 hr (aa (au aO (au aO (ce (pv 0) rfl) (pv 2) (fun _ _=>rfl)) (au aD (au aO (au aD (pv 1) aj (fun _ _=>rfl)) (pv 2) (fun _ _=>rfl)) aj (fun _ _=>rfl)) (fun _ _=>rfl)) (aa (pv 3) af))))),?_⟩
 try dsimp only[cxK]
 refine iM N.net.ex fun dx td tl al pl fs _hi=>?_
 refine qL _hi fun e0 l1 l2 l3 l4 l5 ed _r1 _hj=>?_
 refine bK _hj fun hA hB=>?_
 obtain ⟨vs,el,rT⟩:=_r1;refine cL (id N.plan) fun rl ml _hi=>?_
 refine dA _hi fun et _r1 em=>?_
 obtain ⟨bs,er,rR⟩:=_r1;refine iM (xn rT rR N.pok il) fun wl b ts v r j _hi=>?_
 refine qL _hi fun hw ew hv rw' hb eb hr' hj _=>?_
 refine ⟨_,rfl,aR x _ dx _ ⟨_,⟨rfl,(g _ _ e0),B.Fm,B.Fo,l2,_,rfl,aR tl _ _ _ ⟨rfl,rfl,aK.of (g _ _ el),(aU hw),_,rfl,aR t _ _ _ ⟨rfl,rfl,bH.of (g _ _ et),rfl,_,rfl,aR rl _ _ _ ⟨rfl,rfl,aK.of (g _ _ er),(aU (cJ hb)),b,_,_,_,rfl,rfl,bH.of (g _ _ eb),rfl,wl,_,_,_,rfl,rfl,aK.of (g _ _ ew),(by rw[hj];exact aU hv),_,rfl,v,z,_,_,rfl,k7 (Af rw') g,fun u a hu ha ea=>q1 u a hu ?_,q0⟩⟩⟩⟩⟩⟩
 cases e:H0 a with
 |none=>exact absurd e ha.2
 |some o=>
  have:=g _ _ e;rw[ea] at this;cases this
  rfl
theorem BM {dV:Value} (F:bN K "breaches_of_turns" "breaches_of_turns" Ar dV f fd):bv P w K mg base bQ 1 f fd ["net","plan"] (eM mt fun T A B R M=>cY T R T.length):=by
 have sc:aI ["net","plan","told","i","run","way"] ["net","plan"] (aw Ar):=fO (by decide+kernel)
 refine F.ok sc (fun vs H Q E h=>?_) (fun cdv A outer s H vs Q E hr h=>?_)
 ·obtain ⟨_,_,rfl,_⟩:=h
  rfl
 refine cL h fun x t _hi=>?_
 refine bK _hi fun _r1 _hj=>?_
 refine iM _hj fun D T A B2 R M _hk=>?_
 refine bK _hk fun N q=>?_
 clear h _hi _hj _hk;subst _r1;refine ⟨_,(ae (dQ 2 sc (bM af)) (ae (aY PassesOwn.never rfl (gI rfl B.Fs (aa (au aD (pv 1) aj (fun _ _=>rfl)) af)) (c5 rfl (aQ (dy 3 sc) (aQ (dy 4 sc) cD))) (ae (dQ 5 sc (au aO (au aO (ce (pv 0) rfl) (pv 3) (fun _ _=>rfl)) (au aD (pv 4) aj (fun _ _=>rfl)) (fun _ _=>rfl))) (ao (a7 (PW.pt (fT (aP eZ (au aD (pv 4) aj (fun _ _=>rfl)) aj (aV _)) (fK (bU (cH cR cR (au aD (pv 5) aj (fun _ _=>rfl)) (aH jZ (au aD (pv 4) aj (fun _ _=>rfl)) (au aD (pv 4) aj (fun _ _=>rfl))) (au aD (pv 5) aj (fun _ _=>rfl))))))) (ao (bt (dH E4 EQ EO bo (pv 2) (aa (cf (aa fH (aa (pv 3) af))) af)))) aG)))) (ao (aN (pv 2))))),?_⟩
 try dsimp only[cxK]
 have sl:sizeLine=16777216:=sizeLine_eq;refine iM N.net.ex fun dx td tl al pl fs _hi=>?_
 refine qL _hi fun e0 l1 l2 l3 l4 l5 ed _r1 _hj=>?_
 refine bK _hj fun hA hB=>?_
 obtain ⟨vs,el,rT⟩:=_r1;refine cL (id N.plan) fun rl ml _hi=>?_
 refine dA _hi fun et _r1 em=>?_
 obtain ⟨bs,er,rR⟩:=_r1;refine ⟨by show 0<=sizeLine;decide,fun l nl=>?_⟩
 have g0:=ai nl (.lst []);have lr:(bs.map V.ref).length=T.length:=by rw[D3,rR.1,D3,N.pok.len]
 refine ⟨_,rfl,aR t _ _ _ ⟨rfl,rfl,bH.of (g0 _ _ et),rfl,rl,rfl,⟨_,aK.of (g0 _ _ er)⟩,f9 (xs:=bs.map V.ref) (fun i σ H'=>∃o3 o4 o5:Option V,σ= [G0 x,G0 t,G0 l,o3,o4,o5]/\az H H'/\ToldN H H' l ([]++cY T R i)) (cC none none none ⟨rfl,g0,bJ.new⟩) (fun i σ H' _ ⟨_,_,_,_,g,_⟩=>aK.of (g _ _ er)) ?_ ?_⟩⟩
 ·rintro i y σ H1 T' hy ⟨o3,o4,o5,rfl,g1,cs,ec,rc⟩ nT;have il:i<R.length:=by
   have:=(D4.mp hy).1;rw[lr,<-N.pok.len] at this;exact this
  refine iM (xn rT rR N.pok il) fun wl b ts v r j _hi=>?_
  refine qL _hi fun hw ew hv rw' hb eb hr' hj hd=>?_
  obtain ⟨b',hb',rfl⟩:=d0 hy;rw[hb] at hb';cases hb';refine cL rw' fun tw uw _hi=>?_
  refine cU _hi fun _r1 _ _ _hj=>?_
  refine bK _hj fun ev _=>?_
  clear rw' _hi _hj;subst _r1;have t24:=N.ok.t24;have pl':=N.pok.len;have bad:jB T R i=decide (r.1<0∨¬((dw T R i).1<=r.2.1-r.1/\r.2.1-r.1<=(dw T R i).2.1)):=by
   simp only[jB,hd]
  generalize dw T R i=wy at ev bad;have gT:=ai nT (.tup [.int (i:Int),.ref b]);have g2:=g1.trans gT;have ec2:=gT _ _ ec;have rc2:=rc.imp fun _ _ q=>k7 q gT
  have eb2:=g2 _ _ eb;have ev2:=g2 _ _ ev;have sz:cs.length<sizeLine:=by
   rw[rc.1];have:=cB i (jB T R) fun i=> [V.str "turns",.int (i:Nat)]
   show (cY T R i).length<_;unfold cY
   lia
  refine (aA T' _ ⟨rfl,bH.of ag,rfl,aA _ _ ⟨rfl,aA _ _ ⟨rfl,rfl,?_⟩⟩⟩);generalize av H1 T' (.tup [.int (i:Int),.ref b])=H2 at g2 ec2 rc2 eb2 ev2⊢;refine ⟨_,rfl,aR x _ dx _ ⟨_,⟨rfl,(g2 _ _ e0),B.Fm,B.Fo,l2,_,rfl,aR tl _ _ _ ⟨rfl,rfl,aK.of (g2 _ _ el),(aU hw),_,rfl,aR b _ _ _ ⟨rfl,rfl,bH.of eb2,rfl,aR wl _ _ _ ⟨rfl,rfl,aK.of (g2 _ _ ew),(by rw[hj];exact aU hv),?_⟩⟩⟩⟩⟩⟩
  refine ⟨_,rfl,aR b _ _ _ ⟨rfl,rfl,bH.of eb2,rfl,aA _ _ ⟨rfl,rfl,_,rfl,d2 (fun c=>?_) (fun c=>?_)⟩⟩⟩
  ·exact gS ⟨_,rfl,.inl ⟨rfl,_,aK.of ec2⟩,_,rfl,by show 2<=sizeLine;decide,fun a na=>(cC l _ _ ⟨rfl,rfl,ai na _ _ _ ec2,sz,cC _ _ _ ⟨rfl,kH (pre:= []) nl g2 ec2 rc2 (by rw[bad];exact decide_eq_true (.inl c)) na rfl⟩⟩)⟩
  ·refine ⟨_,rfl,aR tw _ _ _ ⟨rfl,rfl,bH.of ev2,rfl,_,rfl,aR b _ _ _ ⟨rfl,rfl,bH.of eb2,rfl,_,rfl,aR b _ _ _ ⟨rfl,rfl,bH.of eb2,rfl,aA _ _ ⟨rfl,rfl,aA _ _ ⟨rfl,rfl,_,rfl,d2 (fun c1=>?_) (fun c1=>?_)⟩⟩⟩⟩⟩⟩
   ·refine ⟨_,rfl,aR tw _ _ _ ⟨rfl,rfl,bH.of ev2,rfl,aA _ _ ⟨rfl,rfl,_,rfl,n2 (fun c2=>?_) (fun c2=>?_)⟩⟩⟩
    ·exact ⟨_,rfl,.inl ⟨rfl,_,aK.of ec2⟩,_,rfl,by show 2<=sizeLine;decide,fun a na=>(cC l _ _ ⟨rfl,rfl,ai na _ _ _ ec2,sz,cC _ _ _ ⟨rfl,kH (pre:= []) nl g2 ec2 rc2 (by rw[bad];exact decide_eq_true (.inr fun z=>c2 z.2)) na rfl⟩⟩)⟩
    ·exact (cC _ _ _ ⟨rfl,g2,xk (pre:= []) ⟨cs,ec2,rc2⟩ (by rw[bad];exact decide_eq_false (by lia))⟩)
   ·exact ⟨_,rfl,gS ⟨_,rfl,.inl ⟨rfl,_,aK.of ec2⟩,_,rfl,by show 2<=sizeLine;decide,fun a na=>(cC l _ _ ⟨rfl,rfl,ai na _ _ _ ec2,sz,cC _ _ _ ⟨rfl,kH (pre:= []) nl g2 ec2 rc2 (by rw[bad];exact decide_eq_true (.inr fun z=>c1 z.1)) na rfl⟩⟩)⟩⟩
 ·intro σ H1 h_;refine hW h_ fun o3 o4 o5 _hi=>?_
  refine dA _hi fun _r1 g1 br=>?_
  clear h_ _hi;subst _r1;rw[lr] at br;exact ⟨_,rfl,q l H1 g1 nl br⟩
theorem BN {dV:Value} (F:bN K "breaches_of_arcs" "breaches_of_arcs" As dV f fd) (DZ11:Dx P w K mg base bQ 1 "time_of" ["plan","point"] [] pY):bv P w K mg base bQ 2 f fd ["net","plan"] (eM mt fun T A B R M=>gq A R M A.length):=by
 have sc:aI ["net","plan","told","k","arc"] ["net","plan"] (aw As):=fO (by decide+kernel)
 refine F.ok sc (fun vs H Q E h=>?_) (fun cdv A outer s H vs Q E hr h=>?_)
 ·obtain ⟨_,_,rfl,_⟩:=h
  rfl
 refine cL h fun x t _hi=>?_
 refine bK _hi fun _r1 _hj=>?_
 refine iM _hj fun D T A B2 R M _hk=>?_
 refine bK _hk fun N q=>?_
 clear h _hi _hj _hk;subst _r1;refine ⟨_,(ae (dQ 2 sc (bM af)) (ae (aY PassesOwn.never rfl (gI rfl B.Fs (aa (ce (pv 0) rfl) af)) (c5 rfl (aQ (dy 3 sc) (aQ (dy 4 sc) cD))) (ao (a7 (aP eZ (aH jZ (dE DZ11 hr (aa (pv 1) (aa (au aD (pv 4) aj (fun _ _=>rfl)) af))) (dE DZ11 hr (aa (pv 1) (aa (au aD (pv 4) aj (fun _ _=>rfl)) af)))) (au aD (pv 4) aj (fun _ _=>rfl)) (aV _)) (ao (bt (dH E4 EQ EO bo (pv 2) (aa (cf (aa fH (aa (pv 3) af))) af)))) aG))) (ao (aN (pv 2))))),?_⟩
 try dsimp only[cxK]
 have sl:sizeLine=16777216:=sizeLine_eq;refine iM N.net.ex fun dx td tl al pl fs _hi=>?_
 refine qL _hi fun e0 l1 l2 l3 l4 l5 ed _r1 _hj=>?_
 refine bK _hj fun hA hB=>?_
 obtain ⟨vs,el,rT⟩:=_r1;refine cL (id N.plan) fun rl ml _hi=>?_
 refine dA _hi fun et _r1 em=>?_
 obtain ⟨bs,er,rR⟩:=_r1;refine ⟨by show 0<=sizeLine;decide,fun l nl=>?_⟩
 have g0:=ai nl (.lst []);obtain ⟨ks,ea,rA⟩:=hA;have lr:(ks.map V.ref).length=A.length:=by rw[D3,rA.1]
 refine ⟨_,rfl,aR x _ dx _ ⟨_,⟨rfl,(g0 _ _ e0),B.Fm,B.Ga,l3,al,rfl,⟨_,aK.of (g0 _ _ ea)⟩,f9 (xs:=ks.map V.ref) (fun i σ H'=>∃o3 o4:Option V,σ= [G0 x,G0 t,G0 l,o3,o4]/\az H H'/\ToldN H H' l ([]++gq A R M i)) (aA none none ⟨rfl,g0,bJ.new⟩) (fun i σ H' _ ⟨_,_,_,g,_⟩=>aK.of (g _ _ ea)) ?_ ?_⟩⟩⟩
 ·rintro i y σ H1 T' hy ⟨o3,o4,rfl,g1,cs,ec,rc⟩ nT;obtain ⟨b,hb,rfl⟩:=d0 hy;have il:i<A.length:=by rw[<-rA.1];exact (D4.mp hb).1
  have hA:=D0 il;have eb:=rA.2 i b _ hb hA;refine hW (N.ok.arcs _ (Ed il)) fun p p' gg _hi=>?_
  refine iN _hi fun ek p0 p1 q0 q1 _=>?_
  have a600:=N.ok.a600;rw[ek] at eb hA;have sl':((cO R M).length:Int)=2*(T.length:Int)+M.length:=by rw[mn,N.pok.len];lia
  have hp:=D0 (show p.toNat<(cO R M).length by lia)
  have hq:=D0 (show p'.toNat<(cO R M).length by lia)
  generalize (cO R M)[p.toNat]'_=v at hp;generalize (cO R M)[p'.toNat]'_=v' at hq;have bad:yG A (cO R M) i=decide (v'-v<gg):=by
   unfold yG;rw[bR hA];show decide ((cO R M).getD p'.toNat 0-(cO R M).getD p.toNat 0<gg)=_;rw[bR hp,bR hq]
  have gT:=ai nT (.tup [.int (i:Int),.ref b]);have g2:=g1.trans gT;have ec2:=gT _ _ ec;have rc2:=rc.imp fun _ _ q=>k7 q gT
  have eb2:=g2 _ _ eb;have sz:cs.length<sizeLine:=by
   rw[rc.1];have:=cB i (yG A (cO R M)) fun i=> [V.str "arc",.int (i:Nat)]
   show (gq A R M i).length<_;unfold gq
   lia
  refine (aA T' _ ⟨rfl,bH.of ag,rfl,aA _ _ ⟨rfl,aA _ _ ⟨rfl,rfl,?_⟩⟩⟩);generalize av H1 T' (.tup [.int (i:Int),.ref b])=H2 at g2 ec2 rc2 eb2⊢;have P2:=N.plan.same g2;refine ⟨_,rfl,_,rfl,aR b _ _ _ ⟨rfl,rfl,bH.of eb2,rfl,aR t _ R M ⟨v',⟨rfl,P2,q0,hq,_,rfl,_,rfl,aR b _ _ _ ⟨rfl,rfl,bH.of eb2,rfl,aR t _ R M ⟨v,⟨rfl,P2,p0,hp,_,_,rfl,rfl,_,rfl,b,_,_,_,rfl,rfl,bH.of eb2,rfl,_,_,rfl,rfl,_,rfl,d2 (fun c=>?_) (fun c=>?_)⟩⟩⟩⟩⟩⟩⟩
  ·exact ⟨_,rfl,.inl ⟨rfl,_,aK.of ec2⟩,_,rfl,by show 2<=sizeLine;decide,fun a na=>(cC l _ _ ⟨rfl,rfl,ai na _ _ _ ec2,sz,aA _ _ ⟨rfl,kH (pre:= []) nl g2 ec2 rc2 (by rw[bad];exact decide_eq_true c) na rfl⟩⟩)⟩
  ·exact (aA _ _ ⟨rfl,g2,xk (pre:= []) ⟨cs,ec2,rc2⟩ (by rw[bad];exact decide_eq_false c)⟩)
 ·intro σ H1 h_;refine cL h_ fun o3 o4 _hi=>?_
  refine dA _hi fun _r1 g1 br=>?_
  clear h_ _hi;subst _r1;rw[lr] at br;exact ⟨_,rfl,q l H1 g1 nl br⟩
theorem BO {dV:Value} (F:bN K "breaches_of_apart" "breaches_of_apart" At dV f fd) (DZ12:Dx P w K mg base bQ 1 "runs_meet" ["one","other"] [] sj):bv P w K mg base bQ 2 f fd ["net","plan"] (eM mt fun T A B R M=>eQ B R B.length):=by
 have sc:aI ["net","plan","told","k","pair"] ["net","plan"] (aw At):=fO (by decide+kernel)
 refine F.ok sc (fun vs H Q E h=>?_) (fun cdv A outer s H vs Q E hr h=>?_)
 ·obtain ⟨_,_,rfl,_⟩:=h
  rfl
 refine cL h fun x t _hi=>?_
 refine bK _hi fun _r1 _hj=>?_
 refine iM _hj fun D T A B2 R M _hk=>?_
 refine bK _hk fun N q=>?_
 clear h _hi _hj _hk;subst _r1;refine ⟨_,(ae (dQ 2 sc (bM af)) (ae (aY PassesOwn.never rfl (gI rfl B.Fs (aa (ce (pv 0) rfl) af)) (c5 rfl (aQ (dy 3 sc) (aQ (dy 4 sc) cD))) (ao (a7 (cw (dE DZ12 hr (aa (au aO (au aD (pv 1) aj (fun _ _=>rfl)) (au aD (pv 4) aj (fun _ _=>rfl)) (fun _ _=>rfl)) (aa (au aO (au aD (pv 1) aj (fun _ _=>rfl)) (au aD (pv 4) aj (fun _ _=>rfl)) (fun _ _=>rfl)) af)))) (ao (bt (dH E4 EQ EO bo (pv 2) (aa (cf (aa fH (aa (pv 3) af))) af)))) aG))) (ao (aN (pv 2))))),?_⟩
 try dsimp only[cxK]
 have sl:sizeLine=16777216:=sizeLine_eq;refine iM N.net.ex fun dx td tl al pl fs _hi=>?_
 refine qL _hi fun e0 l1 l2 l3 l4 l5 ed _r1 _hj=>?_
 refine bK _hj fun hA hB=>?_
 obtain ⟨vs,el,rT⟩:=_r1;refine cL (id N.plan) fun rl ml _hi=>?_
 refine dA _hi fun et _r1 em=>?_
 obtain ⟨bs,er,rR⟩:=_r1;refine ⟨by show 0<=sizeLine;decide,fun l nl=>?_⟩
 have g0:=ai nl (.lst []);obtain ⟨ks,ea,rA⟩:=hB;have lr:(ks.map V.ref).length=B2.length:=by rw[D3,rA.1]
 refine ⟨_,rfl,aR x _ dx _ ⟨_,⟨rfl,(g0 _ _ e0),B.Fm,B.Fv,l4,pl,rfl,⟨_,aK.of (g0 _ _ ea)⟩,f9 (xs:=ks.map V.ref) (fun i σ H'=>∃o3 o4:Option V,σ= [G0 x,G0 t,G0 l,o3,o4]/\az H H'/\ToldN H H' l ([]++eQ B2 R i)) (aA none none ⟨rfl,g0,bJ.new⟩) (fun i σ H' _ ⟨_,_,_,g,_⟩=>aK.of (g _ _ ea)) ?_ ?_⟩⟩⟩
 ·rintro i y σ H1 T' hy ⟨o3,o4,rfl,g1,cs,ec,rc⟩ nT;obtain ⟨b,hb,rfl⟩:=d0 hy;have il:i<B2.length:=by rw[<-rA.1];exact (D4.mp hb).1
  have hA:=D0 il;have eb:=rA.2 i b _ hb hA;refine cL (N.ok.pairs _ (Ed il)) fun p p' _hi=>?_
  refine iN _hi fun ek p0 p1 q0 q1 _=>?_
  have b300:=N.ok.b300;rw[ek] at eb hA;have lR:=N.pok.len;have hp:=D0 (show p.toNat<R.length by lia)
  have hq:=D0 (show p'.toNat<R.length by lia)
  obtain ⟨a1,h1,e1⟩:=run_get rR hp;obtain ⟨a2,h2,e2⟩:=run_get rR hq;generalize R[p.toNat]'_=v at hp e1;generalize R[p'.toNat]'_=v' at hq e2;have bad:yL B2 R i=fV v v':=by
   unfold yL;rw[bR hA];show fV (R.getD p.toNat (0,0,0)) (R.getD p'.toNat (0,0,0))=_;rw[bR hp,bR hq]
  have gT:=ai nT (.tup [.int (i:Int),.ref b]);have g2:=g1.trans gT;have ec2:=gT _ _ ec;have rc2:=rc.imp fun _ _ q=>k7 q gT
  have eb2:=g2 _ _ eb;have sz:cs.length<sizeLine:=by
   rw[rc.1];have:=cB i (yL B2 R) fun i=> [V.str "apart",.int (i:Nat)]
   show (eQ B2 R i).length<_;unfold eQ
   lia
  refine (aA T' _ ⟨rfl,bH.of ag,rfl,aA _ _ ⟨rfl,aA _ _ ⟨rfl,rfl,?_⟩⟩⟩);generalize av H1 T' (.tup [.int (i:Int),.ref b])=H2 at g2 ec2 rc2 eb2⊢;have ap:iU (bs.map V.ref) p=some (.ref a1):=by
   have:p=((p.toNat:Nat):Int):=by lia
   rw[this];exact aU (cJ h1)
  have aq:iU (bs.map V.ref) p'=some (.ref a2):=by
   have:p'=((p'.toNat:Nat):Int):=by lia
   rw[this];exact aU (cJ h2)
  refine ⟨_,rfl,aR t _ _ _ ⟨rfl,rfl,bH.of (g2 _ _ et),rfl,_,rfl,aR b _ _ _ ⟨rfl,rfl,bH.of eb2,rfl,aR rl _ _ _ ⟨rfl,rfl,aK.of (g2 _ _ er),ap,_,rfl,aR t _ _ _ ⟨rfl,rfl,bH.of (g2 _ _ et),rfl,_,rfl,b,_,_,_,rfl,rfl,bH.of eb2,rfl,rl,_,_,_,rfl,rfl,aK.of (g2 _ _ er),aq,a1,a2,v,v',rfl,g2 _ _ e1,g2 _ _ e2,_,rfl,?_⟩⟩⟩⟩⟩;cases hm:fV v v' with
  |true=>exact gS ⟨_,rfl,.inl ⟨rfl,_,aK.of ec2⟩,_,rfl,by show 2<=sizeLine;decide,fun a na=>(cC l _ _ ⟨rfl,rfl,ai na _ _ _ ec2,sz,aA _ _ ⟨rfl,kH (pre:= []) nl g2 ec2 rc2 (by rw[bad];exact hm) na rfl⟩⟩)⟩
  |false=>exact dR (aA _ _ ⟨rfl,g2,xk (pre:= []) ⟨cs,ec2,rc2⟩ (by rw[bad];exact hm)⟩)
 ·intro σ H1 h_;refine cL h_ fun o3 o4 _hi=>?_
  refine dA _hi fun _r1 g1 br=>?_
  clear h_ _hi;subst _r1;rw[lr] at br;exact ⟨_,rfl,q l H1 g1 nl br⟩
theorem BP {dV:Value} (F:bN K "in_use" "in_use" Au dV f fd) (DZ13:Dx P w K mg base bQ 1 "goes_on" ["run","turn"] [] kI) (DZ14:Dx P w K mg base bQ 2 "use_of" ["net","plan","task","tool"] [] (jU mt)):bv P w K mg base bQ 3 f fd ["net","plan","tool","turn"] (tQ mt):=by
 have sc:aI ["net","plan","tool","turn","total","i","run","use"] ["net","plan","tool","turn"] (aw Au):=fO (by decide+kernel)
 refine F.ok sc (fun vs H Q E h=>?_) (fun cdv A outer s H vs Q E hr h=>?_)
 ·obtain ⟨_,_,_,_,rfl,_⟩:=h
  rfl
 refine oA h fun x t z n _hi=>?_
 refine bK _hi fun _r1 _hj=>?_
 refine iM _hj fun D T A B2 R M _hk=>?_
 refine bK _hk fun N q=>?_
 clear h _hi _hj _hk;subst _r1;refine ⟨_,(ae (dQ 4 sc aj) (ae (aY PassesOwn.never rfl (gI rfl B.Fs (aa (au aD (pv 1) aj (fun _ _=>rfl)) af)) (c5 rfl (aQ (dy 5 sc) (aQ (dy 6 sc) cD))) (ae (dQ 7 sc (dE DZ14 hr (aa (pv 0) (aa (pv 1) (aa (pv 5) (aa (pv 2) af)))))) (ao (a7 (PW.pt (m3 (aP nj (pv 7) jY (aV _)) (jN (cw (dE DZ13 hr (aa (pv 6) (aa (pv 3) af))))))) (ao (vR (i:=4) sc.nd rfl (Or.inl rfl) (au aD (pv 7) aj (fun _ _=>rfl)) vS)) aG)))) (ao (aN (pv 4))))),?_⟩
 try dsimp only[cxK]
 have sl:sizeLine=16777216:=sizeLine_eq;refine iM N.net.ex fun dx td tl al pl fs _hi=>?_
 refine qL _hi fun e0 l1 l2 l3 l4 l5 ed _r1 _hj=>?_
 refine bK _hj fun hA hB=>?_
 obtain ⟨vs,el,rT⟩:=_r1;refine cL (id N.plan) fun rl ml _hi=>?_
 refine dA _hi fun et _r1 em=>?_
 obtain ⟨bs,er,rR⟩:=_r1;have lr:(bs.map V.ref).length=R.length:=by rw[D3,rR.1,D3]
 refine ⟨_,rfl,aR t _ _ _ ⟨rfl,rfl,bH.of et,rfl,rl,rfl,⟨_,aK.of er⟩,f9 (xs:=bs.map V.ref) (fun i σ H'=>∃o5 o6 o7:Option V,σ= [G0 x,G0 t,some (.str z),some (.int n),some (.int (fW T R z n i)),o5,o6,o7]/\az H H') (cC none none none ⟨rfl,.refl _⟩) (fun i σ H' _ ⟨_,_,_,_,g⟩=>aK.of (g _ _ er)) ?_ ?_⟩⟩
 ·rintro i y σ H1 T' hy ⟨o5,o6,o7,rfl,g1⟩ nT';obtain ⟨b,hb,rfl⟩:=d0 hy;obtain ⟨r,hr',eb⟩:=i7 rR hb;have il:=(D4.mp hr').1;have g2:=g1.trans (ai nT' (.tup [.int (i:Int),.ref b]));refine (aA T' _ ⟨rfl,bH.of ag,rfl,aA _ _ ⟨rfl,aA _ _ ⟨rfl,rfl,?_⟩⟩⟩);generalize av H1 T' (.tup [.int (i:Int),.ref b])=H2 at g2⊢;have us:fW T R z n (i+1)=fW T R z n i+(if dU r n=true then bj (dw T R i) z else 0):=by
   show fW T R z n i+(if dU (R.getD i (0,0,0)) n=true then bj (dw T R i) z else 0)=_
   rw[bR hr']
  refine ⟨_,rfl,_,rfl,_,rfl,_,rfl,aR x t i z ⟨H,⟨rfl,g2,jW D T A B2 R M ⟨N,il,fun u a hu ha=>?_,fun hn=>?_⟩⟩⟩⟩
  ·refine ⟨_,rfl,rfl,_,rfl,nT nofun ⟨_,rfl,_,rfl,cC b r n ⟨rfl,g2 _ _ eb,_,rfl,?_⟩⟩⟩;rw[xq hu] at us;cases hg:dU r n with
   |true=>
    rw[hg,if_pos rfl] at us;exact gS ⟨_,rfl,_,rfl,aR a _ _ _ ⟨rfl,rfl,bH.of (g2 _ _ ha),rfl,aA _ _ ⟨rfl,rfl,cC _ _ _ ⟨by rw[us];rfl,g2⟩⟩⟩⟩
   |false=>
    rw[hg,if_neg (by decide),Int.add_zero] at us
    exact dR (cC _ _ _ ⟨by rw[us];rfl,g2⟩)
  ·rw[xp hn] at us;have us':fW T R z n (i+1)=fW T R z n i:=by rw[us];split<;>lia
   exact ⟨_,rfl,rfl,_,rfl,nF rfl (cC _ _ _ ⟨by rw[us'];rfl,g2⟩)⟩
 ·intro σ H1 h_;refine hW h_ fun o5 o6 o7 _hi=>?_
  refine bK _hi fun _r1 g1=>?_
  clear h_ _hi;subst _r1;rw[lr];exact ⟨_,rfl,q _ g1⟩
theorem BQ {dV:Value} (F:bN K "breaches_of_tool" "breaches_of_tool" Av dV f fd) (DZ18:Dx P w K mg base bQ 3 "in_use" ["net","plan","tool","turn"] [] (tQ mt)):bv P w K mg base bQ 4 f fd ["net","plan","tool"] (tR mt):=by
 have sc:aI ["net","plan","tool","begins","many"] ["net","plan","tool"] (aw Av):=fO (by decide+kernel)
 refine F.ok sc (fun vs H Q E h=>?_) (fun cdv A outer s H vs Q E hr h=>?_)
 ·obtain ⟨_,_,_,rfl,_⟩:=h
  rfl
 refine hW h fun x t z _hi=>?_
 refine bK _hi fun _r1 _hj=>?_
 refine iM _hj fun D T A B2 R M _hk=>?_
 refine dA _hk fun N hz q=>?_
 clear h _hi _hj _hk;subst _r1;refine ⟨_,(ae (dQ 3 sc (qh rfl rfl B.Gc rfl B.GJ PyProof.Rows.Boot.«sorted» PyProof.Rows.Boot.«set» (iw (own:= "run") (ys:= []) (js:= []) rfl (qN oY .nil (by decide) rfl rfl rfl rfl rfl rfl rfl rfl) (ba (au aD (pv 1) aj (fun _ _=>rfl))) (fun C fp s H=>(au (cN (K:=K) rfl) (pv 0) aj (fun _ _=>rfl)))))) (ae (iP (i:=4) sc.nd rfl (Or.inr rfl) (cb (cx hr) (ce (pv 0) rfl) (pv 2) (fun _ _=>rfl))) (ao (aN (gJ (own:= "turn") (ys:= ["many","net","plan","tool"]) (js:= [4,0,1,2]) rfl (qN (qM (qM (qM (qM oY)))) (.cons rfl (.cons rfl (.cons rfl (.cons rfl .nil)))) (by decide) rfl rfl rfl rfl rfl rfl rfl rfl) (ba (pv 3)) (fun C fp s H=>(aP im (dE DZ18 hr (aa (pv 2) (aa (pv 3) (aa (pv 4) (aa (pv 0) af))))) (pv 1) (aV _))) (fun C fp s H=>(cf (aa fH (aa (pv 4) (aa (pv 0) af)))))))))),?_⟩
 try dsimp only[cxK]
 have sl:sizeLine=16777216:=sizeLine_eq;refine iM N.net.ex fun dx td tl al pl fs _hi=>?_
 refine qL _hi fun e0 l1 l2 l3 l4 l5 ed _r1 _hj=>?_
 refine bK _hj fun hA hB=>?_
 obtain ⟨vs,el,rT⟩:=_r1;refine cL (id N.plan) fun rl ml _hi=>?_
 refine dA _hi fun et _r1 em=>?_
 obtain ⟨bs,er,rR⟩:=_r1;have lr:(bs.map V.ref).length=R.length:=by rw[D3,rR.1,D3]
 have r24:R.length<=24:=by rw[N.pok.len];exact N.ok.t24
 refine ⟨_,rfl,aR t _ _ _ ⟨rfl,rfl,bH.of et,rfl,rl,rfl,⟨_,aK.of er⟩,eI (og V.int) (fun _=>False) (fun i=>(R.getD i (0,0,0)).1) (aK.of er) (by lia) (fun a h=>h.elim) (fun i y hy H3 g Q' hQ=>?_) fun p H1 np g1 hp=>?_⟩⟩
 ·obtain ⟨b,hb,rfl⟩:=d0 hy;obtain ⟨r,hr',eb⟩:=i7 rR hb;rw[bR hr'] at hQ;exact ⟨_,rfl,aR b _ _ _ ⟨rfl,rfl,bH.of (g _ _ eb),rfl,hQ _ _ (.refl _) rfl⟩⟩
 obtain ⟨ps,ep,rp⟩:=hp;have e1:(DT (bs.map V.ref).length).map (fun i=>(R.getD i (0,0,0)).1)=R.map (·.1):=by
  conv=>rhs;rw[<-kJ R (0,0,0),En,<-lr]
  rfl
 rw[e1] at rp;rw[rp.val] at ep;refine (aA p (R.map (·.1)) ⟨rfl,aK.of ep,by rw[D3];lia,?_,fun p2 ys np2 nd mem pw=>?_⟩)
 ·have:=gQ (R.map (·.1)) [];rw[D3] at this;simp at this⊢
  lia
 have ey:ys=jK R:=yM nd mem pw;subst ey;have g2:=g1.trans (ai np2 (.lst ((jK R).map V.int)));have e2:av H1 p2 (.lst ((jK R).map V.int)) p2=some (.lst ((jK R).map V.int)):=ag;generalize av H1 p2 (.lst ((jK R).map V.int))=H2 at g2 e2⊢;obtain ⟨m,hm⟩:=hV hz;have dg:=jg (ed.same g2).rd hm;refine ⟨_,rfl,aR x _ dx _ ⟨_,⟨rfl,(g2 _ _ e0),B.Fm,B.Fq,l1,_,rfl,aA td _ ⟨rfl,dg,?_⟩⟩⟩⟩;have lb:(jK R).length<=R.length:=by
  have:=kG (R.map (·.1))
  rwa [D3] at this
 refine ⟨_,rfl,p2,rfl,⟨_,aK.of e2⟩,mw xP (fun _=>False) (fun i=>decide ((bV D z).getD 0<fW T R z ((jK R).getD i 0) R.length)) (fun i=> [.str "tool",.str z,.int ((jK R).getD i 0)]) (aK.of e2) (by rw[D3];lia) (fun a h=>h.elim) (fun i y hy H3 g3 S' hS=>?_) (fun i y hy _ H3 g3 Q' hQ=>?_) fun l H' nl g3 hl=>?_⟩
 ·rw[D9] at hy;obtain ⟨n,hn,rfl⟩:=DV.mp hy;rw[bR hn,hm] at hS;exact ⟨_,rfl,_,rfl,_,rfl,_,rfl,aR x t z n ⟨rfl,jW D T A B2 R M ⟨N.same (g2.trans g3),fun H4 g4=>⟨_,rfl,aA _ _ ⟨rfl,rfl,_,rfl,hS _ g4⟩⟩⟩⟩⟩
 ·rw[D9] at hy;obtain ⟨n,hn,rfl⟩:=DV.mp hy;rw[bR hn] at hQ;exact ⟨_,rfl,_,rfl,by show 3<=sizeLine;decide,fun a na=>hQ _ _ (ai na _) ⟨a,rfl,.inl na,ag⟩⟩
 ·rw[D3] at hl;exact q l H' (g2.trans g3) (g2.free nl) (hl.mono fun a h=>⟨h.1,g2.free (h.2.elim id fun z=>z.elim)⟩)
theorem BR {dV:Value} (F:bN K "breaches_of_heat" "breaches_of_heat" Aw dV f fd) (DZ12:Dx P w K mg base bQ 1 "runs_meet" ["one","other"] [] sj) (DZ14:Dx P w K mg base bQ 2 "use_of" ["net","plan","task","tool"] [] (jU mt)):bv P w K mg base bQ 3 f fd ["net","plan","tool"] (tT mt):=by
 have sc:aI ["net","plan","tool","told","uses","users","place","i","j"] ["net","plan","tool"] (aw Aw):=fO (by decide+kernel)
 refine F.ok sc (fun vs H Q E h=>?_) (fun cdv A outer s H vs Q E hr h=>?_)
 ·obtain ⟨_,_,_,rfl,_⟩:=h
  rfl
 refine hW h fun x t z _hi=>?_
 refine bK _hi fun _r1 _hj=>?_
 refine iM _hj fun D T A B2 R M _hk=>?_
 refine bK _hk fun N q=>?_
 clear h _hi _hj _hk;subst _r1;refine ⟨_,(ae (dQ 3 sc (bM af)) (ae (iP (i:=4) sc.nd rfl (Or.inr rfl) (oX (hd:=none) (own:= "i") (ys:= ["net","plan","tool"]) (js:= [0,1,2]) hr.hd (qN (qM (qM (qM oY))) (.cons rfl (.cons rfl (.cons rfl .nil))) (by decide) rfl rfl rfl rfl rfl rfl rfl rfl) (ma rfl B.Fr (aa (aB aJ rfl B.Fn boot_len (aa (au aD (pv 1) aj (fun _ _=>rfl)) af)) af)) (fun C fp s H=>(dE DZ14 hr (aa (pv 1) (aa (pv 2) (aa (pv 0) (aa (pv 3) af)))))))) (ae (uU sc.nd (i:=5) rfl rfl (own:= "i") (ys:= ["uses"]) (js:= [4]) rfl (qN (qM oY) (.cons rfl .nil) (by decide) rfl rfl rfl rfl rfl rfl rfl rfl) (cZ rfl B.Fr (aa (aB aJ rfl B.Fn boot_len (aa (pv 4) af)) af)) (fun C fp s H=>(aP nj (au (ke (K:=K) rfl) (pv 1) (pv 0) (fun _ _=>rfl)) jY (aV _))) (fun C fp s H=>(pv 0))) (ae (aY PassesOwn.never rfl (gI rfl B.Fs (aa (pv 5) af)) (c5 rfl (aQ (dy 6 sc) (aQ (dy 7 sc) cD))) (ao (aY PassesOwn.never rfl (ba (fi jP (pv 5) (gD (aH bz (pv 6) aj)) gC)) (dy 8 sc) (ao (a7 (PW.pt (m3 (aP lQ (au aD (au aO (pv 4) (pv 7) (fun _ _=>rfl)) aj (fun _ _=>rfl)) (au aD (au aO (pv 4) (pv 8) (fun _ _=>rfl)) aj (fun _ _=>rfl)) (aV _)) (jN (cw (dE DZ12 hr (aa (au aO (au aD (pv 1) aj (fun _ _=>rfl)) (pv 7) (fun _ _=>rfl)) (aa (au aO (au aD (pv 1) aj (fun _ _=>rfl)) (pv 8) (fun _ _=>rfl)) af))))))) (ao (bt (dH E4 EQ EO bo (pv 3) (aa (cf (aa fH (aa (pv 2) (aa (pv 7) (aa (pv 8) af))))) af)))) aG))))) (ao (aN (pv 3))))))),?_⟩
 try dsimp only[cxK]
 have sl:sizeLine=16777216:=sizeLine_eq;refine iM N.net.ex fun dx td tl al pl fs _hi=>?_
 refine qL _hi fun e0 l1 l2 l3 l4 l5 ed _r1 _hj=>?_
 refine bK _hj fun hA hB=>?_
 obtain ⟨vs,el,rT⟩:=_r1;refine cL (id N.plan) fun rl ml _hi=>?_
 refine dA _hi fun et _r1 em=>?_
 obtain ⟨bs,er,rR⟩:=_r1;have lr:(bs.map V.ref).length=R.length:=by rw[D3,rR.1,D3]
 have r24:R.length<=24:=by rw[N.pok.len];exact N.ok.t24
 refine ⟨by show 0<=sizeLine;decide,fun l nl=>?_⟩
 have g0:=ai nl (.lst []);have h0:ToldN H (av H l (.lst [])) l []:=bJ.new;have el0:av H l (.lst []) l=some (.lst []):=ag;generalize av H l (.lst [])=H1 at g0 h0 el0⊢;refine ⟨_,rfl,aR t _ _ _ ⟨rfl,rfl,bH.of (g0 _ _ et),rfl,aA rl _ ⟨rfl,.inl (aK.of (g0 _ _ er)),_,rfl,by lia,by lia,ql kK (fun a=>H a≠none) (fun i=>gO (dw T R i) z) oV.no (by lia) (fun a h e=>h (g0.free e)) (fun i hi H3 g Q' hQ=>?_) fun p1 H2 np1 g2 hp1=>?_⟩⟩⟩
 ·have il:i<R.length:=by lia
  refine ⟨_,rfl,_,rfl,_,rfl,_,rfl,aR x t i z ⟨H,⟨by rw[FD];rfl,g0.trans g,jW D T A B2 R M ⟨N,il,fun u a hu ha=>hQ _ _ (.refl _) ?_,fun hn=>hQ _ _ (.refl _) ?_⟩⟩⟩⟩
  ·rw[hu];exact ⟨a,rfl,.inr (by rw[ha];exact nofun),(g0.trans g) _ _ ha⟩
  ·rw[hn]
   rfl
 obtain ⟨us,eu,ru⟩:=hp1;rw[E9,lr] at ru;have lu:us.length=R.length:=by rw[ru.1,D3,E1]
 have uat:∀i:Nat,i<R.length->∃v,us[i]?=some v/\kK (fun a=>a≠p1/\(H1 a=none∨H a≠none)) H2 v (gO (dw T R i) z):=fun i il=>ru.get (by rw[D9,Eg il];rfl)
 refine ⟨_,rfl,aA p1 _ ⟨rfl,.inl (aK.of eu),_,rfl,by lia,by lia,jc (og (fun i:Nat=>V.int (i:Int))) (fun _=>False) (fun i=>(gO (dw T R i) z).isSome) id (by lia) (fun a h=>h.elim) (fun i hi H3 g S' hS=>?_) (fun i hi _ H3 g Q' hQ=>?_) fun p2 H3 np2 g3 hp2=>?_⟩⟩
 ·obtain ⟨v,hv,ro⟩:=uat i (by lia)
  refine ⟨_,rfl,_,rfl,aR p1 _ _ _ ⟨rfl,rfl,aK.of (g _ _ eu),(gM hv),rfl,_,rfl,?_⟩⟩;rw[ro.isN];exact hS _ (.refl _)
 ·exact ⟨_,rfl,hQ _ _ (.refl _) (by show V.int (0+(i:Int))=V.int (i:Int);rw[FD])⟩
 obtain ⟨ps,ep,rp⟩:=hp2;rw[E9,lu] at rp;rw[show cu R.length (fun i=>(gO (dw T R i) z).isSome) id=bD T R z from rfl] at rp
 rw[rp.val] at ep;clear rp;have eu3:=g3 _ _ eu;have g13:=g2.trans g3;have l1:p1≠l:=fun e=>by rw[e,el0] at np1;cases np1
 have l2':p2≠l:=fun e=>by rw[e,g2 _ _ el0] at np2;cases np2
 have k3:=g0.trans g13;have h3:=h0.same g13;have uat3:∀i:Nat,i<R.length->∃v,us[i]?=some v/\kK (fun a=>H a≠none∨(a≠l/\H a=none)) H3 v (gO (dw T R i) z):=fun i il=>by
  obtain ⟨v,hv,ro⟩:=uat i il;refine ⟨v,hv,xf (k7 ro g3) fun a h=>?_⟩
  by_cases e:H a=none
  ·refine .inr ⟨fun e2=>?_,e⟩
   rcases h.2 with k|k
   ·rw[e2,el0] at k;cases k
   ·exact k e
  ·exact .inl e
 clear h0 el0 g0 g2 g3 g13 ru uat eu np1 np2;have ul:=mG T R z;have al:∀{H':Hp},Fl l H3 H'->∀i:Nat,i<R.length->∃v,us[i]?=some v/\kK An H' v (gO (dw T R i) z):=fun fl i il=>by
  obtain ⟨v,hv,ro⟩:=uat3 i il;refine ⟨v,hv,Mv.mv (fun a o pa _ e=>⟨trivial,fl a o (fun e2=>?_) e⟩) ro⟩
  rcases pa with k|k
  ·exact k (e2▸nl)
  ·exact k.1 e2
 refine ⟨_,rfl,p2,rfl,⟨_,aK.of ep⟩,f9 (xs:=(bD T R z).map (fun i:Nat=>V.int (i:Int))) (fun k σ H'=>∃o6 o7 o8:Option V,σ= [G0 x,G0 t,some (.str z),G0 l,G0 p1,G0 p2,o6,o7,o8]/\az H H'/\Fl l H3 H'/\ToldN H H' l (jC T R z (bD T R z) k)) (cC none none none ⟨rfl,k3,Fl.refl _ _,h3⟩) (fun i σ H' _ ⟨_,_,_,_,_,fl,_⟩=>aK.of (fl _ _ l2' ep)) ?_ ?_⟩
 ·rintro k y σ H4 T' hy ⟨o6,o7,o8,rfl,g4,fl4,told4⟩ nT';rw[D9] at hy;obtain ⟨i,hi,rfl⟩:=DV.mp hy;obtain ⟨il,u,hu⟩:=qr hi;have kl:=(D4.mp hi).1;have gT:=ai nT' (.tup [.int (k:Int),.int (i:Int)]);refine (aA T' _ ⟨rfl,bH.of ag,rfl,aA _ _ ⟨rfl,aA _ _ ⟨rfl,rfl,?_⟩⟩⟩);have g5:=g4.trans gT;have fl5:=fl4.trans (Fl.of gT);have told5:=told4.same gT;generalize av H4 T' (.tup [.int (k:Int),.int (i:Int)])=H5 at g5 fl5 told5⊢;refine ⟨_,rfl,_,rfl,aA _ _ ⟨rfl,rfl,_,rfl,aA p2 _ ⟨rfl,aK.of (fl5 _ _ l2' ep),fun p3 np3=>?_⟩⟩⟩
  have cd:ip ((bD T R z).map (fun i:Nat=>V.int (i:Int))) (some ((k:Int)+1)) none=((bD T R z).drop (k+1)).map (fun i:Nat=>V.int (i:Int)):=by
   have:=pT (xs:=(bD T R z).map (fun i:Nat=>V.int (i:Int))) (c:=k+1) (by rw[D3];lia)
   rw[<-List.map_drop] at this;exact this
  rw[cd];have g6':=ai np3 (.lst (((bD T R z).drop (k+1)).map (fun i:Nat=>V.int (i:Int))))
  have e6:av H5 p3 (.lst (((bD T R z).drop (k+1)).map (fun i:Nat=>V.int (i:Int)))) p3=some (.lst (((bD T R z).drop (k+1)).map (fun i:Nat=>V.int (i:Int)))):=ag
  have g6:=g5.trans g6';have fl6:=fl5.trans (Fl.of g6');have told6:=told5.same g6';have l3':p3≠l:=fun e=>by
   obtain ⟨vs',ev',_⟩:=told5;rw[e,ev'] at np3;cases np3
  generalize av H5 p3 (.lst (((bD T R z).drop (k+1)).map (fun i:Nat=>V.int (i:Int))))=H6 at e6 g6 fl6 told6⊢
  clear g4 fl4 told4 g5 fl5 told5 gT g6' np3 nT';have hgd:(bD T R z).getD k 0=i:=bR hi;refine ⟨p3,rfl,⟨_,aK.of e6⟩,bI (xs:=((bD T R z).drop (k+1)).map (fun i:Nat=>V.int (i:Int))) (fun m σ H'=>∃o8:Option V,σ= [G0 x,G0 t,some (.str z),G0 l,G0 p1,G0 p2,some (.int (k:Int)),some (.int (i:Int)),o8]/\az H H'/\Fl l H6 H'/\ToldN H H' l (jC T R z (bD T R z) k++cS T R z (bD T R z) k m)) ⟨o8,rfl,g6,Fl.refl _ _,by rw[lG,FK];exact told6⟩ (fun m σ H' _ ⟨_,_,_,fl,_⟩=>aK.of (fl _ _ l3' e6)) ?_ ?_⟩
  ·intro m y σ H7 hy h_;refine cG h_ fun o8 _hi=>?_
   refine cU _hi fun _r1 g7 fl7 _hj=>?_
   refine cG _hj fun cs _hk=>?_
   refine bK _hk fun ec rc=>?_
   clear h_ _hi _hj _hk;subst _r1;rw[D9] at hy;obtain ⟨j,hj,rfl⟩:=DV.mp hy;have hj':=hj;rw[F6] at hj';obtain ⟨jl,v,hv⟩:=qr hj';have fl37:=fl6.trans fl7;obtain ⟨vi,hvi,ri⟩:=al fl37 i il;obtain ⟨vj,hvj,rj⟩:=al fl37 j jl;rw[hu] at ri;rw[hv] at rj;obtain ⟨a,rfl,_,ea⟩:=(show gk An H7 vi u from ri)
   obtain ⟨b,rfl,_,eb⟩:=(show gk An H7 vj v from rj)
   have eu7:=fl37 _ _ l1 eu3;have hRi:=D0 il;have hRj:=D0 jl;obtain ⟨c,hc,ec'⟩:=run_get rR hRi;obtain ⟨d,hd,ed'⟩:=run_get rR hRj;generalize R[i]=ri' at hRi ec';generalize R[j]=rj' at hRj ed';have hb:=yO hu hv hRi hRj;have sz:cs.length<sizeLine:=by
    rw[rc.1,D7];have h1:=mF T R z (bD T R z) k;have h2:=oq T R z (bD T R z) k m;have h3':(bD T R z).length*k<=24*24:=Nat.mul_le_mul (by lia) (by lia)
    lia
   have suc:=lH (T:=T) (R:=R) (z:=z) hj;rw[hgd,hb] at suc;refine ⟨_,rfl,_,rfl,aR p1 _ _ _ ⟨rfl,rfl,aK.of eu7,(aU hvi),aR a _ _ _ ⟨rfl,rfl,bH.of ea,rfl,_,rfl,_,rfl,aR p1 _ _ _ ⟨rfl,rfl,aK.of eu7,(aU hvj),aR b _ _ _ ⟨rfl,rfl,bH.of eb,rfl,rfl,_,rfl,DC (fun ne=>?_) (fun eq=>?_)⟩⟩⟩⟩⟩
   ·refine ⟨_,rfl,aR t _ _ _ ⟨rfl,rfl,bH.of (g7 _ _ et),rfl,_,rfl,aR rl _ _ _ ⟨rfl,rfl,aK.of (g7 _ _ er),(aU (cJ hc)),_,rfl,aR t _ _ _ ⟨rfl,rfl,bH.of (g7 _ _ et),rfl,_,rfl,aR rl _ _ _ ⟨rfl,rfl,aK.of (g7 _ _ er),(aU (cJ hd)),c,d,ri',rj',rfl,g7 _ _ ec',g7 _ _ ed',_,rfl,?_⟩⟩⟩⟩⟩;rw[decide_eq_false ne] at suc;cases hm:fV ri' rj' with
    |true=>
     rw[hm] at suc;refine gS ⟨_,rfl,.inl ⟨rfl,_,aK.of ec⟩,_,rfl,_,rfl,_,rfl,by show 4<=sizeLine;decide,fun a na=>(cC l _ _ ⟨rfl,rfl,ai na _ _ _ ec,sz,?_⟩)⟩
     have tp:=xr (b:= [.str "heat",.str z,.int (i:Int),.int (j:Int)]) nl g7 ec rc na;refine ⟨_,rfl,tp.1,(fl7.trans (Fl.of (ai na _))).trans (Fl.put l _ _),?_⟩;rw[suc,<-DU];exact tp.2
    |false=>
     rw[hm] at suc;exact dR ⟨_,rfl,g7,fl7,by rw[suc];exact ⟨cs,ec,by simpa using rc⟩⟩
   ·rw[decide_eq_true eq] at suc;exact ⟨_,rfl,g7,fl7,by rw[suc];exact ⟨cs,ec,by simpa using rc⟩⟩
  ·intro σ H7 h_;refine cG h_ fun o8 _hi=>?_
   refine cU _hi fun _r1 g7 fl7 told7=>?_
   clear h_ _hi;subst _r1;rw[D3,om,<-ss] at told7;exact (cC _ _ _ ⟨rfl,g7,fl6.trans fl7,told7⟩)
 ·intro σ H4 h_;refine hW h_ fun o6 o7 o8 _hi=>?_
  refine cU _hi fun _r1 g4 fl4 told4=>?_
  clear h_ _hi;subst _r1;rw[D3] at told4;exact ⟨_,rfl,q l H4 g4 nl told4⟩
theorem BS {dV:Value} (F:bN K "breaches" "breaches" Ax dV f fd) (DZ10:Dx P w K mg base bQ 1 "is_plan" ["net","plan"] [] (mI mt)) (DZ15:Dx P w K mg base bQ 1 "breaches_of_turns" ["net","plan"] [] (eM mt fun T A B R M=>cY T R T.length)) (DZ16:Dx P w K mg base bQ 2 "breaches_of_arcs" ["net","plan"] [] (eM mt fun T A B R M=>gq A R M A.length)) (DZ17:Dx P w K mg base bQ 2 "breaches_of_apart" ["net","plan"] [] (eM mt fun T A B R M=>eQ B R B.length)) (DZ19:Dx P w K mg base bQ 4 "breaches_of_tool" ["net","plan","tool"] [] (tR mt)) (DZ20:Dx P w K mg base bQ 3 "breaches_of_heat" ["net","plan","tool"] [] (tT mt)):bv P w K mg base bQ 5 f fd ["net","plan"] (mJ mt):=by
 have sc:aI ["net","plan","told","tool"] ["net","plan"] (aw Ax):=fO (by decide+kernel)
 refine F.ok sc (fun vs H Q E h=>?_) (fun cdv A outer s H vs Q E hr h=>?_)
 ·obtain ⟨_,_,rfl,_⟩:=h
  rfl
 refine cL h fun x t _hi=>?_
 refine bK _hi fun _r1 _hj=>?_
 refine iM _hj fun D T A B2 R M _hk=>?_
 refine bK _hk fun N q=>?_
 clear h _hi _hj _hk;subst _r1;refine ⟨_,(ae (a7 (bU (cw (dE DZ10 hr (aa (pv 0) (aa (pv 1) af))))) (ao bG) aG) (ae (dQ 2 sc (dE DZ15 hr (aa (pv 0) (aa (pv 1) af)))) (ae (bt (dH E4 F5 F4 eJ (pv 2) (aa (gJ (own:= "k") (ys:= ["plan"]) (js:= [1]) rfl (qN (qM oY) (.cons rfl .nil) (by decide) rfl rfl rfl rfl rfl rfl rfl rfl) (cZ rfl B.Fr (aa (ce (pv 0) rfl) af)) (fun C fp s H=>(aP eZ (au (ke (K:=K) rfl) (au (cN (K:=K) rfl) (pv 1) aj (fun _ _=>rfl)) (pv 0) (fun _ _=>rfl)) aj (aV _))) (fun C fp s H=>(cf (aa fH (aa (pv 0) af))))) af))) (ae (bt (dH E4 F5 F4 eJ (pv 2) (aa (dE DZ16 hr (aa (pv 0) (aa (pv 1) af))) af))) (ae (bt (dH E4 F5 F4 eJ (pv 2) (aa (dE DZ17 hr (aa (pv 0) (aa (pv 1) af))) af))) (ae (aY PassesOwn.never rfl (ba (aB (jz rfl) rfl B.Gc PyProof.Rows.Boot.«sorted» (aa (ce (pv 0) rfl) af))) (dy 3 sc) (ao (bt (dH E4 F5 F4 eJ (pv 2) (aa (dE DZ19 hr (aa (pv 0) (aa (pv 1) (aa (pv 3) af)))) af))))) (ae (aY PassesOwn.never rfl (ba (aB (jz rfl) rfl B.Gc PyProof.Rows.Boot.«sorted» (aa (ce (pv 0) rfl) af))) (dy 3 sc) (ao (bt (dH E4 F5 F4 eJ (pv 2) (aa (dE DZ20 hr (aa (pv 0) (aa (pv 1) (aa (pv 3) af)))) af))))) (ao (aN (pv 2)))))))))),?_⟩
 try dsimp only[cxK]
 have sl:sizeLine=16777216:=sizeLine_eq;refine iM N.net.ex fun dx td tl al pl fs _hi=>?_
 refine qL _hi fun e0 l1 l2 l3 l4 l5 ed _r1 _hj=>?_
 refine bK _hj fun hA hB=>?_
 obtain ⟨vs,el,rT⟩:=_r1;refine cL (id N.plan) fun rl ml _hi=>?_
 refine dA _hi fun et _r1 em=>?_
 obtain ⟨bs,er,rR⟩:=_r1;have r24:R.length<=24:=by rw[N.pok.len];exact N.ok.t24
 have n8:=N.ok.n8;have a6:=N.ok.a600;have b3:=N.ok.b300;have t24:=N.ok.t24;have d12:=N.ok.d12;refine ⟨_,rfl,_,rfl,aA x t ⟨rfl,jW D T A B2 R M ⟨N.any,fun H1 g1=>⟨_,rfl,dR ?_⟩⟩⟩⟩
 have N1:=N.same g1;refine ⟨_,rfl,_,rfl,aA x t ⟨rfl,jW D T A B2 R M ⟨N1.any,fun l H2 k2 nl b2=>?_⟩⟩⟩
 replace b2:ToldN H1 H2 l (cY T R T.length):=b2;have kk:=g1.trans k2;obtain ⟨cs,ec,rc⟩:=id b2;have ln2:(cY T R T.length).length<=24:=ED (cB _ _ _) t24;refine ⟨_,rfl,.inl ⟨rfl,_,aK.of ec⟩,_,rfl,aR x _ dx _ ⟨_,⟨rfl,(kk _ _ e0),B.Fm,B.Ft,l5,_,rfl,by lia,by lia,jc xP (fun _=>False) (wV M) (fun i=> [.str "moment",.int (i:Nat)]) (by lia) (fun a h=>h.elim) (fun i hi H3 g3 S' hS=>?_) (fun i hi _ H3 g3 Q' hQ=>?_) fun p H3 np g3 b3'=>?_⟩⟩⟩
 ·have hM:=D0 (show i<M.length by lia)
  have eb:wV M i=decide (M[i]'(by lia)<0):=by unfold wV;rw[bR hM]
  rw[eb] at hS;rw[FD];exact ⟨_,rfl,aR t _ _ _ ⟨rfl,rfl,bH.of ((kk.trans g3) _ _ et),rfl,_,rfl,aR ml _ _ _ ⟨rfl,rfl,aK.of ((kk.trans g3) _ _ em),(aU (cJ hM)),aA _ _ ⟨rfl,rfl,_,rfl,hS _ (.refl _)⟩⟩⟩⟩
 ·rw[FD];exact ⟨_,rfl,by show 2<=sizeLine;decide,fun a na=>hQ _ _ (ai na _) ⟨a,rfl,.inl na,ag⟩⟩
 have b3'':ToldN H2 H3 p (si M M.length):=by
  rw[E9] at b3';exact b3'.mono fun a h=>⟨h.1,h.2.elim id fun z=>z.elim⟩
 refine cL (fB nl k2 b2 g3 np b3'') fun vs' us' _hi=>?_
 refine iN _hi fun q1 q2 q3 q4 q5 _hj=>?_
 refine bK _hj fun k4 b4=>?_
 have ln4:(si M M.length).length<=8:=by have:=cB M.length (wV M) fun i=> [V.str "moment",.int (i:Nat)];unfold si;lia
 refine (aR l p vs' us' ⟨rfl,rfl,q2,q3,by lia,?_⟩)
 generalize av H3 l (.lst (vs'++us'))=H4 at k4 b4⊢;clear ec rc b2 b3' b3'' q1 q2 q3 np g3 k2 kk;obtain ⟨cs,ec,rc⟩:=id b4;refine ⟨_,rfl,.inl ⟨rfl,_,aK.of ec⟩,_,rfl,_,rfl,aA x t ⟨rfl,jW D T A B2 R M ⟨(N1.same k4).any,fun p5 H5 g5 np5 b5=>?_⟩⟩⟩
 replace b5:ToldN H4 H5 p5 (gq A R M A.length):=b5;refine cL (fB nl k4 b4 g5 np5 b5) fun vs5 us5 _hi=>?_
 refine iN _hi fun q1 q2 q3 s4 s5 _hj=>?_
 refine bK _hj fun k6 b6=>?_
 rw[D7] at s4;have ln6:(gq A R M A.length).length<=600:=ED (cB _ _ _) a6;refine (aR l p5 vs5 us5 ⟨rfl,rfl,q2,q3,by lia,?_⟩)
 generalize av H5 l (.lst (vs5++us5))=H6 at k6 b6⊢;clear ec rc b4 b5 q1 q2 q3 np5 g5 k4;obtain ⟨cs,ec,rc⟩:=id b6;refine ⟨_,rfl,.inl ⟨rfl,_,aK.of ec⟩,_,rfl,_,rfl,aA x t ⟨rfl,jW D T A B2 R M ⟨(N1.same k6).any,fun p7 H7 g7 np7 b7=>?_⟩⟩⟩
 replace b7:ToldN H6 H7 p7 (eQ B2 R B2.length):=b7;refine cL (fB nl k6 b6 g7 np7 b7) fun vs7 us7 _hi=>?_
 refine iN _hi fun q1 q2 q3 v4 v5 _hj=>?_
 refine bK _hj fun k8 b8=>?_
 rw[D7,D7] at v4;have ln8:(eQ B2 R B2.length).length<=300:=ED (cB _ _ _) b3;refine (aR l p7 vs7 us7 ⟨rfl,rfl,q2,q3,by lia,?_⟩)
 generalize av H7 l (.lst (vs7++us7))=H8 at k8 b8⊢;clear ec rc b6 b7 q1 q2 q3 np7 g7 k6;have lnP:(cY T R T.length++si M M.length++gq A R M A.length++eQ B2 R B2.length).length<=932:=by
  rw[D7,D7,D7]
  lia
 have ed8:=(ed.same (g1.trans k8)).no;have tk:(aC D).map (·.1)=(D.map (·.1)).map (fun y=>(.inr y:Key)):=su D
 refine ⟨_,rfl,aR x _ dx _ ⟨_,⟨rfl,((g1.trans k8) _ _ e0),B.Fm,B.Fq,l1,cC td _ _ ⟨rfl,ed8,tk,N.ok.dnd,by rw[D3];lia,fun p9 ys np9 yp ysrt=>?_⟩⟩⟩⟩
 have g9:=ai np9 (.lst (ys.map V.str));have e9:av H8 p9 (.lst (ys.map V.str)) p9=some (.lst (ys.map V.str)):=ag;have k9:=k8.trans g9;have b9:=b8.same g9;have yl:ys.length<=12:=by rw[yp.length_eq,D3];exact d12
 have lp9:p9≠l:=fun e=>by
  obtain ⟨c,e',_⟩:=b8;rw[e,e'] at np9;cases np9
 generalize av H8 p9 (.lst (ys.map V.str))=H9 at e9 k9 b9 g9⊢;have np9':H1 p9=none:=k8.free np9;refine ⟨p9,rfl,⟨_,aK.of e9⟩,bI (xs:=ys.map V.str) (fun i σ H'=>∃o3:Option V,σ= [G0 x,G0 t,G0 l,o3]/\az H1 H'/\H' p9=some (.lst (ys.map V.str))/\ToldN H1 H' l (cY T R T.length++si M M.length++gq A R M A.length++eQ B2 R B2.length++(ys.take i).flatMap (iJ D T R))) ⟨none,rfl,k9,e9,by simpa using b9⟩ (fun i σ H' _ ⟨_,_,_,e,_⟩=>aK.of e) ?_ ?_⟩
 ·intro i y σ HA hy h_;refine cG h_ fun o3 _hi=>?_
  refine cU _hi fun _r1 gA eA bA=>?_
  clear h_ _hi;subst _r1;rw[D9] at hy;obtain ⟨z,hz,rfl⟩:=DV.mp hy;obtain ⟨cs,ec,rc⟩:=id bA;have zD:z∈D.map (·.1):=yp.mem_iff.mp (D6 hz);refine ⟨_,rfl,.inl ⟨rfl,_,aK.of ec⟩,_,rfl,_,rfl,_,rfl,cC x t z ⟨rfl,jW D T A B2 R M ⟨(N1.same gA).any,zD,fun pB HB gB npB bB=>?_⟩⟩⟩
  refine cL (fB nl gA bA gB npB bB) fun vsB usB _hi=>?_
  refine iN _hi fun q1 q2 q3 w4 w5 _hj=>?_
  refine bK _hj fun kC bC=>?_
  have lf:=gr (f:=iJ D T R) (m:=24) (fun a=>ED (jf D T R a) r24) (ys.take i)
  have lt:(ys.take i).length<=12:=by rw[DK];lia
  have dl:=jf D T R z;rw[D7] at w4;refine (aR l pB vsB usB ⟨rfl,rfl,q2,q3,by lia,_,rfl,kC,?_,?_⟩)
  ·rw[ar lp9];exact gB _ _ eA
  ·rw[mL hz,<-DU];exact bC
 intro σ HA h_;refine cG h_ fun o3 _hi=>?_
 refine cU _hi fun _r1 gA eA bA=>?_
 clear h_ _hi;subst _r1;rw[D3,EM] at bA;clear e9 k9 b9 g9 b8;have edA:=(ed.same (g1.trans gA)).no;have lf:=gr (f:=iJ D T R) (m:=24) (fun a=>ED (jf D T R a) r24) ys
 refine ⟨_,rfl,aR x _ dx _ ⟨_,⟨rfl,((g1.trans gA) _ _ e0),B.Fm,B.Fq,l1,cC td _ _ ⟨rfl,edA,tk,N.ok.dnd,by rw[D3];lia,fun pE zs npE zp zsrt=>?_⟩⟩⟩⟩
 have ez:zs=ys:=So.pP zsrt ysrt (zp.trans yp.symm);subst ez;have gE:=ai npE (.lst (zs.map V.str));have eE:av HA pE (.lst (zs.map V.str)) pE=some (.lst (zs.map V.str)):=ag;have kE:=gA.trans gE;have bE:=bA.same gE;have lpE:pE≠l:=fun e=>by
  obtain ⟨c,e',_⟩:=bA;rw[e,e'] at npE;cases npE
 generalize av HA pE (.lst (zs.map V.str))=HE at eE kE bE gE⊢;refine ⟨pE,rfl,⟨_,aK.of eE⟩,bI (xs:=zs.map V.str) (fun i σ H'=>∃o3:Option V,σ= [G0 x,G0 t,G0 l,o3]/\az H1 H'/\H' pE=some (.lst (zs.map V.str))/\ToldN H1 H' l (cY T R T.length++si M M.length++gq A R M A.length++eQ B2 R B2.length++zs.flatMap (iJ D T R)++(zs.take i).flatMap (jD T R))) ⟨o3,rfl,kE,eE,by simpa using bE⟩ (fun i σ H' _ ⟨_,_,_,e,_⟩=>aK.of e) ?_ ?_⟩
 ·intro i y σ HF hy h_;refine cG h_ fun o3 _hi=>?_
  refine cU _hi fun _r1 gF eF bF=>?_
  clear h_ _hi;subst _r1;rw[D9] at hy;obtain ⟨z,hz,rfl⟩:=DV.mp hy;obtain ⟨cs,ec,rc⟩:=id bF;refine ⟨_,rfl,.inl ⟨rfl,_,aK.of ec⟩,_,rfl,_,rfl,_,rfl,cC x t z ⟨rfl,jW D T A B2 R M ⟨(N1.same gF).any,fun pB HB gB npB bB=>?_⟩⟩⟩
  refine cL (fB nl gF bF gB npB bB) fun vsB usB _hi=>?_
  refine iN _hi fun q1 q2 q3 w4 w5 _hj=>?_
  refine bK _hj fun kC bC=>?_
  have lh:=gr (f:=jD T R) (m:=576) (fun a=>mH a r24) (zs.take i)
  have lt:(zs.take i).length<=12:=by rw[DK];lia
  have dl:=mH (T:=T) z r24;rw[D7,D7] at w4;refine (aR l pB vsB usB ⟨rfl,rfl,q2,q3,by lia,_,rfl,kC,?_,?_⟩)
  ·rw[ar lpE];exact gB _ _ eF
  ·rw[mL hz,<-DU];exact bC
 intro σ HF h_;refine cG h_ fun o3' _hi=>?_
 refine cU _hi fun _r1 gF eF bF=>?_
 clear h_ _hi;subst _r1;rw[D3,EM] at bF;exact ⟨_,rfl,q zs l HF yp ysrt (g1.trans gF) (g1.free nl) (bF.mono fun a h=>⟨h.1,g1.free h.2⟩)⟩
theorem BU {dV:Value} (F:bN K "plan_fits" "plan_fits" Ay dV f fd) (DZ21:Dx P w K mg base bQ 5 "breaches" ["net","plan"] [] (mJ mt)):bv P w K mg base bQ 6 f fd ["net","plan"] (tU mt):=by
 have sc:aI ["net","plan"] ["net","plan"] (aw Ay):=fO (by decide+kernel)
 refine F.ok sc (fun vs H Q E h=>?_) (fun cdv A outer s H vs Q E hr h=>?_)
 ·obtain ⟨_,_,rfl,_⟩:=h
  rfl
 refine cL h fun x t _hi=>?_
 refine bK _hi fun _r1 _hj=>?_
 refine iM _hj fun D T A B2 R M _hk=>?_
 refine bK _hk fun N q=>?_
 clear h _hi _hj _hk;subst _r1;refine ⟨_,(ao (aN (jO (pN hr.units0) (dE DZ21 hr (aa (pv 0) (aa (pv 1) af))) (bM af) (aV _)))),?_⟩;try dsimp only[cxK]
 refine ⟨_,rfl,_,rfl,aA x t ⟨rfl,jW D T A B2 R M ⟨N,fun ys l H1 yp ysrt g1 nl ⟨vs,ev,rv⟩=>?_⟩⟩⟩
 refine ⟨by show 0<=sizeLine;decide,fun l2 nl2=>?_⟩
 have g2:=ai nl2 (.lst []);refine (cC l l2 _ ⟨rfl,rfl,aK.of (g2 _ _ ev),aK.of ag,?_⟩);have e:vs.isEmpty=(jL ys D T A B2 R M).isEmpty:=by
  have:=rv.1;cases vs<;>cases h:jL ys D T A B2 R M<;>simp[h] at this⊢
 rw[e];exact q ys _ yp ysrt (g1.trans g2)
theorem BV {dV:Value} (F:bN K "least_free" "least_free" Az dV f fd):bv P w K mg base bQ 1 f fd ["had","many"] uc:=by
 have sc:aI ["had","many","free","number"] ["had","many"] (aw Az):=fO (by decide+kernel)
 refine F.ok sc (fun vs H Q E h=>?_) (fun cdv A outer s H vs Q E hr h=>?_)
 ·obtain ⟨_,_,_,_,rfl,_⟩:=h
  rfl
 refine oA h fun hl k m hs _hi=>?_
 refine iN _hi fun _r1 eh h1000 k0 m100 _hj=>?_
 refine bK _hj fun fe q=>?_
 clear h _hi _hj;subst _r1;refine ⟨_,(ae (dQ 2 sc (bM af)) (ae (dQ 3 sc aj) (ae (vU PassesOwn.never (aP eZ (aB aJ rfl B.Fn boot_len (aa (pv 2) af)) (pv 1) (aV _)) (ae (a7 (aP nC (pv 3) (pv 0) (by with_unfolding_all rfl)) (ao (bt (dH E4 EQ EO bo (pv 2) (aa (pv 3) af)))) aG) (ao (vR (i:=3) sc.nd rfl (Or.inl rfl) aj vS)))) (ao (aN (pv 2)))))),?_⟩
 try dsimp only[cxK]
 have sl:sizeLine=16777216:=sizeLine_eq;refine ⟨by show 0<=sizeLine;decide,fun fl nf=>?_⟩
 have g0:=ai nf (.lst []);have e0:av H fl (.lst []) fl=some (.lst ((bg hs.contains ((0:Nat):Int)).map V.int)):=ag;generalize av H fl (.lst [])=H0 at g0 e0⊢;try dsimp only[aT,aZ]
 refine vV (fun σ H'=>∃n:Nat,σ= [G0 hl,some (.int k),G0 fl,some (.int n)]/\az H H'/\H' fl=some (.lst ((bg hs.contains n).map V.int))/\(bg hs.contains n).length<=k.toNat/\(n:Int)<=max 0 m)
  (fun (σ:L2.St) (_:Hp)=>match σ with| [_,_,_,some (.int n)]=>(m-n).toNat|_=>0)
  ⟨0,rfl,g0,e0,EC _,by lia⟩ ?_
  (fun σ H Q Q' m ⟨v,e,a,ys,e1,e2,v2,e5,i,j,e3,e4,k,hk,h2⟩=>⟨v,e,aA a ys ⟨e1,e2,v2,e5,aA i j ⟨e3,e4,k,hk,m _ _ h2⟩⟩⟩)
 intro σ H1 h_;refine cG h_ fun n _hi=>?_
 refine cU _hi fun _r1 g1 e1 _hj=>?_
 refine bK _hj fun l1 n1=>?_
 clear h_ _hi _hj;subst _r1;refine ⟨_,rfl,aA fl _ ⟨rfl,.inl (aK.of e1),_,rfl,aA _ _ ⟨rfl,rfl,_,rfl,d2 (fun c=>?_) (fun c=>?_)⟩⟩⟩
 ·rw[D3] at c;have nm:n<m.toNat:=xz (S:=hs.contains) (by rw[show ((m.toNat:Nat):Int)=max 0 m by lia,vw];lia)
  have sc':=sF hs.contains n;refine ⟨_,rfl,_,rfl,aA hl _ ⟨rfl,.inl (aK.of (g1 _ _ eh)),rfl,vA hs,?_⟩⟩;rw[qA,if_pos rfl];refine ⟨_,rfl,?_⟩;cases hc:hs.contains (n:Int) with
  |true=>
   rw[hc,if_pos rfl,FK] at sc';refine dR ⟨_,rfl,aA _ _ ⟨rfl,rfl,⟨n+1,by rw[Int.natCast_add];rfl,g1,?_,?_,by lia⟩,?_⟩⟩
   ·rw[Int.natCast_add,Int.natCast_one,sc'];exact e1
   ·rw[Int.natCast_add,Int.natCast_one,sc'];exact l1
   ·show (m-((n:Int)+1)).toNat<(m-(n:Int)).toNat
    lia
  |false=>
   rw[hc,if_neg (by decide)] at sc'
   refine gS ⟨_,rfl,.inl ⟨rfl,_,aK.of e1⟩,_,rfl,cC fl _ _ ⟨rfl,rfl,e1,(by rw[D3];have:=xA hs.contains n;lia),?_⟩⟩
   refine ⟨_,rfl,aA _ _ ⟨rfl,rfl,⟨n+1,by rw[Int.natCast_add];rfl,dZ g1 nf _,?_,?_,by lia⟩,?_⟩⟩
   ·rw[ag,Int.natCast_add,Int.natCast_one,sc',EA];rfl
   ·rw[Int.natCast_add,Int.natCast_one,sc',D7,List.length_singleton];lia
   ·show (m-((n:Int)+1)).toNat<(m-(n:Int)).toNat
    lia
 ·rw[D3] at c;refine ⟨_,rfl,q fl H1 g1 nf ?_⟩;have ek:(bg hs.contains n).length=k.toNat:=by lia
  rw[e1,vz hs.contains m,sH (by lia) ek]
theorem BW {dV:Value} (F:bN K "pieces_had" "pieces_had" AA dV f fd) (DZ13:Dx P w K mg base bQ 1 "goes_on" ["run","turn"] [] kI):bv P w K mg base bQ 2 f fd ["plan","pieces","turn"] xB:=by
 have sc:aI ["plan","pieces","turn","had","run","some"] ["plan","pieces","turn"] (aw AA):=fO (by decide+kernel)
 refine F.ok sc (fun vs H Q E h=>?_) (fun cdv A outer s H vs Q E hr h=>?_)
 ·obtain ⟨_,_,_,_,_,_,rfl,_⟩:=h
  rfl
 refine iM h fun t pl n R M ps _hi=>?_
 refine iN _hi fun _r1 P _r2 ll r24 _hj=>?_
 refine bK _hj fun p8 q=>?_
 clear h _hi _hj;subst _r1;obtain ⟨vs,el,rP⟩:=_r2;refine ⟨_,(ae (dQ 3 sc (bM af)) (ae (aY PassesOwn.never rfl (wx rfl B.GI (aa (au aD (pv 0) aj (fun _ _=>rfl)) (aa (pv 1) af))) (c5 rfl (aQ (dy 4 sc) (aQ (dy 5 sc) cD))) (ao (a7 (cw (dE DZ13 hr (aa (pv 4) (aa (pv 2) af)))) (ao (bt (dH E4 F5 F4 eJ (pv 3) (aa (pv 5) af)))) aG))) (ao (aN (pv 3))))),?_⟩
 try dsimp only[cxK]
 have sl:sizeLine=16777216:=sizeLine_eq;refine cL P fun rl ml _hi=>?_
 refine dA _hi fun et _r1 em=>?_
 obtain ⟨bs,er,rR⟩:=_r1;have lr:(bs.map V.ref).length=R.length:=by rw[D3,rR.1,D3]
 refine ⟨by show 0<=sizeLine;decide,fun hd nh=>?_⟩
 have g0:=ai nh (.lst []);have e0:av H hd (.lst []) hd=some (.lst ((jM R ps n 0).map V.int)):=ag;generalize av H hd (.lst [])=H0 at g0 e0⊢;try dsimp only[aT,aZ]
 refine ⟨_,rfl,aR t _ _ _ ⟨rfl,rfl,bH.of (g0 _ _ et),rfl,_,rfl,aA rl pl ⟨rfl,⟨_,aK.of (g0 _ _ er)⟩,⟨_,aK.of (g0 _ _ el)⟩,tm (xs:=bs.map V.ref) (ys:=vs) (fun i σ H'=>∃o4 o5:Option V,σ= [G0 t,G0 pl,some (.int n),G0 hd,o4,o5]/\az H H'/\H' hd=some (.lst ((jM R ps n i).map V.int))) (aA none none ⟨rfl,g0,e0⟩) (fun i σ H' _ ⟨_,_,_,g,_⟩=>⟨aK.of (g _ _ er),aK.of (g _ _ el)⟩) ?_ ?_⟩⟩⟩
 ·rintro i y z σ H1 T' hy hz ⟨o4,o5,rfl,g1,e1⟩ nT;obtain ⟨b,hb,rfl⟩:=d0 hy;obtain ⟨r,hr',eb⟩:=i7 rR hb;refine cG (rP.at_ hz) fun p _hi=>?_
  refine bK _hi fun hp _hj=>?_
  refine cG _hj fun pa _hk=>?_
  refine dA _hk fun _r1 _ _hl=>?_
  refine cG _hl fun us _hm=>?_
  refine bK _hm fun ep ru=>?_
  clear _hi _hj _hk _hl _hm;subst _r1;have ev:=ru.val;subst ev;have g2:=g1.trans (ai nT (.tup [.ref b,.ref pa]));have e2:=ai nT (.tup [.ref b,.ref pa]) _ _ e1;refine (aA T' _ ⟨rfl,bH.of ag,rfl,aA _ _ ⟨rfl,aA _ _ ⟨rfl,rfl,?_⟩⟩⟩);generalize av H1 T' (.tup [.ref b,.ref pa])=H2 at g2 e2⊢;have hs:jM R ps n (i+1)=jM R ps n i++(if dU r n=true then p else []):=by
   show jM R ps n i++(if dU (R.getD i (0,0,0)) n=true then ps.getD i [] else [])=_
   rw[bR hr',bR hp]
  refine ⟨_,rfl,_,rfl,cC b r n ⟨rfl,g2 _ _ eb,_,rfl,?_⟩⟩;cases hg:dU r n with
  |true=>
   rw[hg,if_pos rfl] at hs;have l1:=kO (R:=R) (t:=n) p8 i;have l2:=p8 p (D6 hp);have il:=(D4.mp hr').1;refine gS ⟨_,rfl,.inl ⟨rfl,_,aK.of e2⟩,_,rfl,aR hd pa _ _ ⟨rfl,rfl,e2,(g2 _ _ ep),by rw[D3,D3];lia,?_⟩⟩
   exact (aA _ _ ⟨rfl,dZ g2 nh _,by rw[ag,hs,EA]⟩)
  |false=>
   rw[hg,if_neg (by decide),FK] at hs
   exact dR (aA _ _ ⟨rfl,g2,by rw[hs];exact e2⟩)
 ·intro σ H1 h_;refine cL h_ fun o4 o5 _hi=>?_
  refine dA _hi fun _r1 g1 e1=>?_
  clear h_ _hi;subst _r1;rw[lr,show min R.length vs.length=R.length by rw[rP.1,ll,Nat.min_self]] at e1
  exact ⟨_,rfl,q hd H1 g1 nh e1⟩
theorem BX {dV:Value} (F:bN K "deal" "deal" AB dV f fd) (DZ14:Dx P w K mg base bQ 2 "use_of" ["net","plan","task","tool"] [] (jU mt)) (DZ23:Dx P w K mg base bQ 1 "least_free" ["had","many"] [] uc) (DZ24:Dx P w K mg base bQ 2 "pieces_had" ["plan","pieces","turn"] [] xB):bv P w K mg base bQ 3 f fd ["net","plan","tool","order"] (xC mt):=by
 have sc:aI ["net","plan","tool","order","pieces","begin","i","use"] ["net","plan","tool","order"] (aw AB):=fO (by decide+kernel)
 refine F.ok sc (fun vs H Q E h=>?_) (fun cdv A outer s H vs Q E hr h=>?_)
 ·obtain ⟨_,_,_,_,_,_,_,_,_,_,rfl,_⟩:=h
  rfl
 refine AQ h fun x t ol z D PL a c m _hi=>?_
 refine cG _hi fun os _hj=>?_
 refine qL _hj fun _r1 PG _r2 ho ok cap hm m1 _hk=>?_
 refine dA _hk fun m8 c1 q=>?_
 clear h _hi _hj _hk;subst _r1;obtain ⟨ts,eo,rO⟩:=_r2;refine ⟨_,(ae (iG (own:= "run") (ys:= []) (js:= []) sc.nd (i:=4) rfl rfl rfl (qN oY .nil (by decide) rfl rfl rfl rfl rfl rfl rfl rfl) (ba (au aD (pv 1) aj (fun _ _=>rfl))) (fun C fp s H=>(bM af))) (ae (aY PassesOwn.never rfl (ba (pv 3)) (c5 rfl (aQ (dy 5 sc) (aQ (dy 6 sc) cD))) (ae (dQ 7 sc (dE DZ14 hr (aa (pv 0) (aa (pv 1) (aa (pv 6) (aa (pv 2) af)))))) (ao (a7 (aP nj (pv 7) jY (aV _)) (ao (ng (dE DZ23 hr (aa (dE DZ24 hr (aa (pv 1) (aa (pv 4) (aa (pv 5) af)))) (aa (au aD (pv 7) aj (fun _ _=>rfl)) af))) (m9 (pv 4) (pv 6) set_list))) aG)))) (ao (aN (pv 4))))),?_⟩
 try dsimp only[cxK]
 have sl:sizeLine=16777216:=sizeLine_eq;have lt:(dP a c PL).length=PL.length:=D3 _;refine cL (id PG.plan) fun rl ml _hi=>?_
 refine dA _hi fun et _r1 em=>?_
 obtain ⟨bs,er,rR⟩:=_r1;have lr:(bs.map V.ref).length=PL.length:=by rw[D3,rR.1,D3,lt]
 have n24:PL.length<=24:=by have:=PG.ok.t24;unfold dW at this;rw[D3] at this;exact this
 refine ⟨_,rfl,aR t _ _ _ ⟨rfl,rfl,bH.of et,rfl,rl,rfl,⟨_,aK.of er⟩,eI lJ (fun _=>False) (bp PL z m []) (aK.of er) (by lia) (fun a h=>h.elim) (fun j y hy H8 g Q' hQ=>?_) fun p H1 np g1 hp=>?_⟩⟩
 ·exact ⟨by show 0<=sizeLine;decide,fun e ne=>hQ _ _ (ai ne _) ⟨e,rfl,.inl ne,[],ag,A2.nil⟩⟩
 rw[lr] at hp;have hp':bJ lJ (fun q=>H q=none/\q≠p) H1 p ((DT PL.length).map (bp PL z m (os.take 0).reverse)):=hp.mono fun a h=>⟨h.2.elim id False.elim,h.1⟩
 clear hp;try dsimp only[aT,aZ]
 refine ⟨_,rfl,ol,rfl,⟨_,aK.of (g1 _ _ eo)⟩,bI (xs:=ts) (fun k σ H'=>∃o5 o6 o7:Option V,σ= [G0 x,G0 t,some (.str z),G0 ol,G0 p,o5,o6,o7]/\az H H'/\bJ lJ (fun q=>H q=none/\q≠p) H' p ((DT PL.length).map (bp PL z m (os.take k).reverse))) (cC none none none ⟨rfl,g1,hp'⟩) (fun k σ H' _ ⟨_,_,_,_,g,_⟩=>aK.of (g _ _ eo)) ?_ ?_⟩
 ·intro k y σ H2 hy h_;refine hW h_ fun o5 o6 o7 _hi=>?_
  refine dA _hi fun _r1 g2 hp=>?_
  clear h_ _hi;subst _r1;refine cG (rO.at_ hy) fun i _hi=>?_
  refine bK _hi fun hi _hj=>?_
  refine cG _hj fun tt _hk=>?_
  refine dA _hk fun _r1 _ ett=>?_
  clear _hi _hj _hk;subst _r1;have il:=ho.lt (D6 hi);have e1:=qD hi;refine (aA tt _ ⟨rfl,bH.of (g2 _ _ ett),rfl,aA _ _ ⟨rfl,aA _ _ ⟨rfl,rfl,?_⟩⟩⟩);refine ⟨_,rfl,_,rfl,_,rfl,_,rfl,aR x t i z ⟨H,⟨rfl,g2,jW D _ _ _ _ _ ⟨PG,(by rw[lt];exact il),fun u ua hu hua=>?_,fun hn=>?_⟩⟩⟩⟩
  ·rw[xE il] at hu;have hd:=mR (m:=m) (done:=(os.take k).reverse) (n:=PL.length) hu;have fe:=qC ho hi ok cap hm (by lia) hu
   have u0:=(ok _ (Ed il)).us.2.2 u (by
    have:=(fS hu).1;rw[DN,D0 il] at this;exact this)
   obtain ⟨_,_,u1,_⟩:=u0;have r8:=ue (PL:=PL) (a:=a) (b:=eU PL i) (f:=bp PL z m (os.take k).reverse) c1 PL.length (D8 _);refine ⟨_,rfl,rfl,_,rfl,nT nofun ?_⟩;refine ⟨_,rfl,_,rfl,_,rfl,jW t p _ _ _ _ ⟨rfl,PG.plan.same g2,hp.any,(by rw[D3,E1,lt]),(by rw[lt];exact n24),jF ok hm m1 m8 _,fun hl H3 g3 nl el=>?_⟩⟩
   rw[lt,r8] at el;have h8:(jk PL (bp PL z m (os.take k).reverse) (eU PL i) PL.length).length<=1000:=by
    rw[<-r8];have:=kO (R:=dP a c PL) (t:=a+c*eU PL i) (jF ok hm m1 m8 (os.take k).reverse (n:=PL.length)) PL.length
    lia
   refine ⟨_,rfl,aR ua _ _ _ ⟨rfl,rfl,bH.of ((g2.trans g3) _ _ hua),rfl,aR hl u.2.1 m _ ⟨rfl,el,h8,by lia,by lia,fe,fun nw H4 g4 nn en=>?_⟩⟩⟩
   rw[qx (xw (z:=z) (m:=m) ho hi)] at en;obtain ⟨vs,ep,rp⟩:=hp.same (g3.trans g4);have g5:=(g2.trans g3).trans g4;have lv:vs.length=PL.length:=by rw[rp.1,D3,E1]
   have np4:nw≠p:=fun z=>by
    obtain ⟨_,e,_⟩:=hp.same g3;rw[z,e] at nn;cases nn
   refine ⟨_,rfl,_,rfl,aR p vs _ i ⟨rfl,rfl,ep,(by rw[lv];exact jR il),?_⟩⟩
   refine (cC _ _ _ ⟨rfl,dZ g5 np _,?_⟩);rw[e1,hd];exact ⟨_,ag,(rp.set_ (i:=i) ⟨nw,rfl,⟨(g2.trans g3).free nn,np4⟩,_,en,A2.ofVal V.int _ _ _⟩).imp fun _ _ k=>yK k (fun z=>z.2 rfl) _⟩
  ·rw[xE il] at hn;refine ⟨_,rfl,rfl,_,rfl,nF rfl (cC _ _ _ ⟨rfl,g2,?_⟩)⟩;rw[e1,kQ hn (kP ho hi)];exact hp
 ·intro σ H2 h_;refine hW h_ fun o5 o6 o7 _hi=>?_
  refine dA _hi fun _r1 g2 hp=>?_
  clear h_ _hi;subst _r1;rw[rO.1,EM] at hp;exact ⟨_,rfl,q p H2 g2 np hp⟩
theorem BY {dV:Value} (F:bN K "roster" "roster" AC dV f fd) (DZ22:Dx P w K mg base bQ 6 "plan_fits" ["net","plan"] [] (tU mt)) (DZ25:Dx P w K mg base bQ 3 "deal" ["net","plan","tool","order"] [] (xC mt)):bv P w K mg base (nL P w) 7 f fd ["net","plan"] (jn mt on):=by
 have sc:aI ["net","plan","order","dealt","tool"] ["net","plan"] (aw AC):=fO (by decide+kernel)
 refine F.okX sc (fun vs H Q E h=>?_) (fun cdv A outer s H vs Q E hr h=>?_)
 ·obtain ⟨_,_,rfl,_⟩:=h
  rfl
 obtain ⟨x,t,rfl,h⟩:=h;refine ⟨_,(ae (a7 (bU (cw (dE DZ22 hr (aa (pv 0) (aa (pv 1) af))))) (ao (wq B.GE rfl B.Gy rfl zg (aa fH af))) aG) (ae (dQ 2 sc (aB kc rfl B.Gc PyProof.Rows.Boot.«sorted» (aa (wU (os:= ["i","run"]) (ys:= []) (js:= []) rfl (CY oY .nil rfl rfl rfl rfl rfl rfl rfl) (gI rfl B.Fs (aa (au aD (pv 1) aj (fun _ _=>rfl)) af)) (fun C fp s H=>yE (K:=K) (n:=2) rfl rfl (aQ (pU (os:= ["i","run"]) (ys:= []) (i:=0) (by decide) rfl rfl) (aQ (pU (os:= ["i","run"]) (ys:= []) (i:=1) (by decide) rfl rfl) cD))) (fun C fp s H=>(cf (aa (au (cN (K:=K) rfl) (pv 1) aj (fun _ _=>rfl)) (aa (pv 0) af))))) af))) (ae (dQ 3 sc fj) (ae (iY (aY (zP rfl rfl) rfl (iA (ce (pv 0) rfl)) (dy 4 sc) (ao (gG (cx hr) (pv 3) (pv 4) (dE DZ25 hr (aa (pv 0) (aa (pv 1) (aa (pv 4) (aa (pv 2) af))))) rfl)))) (ao (aN (pv 3))))))),?_⟩
 try dsimp only[cxK]
 have sl:sizeLine=16777216:=sizeLine_eq;rcases h with ⟨D,PL,a,c,PG,ok,cap,c1,a0,q⟩|⟨D,T,R,PG,un,k⟩
 rotate_left
 ·refine ⟨_,rfl,_,rfl,aA x t ⟨rfl,jW D _ _ _ _ _ ⟨PG,fun ys H1 hy _ g1=>⟨_,rfl,?_⟩⟩⟩⟩
  rw[show (jL ys D T [] [] R []).isEmpty=false from by
   cases e:jL ys D T [] [] R [] with
   |nil=>exact absurd e (un ys)
   |cons=>rfl]
  exact gS ⟨by show 1<=sizeLine;decide,k _ g1⟩
 have lt:(dP a c PL).length=PL.length:=D3 _;have n24:PL.length<=24:=by have:=PG.ok.t24;unfold dW at this;rw[D3] at this;exact this
 refine ⟨_,rfl,_,rfl,aA x t ⟨rfl,jW D _ _ _ _ _ ⟨PG,fun ys H1 hy _ g1=>⟨_,rfl,?_⟩⟩⟩⟩
 rw[yU ok cap c1 a0 hy];refine dR ?_;have PG1:=PG.same g1;refine cL (id PG1.plan) fun rl ml _hi=>?_
 refine dA _hi fun et _r1 em=>?_
 obtain ⟨bs,er,rR⟩:=_r1;have lr:(bs.map V.ref).length=PL.length:=by rw[D3,rR.1,D3,lt]
 refine ⟨_,rfl,aR t _ _ _ ⟨rfl,rfl,bH.of et,rfl,rl,rfl,⟨_,aK.of er⟩,yW (lK a c PL) (fun _=>False) (fun i=>i) (aK.of er) (by lia) (fun a h=>h.elim) (fun i y hy2 H2 g2 T' nT o ho Q' hQ=>?_) fun l0 H2 n0 g2 h0=>?_⟩⟩
 ·obtain ⟨o1,o2,rfl⟩:=yY ho;obtain ⟨b,hb,rfl⟩:=d0 hy2;obtain ⟨r,hr',eb⟩:=i7 rR hb;have g3:=g2.trans (ai nT (.tup [.int (i:Int),.ref b]));exact (aA T' _ ⟨rfl,bH.of ag,rfl,aA _ _ ⟨rfl,aA _ _ ⟨rfl,rfl,⟨[some (.int (i:Int)),some (.ref b)],rfl,rfl⟩,_,rfl,aR b _ _ _ ⟨rfl,rfl,bH.of (g3 _ _ eb),rfl,_,rfl,by show 2<=sizeLine;decide,fun tt ntt=>hQ _ _ (ai ntt _) ⟨tt,rfl,.inl ((ai nT _).free ntt),by rw[ag,(BG hr').2]⟩⟩⟩⟩⟩)
 obtain ⟨vs,ev,rv⟩:=h0;rw[lr,List.map_id'] at rv;obtain ⟨hf,hs⟩:=xF c1 rv;refine (aR l0 vs true _ ⟨rfl,ev,hf,fun ol ws nol pw rs=>?_⟩)
 obtain ⟨os,oo,ro⟩:=hs ws pw rs;have g3:=g2.trans (ai nol (.lst ws));have hol:bJ (lK a c PL) An (av H2 ol (.lst ws)) ol os:=⟨ws,ag,ro.imp fun _ _ k=>C0 (k7 k (ai nol _))⟩
 generalize av H2 ol (.lst ws)=H3 at g3 hol⊢;try dsimp only[aT,aZ]
 refine fun rd nrd=>?_
 have g13:=g1.trans g3;have nrH:=g13.free nrd;try dsimp only[aT,aZ]
 have PG3:=PG.same g13;refine iM PG.net.ex fun dx td tl al pl fs _hi=>?_
 refine iN _hi fun e0' l1 l2 l3 l4 _hj=>?_
 refine dA _hj fun l5 ed _=>?_
 have ed3:=g13 _ _ ed.no;have e0:=ai nrd (.dK []) _ _ (g13 _ _ e0');have etd:=ai nrd (.dK []) _ _ ed3;have dnd:=PG.ok.dnd;have tnr:rd≠td:=fun z=>by rw[z,ed3] at nrd;cases nrd
 refine ⟨_,rfl,aR x _ dx _ ⟨_,⟨rfl,e0,B.Fm,B.Fq,l1,aA td _ ⟨rfl,etd,fun o nfr=>?_⟩⟩⟩⟩
 have PGf:eP mt true (av H3 td (.frz o (.dK (aC D)))) x t D (dW c PL) [] [] (dP a c PL) []:=⟨PG3.net.any.walk ed3,PG3.plan.sq8 (fP ed3),PG3.ok,PG3.pok⟩;have holf:bJ (lK a c PL) An (av H3 td (.frz o (.dK (aC D)))) ol os:=hol.sq (fP ed3);have ef:av H3 td (.frz o (.dK (aC D))) td=some (.frz o (.dK (aC D))):=ag;have gf:∀b,av H3 td (.frz o (.dK (aC D))) b=none->H b=none:=fun b hb=>by
  by_cases z:b=td
  ·rw[z,ag] at hb;cases hb
  ·rw[ar z] at hb;exact g13.free hb
 have sG:az (av H3 td (.frz o (.dK (aC D)))) (av (av H3 rd (.dK [])) td (.frz o (.dK (aC D)))):=iE (ai nrd _) _ _;have eG:(av (av H3 rd (.dK [])) td (.frz o (.dK (aC D)))) rd=some (.dK []):=by rw[ar tnr];exact ag
 have nG:av H3 td (.frz o (.dK (aC D))) rd=none:=by rw[ar tnr];exact nrd
 have thw:∀H',az (av H3 td (.frz o (.dK (aC D)))) H'->az H (av H' td (.dK (aC D))):=fun H' g=>g13.trans (eK ed3 g)
 generalize av H3 td (.frz o (.dK (aC D)))=G at PGf holf ef gf sG nG thw⊢;refine gb (kvs:=aC D) (fun i σ H'=>∃(o4:Option V) (as:GW),σ= [G0 x,G0 t,G0 ol,G0 rd,o4]/\az G H'/\dS G H' rd (D.take i) (fun p=>cK PL p.1 p.2 os) as) (aA none [] ⟨rfl,sG,rfl,eG,FR,nofun,fun i p a h1 h2=>by cases h2⟩) (fun i σ H' _ ⟨_,_,_,g,_⟩=>g _ _ ef) ?_ ?_
 ·intro i k y σ H5 hk h_;refine cL h_ fun o4 as _hi=>?_
  refine dA _hi fun _r1 g5 ra=>?_
  clear h_ _hi;subst _r1;obtain ⟨p,hp,rfl,rfl⟩:=gm hk;have pm:=D6 hp;obtain ⟨_,p1,p8⟩:=PG.ok.tool p pm;have il:=(D4.mp hp).1;have d12:=PG.ok.d12;refine ⟨_,rfl,_,rfl,_,rfl,_,rfl,AU x t ol p.1 D PL a c p.2 ⟨os,⟨rfl,PGf.same g5,holf.same g5,oo,ok,cap,fA dnd pm,p1,p8,c1,fun pa H6 g6 npa hpa=>?_⟩⟩⟩
  refine ⟨_,rfl,_,rfl,aA rd _ ⟨rfl,lm.k (k:= .inr p.1) (g6 _ _ ra.e) (by rw[dO ra.len,DK];lia),?_⟩⟩
  have nin:p.1∉(D.take i).map (·.1):=iL dnd hp;refine (aA _ (as++ [pa]) ⟨rfl,dZ (g5.trans g6) nG _,?_⟩);rw[E8,hp,EV];exact ra.put nG g6 npa g5 hpa nin
 ·intro σ H5 h_;refine cL h_ fun o4 as _hi=>?_
  refine dA _hi fun _r1 g5 ra=>?_
  clear h_ _hi;subst _r1;rw[fv,EM] at ra;refine (cC td o _ ⟨g5 _ _ ef,nfr,_,rfl,q os rd _ as oo (thw H5 g5) nrH ?_⟩);exact (ra.h0 gf).upd (by rw[ed.no];exact nofun) tnr _
theorem BZ {dV:Value} (F:bN K "_law_cell_at" "_law_cell_at" AD dV f fd):bv P w K mg base bQ 1 f fd ["_law_script","_law_k"] (re K):=by
 have sc:aI ["_law_script","_law_k"] ["_law_script","_law_k"] (aw AD):=fO (by decide+kernel)
 refine F.ok sc (fun vs H Q E h=>?_) (fun cdv A outer s H vs Q E hr h=>?_)
 ·obtain ⟨_,_,_,rfl,_⟩:=h
  rfl
 refine hW h fun a ns k _hi=>?_
 refine cU _hi fun _r1 hS h0 q=>?_
 clear h _hi;subst _r1;refine ⟨_,(ae (a7 (aP eZ (pv 1) (aB aJ rfl B.Fn boot_len (aa (pv 0) af)) (aV _)) (ao (aN (au aO (pv 0) (pv 1) (fun _ _=>rfl)))) aG) (ao (aN aj))),?_⟩
 try dsimp only[cxK]
 refine ⟨_,rfl,_,rfl,aA a _ ⟨rfl,.inl hS,aA _ _ ⟨rfl,rfl,_,rfl,d2 (fun c=>?_) (fun c=>?_)⟩⟩⟩
 ·obtain ⟨v,hv⟩:=yg h0 c;exact ⟨_,rfl,_,rfl,aR a _ _ _ ⟨rfl,rfl,hS,hv,q v⟩⟩
 ·exact q 0
theorem B3 {dV:Value} (F:bN K "_law_whole" "_law_whole" AE dV f fd):bv P w K mg base bQ 1 f fd ["_law_found"] sT:=by
 have sc:aI ["_law_found"] ["_law_found"] (aw AE):=fO (by decide+kernel)
 refine F.ok sc (fun vs H Q E h=>?_) (fun cdv A outer s H vs Q E hr h=>?_)
 ·obtain ⟨_,rfl,_⟩:=h
  rfl
 obtain ⟨v,rfl,q⟩:=h;refine ⟨_,(ao (aN (qT (aB oQ rfl B.Ev boot_isinstance (aa (pv 0) (aa (fJ (v:= .ty "int") rfl B.GP boot_int rfl) af))) (qS (zt (aB oQ rfl B.Ev boot_isinstance (aa (pv 0) (aa (fJ (v:= .ty "bool") rfl B.GL boot_bool rfl) af)))))))),?_⟩;try dsimp only[cxK]
 refine ⟨_,rfl,cC _ _ _ ⟨rfl,.ii v,_,rfl,gS ⟨_,rfl,cC _ _ _ ⟨rfl,.ib v,_,rfl,q⟩⟩⟩⟩
theorem B4 {dV:Value} (F:bN K "_law_drawn" "_law_drawn" AF dV f fd):bv P w K mg base bQ 1 f fd ["_law_cell","_law_many"] ki:=by
 have sc:aI ["_law_cell","_law_many","_law_found","_law_number","_law_k"] ["_law_cell","_law_many"] (aw AF):=fO (by decide+kernel)
 refine F.ok sc (fun vs H Q E h=>?_) (fun cdv A outer s H vs Q E hr h=>?_)
 ·obtain ⟨_,_,rfl,_⟩:=h
  rfl
 have m0:(2147483629:Int)≠0:=by decide
 refine cL h fun c m _hi=>?_
 refine cU _hi fun _r1 m0' m1 k=>?_
 clear h _hi;subst _r1;refine ⟨_,(ae (dQ 2 sc (bM af)) (ae (dQ 3 sc (aH bO (pv 0) aj)) (ae (aY PassesOwn.never rfl (cZ rfl B.Fr (aa (pv 1) af)) (dy 4 sc) (ae (dQ 3 sc (aH bO (aH bz (aH bz (aH bz (aH cV (pv 3) aj) (aH cV (aH dJ (pv 3) aj) aj)) aj) (aH cV (pv 4) (pv 4))) aj)) (ao (bt (dH E4 EQ EO bo (pv 2) (aa (pv 3) af)))))) (ao (aN (pv 2)))))),?_⟩;try dsimp only[cxK]
 refine ⟨by show 0<=sizeLine;decide,fun l nl=>?_⟩
 refine ⟨_,rfl,aA _ _ ⟨rfl,rfl,m0,?_⟩⟩;have nb:∀a:Int,0<=a.fmod 2147483629/\a.fmod 2147483629<2147483629:=fun a=>⟨Int.fmod_nonneg_of_pos a (by decide),Int.fmod_lt_of_pos a (by decide)⟩
 refine ⟨_,rfl,m,rfl,by lia,by lia,dj (fun i σ H'=>∃(ns:List Int) (n:Int) (o:Option V),σ= [some (.int c),some (.int m),G0 l,some (.int n),o]/\0<=n/\n<2147483629/\ns.length=i/\(∀z∈ns,AT z)/\az H H'/\H' l=some (.lst (ns.map V.int))) (cC [] _ none ⟨rfl,(nb c).1,(nb c).2,rfl,fun z hz=>by simp at hz,ai nl _,ag⟩) ?_ ?_⟩
 ·intro i σ H' hi h_;refine hW h_ fun ns n o _hi=>?_
  refine iN _hi fun _r1 n0 n1 hl hd _hj=>?_
  refine bK _hj fun g el=>?_
  clear h_ _hi _hj;subst _r1;refine ⟨_,rfl,aA _ _ ⟨rfl,rfl,IntMulOk.of_right (by decide),_,rfl,aA _ _ ⟨rfl,rfl,⟨by decide,Er (by decide)⟩,aA _ _ ⟨rfl,rfl,IntMulOk.of_right (by decide),aA _ _ ⟨rfl,rfl,aA _ _ ⟨rfl,rfl,_,rfl,_,rfl,aA _ _ ⟨rfl,rfl,IntMulOk.of_left (intBits_le_64 (by lia) (by lia)),aA _ _ ⟨rfl,rfl,_,_,rfl,rfl,m0,?_⟩⟩⟩⟩⟩⟩⟩⟩
  refine ⟨_,rfl,.inl ⟨rfl,_,aK.of el⟩,_,rfl,cC l _ _ ⟨rfl,rfl,el,(by rw[D3,hl];have:sizeLine=16777216:=sizeLine_eq;lia),?_⟩⟩
  refine (cC (ns++ [(n*69621+n.fdiv 127*7+40692+(0+(i:Int))*(0+(i:Int))).fmod 2147483629]) _ _ ⟨rfl,(nb _).1,(nb _).2,by simp[hl],fun z hz=>?_,dZ g nl _,?_⟩)
  ·rcases DO.mp hz with h|h
   ·exact hd z h
   ·rw[DR.mp h];exact nb _
  rw[EA];exact ag
 ·intro σ H' h_;refine hW h_ fun ns n o _hi=>?_
  refine iN _hi fun _r1 n0 n1 hl hd _hj=>?_
  refine bK _hj fun g el=>?_
  clear h_ _hi _hj;subst _r1;exact ⟨_,rfl,k l ns H' nl g hl hd el⟩
theorem B5 {dV:Value} (F:bN K "_law_tools" "_law_tools" AG dV f fd):bv P w K mg base bQ 1 f fd ["_law_xs"] qt:=by
 have sc:aI ["_law_xs","_law_tools_here","_law_k","_law_word","_law_cut"] ["_law_xs"] (aw AG):=fO (by decide+kernel)
 refine F.ok sc (fun vs H Q E h=>?_) (fun cdv A outer s H vs Q E hr h=>?_)
 ·obtain ⟨_,_,rfl,_⟩:=h
  rfl
 refine cL h fun l ns _hi=>?_
 refine cU _hi fun _r1 el l4 _hj=>?_
 refine bK _hj fun dn q=>?_
 clear h _hi _hj;subst _r1;refine ⟨_,(ae (dQ 1 sc fj) (ae (a7 (aP j0 (aH bO (aH dJ (au aO (pv 0) aj (fun _ _=>rfl)) aj) aj) aj (aV _)) (ao (aN (pv 1))) aG) (ae (aY PassesOwn.never rfl (cZ rfl B.Fr (aa (aH bz aj (aH bO (au aO (pv 0) aj (fun _ _=>rfl)) aj)) af)) (dy 2 sc) (ae (dQ 3 sc (aH yR (au v9 fH (aH bO (au aO (pv 0) (pv 2) (fun _ _=>rfl)) aj) (fun _ _=>rfl)) (aH bO (aH dJ (au aO (pv 0) (pv 2) (fun _ _=>rfl)) aj) aj))) (ae (dQ 4 sc (aH bO (aH dJ (au aO (pv 0) (pv 2) (fun _ _=>rfl)) aj) (aH bz (aB fM rfl B.Fn boot_len (aa (pv 3) af)) aj))) (ao (gG (cx hr) (pv 1) (aH j2 (aH j2 (fi wB (pv 3) gC (gD (pv 4))) (au v9 fH (pv 2) (fun _ _=>rfl))) (fi wB (pv 3) (gD (pv 4)) gC)) (aH bz aj (aH bO (aH dJ (au aO (pv 0) (pv 2) (fun _ _=>rfl)) aj) aj)) rfl))))) (ao (aN (pv 1)))))),?_⟩
 try dsimp only[cxK]
 have sl:sizeLine=16777216:=sizeLine_eq;have one:∀c,(⟨#[c]⟩:Str).length=1:=fun _=>rfl
 obtain ⟨z3,h3,d3⟩:=mq dn (i:=3) (by lia)
 refine fun td ntd=>?_
 have g0:=ai ntd (.dK []);have e0:av H td (.dK []) td=some (.dK (aC [])):=ag;generalize av H td (.dK [])=H0 at g0 e0⊢;refine ⟨_,rfl,aR l _ _ _ ⟨rfl,rfl,aK.of (g0 _ _ el),(aU (j:=3) (cJ h3)),aA _ _ ⟨rfl,rfl,⟨by decide,Er (by decide)⟩,aA _ _ ⟨rfl,rfl,(by show (8:Int)≠0;decide),rfl,_,rfl,d2 (fun _=>⟨_,rfl,q td [] H0 g0 ntd e0 ⟨EC _,FR,fun p hp=>by cases hp⟩⟩) (fun _=>?_)⟩⟩⟩⟩
 have t3:=fm (a:=z3) (n:=3) (by decide)
 refine ⟨_,rfl,aR l _ _ _ ⟨rfl,rfl,aK.of (g0 _ _ el),(aU (j:=3) (cJ h3)),aA _ _ ⟨rfl,rfl,(by show (3:Int)≠0;decide),aA _ _ ⟨rfl,rfl,_,rfl,by lia,by lia,dj (fun i σ H'=>∃o2 o3 o4:Option V,σ= [G0 l,G0 td,o2,o3,o4]/\az H H'/\∃D:Tl,H' td=some (.dK (aC D))/\fR i D) (cC none none none ⟨rfl,g0,[],e0,D8 _,FR,fun p hp=>by cases hp⟩) ?_ ?_⟩⟩⟩⟩
 ·intro i σ H1 hi h_;refine hW h_ fun o2 o3 o4 _hi=>?_
  refine dA _hi fun _r1 g1 _hj=>?_
  refine cG _hj fun D _hk=>?_
  refine bK _hk fun eD tok=>?_
  clear h_ _hi _hj _hk;subst _r1;have i3:i<3:=by lia
  obtain ⟨x,hx,dx0,dx1⟩:=mq dn (i:=i) (by lia)
  have el1:=g1 _ _ el;have at1:iU (ns.map V.int) (0+(i:Int))=some (.int x):=gM (cJ hx);have m2:=fm (a:=x) (n:=2) (by decide)
  have m11:=fm (a:=x.fdiv 2) (n:=11) (by decide)
  have m8:=fm (a:=x.fdiv 512) (n:=8) (by decide)
  obtain ⟨c,hc,cq⟩:=BE m2.1 m2.2;obtain ⟨d,hd,dq⟩:=Aj i3;refine ⟨_,rfl,_,rfl,aR l _ _ _ ⟨rfl,rfl,aK.of el1,at1,aA _ _ ⟨rfl,rfl,(by show (2:Int)≠0;decide),cC _ _ c ⟨rfl,rfl,by decide,hc,_,rfl,_,rfl,aR l _ _ _ ⟨rfl,rfl,aK.of el1,at1,aA _ _ ⟨rfl,rfl,⟨by decide,Er (by decide)⟩,_,_,rfl,rfl,(by show (11:Int)≠0;decide),_,_,rfl,rfl,(by show 1<=16;decide),m11.1,by lia,?_⟩⟩⟩⟩⟩⟩
  have wl:=yS (z:=⟨#[c]⟩) m11.1;have wL:=Lt.mul cq ((x.fdiv 2).fmod 11);rw[one] at wl;generalize Txt.mul ⟨#[c]⟩ ((x.fdiv 2).fmod 11)=wd at wl wL⊢;have wz:wd.length<=sizeLine:=by lia
  refine ⟨_,rfl,_,rfl,aR l _ _ _ ⟨rfl,rfl,aK.of el1,at1,aA _ _ ⟨rfl,rfl,⟨by decide,Er (by decide)⟩,_,rfl,_,rfl,wz,aA _ _ ⟨rfl,rfl,aA _ _ ⟨rfl,rfl,by lia,?_⟩⟩⟩⟩⟩
  have mc:=fm (a:=x.fdiv 32) (n:=(wd.length:Int)+1) (by lia)
  have c1:=yP (x:=wd) mc.1;have c2:=yQ (x:=wd) mc.1;have nm:Nm (gX wd none (some ((x.fdiv 32).fmod ((wd.length:Int)+1)))++({cps:= #[d]}:Str)++gX wd (some ((x.fdiv 32).fmod ((wd.length:Int)+1))) none):=by
   refine (((wL.cut _ _).app (Lt.one dq)).app (wL.cut _ _)).nm ?_ ?_
   ·rw[Str.length_append,Str.length_append,one];lia
   ·rw[Str.length_append,Str.length_append,one,c1,c2];lia
  refine ⟨_,rfl,_,rfl,aR l _ _ _ ⟨rfl,rfl,aK.of el1,at1,aA _ _ ⟨rfl,rfl,⟨by decide,Er (by decide)⟩,aA _ _ ⟨rfl,rfl,(by show (8:Int)≠0;decide),aA _ _ ⟨rfl,rfl,_,rfl,_,rfl,_,rfl,_,rfl,_,rfl,wz,_,rfl,_,_,d,rfl,rfl,by decide,hd,_,_,rfl,rfl,?_,_,rfl,_,rfl,_,rfl,_,rfl,wz,_,_,rfl,rfl,?_,td,_,rfl,lm.k (k:= .inr (gX wd none (some ((x.fdiv 32).fmod ((wd.length:Int)+1)))++({cps:= #[d]}:Str)++gX wd (some ((x.fdiv 32).fmod ((wd.length:Int)+1))) none)) eD ?_,_,_,_,rfl,dZ g1 ntd _,?_⟩⟩⟩⟩⟩
  ·rw[one,c1];lia
  ·rw[Str.length_append,one,c1,c2];lia
  ·rw[fv];have:=tok.1;lia
  ·obtain ⟨E,eE,ok⟩:=tok.put (m:=1+(x.fdiv 512).fmod 8) nm (by lia) (by lia)
   exact ⟨E,by rw[eE];exact ag,ok⟩
 ·intro σ H1 h_;refine hW h_ fun o2 o3 o4 _hi=>?_
  refine dA _hi fun _r1 g1 _hj=>?_
  refine cG _hj fun D _hk=>?_
  refine bK _hk fun eD tok=>?_
  clear h_ _hi _hj _hk;subst _r1;exact ⟨_,rfl,q td D H1 g1 ntd eD ⟨by have:=tok.1;lia,tok.2⟩⟩
theorem B6 {dV:Value} (F:bN K "_law_uses" "_law_uses" AH dV f fd):bv P w K mg base bQ 1 f fd ["_law_xs","_law_tools_here"] qH:=by
 have sc:aI ["_law_xs","_law_tools_here","_law_uses_here","_law_names","_law_k"] ["_law_xs","_law_tools_here"] (aw AH):=fO (by decide+kernel)
 refine F.ok sc (fun vs H Q E h=>?_) (fun cdv A outer s H vs Q E hr h=>?_)
 ·obtain ⟨_,_,_,_,rfl,_⟩:=h
  rfl
 refine oA h fun l td ns D _hi=>?_
 refine iN _hi fun _r1 el l6 dn ed _hj=>?_
 refine bK _hj fun tok q=>?_
 clear h _hi _hj;subst _r1;refine ⟨_,(ae (dQ 2 sc (bM af)) (ae (dQ 3 sc (dk (sw rfl) rfl B.Fy boot_list (aa (pv 1) af))) (ae (aY PassesOwn.never rfl (cZ rfl B.Fr (aa (aB aJ rfl B.Fn boot_len (aa (pv 3) af)) af)) (dy 4 sc) (ao (a7 (aP j0 (aH bO (au aO (pv 0) (pv 4) (fun _ _=>rfl)) aj) aj (aV _)) (ao (bt (dH E4 EQ EO bo (pv 2) (aa (cf (aa (au aO (pv 3) (pv 4) (fun _ _=>rfl)) (aa (aH bz aj (aH bO (aH dJ (au aO (pv 0) (pv 4) (fun _ _=>rfl)) aj) (cb (cx hr) (pv 1) (au aO (pv 3) (pv 4) (fun _ _=>rfl)) (fun _ _=>rfl)))) (aa aj af)))) af)))) aG))) (ae (a7 (aP j0 (aH bO (au aO (pv 0) aj (fun _ _=>rfl)) aj) aj (aV _)) (ao (dQ 2 sc (rL rfl rfl B.Fy rfl B.GC boot_list PyProof.Rows.Boot.«reversed» (pv 2)))) aG) (ao (aN (pv 2))))))),?_⟩
 try dsimp only[cxK]
 have sl:sizeLine=16777216:=sizeLine_eq;obtain ⟨z3,h3,_⟩:=mq dn (i:=3) (by lia)
 refine ⟨by show 0<=sizeLine;decide,fun u nu=>?_⟩
 have g0:=ai nu (.lst []);have hu0:bJ gk (fun a=>a≠u/\H a=none) (av H u (.lst [])) u []:=bJ.new
 generalize av H u (.lst [])=H0 at g0 hu0⊢;refine ⟨_,rfl,aA td _ ⟨rfl,g0 _ _ ed,fun nl nnl=>?_⟩⟩
 have kn:((aC D).map fun p=>kV p.1)=D.map fun p=>V.str p.1:=by unfold aC;rw[En];rfl
 rw[kn];have g1':=ai nnl (.lst (D.map fun p=>V.str p.1))
 have en:av H0 nl (.lst (D.map fun p=>V.str p.1)) nl=some (.lst (D.map fun p=>V.str p.1)):=ag
 have nu':nl≠u:=fun z=>by
  obtain ⟨_,e,_⟩:=hu0;rw[z,e] at nnl;cases nnl
 have g1:=g0.trans g1';have hu1:=hu0.same g1';generalize av H0 nl (.lst (D.map fun p=>V.str p.1))=H1 at en g1 hu1⊢
 clear g0 hu0 g1' nnl;have dl:=tok.1;try dsimp only[aT,aZ]
 refine cut (fun σ H'=>∃(o4:Option V) (us:List Us),σ= [G0 l,G0 td,G0 u,G0 nl,o4]/\az H H'/\bJ gk (fun a=>a≠u/\H a=none) H' u us/\vI D D.length us) (fun N hN=>?_) ?_
 ·refine ⟨_,rfl,aA nl _ ⟨rfl,.inl (aK.of en),_,rfl,by rw[D3];lia,by rw[D3];lia,dj (fun i σ H'=>∃(o4:Option V) (us:List Us),σ= [G0 l,G0 td,G0 u,G0 nl,o4]/\az H H'/\H' nl=some (.lst (D.map fun p=>V.str p.1))/\bJ gk (fun a=>a≠u/\H a=none) H' u us/\vI D i us) (aA none [] ⟨rfl,g1,en,hu1,.nil D⟩) ?_ ?_⟩⟩
  ·intro i σ H2 hi h_;refine cL h_ fun o4 us _hi=>?_
   refine cU _hi fun _r1 g2 en2 _hj=>?_
   refine bK _hj fun _r2 uk=>?_
   clear h_ _hi _hj;subst _r1;obtain ⟨vs,eu,ru⟩:=_r2;rw[E9,D3] at hi;obtain ⟨x,hx,_⟩:=mq dn (i:=i) (by lia)
   have el2:=g2 _ _ el;have at1:iU (ns.map V.int) (0+(i:Int))=some (.int x):=gM (cJ hx);have hD:=D0 hi;have mem:=Ed hi;generalize D[i]=p at hD mem;obtain ⟨pn,p1,p8⟩:=tok.2.2 p mem;have at2:iU (D.map fun p=>V.str p.1) (0+(i:Int))=some (.str p.1):=gM (cJ (f:=fun p:Str×Int=>V.str p.1) hD)
   have dg:=jg (.inl (g2 _ _ ed)) (fA tok.2.1 (show (p.1,p.2)∈D from mem))
   have sz:vs.length<sizeLine:=by have:=uk.len;rw[ru.1];lia
   refine ⟨_,rfl,_,rfl,aR l _ _ _ ⟨rfl,rfl,aK.of el2,at1,aA _ _ ⟨rfl,rfl,(by show (2:Int)≠0;decide),rfl,_,rfl,d2 (fun _=>?_) (fun _=>(aA _ us ⟨rfl,g2,en2,⟨vs,eu,ru⟩,uk.skip⟩))⟩⟩⟩
   have mm:=fm (a:=x.fdiv 2) (n:=p.2) (by lia)
   refine ⟨_,rfl,.inl ⟨rfl,_,aK.of eu⟩,_,rfl,_,rfl,aR nl _ _ _ ⟨rfl,rfl,aK.of en2,at2,_,rfl,_,rfl,aR l _ _ _ ⟨rfl,rfl,aK.of el2,at1,aA _ _ ⟨rfl,rfl,⟨by decide,Er (by decide)⟩,_,rfl,_,rfl,_,rfl,aA nl _ ⟨_,_,rfl,rfl,aK.of en2,at2,td,_,rfl,dg,_,_,rfl,rfl,by lia,_,_,rfl,rfl,by show 3<=sizeLine;decide,fun a na=>(cC u _ _ ⟨rfl,rfl,ai na _ _ _ eu,sz,?_⟩)⟩⟩⟩⟩⟩
   have ga:=ai na (.tup [.str p.1,.int (1+(x.fdiv 2).fmod p.2),.int 3]);refine (aA _ (us++ [(p.1,1+(x.fdiv 2).fmod p.2,3)]) ⟨rfl,dZ (g2.trans ga) nu _,?_,?_,uk.put tok.2.1 hD (by lia) (by lia)⟩)
   ·rw[ar nu'];exact ga _ _ en2
   ·exact bJ.put (fun z=>z.1 rfl) (ru.imp fun _ _ q=>k7 q ga) ⟨a,rfl,⟨(fun z=>by rw[z,eu] at na;cases na),g2.free na⟩,ag⟩
  ·intro σ H2 h_;refine cL h_ fun o4 us _hi=>?_
   refine cU _hi fun _r1 g2 en2 _hj=>?_
   refine bK _hj fun hu uk=>?_
   clear h_ _hi _hj;subst _r1;rw[E9,D3] at uk;exact hN _ _ (aA _ us ⟨rfl,g2,hu,uk⟩)
 clear g1 hu1 en;intro σ H2 h_;refine cL h_ fun o4 us _hi=>?_
 refine cU _hi fun _r1 g2 hu uk=>?_
 clear h_ _hi;subst _r1;try dsimp only[aT,aZ]
 refine cut (fun σ H'=>∃(u':Addr) (us':List Us),σ= [G0 l,G0 td,G0 u',G0 nl,o4]/\az H H'/\H u'=none/\bJ gk (fun a=>H a=none) H' u' us'/\(us'=us∨us'=us.reverse)) (fun N hN=>?_) ?_
 ·refine ⟨_,rfl,aR l _ _ _ ⟨rfl,rfl,aK.of (g2 _ _ el),(aU (j:=3) (cJ h3)),aA _ _ ⟨rfl,rfl,(by show (2:Int)≠0;decide),rfl,_,rfl,d2 (fun _=>?_) (fun _=>hN _ _ (aA u us ⟨rfl,g2,nu,hu.mono fun a h=>h.2,.inl rfl⟩))⟩⟩⟩
  obtain ⟨vs,eu,ru⟩:=hu;refine ⟨_,rfl,aA u _ ⟨rfl,aK.of eu,fun u' nu2=>?_⟩⟩
  have g3:=ai nu2 (.lst vs.reverse);exact hN _ _ (aA u' us.reverse ⟨rfl,g2.trans g3,g2.free nu2,⟨_,ag,ru.rev.imp fun _ _ q=>xf (k7 q g3) fun a h=>h.2⟩,.inr rfl⟩)
 clear hu;intro σ H3 h_;refine cL h_ fun u' us' _hi=>?_
 refine cU _hi fun _r1 g3 nu2 _hj=>?_
 refine bK _hj fun hu eus=>?_
 clear h_ _hi _hj;subst _r1;exact ⟨_,rfl,q u' us' H3 g3 nu2 hu (uk.ok dl eus)⟩
theorem B7 {dV:Value} (F:bN K "_law_free" "_law_free" AI dV f fd):bv P w K mg base bQ 1 f fd ["_law_tools_here","_law_loads","_law_uses_here","_law_begin","_law_size"] qI:=by
 have sc:aI ["_law_tools_here","_law_loads","_law_uses_here","_law_begin","_law_size","_law_name","_law_many","_law_heat","_law_t"] ["_law_tools_here","_law_loads","_law_uses_here","_law_begin","_law_size"] (aw AI):=fO (by decide+kernel)
 refine F.ok sc (fun vs H Q E h=>?_) (fun cdv A outer s H vs Q E hr h=>?_)
 ·obtain ⟨_,_,_,_,_,_,_,_,_,_,rfl,_⟩:=h
  rfl
 refine AQ h fun td ld u b sz D F as us _hi=>?_
 refine cG _hi fun H0 _hj=>?_
 refine qL _hj fun _r1 ed la _r2 ud dnd b0 s0 _hk=>?_
 refine bK _hk fun bs q=>?_
 clear h _hi _hj _hk;subst _r1;obtain ⟨vs,eu,ru⟩:=_r2;refine ⟨_,(ae (aY PassesOwn.never rfl (ba (pv 2)) (c5 rfl (aQ (dy 5 sc) (aQ (dy 6 sc) (aQ (dy 7 sc) cD)))) (ao (aY PassesOwn.never rfl (lP rfl B.Fr (aa (pv 3) (aa (aH bz (pv 3) (pv 4)) af))) (dy 8 sc) (ao (a7 (aP im (aH bz (au aO (cb (cx hr) (pv 1) (pv 5) (fun _ _=>rfl)) (pv 8) (fun _ _=>rfl)) (pv 6)) (cb (cx hr) (pv 0) (pv 5) (fun _ _=>rfl)) (aV _)) (ao (aN dG)) aG))))) (ao (aN dG))),?_⟩
 try dsimp only[cxK]
 have sl:sizeLine=16777216:=sizeLine_eq;refine ⟨_,rfl,u,rfl,⟨_,aK.of eu⟩,bI (xs:=vs) (fun k σ H'=>∃o5 o6 o7 o8:Option V,σ= [G0 td,G0 ld,G0 u,some (.int b),some (.int sz),o5,o6,o7,o8]/\H=H'/\∀e∈us.take k,∀m,bV D e.1=some m->∀t,b<=t->t<b+sz->F e.1 t+e.2.1<=m) (aR none none none none ⟨rfl,rfl,nofun⟩) (fun k σ H' _ ⟨_,_,_,_,_,e,_⟩=>e▸aK.of eu) ?_ ?_⟩
 ·intro k y σ H1 hy h_;refine oA h_ fun o5 o6 o7 o8 _hi=>?_
  refine dA _hi fun _r1 _r2 pr=>?_
  clear h_ _hi;subst _r1;subst _r2;refine cG (ru.at_ hy) fun e _hi=>?_
  refine bK _hi fun he _hj=>?_
  refine cG _hj fun a _hk=>?_
  refine dA _hk fun _r1 _ ea=>?_
  clear _hi _hj _hk;subst _r1;refine cG (ud.1.2.2 e (D6 he)) fun m _hi=>?_
  refine cU _hi fun hm e1 e2 _=>?_
  refine cL (la.at_ dnd hm) fun j la' _hi=>?_
  refine cU _hi fun _ _ dg ela=>?_
  have dgT:=jg (.inl ed) hm;refine (aA a _ ⟨rfl,bH.of ea,rfl,aA _ _ ⟨rfl,aA _ _ ⟨rfl,aA _ _ ⟨rfl,rfl,?_⟩⟩⟩⟩);refine ⟨_,rfl,_,rfl,_,rfl,aA _ _ ⟨rfl,rfl,aA _ _ ⟨rfl,⟨by lia,by lia,by lia,by lia⟩,dj (fun i σ H'=>∃o8:Option V,σ= [G0 td,G0 ld,G0 u,some (.int b),some (.int sz),some (.str e.1),some (.int e.2.1),some (.int e.2.2),o8]/\H=H'/\∀t,b<=t->t<b+i->F e.1 t+e.2.1<=m) ⟨_,rfl,rfl,fun t h1 h2=>by lia⟩ ?_ ?_⟩⟩⟩
  ·rintro i σ H2 hi ⟨o8,rfl,rfl,pi⟩;have at1:=xG (f:=fun t:Nat=>V.int (F e.1 t)) (n:=160) (t:=b+(i:Int)) (by lia) (by lia)
   refine ⟨_,rfl,_,rfl,aA ld _ ⟨rfl,dg,_,rfl,aR la' _ _ _ ⟨rfl,rfl,aK.of ela,at1,_,rfl,aA _ _ ⟨rfl,rfl,_,rfl,_,rfl,aA td _ ⟨rfl,dgT,aA _ _ ⟨rfl,rfl,_,rfl,d2 (fun c=>q false nofun) (fun c=>⟨_,rfl,rfl,fun t h1 h2=>?_⟩)⟩⟩⟩⟩⟩⟩
   by_cases z:t=b+(i:Int)
   ·subst z;rw[show (((b+(i:Int)).toNat:Nat):Int)=b+(i:Int) by lia] at c
    lia
   ·exact pi t h1 (by lia)
  ·rintro σ H2 ⟨o8,rfl,rfl,pi⟩;refine (aR _ _ _ _ ⟨rfl,rfl,fun e' h' m' hm' t h1 h2=>?_⟩)
   rw[E8,he,EV] at h';rcases DO.mp h' with k|k
   ·exact pr e' k m' hm' t h1 h2
   ·rw[DR.mp k] at hm'⊢;rw[hm] at hm';cases hm';exact pi t h1 (by lia)
 ·intro σ H1 h_;refine oA h_ fun o5 o6 o7 o8 _hi=>?_
  refine dA _hi fun _r1 _r2 pr=>?_
  clear h_ _hi;subst _r1;subst _r2;rw[ru.1,EM] at pr;exact q true fun _=>pr
theorem B8 {dV:Value} (F:bN K "_law_placed" "_law_placed" AJ dV f fd) (DZ27:Dx P w K mg base bQ 1 "_law_cell_at" ["_law_script","_law_k"] [] (re K)) (DZ29:Dx P w K mg base bQ 1 "_law_drawn" ["_law_cell","_law_many"] [] ki) (DZ31:Dx P w K mg base bQ 1 "_law_uses" ["_law_xs","_law_tools_here"] [] qH) (DZ32:Dx P w K mg base bQ 1 "_law_free" ["_law_tools_here","_law_loads","_law_uses_here","_law_begin","_law_size"] [] qI):bv P w K mg base bQ 2 f fd ["_law_script","_law_tools_here","_law_many"] (kT K):=by
 have sc:aI ["_law_script","_law_tools_here","_law_many","_law_loads","_law_name","_law_placed_here","_law_last","_law_i","_law_xs","_law_uses_here","_law_begin","_law_size","_law_some","_law_heat","_law_t"] ["_law_script","_law_tools_here","_law_many"] (aw AJ):=fO (by decide+kernel)
 refine F.ok sc (fun vs H Q E h=>?_) (fun cdv A outer s H vs Q E hr h=>?_)
 ·obtain ⟨_,_,_,_,_,rfl,_⟩:=h
  rfl
 refine oA h fun a td n ns _hi=>?_
 refine cG _hi fun D _hj=>?_
 refine iN _hj fun _r1 hS n0 n24 ed _hk=>?_
 refine bK _hk fun tok q=>?_
 clear h _hi _hj _hk;subst _r1;refine ⟨_,(ae (dQ 3 sc fj) (ae (iY (aY PassesOwn.never rfl (iA (pv 1)) (dy 4 sc) (ao (gG (cx hr) (pv 3) (pv 4) (aH zH (bM (aa aj af)) aj) rfl)))) (ae (dQ 5 sc (bM af)) (ae (dQ 6 sc aj) (ae (aY PassesOwn.never rfl (cZ rfl B.Fr (aa (pv 2) af)) (dy 7 sc) (ae (dQ 8 sc (dE DZ29 hr (aa (aH bz (aH cV (dE DZ27 hr (aa (pv 0) (aa (aH bz aj (pv 7)) af))) aj) (pv 7)) (aa aj af)))) (ae (dQ 9 sc (dE DZ31 hr (aa (pv 8) (aa (pv 1) af)))) (ae (dQ 10 sc (aH bO (au aO (pv 8) aj (fun _ _=>rfl)) aj)) (ae (dQ 11 sc (aH bz aj (aH bO (au aO (pv 8) aj (fun _ _=>rfl)) aj))) (ae (a7 (bU (cw (dE DZ32 hr (aa (pv 1) (aa (pv 3) (aa (pv 9) (aa (pv 10) (aa (pv 11) af)))))))) (ao (dQ 10 sc (pv 6))) aG) (ae (aY PassesOwn.never rfl (ba (pv 9)) (c5 rfl (aQ (dy 4 sc) (aQ (dy 12 sc) (aQ (dy 13 sc) cD)))) (ao (aY PassesOwn.never rfl (lP rfl B.Fr (aa (pv 10) (aa (aH bz (pv 10) (pv 11)) af))) (dy 14 sc) (ao (ng (aH bz (au aO (cb (cx hr) (pv 3) (pv 4) (fun _ _=>rfl)) (pv 14) (fun _ _=>rfl)) (pv 12)) (m9 (cb (cx hr) (pv 3) (pv 4) (fun _ _=>rfl)) (pv 14) set_list)))))) (ae (dQ 6 sc (aB (uv rfl) rfl B.GO boot_max (aa (pv 6) (aa (aH bz (pv 10) (pv 11)) af)))) (ao (bt (dH E4 EQ EO bo (pv 5) (aa (cf (aa (pv 10) (aa (aH bz (pv 10) (pv 11)) (aa (pv 9) af)))) af)))))))))))) (ao (aN (pv 5)))))))),?_⟩
 try dsimp only[cxK]
 have sl:sizeLine=16777216:=sizeLine_eq;have dnd:=tok.2.1;have d3:=tok.1;refine fun ld nld=>?_
 have tnl:ld≠td:=fun z=>by rw[z,ed] at nld;cases nld
 have edl:=ai nld (.dK []) _ _ ed;try dsimp only[aT,aZ]
 refine cut (fun σ H'=>∃(o4:Option V) (as:GW),σ= [G0 a,G0 td,some (.int n),G0 ld,o4,none,none,none,none,none,none,none,none,none,none]/\az H H'/\bS H H' ld D (fun _ _=>0) as) (fun N hN=>?_) ?_
 ·refine ⟨_,rfl,aA td _ ⟨rfl,edl,fun o nfr=>?_⟩⟩
  have ef:av H td (.frz o (.dK (aC D))) td=some (.frz o (.dK (aC D))):=ag;have gf:∀b,av H td (.frz o (.dK (aC D))) b=none->H b=none:=fun b hb=>by
   by_cases z:b=td
   ·rw[z,ag] at hb;cases hb
   ·rw[ar z] at hb;exact hb
  have sG:az (av H td (.frz o (.dK (aC D)))) (av (av H ld (.dK [])) td (.frz o (.dK (aC D)))):=iE (ai nld _) _ _;have eG:(av (av H ld (.dK [])) td (.frz o (.dK (aC D)))) ld=some (.dK []):=by rw[ar tnl];exact ag
  have nG:av H td (.frz o (.dK (aC D))) ld=none:=by rw[ar tnl];exact nld
  have thw:∀H',az (av H td (.frz o (.dK (aC D)))) H'->az H (av H' td (.dK (aC D))):=fun H' g=>eK ed g
  generalize av H td (.frz o (.dK (aC D)))=G at ef gf sG nG thw⊢;refine gb (kvs:=aC D) (fun i σ H'=>∃(o4:Option V) (as:GW),σ= [G0 a,G0 td,some (.int n),G0 ld,o4,none,none,none,none,none,none,none,none,none,none]/\az G H'/\bS G H' ld (D.take i) (fun _ _=>0) as) (aA none [] ⟨rfl,sG,rfl,eG,FR,nofun,fun i p a h1 h2=>by cases h2⟩) (fun i σ H' _ ⟨_,_,_,g,_⟩=>g _ _ ef) ?_ ?_
  ·intro i k y σ H5 hk h_;refine cL h_ fun o4 as _hi=>?_
   refine dA _hi fun _r1 g5 la=>?_
   clear h_ _hi;subst _r1;obtain ⟨p,hp,rfl,rfl⟩:=gm hk;refine ⟨by show 1<=sizeLine;decide,fun l0 n0=>(cC l0 160 [.int 0] ⟨rfl,rfl,ag,by decide,by decide,(by show 1*160<=sizeLine;decide),fun pa npa=>?_⟩)⟩
   have g6:=(ai n0 (.lst [.int 0])).trans (ai npa (.lst (EK (160:Int).toNat [V.int 0]).flatten));have epa:av (av H5 l0 (.lst [.int 0])) pa (.lst (EK (160:Int).toNat [V.int 0]).flatten) pa=some (.lst ((DT 160).map fun _:Nat=>V.int 0)):=by rw[ag];exact congrArg (fun x=>some (HO.lst x)) (xH 160)
   have npa5:=(ai n0 (.lst [.int 0])).free npa;generalize av (av H5 l0 (.lst [.int 0])) pa (.lst (EK (160:Int).toNat [V.int 0]).flatten)=H6 at g6 epa⊢;refine ⟨_,rfl,_,rfl,aA ld _ ⟨rfl,lm.k (k:= .inr p.1) (g6 _ _ la.e) (by rw[dO la.len,DK];lia),?_⟩⟩
   refine (aA _ (as++ [pa]) ⟨rfl,dZ (g5.trans g6) nG _,?_⟩);rw[E8,hp,EV];exact la.put g6 npa5 g5 epa (iL dnd hp)
  ·intro σ H5 h_;refine cL h_ fun o4 as _hi=>?_
   refine dA _hi fun _r1 g5 la=>?_
   clear h_ _hi;subst _r1;rw[fv,EM] at la;exact (cC td o _ ⟨g5 _ _ ef,nfr,hN _ _ (aA _ as ⟨rfl,thw H5 g5,(la.h0 gf).upd (fun z=>by rw[(la.h0 gf).new td z] at ed;cases ed) tnl _⟩)⟩)
 intro σ H1 h_;refine cL h_ fun o4 as _hi=>?_
 refine dA _hi fun _r1 g1 la=>?_
 clear h_ _hi;subst _r1;refine ⟨by show 0<=sizeLine;decide,fun pl npl=>?_⟩
 have g2:=g1.trans (ai npl (.lst []));have la2:bS H (av H1 pl (.lst [])) ld D (cA []) as:=(la.same (ai npl _)).congr fun _ _ _=>rfl
 have hp2:bJ eW (fun q=>H q=none/\q≠pl/\q∉as) (av H1 pl (.lst [])) pl []:=bJ.new
 have nplH:=g1.free npl;have pna:pl∉as:=fun z=>by
  obtain ⟨i,hi⟩:=DP.mp z;have e:=la.each i _ pl (D0 (by rw[<-la.len];exact (D4.mp hi).1)) hi
  rw[npl] at e;cases e
 generalize av H1 pl (.lst [])=H2 at g2 la2 hp2⊢;clear la g1 npl;try dsimp only[aT,aZ]
 refine ⟨_,rfl,n,rfl,by lia,by lia,dj (fun i σ H'=>∃(o4 o7 o8 o9 o10 o11 o12 o13 o14:Option V) (PL:List Wy) (L:Int),σ= [G0 a,G0 td,some (.int n),G0 ld,o4,G0 pl,some (.int L),o7,o8,o9,o10,o11,o12,o13,o14]/\az H H'/\bS H H' ld D (cA PL) as/\bJ eW (fun q=>H q=none/\q≠pl/\q∉as) H' pl PL/\PL.length=i/\(∀p∈PL,gu D p/\p.2.1<=L)/\fX D PL/\0<=L/\L<=16+5*(i:Int)) (AU _ _ _ _ _ _ _ _ _ (aA [] 0 ⟨rfl,g2,la2,hp2,rfl,nofun,(fun z m hm t=>by have:=tok.2.2 _ (dv hm);show (0:Int)<=m;dsimp only at this;lia),Int.le_refl _,by lia⟩)) ?_ ?_⟩
 ·intro i σ H3 hi h_;refine AQ h_ fun o4 o7 o8 o9 o10 o11 o12 o13 o14 _hi=>?_
  refine cL _hi fun PL L _hj=>?_
  refine qL _hj fun _r1 g3 la3 hp3 lp okp cap L0 L1=>?_
  clear h_ _hi _hj;subst _r1;refine ⟨_,rfl,_,rfl,aA _ _ ⟨rfl,rfl,cC a ns _ ⟨rfl,g3.seq hS,by lia,fun v=>(aA _ _ ⟨rfl,rfl,IntMulOk.of_right (by decide),_,rfl,aA _ _ ⟨rfl,rfl,aA _ 6 ⟨rfl,by decide,by decide,fun xl xs H4 nx g4 lx dx ex=>?_⟩⟩⟩)⟩⟩⟩
  try dsimp only[aT,aZ]
  refine ⟨_,rfl,_,rfl,aR xl td xs D ⟨rfl,ex,lx,dx,(g3.trans g4) _ _ ed,tok,fun u us H5 g5 nu hu ud=>?_⟩⟩
  have lx6:xs.length=6:=lx;obtain ⟨x4,h4,_⟩:=mq dx (i:=4) (by lia)
  obtain ⟨x5,h5,_⟩:=mq dx (i:=5) (by lia)
  have m4:=fm (a:=x4) (n:=12) (by decide)
  have m5:=fm (a:=x5) (n:=5) (by decide)
  have ex5:=g5 _ _ ex;have g35:=(g3.trans g4).trans g5;have la5:=(la3.same g4).same g5;have hp5:=(hp3.same g4).same g5;have asn:∀b,H4 b=none->b∉as:=fun b hb z=>by
   obtain ⟨i,hi⟩:=DP.mp z;have e:=g4 _ _ (la3.each i _ b (D0 (by rw[<-la3.len];exact (D4.mp hi).1)) hi)
   rw[hb] at e;cases e
  have pl4:∀b,H4 b=none->b≠pl:=fun b hb z=>by
   obtain ⟨vs,e,_⟩:=hp3.same g4;rw[z,e] at hb;cases hb
  have mP:∀b,H4 b=none->H b=none/\b≠pl/\b∉as:=fun b hb=>⟨(g3.trans g4).free hb,pl4 b hb,asn b hb⟩
  have hu5:bJ gk (fun q=>H q=none/\q≠pl/\q∉as) H5 u us:=hu.mono mP
  have nu5:=mP u nu;clear hu la3 hp3 g3 g4 g5 ex nx;try dsimp only[aT,aZ]
  refine ⟨_,rfl,aR xl _ _ _ ⟨rfl,rfl,aK.of ex5,(aU (j:=4) (cJ h4)),aA _ _ ⟨rfl,rfl,(by show (12:Int)≠0;decide),?_⟩⟩⟩
  try dsimp only[aT,aZ]
  refine ⟨_,rfl,aR xl _ _ _ ⟨rfl,rfl,aK.of ex5,(aU (j:=5) (cJ h5)),aA _ _ ⟨rfl,rfl,(by show (5:Int)≠0;decide),aA _ _ ⟨rfl,rfl,?_⟩⟩⟩⟩
  generalize x4.fmod 12=b0 at m4⊢;generalize x5.fmod 5=s5 at m5⊢;try dsimp only[aT,aZ]
  refine cut (fun σ H'=>∃B:Int,σ= [G0 a,G0 td,some (.int n),G0 ld,o4,G0 pl,some (.int L),some (.int (0+(i:Int))),G0 xl,G0 u,some (.int B),some (.int (1+s5)),o12,o13,o14]/\H5=H'/\0<=B/\B+(1+s5)<=140/\B+(1+s5)<=21+5*(i:Int)/\∀e∈us,∀m,bV D e.1=some m->∀t,B<=t->t<B+(1+s5)->cA PL e.1 t+e.2.1<=m) (fun N hN=>?_) ?_
  ·refine ⟨_,rfl,_,rfl,_,rfl,_,rfl,_,rfl,AU td ld u b0 (1+s5) D (cA PL) as us ⟨H,⟨rfl,g35 _ _ ed,la5,hu5.any,ud,dnd,by lia,by lia,by lia,fun r hr=>⟨_,rfl,?_⟩⟩⟩⟩
   cases r with
   |true=>exact dR (hN _ _ ⟨b0,rfl,rfl,by lia,by lia,by lia,hr rfl⟩)
   |false=>
    refine gS ⟨_,rfl,hN _ _ ⟨L,rfl,rfl,by lia,by lia,by lia,fun e he m hm t h1 h2=>?_⟩⟩
    rw[vB (fun p hp=>(okp p hp).2) h1]
    refine cG (ud.1.2.2 e he) fun m' _hi=>?_
    refine cU _hi fun k1 _ k3 _=>?_
    rw[hm] at k1;cases k1
    lia
  intro σ H5' h_;refine cG h_ fun B _hi=>?_
  refine iN _hi fun _r1 _r2 B0 B1 B2 fr=>?_
  clear h_ _hi;subst _r1;subst _r2;try dsimp only[aT,aZ]
  refine cut (fun σ H'=>∃(o4' o12' o13' o14':Option V),σ= [G0 a,G0 td,some (.int n),G0 ld,o4',G0 pl,some (.int L),some (.int (0+(i:Int))),G0 xl,G0 u,some (.int B),some (.int (1+s5)),o12',o13',o14']/\az H H'/\bS H H' ld D (cA (PL++ [(B,B+(1+s5),us)])) as/\bJ eW (fun q=>H q=none/\q≠pl/\q∉as) H' pl PL/\bJ gk (fun q=>H q=none/\q≠pl/\q∉as) H' u us) (fun N hN=>?_) ?_
  ·obtain ⟨vs,eu,ru⟩:=id hu5;have us3:=ud.1.2.1;refine ⟨_,rfl,u,rfl,⟨_,aK.of eu⟩,bI (xs:=vs) (fun k σ H'=>∃(o4' o12' o13' o14':Option V),σ= [G0 a,G0 td,some (.int n),G0 ld,o4',G0 pl,some (.int L),some (.int (0+(i:Int))),G0 xl,G0 u,some (.int B),some (.int (1+s5)),o12',o13',o14']/\az H H'/\bS H H' ld D (fun z t=>cA PL z t+lg (B,B+(1+s5),us.take k) z t) as/\bJ eW (fun q=>H q=none/\q≠pl/\q∉as) H' pl PL/\bJ gk (fun q=>H q=none/\q≠pl/\q∉as) H' u us/\H' u=some (.lst vs)) (aR _ _ _ _ ⟨rfl,g35,la5.congr (fun z t _=>by rw[List.take_zero,yZ,Int.add_zero]),hp5,hu5,eu⟩) (fun k σ H' _ ⟨_,_,_,_,_,_,_,_,_,e⟩=>aK.of e) ?_ ?_⟩
   ·intro k y σ H6 hy h_;refine oA h_ fun q4 q12 q13 q14 _hi=>?_
    refine iN _hi fun _r1 g6 la6 hp6 hu6 eu6=>?_
    clear h_ _hi;subst _r1;obtain ⟨vs',ev',ru6⟩:=id hu6;rw[eu6] at ev';cases ev';refine cG (ru6.at_ hy) fun e _hi=>?_
    refine bK _hi fun he _hj=>?_
    refine cG _hj fun ta _hk=>?_
    refine dA _hk fun _r1 pta eta=>?_
    clear _hi _hj _hk;subst _r1;refine cG (ud.1.2.2 e (D6 he)) fun m _hi=>?_
    refine cU _hi fun hm e1 e2 _=>?_
    have tk:us.take (k+1)=us.take k++ [e]:=by rw[E8,he,EV]
    have ndk:((us.take k++ [e]).map (·.1)).Nodup:=by rw[<-tk,Fi];exact ud.1.1.sublist (List.take_sublist _ _)
    refine (aA ta _ ⟨rfl,bH.of eta,rfl,aA _ _ ⟨rfl,aA _ _ ⟨rfl,aA _ _ ⟨rfl,rfl,?_⟩⟩⟩⟩);refine ⟨_,rfl,_,rfl,_,rfl,aA _ _ ⟨rfl,rfl,aA _ _ ⟨rfl,⟨by lia,by lia,by lia,by lia⟩,dj (fun j σ H'=>∃(o14':Option V),σ= [G0 a,G0 td,some (.int n),G0 ld,some (.str e.1),G0 pl,some (.int L),some (.int (0+(i:Int))),G0 xl,G0 u,some (.int B),some (.int (1+s5)),some (.int e.2.1),some (.int e.2.2),o14']/\az H H'/\bS H H' ld D (fun z t=>cA PL z t+lg (B,B+(1+s5),us.take k) z t+(if z=e.1/\B<=t/\t<B+(j:Int) then e.2.1 else 0)) as/\bJ eW (fun q=>H q=none/\q≠pl/\q∉as) H' pl PL/\bJ gk (fun q=>H q=none/\q≠pl/\q∉as) H' u us/\H' u=some (.lst vs)) ⟨_,rfl,g6,la6.congr (fun z t _=>by rw[if_neg (by lia),Int.add_zero]),hp6,hu6,eu6⟩ ?_ ?_⟩⟩⟩
    ·intro j σ H7 hj h_;refine cG h_ fun w14 _hi=>?_
     refine iN _hi fun _r1 g7 la7 hp7 hu7 eu7=>?_
     clear h_ _hi;subst _r1;refine cL (la7.at_ dnd hm) fun d la' _hi=>?_
     refine cU _hi fun hd hla dg ela=>?_
     have lam:=D6 hla;have une:u≠la':=fun z=>nu5.2.2 (by rw[z];exact lam)
     have pne:pl≠la':=fun z=>pna (by rw[z];exact lam)
     have at1:=xG (f:=fun t:Nat=>V.int (cA PL e.1 t+lg (B,B+(1+s5),us.take k) e.1 t+(if e.1=e.1/\B<=(t:Int)/\(t:Int)<B+(j:Int) then e.2.1 else 0))) (n:=160) (t:=B+(j:Int)) (by lia) (by lia)
     refine ⟨_,rfl,_,rfl,aA ld _ ⟨rfl,dg,_,rfl,aR la' _ _ _ ⟨rfl,rfl,aK.of ela,at1,_,rfl,aA _ _ ⟨rfl,rfl,_,rfl,_,rfl,aA ld _ ⟨rfl,dg,_,rfl,aR la' _ _ ((B+(j:Int)).toNat) ⟨rfl,rfl,ela,(by rw[D3,E1];exact yT (by lia) (by lia)),?_⟩⟩⟩⟩⟩⟩
     refine ⟨_,rfl,dZ g7 (la7.new _ lam) _,(la7.set dnd hd hla (B+(j:Int)).toNat _).congr (fun z t ht=>?_),hp7.upd (fun z=>z.2.2 lam) pne _,hu7.upd (fun z=>z.2.2 lam) une _,by rw[ar une];exact eu7⟩
     rw[show (((B+(j:Int)).toNat:Nat):Int)=B+(j:Int) by lia]
     by_cases c:z=e.1/\t=B+(j:Int)
     ·obtain ⟨rfl,rfl⟩:=c;rw[if_pos ⟨rfl,rfl⟩,if_neg (by lia),if_pos ⟨rfl,by lia,by push_cast;lia⟩,Int.add_zero]
     ·rw[if_neg c]
      congr 1
      by_cases c2:z=e.1/\B<=t/\t<B+(j:Int)
      ·rw[if_pos c2,if_pos ⟨c2.1,c2.2.1,by push_cast;lia⟩]
      ·rw[if_neg c2,if_neg fun w=>?_]
       by_cases c3:t=B+(j:Int)
       ·exact c ⟨w.1,c3⟩
       ·have:=w.2.2
        push_cast at this
        exact c2 ⟨w.1,w.2.1,by lia⟩
    ·intro σ H7 h_;refine cG h_ fun w14 _hi=>?_
     refine iN _hi fun _r1 g7 la7 hp7 hu7 eu7=>?_
     clear h_ _hi;subst _r1;refine (aR _ _ _ _ ⟨rfl,g7,la7.congr (fun z t ht=>?_),hp7,hu7,eu7⟩)
     rw[tk,xI ndk,Int.add_assoc];rw[show (((B+(1+s5)-B).toNat:Nat):Int)=1+s5 by lia]
   ·intro σ H7 h_;refine oA h_ fun q4 q12 q13 q14 _hi=>?_
    refine iN _hi fun _r1 g7 la7 hp7 hu7 eu7=>?_
    clear h_ _hi;subst _r1;refine hN _ _ (aR _ _ _ _ ⟨rfl,g7,la7.congr (fun z t ht=>?_),hp7,hu7⟩)
    rw[ru.1,EM,eR]
  clear la5 hp5 hu5 ex5 g35;intro σ H6 h_;refine oA h_ fun q4 q12 q13 q14 _hi=>?_
  refine cU _hi fun _r1 g6 la6 _hj=>?_
  refine bK _hj fun _r2 hu6=>?_
  clear h_ _hi _hj;subst _r1;obtain ⟨vs,epl,rp⟩:=_r2;try dsimp only[aT,aZ]
  refine ⟨_,rfl,_,rfl,_,rfl,aA _ _ ⟨rfl,rfl,aA _ _ ⟨rfl,?_⟩⟩⟩;try dsimp only[aT,aZ]
  have lv:vs.length<sizeLine:=by rw[rp.1,lp];lia
  refine ⟨_,rfl,.inl ⟨rfl,_,aK.of epl⟩,_,rfl,_,rfl,_,rfl,aA _ _ ⟨rfl,rfl,_,rfl,by show 3<=sizeLine;decide,fun tt ntt=>(cC pl _ _ ⟨rfl,rfl,ai ntt _ _ _ epl,lv,?_⟩)⟩⟩
  have gt:=ai ntt (.tup [.int B,.int (B+(1+s5)),.ref u]);have ttP:H tt=none/\tt≠pl/\tt∉as:=⟨g6.free ntt,(fun z=>by rw[z,epl] at ntt;cases ntt),fun z=>by
   obtain ⟨i,hi⟩:=DP.mp z;have e:=la6.each i _ tt (D0 (by rw[<-la6.len];exact (D4.mp hi).1)) hi
   rw[ntt] at e;cases e⟩
  refine (AU _ _ _ _ _ _ _ _ _ (aA (PL++ [(B,B+(1+s5),us)]) _ ⟨rfl,dZ (g6.trans gt) nplH _,(la6.same gt).upd pna (fun z=>by rw[<-z,la6.e] at epl;cases epl) _,bJ.put (fun z=>z.2.1 rfl) (rp.imp fun _ _ k=>k7 k gt) (aA tt u ⟨rfl,ttP,nu5,ag,hu6.same gt⟩),by rw[D7,lp];rfl,fun p hp=>?_,cap.put ud.1 fr,by split<;>lia,by push_cast;split<;>lia⟩))
  rcases DO.mp hp with k|k
  ·obtain ⟨k1,k2⟩:=okp p k;exact ⟨k1,by split<;>lia⟩
  ·rw[DR.mp k];exact ⟨⟨B0,by show B<B+(1+s5);lia,by show B+(1+s5)<=B+5;lia,by show B+(1+s5)<=140;lia,ud.1,ud.2⟩,by show B+(1+s5)<=_;split<;>lia⟩
 ·intro σ H3 h_;refine AQ h_ fun o4 o7 o8 o9 o10 o11 o12 o13 o14 _hi=>?_
  refine cL _hi fun PL L _hj=>?_
  refine qL _hj fun _r1 g3 la3 hp3 lp okp cap L0 L1=>?_
  clear h_ _hi _hj;subst _r1;exact ⟨_,rfl,q pl PL H3 g3 nplH (hp3.mono fun _ k=>k.1) (by rw[lp];lia) (fun p hp=>(okp p hp).1) cap⟩
theorem B9 {dV:Value} (F:bN K "_law_behind_one_another" "_law_behind_one_another" AK dV f fd):bv P w K mg base bQ 1 f fd ["_law_placed_here"] kU:=by
 have sc:aI ["_law_placed_here","_law_found","_law_last","_law_i","_law_size"] ["_law_placed_here"] (aw AK):=fO (by decide+kernel)
 refine F.ok sc (fun vs H Q E h=>?_) (fun cdv A outer s H vs Q E hr h=>?_)
 ·obtain ⟨_,_,rfl,_⟩:=h
  rfl
 refine cL h fun l PL _hi=>?_
 refine cU _hi fun _r1 _r2 n24 q=>?_
 clear h _hi;subst _r1;obtain ⟨vs,el,rv⟩:=_r2;refine ⟨_,(ae (dQ 1 sc (dk c6 rfl B.Fy boot_list (aa (pv 0) af))) (ae (dQ 2 sc aj) (ae (aY PassesOwn.never rfl (vv rfl B.Fr (aa (aH jZ (aB aJ rfl B.Fn boot_len (aa (pv 0) af)) aj) (aa (y9 vW aj) (aa (y9 vW aj) af)))) (dy 3 sc) (ae (dQ 4 sc (aH jZ (au aD (au aO (pv 0) (pv 3) (fun _ _=>rfl)) aj (fun _ _=>rfl)) (au aD (au aO (pv 0) (pv 3) (fun _ _=>rfl)) aj (fun _ _=>rfl)))) (ae (ng (cf (aa (pv 2) (aa (aH bz (pv 2) (pv 4)) (aa (au aD (au aO (pv 0) (pv 3) (fun _ _=>rfl)) aj (fun _ _=>rfl)) af)))) (m9 (pv 1) (pv 3) set_list)) (ao (dQ 2 sc (aH bz (pv 2) (pv 4))))))) (ao (aN (pv 1)))))),?_⟩
 try dsimp only[cxK]
 have sl:sizeLine=16777216:=sizeLine_eq;refine ⟨_,rfl,aA l _ ⟨rfl,.inl (aK.of el),fun p np=>?_⟩⟩
 have g0:=ai np (.lst vs);have lv:vs.length=PL.length:=rv.1;have h0:bJ eW (fun q=>q≠p) (av H p (.lst vs)) p (PL.take (PL.length-0)++cF (PL.drop (PL.length-0))):=by
  rw[Nat.sub_zero,EM,List.drop_length];show bJ eW _ _ p (PL++ []);rw[FK];exact ⟨vs,ag,rv.imp fun _ _ k=>k7 (xf (Af k) fun a h z=>h.2 (z▸np)) g0⟩
 generalize av H p (.lst vs)=H0 at g0 h0⊢;try dsimp only[aT,aZ]
 refine ⟨_,rfl,aA l _ ⟨rfl,.inl (aK.of (g0 _ _ el)),aA _ _ ⟨rfl,rfl,_,rfl,_,rfl,aA _ _ ⟨rfl,⟨by lia,by lia,by lia,by lia⟩,sE (fun k σ H'=>∃(o3 o4:Option V),σ= [G0 l,G0 p,some (.int (cE (PL.drop (PL.length-k)))),o3,o4]/\az H H'/\bJ eW (fun q=>q≠p) H' p (PL.take (PL.length-k)++cF (PL.drop (PL.length-k)))) (aA none none ⟨by rw[Nat.sub_zero,List.drop_length];rfl,g0,h0⟩) ?_ ?_⟩⟩⟩⟩
 ·intro k σ H1 hk h_;refine cL h_ fun o3 o4 _hi=>?_
  refine dA _hi fun _r1 g1 _r2=>?_
  clear h_ _hi;subst _r1;obtain ⟨us,ep,ru⟩:=_r2;rw[lv] at hk⊢;have kl:k<PL.length:=by lia
  obtain ⟨i,ei⟩:∃i,PL.length-k=i+1:=⟨PL.length-k-1,by lia⟩
  have ei2:PL.length-(k+1)=i:=by lia
  have ii:(PL.length:Int)-1-(k:Int)=(i:Int):=by lia
  rw[ei] at ru⊢;rw[ei2,ii];have il:i<PL.length:=by lia
  obtain ⟨w,hw⟩:∃w,PL[i]?=some w:=⟨_,D0 il⟩;obtain ⟨v,hv,kw⟩:=rv.get hw;have kw':eW (fun q=>q≠p) H v w:=xf (Af kw) fun a h z=>h.2 (z▸np)
  refine cL kw' fun tt u _hi=>?_
  refine cU _hi fun _r1 _ uP _hj=>?_
  refine bK _hj fun et hu=>?_
  clear kw' _hi _hj;subst _r1;have el1:=g1 _ _ el;have et1:=g1 _ _ et;have at1:iU vs (i:Int)=some (.ref tt):=aU hv;refine ⟨_,rfl,_,rfl,aR l _ _ _ ⟨rfl,rfl,aK.of el1,at1,aR tt _ _ _ ⟨rfl,rfl,bH.of et1,rfl,_,rfl,_,rfl,aR l _ _ _ ⟨rfl,rfl,aK.of el1,at1,aR tt _ _ _ ⟨rfl,rfl,bH.of et1,rfl,_,_,rfl,rfl,?_⟩⟩⟩⟩⟩;try dsimp only[aT,aZ]
  refine ⟨_,rfl,_,rfl,_,rfl,aA _ _ ⟨rfl,rfl,_,rfl,_,rfl,aR l _ _ _ ⟨rfl,rfl,aK.of el1,at1,aR tt _ _ _ ⟨rfl,rfl,bH.of et1,rfl,by show 3<=sizeLine;decide,fun nt nn=>?_⟩⟩⟩⟩
  have gn:=ai nn (.tup [.int (cE (PL.drop (i+1))),.int (cE (PL.drop (i+1))+(w.2.1-w.1)),.ref u]);have nep:nt≠p:=fun z=>by rw[z,ep] at nn;cases nn
  have lu:us.length=PL.length:=by rw[ru.1,D7,kN,DK,Ec];lia
  have nw:eW (fun q=>q≠p) (av H1 nt (.tup [.int (cE (PL.drop (i+1))),.int (cE (PL.drop (i+1))+(w.2.1-w.1)),.ref u])) (.ref nt) (cE (PL.drop (i+1)),cE (PL.drop (i+1))+(w.2.1-w.1),w.2.2):=(aA nt u ⟨rfl,nep,uP,ag,(hu.same g1).same gn⟩)
  refine ⟨_,rfl,_,rfl,aR p us _ i ⟨rfl,rfl,gn _ _ ep,(by rw[lu];exact jR il),?_⟩⟩
  try dsimp only[aT,aZ]
  refine ⟨_,rfl,_,rfl,aA _ _ ⟨rfl,rfl,aA _ _ ⟨by rw[xJ hw];rfl,dZ (g1.trans gn) np _,?_⟩⟩⟩
  rw[<-y3 hw];exact ⟨_,ag,((ru.imp fun _ _ k=>k7 k gn).set_ (i:=i) nw).imp fun _ _ k=>yK k (fun z=>z rfl) _⟩
 ·intro σ H1 h_;refine cL h_ fun o3 o4 _hi=>?_
  refine dA _hi fun _r1 g1 hp=>?_
  clear h_ _hi;subst _r1;have e:((vs.length:Int)-1- -1).toNat=PL.length:=by lia
  rw[e,Fg] at hp;exact ⟨_,rfl,q p H1 g1 np (by simpa using hp.any)⟩
theorem Ca {dV:Value} (F:bN K "_law_dealt" "_law_dealt" AL dV f fd):bv P w K mg base bQ 1 f fd ["_law_placed_here","_law_name","_law_number"] mW:=by
 have sc:aI ["_law_placed_here","_law_name","_law_number","_law_found","_law_ahead","_law_begin","_law_i","_law_had","_law_j","_law_piece","_law_some","_law_many","_law_heat"] ["_law_placed_here","_law_name","_law_number"] (aw AL):=fO (by decide+kernel)
 refine F.ok sc (fun vs H Q E h=>?_) (fun cdv A outer s H vs Q E hr h=>?_)
 ·obtain ⟨_,_,_,_,rfl,_⟩:=h
  rfl
 refine oA h fun l z m PL _hi=>?_
 refine iN _hi fun _r1 _r2 n24 usok m0 _hj=>?_
 refine bK _hj fun m8 q=>?_
 clear h _hi _hj;subst _r1;obtain ⟨vs,el,rv⟩:=_r2;refine ⟨_,(ae (iG (own:= "_law_thing") (ys:= []) (js:= []) sc.nd (i:=3) rfl rfl rfl (qN oY .nil (by decide) rfl rfl rfl rfl rfl rfl rfl rfl) (ba (pv 0)) (fun C fp s H=>(bM af))) (ae (dQ 4 sc (bM af)) (ae (aY PassesOwn.never rfl (ba (aB kc rfl B.Gc PyProof.Rows.Boot.«sorted» (aa (oX (hd:=none) (own:= "_law_k") (ys:= ["_law_placed_here"]) (js:= [0]) hr.hd (qN (qM oY) (.cons rfl .nil) (by decide) rfl rfl rfl rfl rfl rfl rfl rfl) (ma rfl B.Fr (aa (aB aJ rfl B.Fn boot_len (aa (pv 0) af)) af)) (fun C fp s H=>(cf (aa (au (cN (K:=K) rfl) (au (ke (K:=K) rfl) (pv 1) (pv 0) (fun _ _=>rfl)) aj (fun _ _=>rfl)) (aa (pv 0) af))))) af))) (c5 rfl (aQ (dy 5 sc) (aQ (dy 6 sc) cD))) (ae (iP (i:=7) sc.nd rfl (Or.inr rfl) fj) (ae (aY PassesOwn.never rfl (ba (pv 4)) (dy 8 sc) (ao (a7 (aP im (au aD (au aO (pv 0) (pv 8) (fun _ _=>rfl)) aj (fun _ _=>rfl)) (pv 5) (aV _)) (ao (aY PassesOwn.never rfl (ba (au aO (pv 3) (pv 8) (fun _ _=>rfl))) (dy 9 sc) (ao (gG (cx hr) (pv 7) (pv 9) dG rfl)))) aG))) (ae (aY PassesOwn.never rfl (ba (au aD (au aO (pv 0) (pv 6) (fun _ _=>rfl)) aj (fun _ _=>rfl))) (c5 rfl (aQ (dy 10 sc) (aQ (dy 11 sc) (aQ (dy 12 sc) cD)))) (ao (a7 (aP j0 (pv 10) (pv 1) (aV _)) (ao (ng (fi jP (gJ (own:= "_law_piece") (ys:= ["_law_had"]) (js:= [7]) rfl (qN (qM oY) (.cons rfl .nil) (by decide) rfl rfl rfl rfl rfl rfl rfl rfl) (cZ rfl B.Fr (aa (pv 2) af)) (fun C fp s H=>(qR (iV (by exact cx hr) (pv 0) (pv 1)) (by with_unfolding_all rfl))) (fun C fp s H=>(pv 0))) gC (gD (pv 11))) (m9 (pv 3) (pv 6) set_list))) aG))) (ao (bt (dH E4 EQ EO bo (pv 4) (aa (pv 6) af)))))))) (ao (aN (pv 3)))))),?_⟩
 try dsimp only[cxK]
 have sl:sizeLine=16777216:=sizeLine_eq;have lv:vs.length=PL.length:=rv.1;refine ⟨_,rfl,l,rfl,⟨_,aK.of el⟩,eI lJ (fun _=>False) (bp PL z m []) (aK.of el) (by lia) (fun a h=>h.elim) (fun j y hy H8 g Q' hQ=>?_) fun p H1 np g1 hp=>?_⟩
 ·exact ⟨by show 0<=sizeLine;decide,fun e ne=>hQ _ _ (ai ne _) ⟨e,rfl,.inl ne,[],ag,A2.nil⟩⟩
 rw[lv] at hp;try dsimp only[aT,aZ]
 refine ⟨by show 0<=sizeLine;decide,fun ah nah=>?_⟩
 have g2:=g1.trans (ai nah (.lst []));have ea2:av H1 ah (.lst []) ah=some (.lst []):=ag;have nahH:=g1.free nah;have pah:p≠ah:=fun w=>by obtain ⟨_,e,_⟩:=hp;rw[w,nah] at e;cases e
 have hp2:bJ lJ (fun q=>H q=none/\q≠p/\q≠ah) (av H1 ah (.lst [])) p ((DT PL.length).map (bp PL z m [])):=((bJ.tt hp).mono fun a h=>⟨h.1.2.elim id False.elim,h.1.1,fun w=>h.2 (by rw[w];exact nah)⟩).same (ai nah _)
 generalize av H1 ah (.lst [])=H2 at g2 ea2 hp2⊢;try dsimp only[aT,aZ]
 have el2:=g2 _ _ el;refine ⟨_,rfl,aA l _ ⟨rfl,.inl (aK.of el2),_,rfl,by lia,by lia,ql (lK 0 1 PL) (fun _=>False) (fun i=>i) oV.no (by lia) (fun a h=>h.elim) (fun i hi H3 g3 Q' hQ=>?_) fun l0 H3 n0 g3 h0=>?_⟩⟩
 ·rw[E9,lv] at hi;obtain ⟨w,hw⟩:∃w,PL[i]?=some w:=⟨_,D0 hi⟩;refine cG (rv.get hw) fun v _hi=>?_
  refine bK _hi fun hv _hj=>?_
  refine cL _hj fun tt u _hk=>?_
  refine cU _hk fun _r1 _ _ _hl=>?_
  refine bK _hl fun et _=>?_
  clear _hi _hj _hk _hl;subst _r1;have g23:=g2.trans g3;have el3:=g23 _ _ el;have et3:=g23 _ _ et;have at1:iU vs (0+(i:Int))=some (.ref tt):=gM hv;have bw:eU PL i=w.1:=by unfold eU;rw[bR hw]
  refine ⟨_,rfl,_,rfl,aR l _ _ _ ⟨rfl,rfl,aK.of el3,at1,aR tt _ _ _ ⟨rfl,rfl,bH.of et3,rfl,_,rfl,by show 2<=sizeLine;decide,fun nt nn=>hQ _ _ (ai nn _) ⟨nt,rfl,.inl nn,?_⟩⟩⟩⟩
  rw[ag];show some (HO.tup [V.int w.1,V.int (0+(i:Int))])=some (HO.tup [V.int (0+1*eU PL i),V.int (i:Int)]);rw[bw,FD,FD,Int.one_mul]
 obtain ⟨ks,ek,rk⟩:=h0;rw[E9,lv,List.map_id'] at rk;obtain ⟨hf,hs⟩:=xF (Int.le_refl 1) rk;refine (aR l0 ks true _ ⟨rfl,ek,hf,fun ol ws nol pw rs=>?_⟩)
 obtain ⟨os,oo,ro⟩:=hs ws pw rs;have g24:=g3.trans (ai nol (.lst ws));have g4:=g2.trans g24;have eol:av H3 ol (.lst ws) ol=some (.lst ws):=ag;have ro4:A2 (lK 0 1 PL An (av H3 ol (.lst ws))) ws os:=ro.imp fun _ _ k=>C0 (k7 k (ai nol _))
 have olp:ol≠p:=fun w=>by obtain ⟨_,e,_⟩:=hp2.same g3;rw[w,e] at nol;cases nol
 have ola:ol≠ah:=fun w=>by rw[w,g3 _ _ ea2] at nol;cases nol
 generalize av H3 ol (.lst ws)=H4 at g24 g4 eol ro4⊢;have ea4:=g24 _ _ ea2;have hp4:=hp2.same g24;refine ⟨ol,rfl,⟨_,aK.of eol⟩,bI (xs:=ws) (fun k σ H'=>∃(o5 o6 o7 o8 o9 o10 o11 o12:Option V),σ= [G0 l,some (.str z),some (.int m),G0 p,G0 ah,o5,o6,o7,o8,o9,o10,o11,o12]/\az H H'/\(∀b o,b≠p->b≠ah->H4 b=some o->H' b=some o)/\H' ah=some (.lst ((os.take k).map fun j:Nat=>V.int (j:Int)))/\bJ lJ (fun q=>H q=none/\q≠p/\q≠ah) H' p ((DT PL.length).map (bp PL z m (os.take k).reverse))) (jW none none none none none none (aA none none ⟨rfl,g4,fun b o _ _ e=>e,ea4,hp4⟩)) (fun k σ H' _ ⟨_,_,_,_,_,_,_,_,_,_,kp,_⟩=>aK.of (kp _ _ olp ola eol)) ?_ ?_⟩
 ·intro k y σ H5 hy h_;refine iM h_ fun o5 o6 o7 o8 o9 o10 _hi=>?_
  refine cL _hi fun o11 o12 _hj=>?_
  refine cU _hj fun _r1 g5 kp _hk=>?_
  refine bK _hk fun ea5 hp5=>?_
  clear h_ _hi _hj _hk;subst _r1;refine cG (ro4.at_ hy) fun i _hi=>?_
  refine bK _hi fun hi _hj=>?_
  refine cG _hj fun tt _hk=>?_
  refine dA _hk fun _r1 _ ett=>?_
  clear _hi _hj _hk;subst _r1;have il:=oo.lt (D6 hi);have kl:k<os.length:=(D4.mp hi).1;have ol_:=oo.len;have ett5:=kp tt _ (fun w=>by obtain ⟨_,e,_⟩:=hp4;rw[w,e] at ett;cases ett) (fun w=>by rw[w,ea4] at ett;cases ett) ett
  refine (aA tt _ ⟨rfl,bH.of ett5,rfl,aA _ _ ⟨rfl,aA _ _ ⟨rfl,rfl,?_⟩⟩⟩);try dsimp only[aT,aZ]
  refine fun hd nhd=>?_
  have gh:=ai nhd (.dK []);have eh:av H5 hd (.dK []) hd=some (.dK []):=ag;generalize av H5 hd (.dK [])=H6 at gh eh⊢;try dsimp only[aT,aZ]
  have nhH:=g5.free nhd;have tl:(os.take k).length=k:=by rw[DK];lia
  refine cut (fun σ H'=>∃(o8' o9':Option V) (kvs:List (Key×V)),σ= [G0 l,some (.str z),some (.int m),G0 p,G0 ah,some (.int (0+1*eU PL i)),some (.int (i:Int)),G0 hd,o8',o9',o10,o11,o12]/\az H5 H'/\H' hd=some (.dK kvs)/\lL kvs (fun x=>(os.take k).any fun j=>decide (0+1*eU PL i<sC PL j)&&(bp PL z m (os.take k).reverse j).contains x)) (fun N hN=>?_) ?_
  ·refine ⟨_,rfl,ah,rfl,⟨_,aK.of (gh _ _ ea5)⟩,bI (xs:=(os.take k).map fun j:Nat=>V.int (j:Int)) (fun a σ H'=>∃(o8' o9':Option V) (kvs:List (Key×V)),σ= [G0 l,some (.str z),some (.int m),G0 p,G0 ah,some (.int (0+1*eU PL i)),some (.int (i:Int)),G0 hd,o8',o9',o10,o11,o12]/\az H5 H'/\H' hd=some (.dK kvs)/\lL kvs (fun x=>((os.take k).take a).any fun j=>decide (0+1*eU PL i<sC PL j)&&(bp PL z m (os.take k).reverse j).contains x)/\kvs.length<=8*a) (cC _ _ [] ⟨rfl,gh,eh,fun x=>rfl,by decide⟩) (fun a σ H' _ ⟨_,_,_,_,g,_⟩=>aK.of (g _ _ ea5)) ?_ ?_⟩
   ·intro a y σ H7 hy2 h_;refine hW h_ fun p8 p9 kvs _hi=>?_
    refine cU _hi fun _r1 g7 ehd _hj=>?_
    refine bK _hj fun hD lk=>?_
    clear h_ _hi _hj;subst _r1;rw[D9] at hy2;obtain ⟨j,hj,rfl⟩:=DV.mp hy2;have al:=(D4.mp hj).1;rw[tl] at al;have jl:=oo.lt (FO (D6 hj));obtain ⟨w,hw⟩:∃w,PL[j]?=some w:=⟨_,D0 jl⟩;refine cG (rv.get hw) fun v _hi=>?_
    refine bK _hi fun hv _hj=>?_
    refine cL _hj fun tj uj _hk=>?_
    refine cU _hk fun _r1 _ _ _hl=>?_
    refine bK _hl fun etj _=>?_
    clear _hi _hj _hk _hl;subst _r1;have g57:=g5.trans g7;have el7:=g57 _ _ el;have etj7:=g57 _ _ etj;have at1:iU vs (j:Int)=some (.ref tj):=aU hv;have ew:sC PL j=w.2.1:=by unfold sC;rw[bR hw]
    have tk:(os.take k).take (a+1)=(os.take k).take a++ [j]:=by rw[E8,hj,EV]
    refine ⟨_,rfl,_,rfl,aR l _ _ _ ⟨rfl,rfl,aK.of el7,at1,aR tj _ _ _ ⟨rfl,rfl,bH.of etj7,rfl,_,rfl,aA _ _ ⟨rfl,rfl,_,rfl,d2 (fun c=>?_) (fun c=>(cC _ _ kvs ⟨rfl,g7,ehd,?_,by lia⟩))⟩⟩⟩⟩
    ·obtain ⟨us,ep,ru⟩:=hp5.same g7;refine cG (ru.get (i:=j) (x:=bp PL z m (os.take k).reverse j) (by rw[D9,Eg jl];rfl)) fun v2 _hi=>?_
     refine bK _hi fun hv2 _hj=>?_
     refine cG _hj fun pj _hk=>?_
     refine dA _hk fun _r1 _ _hl=>?_
     refine cG _hl fun xs _hm=>?_
     refine bK _hm fun exs rxs=>?_
     clear _hi _hj _hk _hl _hm;subst _r1;have ev:=rxs.val;subst ev;have l8:(bp PL z m (os.take k).reverse j).length<=8:=by
      have h1:=fD (PL:=PL) (z:=z) (m:=m) (os.take k).reverse j;have h2:bj (PL.getD j w0) z<=8:=by
       rw[bR hw];unfold bj;cases e:gO w z with
       |none=>show (0:Int)<=8;decide
       |some u=>exact ((usok w (D6 hw)).2.2 u (fS e).1).2
      lia
     have at2:iU us (j:Int)=some (.ref pj):=aU hv2;refine ⟨_,rfl,_,rfl,aR p _ _ _ ⟨rfl,rfl,aK.of ep,at2,pj,rfl,⟨_,aK.of exs⟩,bI (xs:=(bp PL z m (os.take k).reverse j).map V.int) (fun b σ H'=>∃(o9':Option V) (kvs:List (Key×V)),σ= [G0 l,some (.str z),some (.int m),G0 p,G0 ah,some (.int (0+1*eU PL i)),some (.int (i:Int)),G0 hd,some (.int (j:Int)),o9',o10,o11,o12]/\az H5 H'/\H' pj=some (.lst ((bp PL z m (os.take k).reverse j).map V.int))/\H' hd=some (.dK kvs)/\lL kvs (fun x=>((os.take k).take a).any (fun j=>decide (0+1*eU PL i<sC PL j)&&(bp PL z m (os.take k).reverse j).contains x)||((bp PL z m (os.take k).reverse j).take b).contains x)/\kvs.length<=8*a+b) (aA _ kvs ⟨rfl,g7,exs,ehd,hD.congr fun x=>by rw[List.take_zero];simp,by lia⟩) (fun b σ H' _ ⟨_,_,_,_,e,_⟩=>aK.of e) ?_ ?_⟩⟩
     ·intro b y σ H8 hy3 h_;refine cL h_ fun p9 kvs' _hi=>?_
      refine iN _hi fun _r1 g8 e8 ehd' hD' lk'=>?_
      clear h_ _hi;subst _r1;rw[D9] at hy3;obtain ⟨x0,hx0,rfl⟩:=DV.mp hy3;have bl:=(D4.mp hx0).1;refine ⟨_,rfl,_,rfl,aA hd _ ⟨rfl,lm.k (k:= .inl x0) ehd' (by lia),?_⟩⟩
      have phd:pj≠hd:=fun w=>by rw[w,ehd'] at e8;cases e8
      refine (aA _ _ ⟨rfl,dZ g8 nhd _,by rw[ar phd];exact e8,ag,(hD'.put x0 _).congr fun x=>?_,by have:=vF (kvs:=kvs') (k:= .inl x0) (v:= .bl true);lia⟩)
      rw[E8,hx0,EV,Bool.or_assoc]
      congr 1
      rw[List.contains_append,List.contains_cons,List.contains_nil,Bool.or_false]
     ·intro σ H8 h_;refine cL h_ fun p9 kvs' _hi=>?_
      refine iN _hi fun _r1 g8 e8 ehd' hD' lk'=>?_
      clear h_ _hi;subst _r1;rw[D3] at lk';refine (cC _ _ kvs' ⟨rfl,g8,ehd',hD'.congr fun x=>?_,by lia⟩)
      rw[D3,EM,tk,List.any_append]
      congr 1
      rw[FV,List.any_nil,Bool.or_false,ew,decide_eq_true (show 0+1*eU PL i<w.2.1 from c),Bool.true_and]
    ·refine hD.congr fun x=>?_
     rw[tk,List.any_append,FV,List.any_nil,Bool.or_false,ew,decide_eq_false (show ¬0+1*eU PL i<w.2.1 from c),Bool.false_and,Bool.or_false]
   ·intro σ H7 h_;refine hW h_ fun p8 p9 kvs _hi=>?_
    refine cU _hi fun _r1 g7 ehd _hj=>?_
    refine bK _hj fun hD lk=>?_
    clear h_ _hi _hj;subst _r1;rw[D3,tl] at hD;exact hN _ _ (cC _ _ kvs ⟨rfl,g7,ehd,hD.congr fun x=>by rw[show (os.take k).take k=os.take k by rw[List.take_take,Nat.min_self]]⟩)
  intro σ H7 h_;refine hW h_ fun p8 p9 kvs _hi=>?_
  refine cU _hi fun _r1 g7 ehd hD=>?_
  clear h_ _hi;subst _r1;have g57:=g5.trans g7;have e1:=qD hi;obtain ⟨w,hw⟩:∃w,PL[i]?=some w:=⟨_,D0 il⟩;refine cG (rv.get hw) fun v _hi=>?_
  refine bK _hi fun hv _hj=>?_
  refine cL _hj fun ti ui _hk=>?_
  refine cU _hk fun _r1 _ _ _hl=>?_
  refine bK _hl fun eti _hm=>?_
  refine cG _hm fun uvs _hn=>?_
  refine bK _hn fun eui rui=>?_
  clear _hi _hj _hk _hl _hm _hn;subst _r1;have el7:=g57 _ _ el;have eti7:=g57 _ _ eti;have eui7:=g57 _ _ eui;have at1:iU vs (i:Int)=some (.ref ti):=aU hv;have uip:ui≠p:=fun z=>by rw[z,np] at eui;cases eui
  obtain ⟨nd,l100,u8⟩:=usok w (D6 hw);have hS:lL kvs (qw PL (bp PL z m (os.take k).reverse) (os.take k).reverse (eU PL i)):=hD.congr fun x=>by rw[vD,FD,Int.one_mul]
  clear hD;generalize hSe:qw PL (bp PL z m (os.take k).reverse) (os.take k).reverse (eU PL i)=S at hS;generalize hXe:(DT PL.length).map (bp PL z m (os.take k).reverse)=X at hp5;have lX:X.length=PL.length:=by rw[<-hXe,D3,E1]
  have hp7:bJ lJ (fun q=>H q=none/\q≠p/\q≠ah) H7 p (kW X (fun u=>(bg S m).take u.2.1.toNat) i (w.2.2.take 0) z):=hp5.same g7
  have ea7:=g7 _ _ ea5;have hdp:hd≠p:=fun z=>by obtain ⟨_,e,_⟩:=hp7;rw[<-z,ehd] at e;cases e
  have hda:hd≠ah:=fun z=>by rw[<-z,ehd] at ea7;cases ea7
  try dsimp only[aT,aZ]
  refine cut (fun σ H'=>∃(o10' o11' o12':Option V),σ= [G0 l,some (.str z),some (.int m),G0 p,G0 ah,some (.int (0+1*eU PL i)),some (.int (i:Int)),G0 hd,p8,p9,o10',o11',o12']/\az H H'/\(∀b o,b≠p->H7 b=some o->H' b=some o)/\bJ lJ (fun q=>H q=none/\q≠p/\q≠ah) H' p (kW X (fun u=>(bg S m).take u.2.1.toNat) i w.2.2 z)) (fun N hN=>?_) ?_
  ·refine ⟨_,rfl,_,rfl,aR l _ _ _ ⟨rfl,rfl,aK.of el7,at1,aR ti _ _ _ ⟨rfl,rfl,bH.of eti7,rfl,ui,rfl,⟨_,aK.of eui7⟩,bI (xs:=uvs) (fun c σ H'=>∃(o10' o11' o12':Option V),σ= [G0 l,some (.str z),some (.int m),G0 p,G0 ah,some (.int (0+1*eU PL i)),some (.int (i:Int)),G0 hd,p8,p9,o10',o11',o12']/\az H H'/\(∀b o,b≠p->H7 b=some o->H' b=some o)/\bJ lJ (fun q=>H q=none/\q≠p/\q≠ah) H' p (kW X (fun u=>(bg S m).take u.2.1.toNat) i (w.2.2.take c) z)) (cC _ _ _ ⟨rfl,g57,fun b o _ e=>e,hp7⟩) (fun c σ H' _ ⟨_,_,_,_,_,kp,_⟩=>aK.of (kp _ _ uip eui7)) ?_ ?_⟩⟩⟩
   ·intro c y σ H8 hy3 h_;refine hW h_ fun q10 q11 q12 _hi=>?_
    refine cU _hi fun _r1 g8 kp8 hp8=>?_
    clear h_ _hi;subst _r1;refine cG (rui.at_ hy3) fun e _hi=>?_
    refine bK _hi fun he _hj=>?_
    refine cG _hj fun ta _hk=>?_
    refine dA _hk fun _r1 _ eta=>?_
    clear _hi _hj _hk;subst _r1;have eta8:=kp8 ta _ (fun z=>by rw[z,np] at eta;cases eta) (g57 _ _ eta)
    have tk:w.2.2.take (c+1)=w.2.2.take c++ [e]:=by rw[E8,he,EV]
    have ndc:((w.2.2.take c++ [e]).map (·.1)).Nodup:=by rw[<-tk,Fi];exact nd.sublist (List.take_sublist _ _)
    obtain ⟨s1,s2⟩:=vE (X:=X) (Y:=fun u=>(bg S m).take u.2.1.toNat) (i:=i) (z:=z) ndc
    obtain ⟨u1,u2⟩:=u8 e (D6 he);refine (aA ta _ ⟨rfl,bH.of eta8,rfl,aA _ _ ⟨rfl,aA _ _ ⟨rfl,aA _ _ ⟨rfl,rfl,?_⟩⟩⟩⟩);refine ⟨_,rfl,_,rfl,rfl,_,rfl,d2 (fun c1=>?_) (fun c1=>?_)⟩
    ·have c':e.1=z:=by injection c1
     obtain ⟨t1,t2⟩:=s1 c';rw[t1] at hp8;rw[tk,t2];refine ⟨_,rfl,m,rfl,by lia,by lia,jc (og V.int) (fun _=>False) (fun n=> !S (n:Int)) (fun n=>(n:Int)) (by lia) (fun a h=>h.elim) (fun n hn H9 g9 S' hS'=>?_) (fun n hn _ H9 g9 Q' hQ=>⟨_,rfl,hQ _ _ (.refl _) (by show V.int (0+(n:Int))=V.int n;rw[FD])⟩) fun lc H9 nlc g9 hlc=>?_⟩
     ·refine ⟨_,rfl,_,rfl,aA hd _ ⟨rfl,gN.k (k:= .inl (0+(n:Int))) (g9 _ _ (kp8 _ _ hdp ehd)),_,rfl,?_⟩⟩;rw[hS,FD];exact hS' _ (.refl _)
     rw[vC] at hlc;obtain ⟨cs,ec,rc⟩:=hlc;have ev:=rc.val;subst ev;refine ⟨_,rfl,_,rfl,aA lc _ ⟨rfl,aK.of ec,fun na nn=>?_⟩⟩
     have cv:ip ((bg S m).map V.int) none (some e.2.1)=((bg S m).take e.2.1.toNat).map V.int:=by
      obtain ⟨n1,hn1⟩:=Int.eq_ofNat_of_zero_le (show 0<=e.2.1 by lia)
      rw[hn1,mX,E9,Fi]
     rw[cv];have gt:=g9.trans (ai nn (.lst (((bg S m).take e.2.1.toNat).map V.int)));have hnt:av H9 na (.lst (((bg S m).take e.2.1.toNat).map V.int)) na=some (.lst (((bg S m).take e.2.1.toNat).map V.int)):=ag;obtain ⟨us,ep,ru⟩:=hp8.same gt;have nt8:=g9.free nn;have lu:us.length=PL.length:=by rw[ru.1,lX]
     have nap:na≠p:=fun w=>by obtain ⟨_,e,_⟩:=hp8;rw[w,e] at nt8;cases nt8
     have naa:na≠ah:=fun w=>by rw[w,kp8 _ _ (Ne.symm pah) ea7] at nt8;cases nt8
     generalize av H9 na (.lst (((bg S m).take e.2.1.toNat).map V.int))=H10 at gt hnt ep ru⊢;refine ⟨_,rfl,_,rfl,aR p us _ i ⟨rfl,rfl,ep,(by rw[lu];exact jR il),?_⟩⟩
     refine (cC _ _ _ ⟨rfl,dZ (g8.trans gt) np _,fun b o b1 eb=>by rw[ar b1];exact gt _ _ (kp8 _ _ b1 eb),?_⟩)
     exact ⟨_,ag,(ru.set_ (i:=i) ⟨na,rfl,⟨g8.free nt8,nap,naa⟩,_,hnt,A2.ofVal V.int _ _ _⟩).imp fun _ _ k=>yK k (fun z=>z.2.1 rfl) _⟩
    ·have c':e.1≠z:=fun w=>c1 (by rw[w])
     rw[<-s2 c'] at hp8;rw[tk];exact (cC _ _ _ ⟨rfl,g8,kp8,hp8⟩)
   ·intro σ H8 h_;refine hW h_ fun q10 q11 q12 _hi=>?_
    refine cU _hi fun _r1 g8 kp8 hp8=>?_
    clear h_ _hi;subst _r1;rw[rui.1,EM] at hp8;exact hN _ _ (cC _ _ _ ⟨rfl,g8,kp8,hp8⟩)
  intro σ H8 h_;refine hW h_ fun q10 q11 q12 _hi=>?_
  refine cU _hi fun _r1 g8 kp8 hp8=>?_
  clear h_ _hi;subst _r1;have ea8:=kp8 _ _ (Ne.symm pah) ea7;try dsimp only[aT,aZ]
  refine ⟨_,rfl,.inl ⟨rfl,_,aK.of ea8⟩,_,rfl,cC ah _ _ ⟨rfl,rfl,ea8,by rw[D3,tl];lia,?_⟩⟩
  refine (jW _ _ _ _ _ _ (aA _ _ ⟨rfl,dZ g8 nahH _,fun b o b1 b2 e=>?_,?_,?_⟩))
  ·rw[ar b2];exact kp8 _ _ b1 (g7 _ _ (kp b o b1 b2 e))
  ·rw[ag,E8,hi,EV,EA]
   rfl
  ·have fin:(DT PL.length).map (bp PL z m (os.take (k+1)).reverse)=kW X (fun u=>(bg S m).take u.2.1.toNat) i w.2.2 z:=by
    rw[e1];have gw:PL.getD i w0=w:=by rw[bR hw]
    unfold kW;cases hu:w.2.2.find? (fun u=>decide (u.1=z)) with
    |none=>rw[kQ (by rw[gw];exact hu) (kP oo hi),hXe]
    |some u=>rw[mR (u:=u) (by rw[gw];exact hu),hXe,hSe]
   rw[fin];exact hp8.upd (fun z=>z.2.2 rfl) pah _
 ·intro σ H5 h_;refine iM h_ fun o5 o6 o7 o8 o9 o10 _hi=>?_
  refine cL _hi fun o11 o12 _hj=>?_
  refine cU _hj fun _r1 g5 kp _hk=>?_
  refine bK _hk fun ea5 hp5=>?_
  clear h_ _hi _hj _hk;subst _r1;rw[ro.1,EM] at hp5;exact ⟨_,rfl,q os p H5 oo g5 np (hp5.mono fun _ k=>⟨k.1,k.2.1⟩)⟩
theorem Cb {dV:Value} (F:bN K "_law_told" "_law_told" AM dV f fd) (DZ28:Dx P w K mg base bQ 1 "_law_whole" ["_law_found"] [] sT):bv P w K mg base bQ 2 f fd ["_law_found","_law_due"] qJ:=by
 have sc:aI ["_law_found","_law_due","_law_name","_law_k","_law_row"] ["_law_found","_law_due"] (aw AM):=fO (by decide+kernel)
 refine F.ok sc (fun vs H Q E h=>?_) (fun cdv A outer s H vs Q E hr h=>?_)
 ·obtain ⟨_,_,_,_,_,_,rfl,_⟩:=h
  rfl
 refine iM h fun fd_ dd D F_ as bs _hi=>?_
 refine iN _hi fun _r1 da db dnd d3 _hj=>?_
 refine dA _hj fun f24 fdd q=>?_
 clear h _hi _hj;subst _r1;refine ⟨_,(ae (a7 (PW.pt (fT (bU (cw (aB (gH (K:=K) rfl) rfl B.Ev boot_isinstance (aa (pv 0) (aa (fJ (v:= .ty "dict") rfl B.GG boot_dict rfl) af))))) (fK (aP lQ (aB gZ rfl B.Fn boot_len (aa (pv 0) af)) (aB gZ rfl B.Fn boot_len (aa (pv 1) af)) (aV _))))) (ao (aN dG)) aG) (ae (iY (aY PassesOwn.never rfl (iA (pv 1)) (dy 2 sc) (ae (a7 (PW.pt (fT (qR (iV (cx hr) (pv 2) (pv 0)) (by with_unfolding_all rfl)) (fT (bU (cw (aB (gH (K:=K) rfl) rfl B.Ev boot_isinstance (aa (cb (cx hr) (pv 0) (pv 2) (fun _ _=>rfl)) (aa (fJ (v:= .ty "list") rfl B.Fy boot_list rfl) af))))) (fK (aP lQ (aB aJ rfl B.Fn boot_len (aa (cb (cx hr) (pv 0) (pv 2) (fun _ _=>rfl)) af)) (aB aJ rfl B.Fn boot_len (aa (cb (cx hr) (pv 1) (pv 2) (fun _ _=>rfl)) af)) (aV _)))))) (ao (aN dG)) aG) (ao (aY PassesOwn.never rfl (cZ rfl B.Fr (aa (aB aJ rfl B.Fn boot_len (aa (cb (cx hr) (pv 1) (pv 2) (fun _ _=>rfl)) af)) af)) (dy 3 sc) (ae (dQ 4 sc (au aO (cb (cx hr) (pv 0) (pv 2) (fun _ _=>rfl)) (pv 3) (fun _ _=>rfl))) (ao (a7 (PW.pt (fT (bU (cw (aB (gH (K:=K) rfl) rfl B.Ev boot_isinstance (aa (pv 4) (aa (fJ (v:= .ty "list") rfl B.Fy boot_list rfl) af))))) (fK (aP (wS hr.units0) (gJ (own:= "_law_piece") (ys:= []) (js:= []) rfl (qN oY .nil (by decide) rfl rfl rfl rfl rfl rfl rfl rfl) (ba (pv 4)) (fun C fp s H=>(bU (cw (dE DZ28 hr (aa (pv 0) af))))) (fun C fp s H=>(pv 0))) (bM af) (aV _))))) (ao (aN dG)) aG)))))))) (ao (aN (jO (yV 2 (Nat.lt_trans (Nat.add_lt_add_left (by decide:2+1<64) _) hr.units)) (pv 0) (pv 1) (aV _)))))),?_⟩
 try dsimp only[cxK]
 have sl:sizeLine=16777216:=sizeLine_eq;refine ⟨_,rfl,aR _ _ _ true ⟨rfl,.dK da.e,rfl,_,rfl,dR ⟨_,rfl,aA fd_ _ ⟨rfl,da.e,_,rfl,aA dd _ ⟨rfl,db.e,rfl,_,rfl,Bp (by rw[dO da.len,dO db.len]) ?_⟩⟩⟩⟩⟩
 try dsimp only[aT,aZ]
 refine cut (fun σ H'=>∃(o2 o3 o4:Option V),σ= [G0 fd_,G0 dd,o2,o3,o4]/\az H H') (fun N hN=>?_) ?_
 ·refine ⟨_,rfl,aA dd _ ⟨rfl,db.e,fun o nfr=>?_⟩⟩
  have ef:av H dd (.frz o (.dK (cT D bs))) dd=some (.frz o (.dK (cT D bs))):=ag;have efd:av H dd (.frz o (.dK (cT D bs))) fd_=some (.dK (cT D as)):=by rw[ar fdd];exact da.e
  have sq:∀(a:Addr) (xs:List (List Int)),bJ lJ An H a xs->bJ lJ An (av H dd (.frz o (.dK (cT D bs)))) a xs:=fun a xs h=>h.sq (fP db.e)
  have thw:∀H',az (av H dd (.frz o (.dK (cT D bs)))) H'->az H (av H' dd (.dK (cT D bs))):=fun H' g=>eK db.e g
  generalize av H dd (.frz o (.dK (cT D bs)))=G at ef efd sq thw⊢;refine gb (kvs:=cT D bs) (fun i σ H'=>∃(o2 o3 o4:Option V),σ= [G0 fd_,G0 dd,o2,o3,o4]/\az G H') (cC _ _ _ ⟨rfl,.refl _⟩) (fun i σ H' _ ⟨_,_,_,_,g⟩=>g _ _ ef) ?_ ?_
  ·intro i k y σ H5 hk h_;refine hW h_ fun o2 o3 o4 _hi=>?_
   refine bK _hi fun _r1 g5=>?_
   clear h_ _hi;subst _r1;refine cL (uf hk) fun p b _hi=>?_
   refine cU _hi fun hp hb _r1 _r2=>?_
   clear _hi;subst _r1;subst _r2;have il:=(D4.mp hp).1;obtain ⟨a,ha⟩:∃a,as[i]?=some a:=⟨_,D0 (by rw[da.len];exact il)⟩
   have va:=fE dnd hp ha;have vb:=fE dnd hp hb;obtain ⟨us,ea,ru⟩:=(sq a _ (da.each i p a hp ha)).same g5;obtain ⟨ws,eb,rw_⟩:=(sq b _ (db.each i p b hp hb)).same g5;have dgA:gN H5 fd_ (.str p.1) (some (.ref a)):= .inl (aA _ (.inr p.1) ⟨.inl (g5 _ _ efd),rfl,va.symm⟩);have dgB:gN H5 dd (.str p.1) (some (.ref b)):= .inl (aA _ (.inr p.1) ⟨.inr ⟨o,g5 _ _ ef⟩,rfl,vb.symm⟩);obtain ⟨f1,f2⟩:=f24 p;have lu:us.length=(F_ p).length:=ru.1;have lw:ws.length=(F_ p).length:=rw_.1;refine ⟨_,rfl,_,rfl,aA fd_ _ ⟨rfl,dgA,_,rfl,?_⟩⟩;refine dR ⟨_,rfl,_,rfl,aA fd_ _ ⟨rfl,dgA,aR _ _ _ true ⟨rfl,.lst ea,rfl,_,rfl,dR ⟨_,rfl,_,rfl,aA fd_ _ ⟨rfl,dgA,aA a _ ⟨rfl,.inl (aK.of ea),_,rfl,_,rfl,aA dd _ ⟨rfl,dgB,aA b _ ⟨rfl,.inl (aK.of eb),rfl,_,rfl,Bp (by rw[lu,lw]) ?_⟩⟩⟩⟩⟩⟩⟩⟩
   try dsimp only[aT,aZ]
   refine ⟨_,rfl,_,rfl,aA dd _ ⟨rfl,dgB,aA b _ ⟨rfl,.inl (aK.of eb),_,rfl,by lia,by lia,dj (fun j σ H'=>∃(o3 o4:Option V),σ= [G0 fd_,G0 dd,some (.str p.1),o3,o4]/\az H5 H') (aA _ _ ⟨rfl,.refl _⟩) ?_ ?_⟩⟩⟩
   ·rintro j σ H6 hj ⟨p3,p4,rfl,g6⟩;rw[E9,lw] at hj;obtain ⟨x,hx⟩:∃x,(F_ p)[j]?=some x:=⟨_,D0 hj⟩;refine cG (ru.get hx) fun v _hi=>?_
    refine bK _hi fun hv _hj=>?_
    refine cG _hj fun r _hk=>?_
    refine dA _hk fun _r1 _ _hl=>?_
    refine cG _hl fun zs _hm=>?_
    refine bK _hm fun er rz=>?_
    clear _hi _hj _hk _hl _hm;subst _r1;have ez:=rz.val;subst ez;have er6:=g6 _ _ er;have lx:=f2 x (D6 hx);have at1:iU us (0+(j:Int))=some (.ref r):=gM hv;refine ⟨_,rfl,_,rfl,aA fd_ _ ⟨rfl,(show gN H6 fd_ (.str p.1) (some (.ref a)) from .inl (aA _ (.inr p.1) ⟨.inl (g6 _ _ (g5 _ _ efd)),rfl,va.symm⟩)),_,rfl,aR a _ _ _ ⟨rfl,rfl,aK.of (g6 _ _ ea),at1,?_⟩⟩⟩
    try dsimp only[aT,aZ]
    refine ⟨_,rfl,aR _ _ _ true ⟨rfl,.lst er6,rfl,_,rfl,dR ⟨_,rfl,r,rfl,⟨_,aK.of er6⟩,mw (og V.int) (fun _=>False) (fun _=>false) (fun _=>0) (aK.of er6) (by rw[D3];lia) (fun a h=>h.elim) (fun n y hy H7 g7 S' hS'=>?_) (fun n y hy hpr=>by cases hpr) fun lc H7 nlc g7 hlc=>?_⟩⟩⟩
    ·rw[D9] at hy;obtain ⟨x0,hx0,rfl⟩:=DV.mp hy;exact ⟨_,rfl,x0,rfl,_,rfl,hS' _ (.refl _)⟩
    rw[hU fun _ _=>rfl] at hlc
    obtain ⟨cs,ec,rc⟩:=hlc;have cn:cs= []:=Eb rc.1;subst cn;refine ⟨by show 0<=sizeLine;decide,fun l9 nl9=>(cC lc l9 _ ⟨rfl,rfl,aK.of (ai nl9 _ _ _ ec),aK.of ag,_,rfl,dR (aA _ _ ⟨rfl,(g6.trans g7).trans (ai nl9 _)⟩)⟩)⟩
   ·rintro σ H6 ⟨p3,p4,rfl,g6⟩;exact (cC _ _ _ ⟨rfl,g5.trans g6⟩)
  ·intro σ H5 h_;refine hW h_ fun o2 o3 o4 _hi=>?_
   refine bK _hi fun _r1 g5=>?_
   clear h_ _hi;subst _r1;exact (cC dd o _ ⟨g5 _ _ ef,nfr,hN _ _ (cC _ _ _ ⟨rfl,thw H5 g5⟩)⟩)
 intro σ H1 h_;refine hW h_ fun o2 o3 o4 _hi=>?_
 refine bK _hi fun _r1 g1=>?_
 clear h_ _hi;subst _r1;have da1:=da.same g1;have db1:=db.same g1;refine ⟨_,rfl,_,rfl,aR fd_ dd _ _ ⟨rfl,rfl,da1.e,db1.e,by rw[dO da.len,dO db.len],fun i k v hk=>?_,q H1 g1⟩⟩
 refine cL (uf hk) fun p a _hi=>?_
 refine cU _hi fun hp ha _r1 _r2=>?_
 clear _hi;subst _r1;subst _r2;have il:=(D4.mp hp).1;obtain ⟨b,hb⟩:∃b,bs[i]?=some b:=⟨_,D0 (by rw[db.len];exact il)⟩
 exact ⟨_,fE dnd hp hb,xK ((da1.each i p a hp ha).v trivial) ((db1.each i p b hp hb).v trivial)⟩
theorem Cc {dV:Value} (F:bN K "_law_refused" "_law_refused" AN dV f fd) (XZ26:Dx P w K mg base (nL P w) 7 "roster" ["net","plan"] [] (jn mt on)):bv P w K mg base bQ 8 f fd ["_law_net","_law_plan"] (jG mt):=by
 have sc:aI ["_law_net","_law_plan","e"] ["_law_net","_law_plan"] (aw AN):=fO (by decide+kernel)
 refine F.ok sc (fun vs H Q E h=>?_) (fun cdv A outer s H vs Q E hr h=>?_)
 ·obtain ⟨_,_,_,_,_,rfl,_⟩:=h
  rfl
 refine oA h fun x t D T _hi=>?_
 refine cG _hi fun R _hj=>?_
 refine cU _hj fun _r1 PG un k=>?_
 clear h _hi _hj;subst _r1;refine ⟨_,(ae (zM rfl rfl (fun pins E=>(ao (bt (zU XZ26 hr (by decide) rfl zg (aa (pv 0) (aa (pv 1) af)))))) (zS B.Gr rfl B.Gs sc.nd (i:=2) rfl rfl (fun pins a=>(ae (a7 (PW.pt (fT (cw (aB (fk (K:=K) rfl) rfl B.Ev boot_isinstance (aa (pv 2) (aa (gz (v:=V.ref Fw) rfl B.GH rfl) af)))) (fT (cw (aB (fk (K:=K) rfl) rfl B.Ev boot_isinstance (aa (pv 2) (aa (gz (v:=V.ref Fu) rfl B.GF rfl) af)))) (fK (cw (aB (fk (K:=K) rfl) rfl B.Ev boot_isinstance (aa (pv 2) (aa (gz (v:=V.ref Fp) rfl B.Gz rfl) af)))))))) (ao (aN dG)) aG) (ao (aN (qT (aB (fk (K:=K) rfl) rfl B.Ev boot_isinstance (aa (pv 2) (aa (gz (v:=V.ref on) rfl B.Gy rfl) af))) (qS (aB (fk (K:=K) rfl) rfl B.Ev boot_isinstance (aa (pv 2) (aa (fJ (v:= .ty "ValueError") rfl B.Gx PyProof.Rows.Boot.«ValueError» rfl) af))))))))) zN)) (ao (aN dG))),?_⟩
 try dsimp only[cxK]
 refine ⟨_,rfl,_,rfl,aA x t ⟨rfl,.inr (cC D T R ⟨PG,un,fun H1 g1 a ha=>(aA on true ⟨rfl,B.Gd,gS ?_⟩)⟩)⟩⟩
 refine ⟨_,rfl,aR a on none _ ⟨false,⟨rfl,⟨_,ag⟩,True.intro,B.Gb,.own B.Gk,false,rfl,dR ⟨_,rfl,aR a on none _ ⟨false,⟨rfl,⟨_,ag⟩,True.intro,B.Gb,.own B.Gi,false,rfl,dR ⟨_,rfl,aR a on none _ ⟨false,⟨rfl,⟨_,ag⟩,True.intro,B.Gb,.own B.Gf,false,rfl,dR ?_⟩⟩⟩⟩⟩⟩⟩⟩⟩;refine ⟨_,rfl,aR a on none _ ⟨true,⟨rfl,⟨_,ag⟩,True.intro,B.Gb,.own B.Gj,true,rfl,gS ⟨_,rfl,aR a on none _ ⟨true,⟨rfl,⟨_,ag⟩,True.intro,B.Gb,.ty B.Ge,?_⟩⟩⟩⟩⟩⟩;exact k _ (g1.trans (ai ha _))
theorem Cd {dV:Value} (F:bN K "law" "law" oz dV f fd) (DZ8:CQ P w K mg base bQ 3 Gq ["self","tools","tasks","arcs","apart","moments"] [.non,.int 0] (sh mt)) (DZ26:Dx P w K mg base bQ 7 "roster" ["net","plan"] [] (kS mt)) (DZ27:Dx P w K mg base bQ 1 "_law_cell_at" ["_law_script","_law_k"] [] (re K)) (DZ29:Dx P w K mg base bQ 1 "_law_drawn" ["_law_cell","_law_many"] [] ki) (DZ30:Dx P w K mg base bQ 1 "_law_tools" ["_law_xs"] [] qt) (DZ33:Dx P w K mg base bQ 2 "_law_placed" ["_law_script","_law_tools_here","_law_many"] [] (kT K)) (DZ34:Dx P w K mg base bQ 1 "_law_behind_one_another" ["_law_placed_here"] [] kU) (DZ35:Dx P w K mg base bQ 1 "_law_dealt" ["_law_placed_here","_law_name","_law_number"] [] mW) (DZ36:Dx P w K mg base bQ 2 "_law_told" ["_law_found","_law_due"] [] qJ) (DZ37:Dx P w K mg base bQ 8 "_law_refused" ["_law_net","_law_plan"] [] (jG mt)):bv P w K mg base bQ 9 f fd ["_law_script"] (sU K):=by
 have sc:aI ["_law_script","_law_tools_here","_law_many","_law_placed_here","_law_times","_law_ahead","_law_later","_law_runs","_law_net","_law_due","_law_other","_law_name","_law_plan","_law_found","_law_row","_law_rest","_law_at","_law_far"] ["_law_script"] (aw oz):=fO (by decide+kernel)
 refine F.ok sc (fun vs H Q E h=>?_) (fun cdv A outer s H vs Q E hr h=>?_)
 ·obtain ⟨_,_,rfl,_⟩:=h
  rfl
 refine cL h fun a ns _hi=>?_
 refine cU _hi fun _r1 hS h63 q=>?_
 clear h _hi;subst _r1;refine ⟨_,(ae (dQ 1 sc (dE DZ30 hr (aa (dE DZ29 hr (aa (dE DZ27 hr (aa (pv 0) (aa aj af))) (aa aj af))) af))) (ae (dQ 2 sc (aH bO (dE DZ27 hr (aa (pv 0) (aa aj af))) aj)) (ae (a7 (aP j0 (aH bO (aH dJ (dE DZ27 hr (aa (pv 0) (aa aj af))) aj) aj) aj (aV _)) (ao (dQ 2 sc aj)) aG) (ae (dQ 3 sc (dE DZ33 hr (aa (pv 0) (aa (pv 1) (aa (pv 2) af))))) (ae (iP (i:=4) sc.nd rfl (Or.inr rfl) (aH bz aj (aH bO (dE DZ27 hr (aa (pv 0) (aa aj af))) (aH sS aj aj)))) (ae (iP (i:=5) sc.nd rfl (Or.inr rfl) (aH bO (dE DZ27 hr (aa (pv 0) (aa aj af))) (aH sS aj aj))) (ae (dQ 6 sc (dE DZ34 hr (aa (pv 3) af))) (ae (iG (own:= "_law_one") (ys:= ["_law_ahead","_law_times"]) (js:= [5,4]) sc.nd (i:=7) rfl rfl rfl (qN (qM (qM oY)) (.cons rfl (.cons rfl .nil)) (by decide) rfl rfl rfl rfl rfl rfl rfl rfl) (ba (pv 3)) (fun C fp s H=>(cf (aa (aH bz (pv 1) (aH cV (pv 2) (au (cN (K:=K) rfl) (pv 0) aj (fun _ _=>rfl)))) (aa (aH bz (pv 1) (aH cV (pv 2) (au (cN (K:=K) rfl) (pv 0) aj (fun _ _=>rfl)))) (aa aj af)))))) (ae (dQ 8 sc (yo B.GK DZ8 hr (by decide) rfl B.GM (aa (pv 1) (aa (iw (own:= "_law_one") (ys:= ["_law_times"]) (js:= [4]) rfl (qN (qM oY) (.cons rfl .nil) (by decide) rfl rfl rfl rfl rfl rfl rfl rfl) (ba (pv 3)) (fun C fp s H=>(bM (aa (cf (aa aj (aa (aH cV aj (pv 1)) (aa (au (cN (K:=K) rfl) (pv 0) aj (fun _ _=>rfl)) af)))) af)))) (aa (bM af) af))))) (ae (dQ 9 sc fj) (ae (dQ 10 sc fj) (ae (iY (aY PassesOwn.never rfl (iA (pv 1)) (dy 11 sc) (ae (gG (cx hr) (pv 9) (pv 11) (dE DZ35 hr (aa (pv 3) (aa (pv 11) (aa (cb (cx hr) (pv 1) (pv 11) (fun _ _=>rfl)) af)))) rfl) (ao (gG (cx hr) (pv 10) (pv 11) (dE DZ35 hr (aa (pv 6) (aa (pv 11) (aa (cb (cx hr) (pv 1) (pv 11) (fun _ _=>rfl)) af)))) rfl))))) (ae (dQ 12 sc (cf (aa (dk c6 rfl B.Fy boot_list (aa (pv 7) af)) (aa (bM af) af)))) (ae (dQ 13 sc (dE DZ26 hr (aa (pv 8) (aa (pv 12) af)))) (ae (a7 (PW.pt (fT (bU (cw (dE DZ36 hr (aa (pv 13) (aa (pv 9) af))))) (fK (aP (yF 2 (Nat.lt_trans (Nat.add_lt_add_left (by decide:2+1<64) _) hr.units)) (pv 12) (cf (aa (pv 7) (aa (bM af) af))) (aV _))))) (ao (aN dG)) aG) (ae (iY (aY PassesOwn.never rfl (iA (pv 1)) (dy 11 sc) (ae (aY PassesOwn.never rfl (ba (cb (cx hr) (pv 13) (pv 11) (fun _ _=>rfl))) (dy 14 sc) (ao (bt (dH E4 EQ EO bo (pv 14) (aa aj af))))) (ao (bt (dH E4 EQ EO bo (cb (cx hr) (pv 13) (pv 11) (fun _ _=>rfl)) (aa (bM af) af))))))) (ae (iG (own:= "_law_one") (ys:= ["_law_ahead","_law_times"]) (js:= [5,4]) sc.nd (i:=15) rfl rfl rfl (qN (qM (qM oY)) (.cons rfl (.cons rfl .nil)) (by decide) rfl rfl rfl rfl rfl rfl rfl rfl) (ba (pv 6)) (fun C fp s H=>(cf (aa (aH bz (pv 1) (aH cV (pv 2) (au (cN (K:=K) rfl) (pv 0) aj (fun _ _=>rfl)))) (aa (aH bz (pv 1) (aH cV (pv 2) (au (cN (K:=K) rfl) (pv 0) aj (fun _ _=>rfl)))) (aa aj af)))))) (ae (a7 (PW.pt (fT (bU (cw (dE DZ36 hr (aa (dE DZ26 hr (aa (pv 8) (aa (cf (aa (pv 15) (aa (bM af) af))) af))) (aa (pv 10) af))))) (fK (bU (cw (dE DZ36 hr (aa (dE DZ26 hr (aa (pv 8) (aa (pv 12) af))) (aa (pv 9) af)))))))) (ao (aN dG)) aG) (ae (a7 (aP (pN hr.units0) (pv 7) (bM af) (aV _)) (ao (aN dG)) aG) (ae (dQ 16 sc (aH bO (dE DZ27 hr (aa (pv 0) (aa aj af))) (aB aJ rfl B.Fn boot_len (aa (pv 7) af)))) (ae (dQ 17 sc (aH wc (aH wc (fi jP (pv 7) gC (gD (pv 16))) (bM (aa (cf (aa (au aD (au aO (pv 7) (pv 16) (fun _ _=>rfl)) aj (fun _ _=>rfl)) (aa (aH bz (aH bz (au aD (au aO (pv 7) (pv 16) (fun _ _=>rfl)) aj (fun _ _=>rfl)) (aH cV aj (pv 4))) aj) (aa aj af)))) af))) (fi jP (pv 7) (gD (aH bz (pv 16) aj)) gC))) (ao (aN (dE DZ37 hr (aa (pv 8) (aa (cf (aa (pv 17) (aa (bM af) af))) af)))))))))))))))))))))))))),?_⟩
 try dsimp only[cxK]
 have sl:sizeLine=16777216:=sizeLine_eq;refine ⟨_,rfl,cC a ns 0 ⟨rfl,hS,by decide,fun c0=>(aA _ 4 ⟨rfl,by decide,by decide,fun l0 xs0 H1 nl0 g1 ln0 dn0 el0=>(aA l0 xs0 ⟨rfl,el0,ln0,dn0,fun td D H2 g2 ntd ed tok=>?_⟩)⟩)⟩⟩
 have g12:=g1.trans g2;have hS2:=g12.seq hS;clear g1 g2 el0 nl0 ln0 dn0 ntd g12 hS;try dsimp only[aT,aZ]
 refine ⟨_,rfl,cC a ns 1 ⟨rfl,hS2,by decide,fun cc1=>(aA _ _ ⟨rfl,rfl,(by show (9:Int)≠0;decide),?_⟩)⟩⟩
 have t9:=fm (a:=cc1) (n:=9) (by decide)
 try dsimp only[aT,aZ]
 refine cut (fun σ H'=>∃n:Int,σ= [G0 a,G0 td,some (.int n),none,none,none,none,none,none,none,none,none,none,none,none,none,none,none]/\H2=H'/\0<=n/\n<=24) (fun N hN=>?_) ?_
 ·refine ⟨_,rfl,cC a ns 1 ⟨rfl,hS2,by decide,fun cc1=>(aA _ _ ⟨rfl,rfl,⟨by decide,Er (by decide)⟩,aA _ _ ⟨rfl,rfl,(by show (8:Int)≠0;decide),rfl,_,rfl,d2 (fun _=>?_) (fun _=>?_)⟩⟩)⟩⟩
  ·exact hN _ _ ⟨24,rfl,rfl,by decide,by decide⟩
  ·exact hN _ _ ⟨_,rfl,rfl,t9.1,by lia⟩
 intro σ H2' h_;refine cG h_ fun n _hi=>?_
 refine cU _hi fun _r1 _r2 n0 n24=>?_
 clear h_ _hi;subst _r1;subst _r2;refine ⟨_,rfl,_,rfl,_,rfl,aR a td n ns ⟨D,⟨rfl,hS2,n0,n24,ed,tok,fun pl PL H3 g3 npl hpl lpl okp cap=>?_⟩⟩⟩
 have l24:PL.length<=24:=by lia
 have hS3:=g3.seq hS2;have ed3:=g3 _ _ ed;have hpl3:=hpl.any;clear hpl npl g3 hS2 ed t9;try dsimp only[aT,aZ]
 refine cut (fun σ H'=>∃c:Int,σ= [G0 a,G0 td,some (.int n),G0 pl,some (.int c),none,none,none,none,none,none,none,none,none,none,none,none,none]/\H3=H'/\1<=c/\c<=100000000) (fun N hN=>?_) ?_
 ·refine ⟨_,rfl,cC a ns 2 ⟨rfl,hS3,by decide,fun cc2=>(aA _ _ ⟨rfl,rfl,⟨by decide,by decide⟩,aA _ _ ⟨rfl,rfl,(by show (10:Int)^(8:Int).toNat≠0;decide),aA _ _ ⟨rfl,rfl,hN _ _ ⟨_,rfl,rfl,?_,?_⟩⟩⟩⟩)⟩⟩
  ·have:=(fm (a:=cc2) (n:=(10:Int)^(8:Int).toNat) (by decide)).1
   lia
  ·have:=(fm (a:=cc2) (n:=(10:Int)^(8:Int).toNat) (by decide)).2
   have e:(10:Int)^(8:Int).toNat=100000000:=by decide
   lia
 intro σ H3' h_;refine cG h_ fun c _hi=>?_
 refine cU _hi fun _r1 _r2 c1 c8=>?_
 clear h_ _hi;subst _r1;subst _r2;refine cut (fun σ H'=>∃A0_:Int,σ= [G0 a,G0 td,some (.int n),G0 pl,some (.int c),some (.int A0_),none,none,none,none,none,none,none,none,none,none,none,none]/\H3=H'/\0<=A0_) (fun N hN=>?_) ?_
 ·exact ⟨_,rfl,cC a ns 3 ⟨rfl,hS3,by decide,fun cc3=>(aA _ _ ⟨rfl,rfl,⟨by decide,by decide⟩,aA _ _ ⟨rfl,rfl,(by show (10:Int)^(59:Int).toNat≠0;decide),hN _ _ ⟨_,rfl,rfl,Int.fmod_nonneg_of_pos _ (by decide)⟩⟩⟩)⟩⟩
 rintro σ H3' ⟨A0_,rfl,rfl,A00⟩;refine ⟨_,rfl,aA pl PL ⟨rfl,hpl3,l24,fun lt H4 g4 nlt hlt=>?_⟩⟩
 have bT:Bd 27 c:=by unfold Bd;show _<134217728;lia
 have hpl4:=hpl3.same g4;have ed4:=g4 _ _ ed3;have hS4:=g4.seq hS3;clear hpl3 ed3 hS3 g4 nlt;obtain ⟨vp,ep,rp_⟩:=id hpl4;have lvp:vp.length=PL.length:=rp_.1;try dsimp only[aT,aZ]
 refine ⟨_,rfl,pl,rfl,⟨_,aK.of ep⟩,eI Ak (fun _=>False) (fun i=>(dP A0_ c PL).getD i (0,0,0)) (aK.of ep) (by lia) (fun a h=>h.elim) (fun i y hy H5 g5 Q' hQ=>?_) fun lr H5 nlr g5 hr_=>?_⟩
 ·refine cG (rp_.at_ hy) fun w _hi=>?_
  refine bK _hi fun hw _hj=>?_
  refine cL _hj fun tt u _hk=>?_
  refine cU _hk fun _r1 _ _ _hl=>?_
  refine bK _hl fun ett _=>?_
  clear _hi _hj _hk _hl;subst _r1;have et:=g5 _ _ ett;obtain ⟨b0,b1,b2,b3,_,_⟩:=okp w (D6 hw);have bx:Bd 8 w.1:=by unfold Bd;show _<256;lia
  have by_:Bd 8 w.2.1:=by unfold Bd;show _<256;lia
  have rn:(dP A0_ c PL).getD i (0,0,0)=(A0_+c*w.1,A0_+c*w.2.1,0):=jE hw;exact ⟨_,rfl,_,rfl,_,rfl,aR tt _ _ _ ⟨rfl,rfl,bH.of et,rfl,aA _ _ ⟨rfl,rfl,bT.ok bx,aA _ _ ⟨rfl,rfl,_,rfl,_,rfl,_,rfl,aR tt _ _ _ ⟨rfl,rfl,bH.of et,rfl,aA _ _ ⟨rfl,rfl,bT.ok by_,_,_,rfl,rfl,by show 3<=sizeLine;decide,fun nt nn=>hQ _ _ (ai nn _) ⟨nt,rfl,.inl nn,by rw[ag,rn];rfl⟩⟩⟩⟩⟩⟩⟩
 have lrn:(DT vp.length).map (fun i=>(dP A0_ c PL).getD i (0,0,0))=dP A0_ c PL:=by rw[lvp];exact range_getD (D3 _)
 rw[lrn] at hr_;have hr5:=qK hr_;have hpl5:=hpl4.same g5;have hlt5:=hlt.same g5;have ed5:=g5 _ _ ed4;have hS5:=g5.seq hS4;clear hr_ hpl4 hlt ed4 hS4 g5 nlr ep rp_ lrn lvp;try dsimp only[aT,aZ]
 obtain ⟨vp,ep,rp_⟩:=id hpl5;have lvp:vp.length=PL.length:=rp_.1;refine ⟨_,rfl,_,rfl,pl,rfl,⟨_,aK.of ep⟩,eI jA (fun a=>H5 a≠none) (fun i=>(dW c PL).getD i []) (aK.of ep) (by lia) (fun a h=>h) (fun i y hy H6 g6 Q' hQ=>?_) fun tl H6 ntl g6 ht_=>?_⟩
 ·obtain ⟨w,hw,kw⟩:=rp_.at_ hy;refine cL (Af kw) fun tt u _hi=>?_
  refine cU _hi fun _r1 _ uo _hj=>?_
  refine bK _hj fun ett hu=>?_
  clear _hi _hj;subst _r1;have et:=g6 _ _ ett;have tk:(dW c PL).getD i []= [(1,5*c,w.2.2)]:=by unfold dW;rw[DN,D9,hw];rfl
  have b5:Bd 3 5:=by unfold Bd;decide
  refine ⟨_,rfl,aA _ _ ⟨rfl,rfl,b5.ok bT,_,rfl,aR tt _ _ _ ⟨rfl,rfl,bH.of et,rfl,by show 3<=sizeLine;decide,fun nt nn=>⟨by show 1<=sizeLine;decide,fun nl nnl=>?_⟩⟩⟩⟩
  have gt:=ai nn (.tup [.int 1,.int (5*c),.ref u]);have gl:=ai nnl (.lst [.ref nt]);refine hQ _ _ (gt.trans gl) ?_;rw[tk];exact ⟨nl,rfl,.inl (gt.free nnl),_,ag,A2.one (aA nt u ⟨rfl,.inl nn,.inr uo.2,gl _ _ ag,(((hu.mono fun a h=>Or.inr h.2).same g6).same gt).same gl⟩)⟩
 have ltk:(DT vp.length).map (fun i=>(dW c PL).getD i [])=dW c PL:=by rw[lvp];exact range_getD (D3 _)
 rw[ltk] at ht_;refine ⟨by show 0<=sizeLine;decide,fun al nal=>?_⟩
 have ga:=g6.trans (ai nal (.lst []));have ht6:=(ht_.any).same (ai nal (.lst []));have hal:cy (av H6 al (.lst [])) al []:=⟨[],ag,cX.nil⟩;generalize av H6 al (.lst [])=H7 at ga ht6 hal⊢;refine fun x dx nx ndx dxx=>?_
 have sm:=kj (C:=mt) nx ndx (H':=av (av H7 dx (.own x)) x (.ins mt dx [])) (fun a o _ e=>e)
 have nok:oh D (dW c PL) [] [] 0:=xv (by have:=tok.1;lia) tok.2.1 tok.2.2 l24 okp c1 c8
 refine (AU x dx td tl al .non 0 D (dW c PL) (aA [] [] ⟨rfl,ag,sm _ _ (ga _ _ ed5),ht6.same sm,hal.same sm,.inl ⟨rfl,rfl⟩,nok,fun HN fx N=>⟨rfl,?_⟩⟩))
 have h9:=ga.trans (kj nx ndx fx);have edN:=h9 _ _ ed5;have hplN:=hpl5.same h9;have hltN:=hlt5.same h9;have hrN:=hr5.same h9;have hSN:=h9.seq hS5;clear h9 ed5 hpl5 hlt5 hr5 hS5 ga sm fx ht6 hal ht_ ntl g6 nal nx ndx dxx ltk ep rp_ lvp;obtain ⟨os,oo⟩:=xL PL;obtain ⟨os2,oo2⟩:=xL (cF PL);have okq:∀p∈cF PL,gu D p:=fun p hp=>(tZ l24 okp p hp).1
 have capq:=(qu (fun p hp=>(tok.2.2 p hp).2.1) l24 okp).1
 have lb:(cF PL).length<=24:=by rw[kN];exact l24
 have dt:∀p∈D,1<=p.2/\p.2<=8:=fun p hp=>(tok.2.2 p hp).2
 have dnd:=tok.2.1;have d3:=tok.1;try dsimp only[aT,aZ]
 refine fun du ndu=>?_
 try dsimp only[aT,aZ]
 refine fun ot nto=>?_
 have nto':=(ai ndu (.dK [])).free nto;have duo:du≠ot:=fun z=>by rw[<-z,ag] at nto;cases nto
 have dut:du≠td:=fun z=>by rw[z,edN] at ndu;cases ndu
 have ott:ot≠td:=fun z=>by rw[z,edN] at nto';cases nto'
 have edX:=ai nto (.dK []) _ _ (ai ndu (.dK []) _ _ edN);try dsimp only[aT,aZ]
 refine cut (fun σ H'=>∃(o11:Option V) (as bs:GW),σ= [G0 a,G0 td,some (.int n),G0 pl,some (.int c),some (.int A0_),G0 lt,G0 lr,G0 x,G0 du,G0 ot,o11,none,none,none,none,none,none]/\az HN H'/\dS HN H' du D (fun p=>cK PL p.1 p.2 os) as/\dS HN H' ot D (fun p=>cK (cF PL) p.1 p.2 os2) bs) (fun N_ hN=>?_) ?_
 ·refine ⟨_,rfl,aA td _ ⟨rfl,edX,fun o nfr=>?_⟩⟩
  have ef:av HN td (.frz o (.dK (aC D))) td=some (.frz o (.dK (aC D))):=ag;have gf:∀b,av HN td (.frz o (.dK (aC D))) b=none->HN b=none:=fun b hb=>by
   by_cases z:b=td
   ·rw[z,ag] at hb;cases hb
   ·rw[ar z] at hb;exact hb
  have sG:az (av HN td (.frz o (.dK (aC D)))) (av (av (av HN du (.dK [])) ot (.dK [])) td (.frz o (.dK (aC D)))):=iE ((ai ndu _).trans (ai nto _)) _ _;have eD:(av (av (av HN du (.dK [])) ot (.dK [])) td (.frz o (.dK (aC D)))) du=some (.dK []):=by rw[ar dut,ar duo];exact ag
  have eO:(av (av (av HN du (.dK [])) ot (.dK [])) td (.frz o (.dK (aC D)))) ot=some (.dK []):=by rw[ar ott];exact ag
  have nD:av HN td (.frz o (.dK (aC D))) du=none:=by rw[ar dut];exact ndu
  have nO:av HN td (.frz o (.dK (aC D))) ot=none:=by rw[ar ott];exact nto'
  have hpG:bJ eW An (av HN td (.frz o (.dK (aC D)))) pl PL:=hplN.sq (fP edN);have hlG:bJ eW An (av HN td (.frz o (.dK (aC D)))) lt (cF PL):=hltN.sq (fP edN);have thw:∀H',az (av HN td (.frz o (.dK (aC D)))) H'->az HN (av H' td (.dK (aC D))):=fun H' g=>eK edN g
  generalize av HN td (.frz o (.dK (aC D)))=G at ef gf sG nD nO hpG hlG thw⊢;refine gb (kvs:=aC D) (fun i σ H'=>∃(o11:Option V) (as bs:GW),σ= [G0 a,G0 td,some (.int n),G0 pl,some (.int c),some (.int A0_),G0 lt,G0 lr,G0 x,G0 du,G0 ot,o11,none,none,none,none,none,none]/\az G H'/\dS G H' du (D.take i) (fun p=>cK PL p.1 p.2 os) as/\dS G H' ot (D.take i) (fun p=>cK (cF PL) p.1 p.2 os2) bs) (cC none [] [] ⟨rfl,sG,⟨rfl,eD,FR,nofun,fun i p a h1 h2=>by cases h2⟩,⟨rfl,eO,FR,nofun,fun i p a h1 h2=>by cases h2⟩⟩) (fun i σ H' _ ⟨_,_,_,_,g,_⟩=>g _ _ ef) ?_ ?_
  ·intro i k y σ H5 hk h_;refine hW h_ fun o11 as bs _hi=>?_
   refine cU _hi fun _r1 g5 ra rb=>?_
   clear h_ _hi;subst _r1;obtain ⟨p,hp,rfl,rfl⟩:=gm hk;have pm:=D6 hp;obtain ⟨p1,p8⟩:=dt p pm;have nin:=iL dnd hp;have mo:=fA dnd (show (p.1,p.2)∈D from pm)
   have dgT:=jg (.inr ⟨o,g5 _ _ ef⟩) mo;refine ⟨_,rfl,_,rfl,_,rfl,_,rfl,aA td _ ⟨rfl,dgT,aR pl p.1 p.2 PL ⟨rfl,hpG.same g5,l24,kZ okp dt,by lia,p8,fun os' l1 H6 oo' g6 nl1 hl1=>?_⟩⟩⟩
   cases oo'.uniq oo;refine ⟨_,rfl,_,rfl,aA du _ ⟨rfl,lm.k (k:= .inr p.1) (g6 _ _ ra.e) (by rw[dO ra.len,DK];lia),?_⟩⟩
   have ra7:=ra.put nD g6 nl1 g5 hl1 nin;have rb7:=(rb.same g6).updD (g6 _ _ ra.e) (Ne.symm duo) (.dK (putK (cT (D.take i) as) (.inr p.1) (.ref l1)));have g7:=dZ (o:= .dK (putK (cT (D.take i) as) (.inr p.1) (.ref l1))) (g5.trans g6) nD;generalize av H6 du (.dK (putK (cT (D.take i) as) (.inr p.1) (.ref l1)))=H7 at ra7 rb7 g7⊢;try dsimp only[aT,aZ]
   have dgT7:=jg (.inr ⟨o,g7 _ _ ef⟩) mo;refine ⟨_,rfl,_,rfl,_,rfl,_,rfl,aA td _ ⟨rfl,dgT7,aR lt p.1 p.2 (cF PL) ⟨rfl,hlG.same g7,lb,kZ okq dt,by lia,p8,fun os' l2 H8 oo' g8 nl2 hl2=>?_⟩⟩⟩
   cases oo'.uniq oo2;refine ⟨_,rfl,_,rfl,aA ot _ ⟨rfl,lm.k (k:= .inr p.1) (g8 _ _ rb7.e) (by rw[dO rb7.len,DK];lia),?_⟩⟩
   have rb9:=rb7.put nO g8 nl2 g7 hl2 nin;have ra9:=(ra7.same g8).updD (g8 _ _ rb7.e) duo (.dK (putK (cT (D.take i) bs) (.inr p.1) (.ref l2)));refine (cC _ (as++ [l1]) (bs++ [l2]) ⟨rfl,dZ (g7.trans g8) nO _,?_,?_⟩)
   ·rw[E8,hp,EV];exact ra9
   ·rw[E8,hp,EV];exact rb9
  ·intro σ H5 h_;refine hW h_ fun o11 as bs _hi=>?_
   refine cU _hi fun _r1 g5 ra rb=>?_
   clear h_ _hi;subst _r1;rw[fv,EM] at ra rb;have tdn:HN td≠none:=by rw[edN];exact nofun
   exact (cC td o _ ⟨g5 _ _ ef,nfr,hN _ _ (cC _ as bs ⟨rfl,thw H5 g5,(ra.h0 gf).upd tdn dut _,(rb.h0 gf).upd tdn ott _⟩)⟩)
 intro σ H1 h_;refine hW h_ fun o11 as bs _hi=>?_
 refine cU _hi fun _r1 g1 ra rb=>?_
 clear h_ _hi;subst _r1;have ed1:=g1 _ _ edN;have hlt1:=hltN.same g1;have hr1:=hrN.same g1;have hS1:=g1.seq hSN;have N1:=N.same g1;have da1:=ra.dic;have db1:=rb.dic;clear edN hplN hltN hrN hSN N g1 ra rb edX nto ndu nto';try dsimp only[aT,aZ]
 obtain ⟨rbs,elr,rR⟩:=id hr1;refine ⟨_,rfl,aA lr _ ⟨rfl,.inl (aK.of elr),fun l2 n2=>⟨by show 0<=sizeLine;decide,fun l3 n3=>⟨by show 2<=sizeLine;decide,fun pt npt=>?_⟩⟩⟩⟩
 have s2:=ai n2 (.lst (rbs.map V.ref));have s3:=ai n3 (.lst []);have s4:=ai npt (.tup [.ref l2,.ref l3]);have g2:=(s2.trans s3).trans s4;have ept:av (av (av H1 l2 (.lst (rbs.map V.ref))) l3 (.lst [])) pt (.tup [.ref l2,.ref l3]) pt=some (.tup [.ref l2,.ref l3]):=ag;have el2:=(s3.trans s4) l2 _ ag;have el3:=s4 l3 _ ag;generalize av (av (av H1 l2 (.lst (rbs.map V.ref))) l3 (.lst [])) pt (.tup [.ref l2,.ref l3])=H2 at g2 ept el2 el3⊢;clear s2 s3 s4 n2 n3 npt;have hr2:=hr1.same g2;have elr2:=g2 _ _ elr;have rR2:cX (fun t k=>H2 t=some (.tup (k.map V.int))) rbs ((dP A0_ c PL).map rk):=rR.imp fun _ _ k=>g2 _ _ k
 have pA:fU H2 pt (dP A0_ c PL) []:=(aA l2 l3 ⟨ept,⟨rbs,el2,rR2⟩,el3⟩);have ed2:=g2 _ _ ed1;have hlt2:=hlt1.same g2;have hS2:=g2.seq hS1;have N2:=N1.same g2;have da2:=da1.same g2;have db2:=db1.same g2;clear hr1 elr rR ed1 hlt1 hS1 N1 da1 db1 g2;have lrn:(dP A0_ c PL).length=PL.length:=D3 _;have PG2:eP mt false H2 x pt D (dW c PL) [] [] (dP A0_ c PL) []:=⟨N2,pA,nok,jo lrn jV⟩;have f1:∀p:Str×Int,(cK PL p.1 p.2 os).length<=24/\∀x∈cK PL p.1 p.2 os,x.length<=8:=fun p=>mY okp dt l24 os p.1 p.2
 have f2:∀p:Str×Int,(cK (cF PL) p.1 p.2 os2).length<=24/\∀x∈cK (cF PL) p.1 p.2 os2,x.length<=8:=fun p=>mY okq dt lb os2 p.1 p.2
 try dsimp only[aT,aZ]
 refine ⟨_,rfl,_,rfl,jW x pt D PL A0_ c ⟨rfl,PG2,okp,cap,c1,A00,fun os' rd H3 as3 oo' g3 nrd r3=>?_⟩⟩
 cases oo'.uniq oo;have rdu:rd≠du:=fun z=>by rw[z,da2.e] at nrd;cases nrd
 try dsimp only[aT,aZ]
 refine ⟨_,rfl,_,rfl,jW rd du D _ as3 as ⟨rfl,r3.dic,da2.same g3,dnd,d3,f1,rdu,fun H4 g4=>⟨_,rfl,dR ⟨_,rfl,_,rfl,by show 0<=sizeLine;decide,fun l5 n5=>⟨by show 2<=sizeLine;decide,fun t5 nt5=>(aR pt t5 [.ref l2,.ref l3] [.ref lr,.ref l5] ⟨rfl,rfl,bH.of ?e1,bH.of ag,⟨?al,?an,trivial⟩,_,rfl,dR ?_⟩)⟩⟩⟩⟩⟩
 case e1=>exact (((g3.trans g4).trans (ai n5 _)).trans (ai nt5 _)) _ _ ept
 case al=>
  have gx:=((g3.trans g4).trans (ai n5 (.lst []))).trans (ai nt5 (.tup [.ref lr,.ref l5]));exact xN (gx _ _ el2) (gx _ _ elr2) (rR2.imp fun _ _ k=>gx _ _ k)
 case an=>
  have gx:=((g3.trans g4).trans (ai n5 (.lst []))).trans (ai nt5 (.tup [.ref lr,.ref l5]));exact .inr (aR l3 l5 [] [] ⟨rfl,rfl,.inr ⟨aK.of (gx _ _ el3),aK.of (ai nt5 _ _ _ ag)⟩,trivial⟩)
 have g25:=((g3.trans g4).trans (ai n5 (.lst []))).trans (ai nt5 (.tup [.ref lr,.ref l5]));have r5:=((r3.same g4).same (ai n5 (.lst []))).same (ai nt5 (.tup [.ref lr,.ref l5]));generalize av (av H4 l5 (.lst [])) t5 (.tup [.ref lr,.ref l5])=H5 at g25 r5⊢;clear g3 g4 r3 n5 nt5;try dsimp only[aT,aZ]
 have ed5:=g25 _ _ ed2;have rtd:rd≠td:=fun z=>by rw[z,ed2] at nrd;cases nrd
 refine cut (fun σ H'=>∃(o11 o14:Option V),σ= [G0 a,G0 td,some (.int n),G0 pl,some (.int c),some (.int A0_),G0 lt,G0 lr,G0 x,G0 du,G0 ot,o11,G0 pt,G0 rd,o14,none,none,none]/\az H2 H') (fun N_ hN=>?_) ?_
 ·refine ⟨_,rfl,aA td _ ⟨rfl,ed5,fun o nfr=>?_⟩⟩
  have ef:av H2 td (.frz o (.dK (aC D))) td=some (.frz o (.dK (aC D))):=ag;have gf:∀b,H2 b=none->av H2 td (.frz o (.dK (aC D))) b=none:=fun b hb=>by
   rw[ar fun z=>by rw[z,ed2] at hb;cases hb];exact hb
  have sG:az (av H2 td (.frz o (.dK (aC D)))) (av H5 td (.frz o (.dK (aC D)))):=iE g25 _ _;have m5:fF (av H2 td (.frz o (.dK (aC D)))) (av H5 td (.frz o (.dK (aC D)))) rd D as3 24:=(fF.of r5 f1 gf).sq (by rw[ar rtd];exact r5.e) (fP ed5)
  have thw:∀H',az (av H2 td (.frz o (.dK (aC D)))) H'->az H2 (av H' td (.dK (aC D))):=fun H' g=>eK ed2 g
  generalize av H2 td (.frz o (.dK (aC D)))=G at ef gf sG m5 thw⊢;refine gb (kvs:=aC D) (fun i σ H'=>∃(o11 o14:Option V),σ= [G0 a,G0 td,some (.int n),G0 pl,some (.int c),some (.int A0_),G0 lt,G0 lr,G0 x,G0 du,G0 ot,o11,G0 pt,G0 rd,o14,none,none,none]/\az G H'/\∃Bq:Nat,fF G H' rd D as3 Bq/\Bq<=24*64^i) (aA _ _ ⟨rfl,sG,24,m5,by simp⟩) (fun i σ H' _ ⟨_,_,_,g,_⟩=>g _ _ ef) ?_ ?_
  ·intro i k y σ H6 hk h_;refine cL h_ fun o11 o14 _hi=>?_
   refine dA _hi fun _r1 g6 _hj=>?_
   refine cG _hj fun Bq _hk=>?_
   refine bK _hk fun m6 lB=>?_
   clear h_ _hi _hj _hk;subst _r1;obtain ⟨p,hp,rfl,rfl⟩:=gm hk;have il:=(D4.mp hp).1;have pw2:64^i<=64^2:=Nat.pow_le_pow_right (by decide) (by lia)
   have pw3:64^(i+1)=64*64^i:=by rw[Nat.pow_succ,Nat.mul_comm]
   have pw1:1<=64^i:=Nat.one_le_pow i 64 (by decide)
   obtain ⟨a3,ha⟩:∃a3,as3[i]?=some a3:=⟨_,D0 (by rw[m6.len];exact il)⟩
   have am:=D6 ha;have va:=fE dnd hp ha;have dgA:∀H',fF G H' rd D as3 Bq->gN H' rd (.str p.1) (some (.ref a3)):=fun H' m=> .inl (aA _ (.inr p.1) ⟨.inl m.e,rfl,va.symm⟩)
   obtain ⟨vs,ea,lv,rv⟩:=m6.each a3 am;try dsimp only[aT,aZ]
   refine cut (fun σ H'=>∃o14':Option V,σ= [G0 a,G0 td,some (.int n),G0 pl,some (.int c),some (.int A0_),G0 lt,G0 lr,G0 x,G0 du,G0 ot,some (.str p.1),G0 pt,G0 rd,o14',none,none,none]/\az G H'/\H' a3=some (.lst vs)/\fF G H' rd D as3 (Bq+vs.length)) (fun N_ hN=>?_) ?_
   ·refine ⟨_,rfl,_,rfl,aA rd _ ⟨rfl,dgA _ m6,a3,rfl,⟨_,aK.of ea⟩,bI (xs:=vs) (fun j σ H'=>∃o14':Option V,σ= [G0 a,G0 td,some (.int n),G0 pl,some (.int c),some (.int A0_),G0 lt,G0 lr,G0 x,G0 du,G0 ot,some (.str p.1),G0 pt,G0 rd,o14',none,none,none]/\az G H'/\H' a3=some (.lst vs)/\fF G H' rd D as3 (Bq+j)) ⟨_,rfl,g6,ea,m6⟩ (fun j σ H' _ ⟨_,_,_,e,_⟩=>aK.of e) ?_ ?_⟩⟩
    ·intro j y σ H7 hy h_;refine cG h_ fun q14 _hi=>?_
     refine cU _hi fun _r1 g7 ea7 m7=>?_
     clear h_ _hi;subst _r1;obtain ⟨vs',ea',lv',rv'⟩:=m7.each a3 am;rw[ea7] at ea';cases ea';refine cL (rv' y (D6 hy)) fun r xs _hi=>?_
     refine cU _hi fun _r1 b1 b2 _hj=>?_
     refine bK _hj fun b3 b4=>?_
     clear _hi _hj;subst _r1;have jl:=(D4.mp hy).1;refine ⟨_,rfl,.inl ⟨rfl,_,aK.of b3⟩,cC r _ _ ⟨rfl,rfl,b3,by lia,?_⟩⟩
     exact ⟨_,rfl,dZ g7 b1 _,by rw[ar (show a3≠r from fun z=>b2 (by rw[<-z];exact am))];exact ea7,m7.row b2 b3 b4 _⟩
    ·intro σ H7 h_;refine cG h_ fun q14 _hi=>?_
     refine cU _hi fun _r1 g7 ea7 m7=>?_
     clear h_ _hi;subst _r1;exact hN _ _ ⟨_,rfl,g7,ea7,m7⟩
   intro σ H7 h_;refine cG h_ fun q14 _hi=>?_
   refine cU _hi fun _r1 g7 ea7 m7=>?_
   clear h_ _hi;subst _r1;have dg7:gN H7 rd (.str p.1) (some (.ref a3)):= .inl (aA _ (.inr p.1) ⟨.inl m7.e,rfl,va.symm⟩);try dsimp only[aT,aZ]
   refine ⟨_,rfl,_,rfl,aA rd _ ⟨rfl,dg7,.inl ⟨rfl,_,aK.of ea7⟩,by show 0<=sizeLine;decide,fun e ne=>(cC a3 _ _ ⟨rfl,rfl,ai ne _ _ _ ea7,by lia,?_⟩)⟩⟩
   have m8:=m7.same (ai ne (.lst []));obtain ⟨vs',ea',lv',rv'⟩:=m8.each a3 am;rw[ai ne (.lst []) _ _ ea7] at ea';cases ea';have ena:e∉as3:=fun z=>by
    obtain ⟨_,e1,_⟩:=m7.each e z;rw[ne] at e1;cases e1
   refine (aA _ _ ⟨rfl,dZ (g7.trans (ai ne _)) (m8.new _ am) _,_,m8.lst am (ai ne (.lst []) _ _ ea7) lv' ena (g7.free ne) ag (EC _) rv',?_⟩)
   lia
  ·intro σ H6 h_;refine cL h_ fun o11 o14 _hi=>?_
   refine dA _hi fun _r1 g6 _=>?_
   clear h_ _hi;subst _r1;exact (cC td o _ ⟨g6 _ _ ef,nfr,hN _ _ (aA _ _ ⟨rfl,thw H6 g6⟩)⟩)
 clear g25 r5 ed5 nrd rdu rtd;rintro σ H6 ⟨p11,p14,rfl,g6⟩;have hlt6:=hlt2.same g6;have elr6:=g6 _ _ elr2;have rR6:cX (fun t k=>H6 t=some (.tup (k.map V.int))) rbs ((dP A0_ c PL).map rk):=rR2.imp fun _ _ k=>g6 _ _ k
 have PG6:=PG2.same g6;have hS6:=g6.seq hS2;have da6:=da2.same g6;have db6:=db2.same g6;have ed6:=g6 _ _ ed2;clear g6 hlt2 elr2 rR2 PG2 hS2 da2 db2 pA N2 ed2 hr2 ept el2 el3;try dsimp only[aT,aZ]
 obtain ⟨vp,ep,rp_⟩:=id hlt6;have lvp:vp.length=(cF PL).length:=rp_.1;refine ⟨_,rfl,lt,rfl,⟨_,aK.of ep⟩,eI Ak (fun _=>False) (fun i=>(dP A0_ c (cF PL)).getD i (0,0,0)) (aK.of ep) (by lia) (fun a h=>h.elim) (fun i y hy H5 g5 Q' hQ=>?_) fun ls H7 nls g7 hs_=>?_⟩
 ·refine cG (rp_.at_ hy) fun w _hi=>?_
  refine bK _hi fun hw _hj=>?_
  refine cL _hj fun tt u _hk=>?_
  refine cU _hk fun _r1 _ _ _hl=>?_
  refine bK _hl fun ett _=>?_
  clear _hi _hj _hk _hl;subst _r1;have et:=g5 _ _ ett;obtain ⟨b0,b1,b2,b3,_,_⟩:=okq w (D6 hw);have bx:Bd 8 w.1:=by unfold Bd;show _<256;lia
  have by_:Bd 8 w.2.1:=by unfold Bd;show _<256;lia
  have rn:(dP A0_ c (cF PL)).getD i (0,0,0)=(A0_+c*w.1,A0_+c*w.2.1,0):=jE hw;exact ⟨_,rfl,_,rfl,_,rfl,aR tt _ _ _ ⟨rfl,rfl,bH.of et,rfl,aA _ _ ⟨rfl,rfl,bT.ok bx,aA _ _ ⟨rfl,rfl,_,rfl,_,rfl,_,rfl,aR tt _ _ _ ⟨rfl,rfl,bH.of et,rfl,aA _ _ ⟨rfl,rfl,bT.ok by_,_,_,rfl,rfl,by show 3<=sizeLine;decide,fun nt nn=>hQ _ _ (ai nn _) ⟨nt,rfl,.inl nn,by rw[ag,rn];rfl⟩⟩⟩⟩⟩⟩⟩
 have lrn2:(DT vp.length).map (fun i=>(dP A0_ c (cF PL)).getD i (0,0,0))=dP A0_ c (cF PL):=by rw[lvp];exact range_getD (D3 _)
 rw[lrn2] at hs_;have hs7:=qK hs_;have PG7:=PG6.same g7;have elr7:=g7 _ _ elr6;have rR7:cX (fun t k=>H7 t=some (.tup (k.map V.int))) rbs ((dP A0_ c PL).map rk):=rR6.imp fun _ _ k=>g7 _ _ k
 have hS7:=g7.seq hS6;have da7:=da6.same g7;have db7:=db6.same g7;clear hs_ g7 nls hlt6 ep rp_ lvp lrn2 PG6 elr6 rR6 hS6 da6 db6 ed6;try dsimp only[aT,aZ]
 refine ⟨_,rfl,_,rfl,by show 0<=sizeLine;decide,fun l5 n5=>⟨by show 2<=sizeLine;decide,fun t5 nt5=>?_⟩⟩
 have s5:=ai n5 (.lst []);have s6:=ai nt5 (.tup [.ref ls,.ref l5]);have g8:=s5.trans s6;have pB:fU (av (av H7 l5 (.lst [])) t5 (.tup [.ref ls,.ref l5])) t5 (dP A0_ c (cF PL)) []:=(aA ls l5 ⟨ag,hs7.same g8,s6 _ _ ag⟩);generalize av (av H7 l5 (.lst [])) t5 (.tup [.ref ls,.ref l5])=H8 at g8 pB⊢;have lb2:(dP A0_ c (cF PL)).length=(cF PL).length:=D3 _;have PGB:eP mt false H8 x t5 D (dW c (cF PL)) [] [] (dP A0_ c (cF PL)) []:=⟨by rw[sI];exact PG7.net.same g8,pB,by rw[sI];exact nok,jo lb2 jV⟩
 refine (jW x t5 D (cF PL) A0_ c ⟨rfl,PGB,okq,capq,c1,A00,fun os' rd2 H9 as4 oo' g9 nrd2 r9=>?_⟩)
 cases oo'.uniq oo2;have db9:=(db7.same g8).same g9;have rdo:rd2≠ot:=fun z=>by rw[z,(db7.same g8).e] at nrd2;cases nrd2
 refine ⟨_,rfl,jW rd2 ot D _ as4 bs ⟨rfl,r9.dic,db9,dnd,d3,f2,rdo,fun H10 g10=>⟨_,rfl,dR ?_⟩⟩⟩
 have g710:=(g8.trans g9).trans g10;refine ⟨_,rfl,_,rfl,jW x pt D PL A0_ c ⟨rfl,PG7.same g710,okp,cap,c1,A00,fun os' rd3 H11 as5 oo' g11 nrd3 r11=>?_⟩⟩
 cases oo'.uniq oo;have rdv:rd3≠du:=fun z=>by rw[z,(da7.same g710).e] at nrd3;cases nrd3
 refine ⟨_,rfl,jW rd3 du D _ as5 as ⟨rfl,r11.dic,(da7.same g710).same g11,dnd,d3,f1,rdv,fun H12 g12=>⟨_,rfl,dR ?_⟩⟩⟩
 have g712:=(g710.trans g11).trans g12;have N12:=PG7.net.same g712;have elr12:=g712 _ _ elr7;have rR12:cX (fun t k=>H12 t=some (.tup (k.map V.int))) rbs ((dP A0_ c PL).map rk):=rR7.imp fun _ _ k=>g712 _ _ k
 have hS12:=g712.seq hS7;clear g712 g12 g11 g710 g10 g9 g8 r11 r9 db9 da7 db7 hS7 rR7 elr7 PG7 PGB pB s5 s6 hs7 nrd2 nrd3 n5 nt5;try dsimp only[aT,aZ]
 refine ⟨_,rfl,by show 0<=sizeLine;decide,fun l9 n9=>(cC lr l9 _ ⟨rfl,rfl,aK.of (ai n9 _ _ _ elr12),aK.of ag,_,rfl,?_⟩)⟩
 cases hb:(rbs.map V.ref).isEmpty with
 |true=>exact gS (q _)
 |false=>
  refine dR ?_;have g13:=ai n9 (.lst []);have N13:=N12.same g13;have elr13:=g13 _ _ elr12;have rR13:cX (fun t k=>(av H12 l9 (.lst [])) t=some (.tup (k.map V.int))) rbs ((dP A0_ c PL).map rk):=rR12.imp fun _ _ k=>g13 _ _ k
  have hS13:=g13.seq hS12;generalize av H12 l9 (.lst [])=H13 at g13 N13 elr13 rR13 hS13⊢;clear g13 N12 elr12 rR12 hS12 n9;have lrb:rbs.length=PL.length:=by rw[rR13.1,D3,lrn]
  have lrm:(rbs.map V.ref).length=PL.length:=by rw[D3,lrb]
  have pos:0<PL.length:=by
   rw[<-lrm];cases e:rbs.map V.ref with
   |nil=>rw[e] at hb;cases hb
   |cons=>simp
  try dsimp only[aT,aZ]
  refine cut (fun σ H'=>∃kk:Nat,σ= [G0 a,G0 td,some (.int n),G0 pl,some (.int c),some (.int A0_),G0 lt,G0 lr,G0 x,G0 du,G0 ot,p11,G0 pt,G0 rd,p14,G0 ls,some (.int (kk:Int)),none]/\H13=H'/\kk<PL.length) (fun N_ hN=>?_) ?_
  ·refine ⟨_,rfl,cC a ns 3 ⟨rfl,hS13,by decide,fun cc3=>⟨_,rfl,aA lr _ ⟨rfl,.inl (aK.of elr13),aA _ _ ⟨rfl,rfl,by lia,?_⟩⟩⟩⟩⟩
   have mk:=fm (a:=cc3) (n:=((rbs.map V.ref).length:Int)) (by lia)
   obtain ⟨kk,hkk⟩:=Int.eq_ofNat_of_zero_le mk.1;exact hN _ _ ⟨kk,by rw[<-hkk];rfl,rfl,by lia⟩
  rintro σ H13' ⟨kk,rfl,rfl,kl⟩;try dsimp only[aT,aZ]
  have kr:kk<rbs.length:=by lia
  obtain ⟨w,hw⟩:∃w,PL[kk]?=some w:=⟨_,D0 kl⟩;obtain ⟨b,hb2,eb⟩:=rR13.get (i:=kk) (x:=rk (A0_+c*w.1,A0_+c*w.2.1,0)) (by rw[D9];unfold dP;rw[D9,hw];rfl)
  have at1:iU (rbs.map V.ref) (kk:Int)=some (.ref b):=aU (cJ hb2);have c1':ip (rbs.map V.ref) none (some (kk:Int))=(rbs.take kk).map V.ref:=by rw[mX,Fi]
  have c2':ip (rbs.map V.ref) (some ((kk:Int)+1)) none=(rbs.drop (kk+1)).map V.ref:=by rw[show (kk:Int)+1=((kk+1:Nat):Int) by lia,u5,List.map_drop]
  have b5:Bd 3 5:=by unfold Bd;decide
  refine ⟨_,rfl,_,rfl,_,rfl,aA lr _ ⟨rfl,aK.of elr13,fun s1 ns1=>?_⟩⟩
  rw[c1'];have h1:=ai ns1 (.lst ((rbs.take kk).map V.ref));have e1:av H13 s1 (.lst ((rbs.take kk).map V.ref)) s1=some (.lst ((rbs.take kk).map V.ref)):=ag;generalize av H13 s1 (.lst ((rbs.take kk).map V.ref))=H14 at h1 e1⊢;refine ⟨_,rfl,_,rfl,aR lr _ _ _ ⟨rfl,rfl,aK.of (h1 _ _ elr13),at1,aR b _ _ _ ⟨rfl,rfl,bH.of (h1 _ _ eb),rfl,_,rfl,_,rfl,aR lr _ _ _ ⟨rfl,rfl,aK.of (h1 _ _ elr13),at1,aR b _ _ _ ⟨rfl,rfl,bH.of (h1 _ _ eb),rfl,_,rfl,_,_,rfl,rfl,b5.ok bT,_,_,rfl,rfl,_,_,rfl,rfl,by show 3<=sizeLine;decide,fun nt nnt=>⟨by show 1<=sizeLine;decide,fun nl nnl=>?_⟩⟩⟩⟩⟩⟩
  have h2:=ai nnt (.tup [.int (A0_+c*w.1),.int (A0_+c*w.1+5*c+1),.int 0]);have h3:=ai nnl (.lst [.ref nt]);have ent:=h3 nt _ (ag (H:=H14) (o:= .tup [.int (A0_+c*w.1),.int (A0_+c*w.1+5*c+1),.int 0]));have enl:av (av H14 nt (.tup [.int (A0_+c*w.1),.int (A0_+c*w.1+5*c+1),.int 0])) nl (.lst [.ref nt]) nl=some (.lst [.ref nt]):=ag;have h13:=(h1.trans h2).trans h3;have e1':=(h2.trans h3) _ _ e1;generalize av (av H14 nt (.tup [.int (A0_+c*w.1),.int (A0_+c*w.1+5*c+1),.int 0])) nl (.lst [.ref nt])=H15 at h13 e1' enl ent⊢;clear h1 h2 h3 e1 nnt nnl ns1;refine (aR s1 nl _ _ ⟨rfl,rfl,e1',enl,(by rw[D3,DK];simp;lia),fun fa nfa=>?_⟩)
  have h4:=ai nfa (.lst ((rbs.take kk).map V.ref++ [.ref nt]));have efa:av H15 fa (.lst ((rbs.take kk).map V.ref++ [.ref nt])) fa=some (.lst ((rbs.take kk).map V.ref++ [.ref nt])):=ag;generalize av H15 fa (.lst ((rbs.take kk).map V.ref++ [.ref nt]))=H16 at h4 efa⊢;refine ⟨_,rfl,_,rfl,aA _ _ ⟨rfl,rfl,_,rfl,aA lr _ ⟨rfl,aK.of ((h13.trans h4) _ _ elr13),fun s2 ns2=>?_⟩⟩⟩
  rw[c2'];have h5:=ai ns2 (.lst ((rbs.drop (kk+1)).map V.ref));have es2:av H16 s2 (.lst ((rbs.drop (kk+1)).map V.ref)) s2=some (.lst ((rbs.drop (kk+1)).map V.ref)):=ag;have efa5:=h5 _ _ efa;generalize av H16 s2 (.lst ((rbs.drop (kk+1)).map V.ref))=H17 at h5 es2 efa5⊢;refine (aR fa s2 _ _ ⟨rfl,rfl,efa5,es2,(by rw[D7,D3,D3,DK,Ec];simp;lia),fun fl nfl=>?_⟩)
  have h6:=ai nfl (.lst ((rbs.take kk).map V.ref++ [.ref nt]++(rbs.drop (kk+1)).map V.ref));have efl:av H17 fl (.lst ((rbs.take kk).map V.ref++ [.ref nt]++(rbs.drop (kk+1)).map V.ref)) fl=some (.lst ((rbs.take kk++ [nt]++rbs.drop (kk+1)).map V.ref)):=by rw[ag,EA,EA];rfl
  generalize av H17 fl (.lst ((rbs.take kk).map V.ref++ [.ref nt]++(rbs.drop (kk+1)).map V.ref))=H18 at h6 efl⊢;have h46:=(h4.trans h5).trans h6;have h18:=h13.trans h46;have ent18:=h46 _ _ ent;have N18:=N13.same h18;have rR18:cX (fun t k=>H18 t=some (.tup (k.map V.int))) rbs ((dP A0_ c PL).map rk):=rR13.imp fun _ _ k=>h18 _ _ k
  have tf:cy H18 fl (((dP A0_ c PL).take kk++ [(A0_+c*w.1,A0_+c*w.1+5*c+1,0)]++(dP A0_ c PL).drop (kk+1)).map rk):=by
   refine ⟨_,efl,?_⟩;rw[EA,EA,Fi,List.map_drop];exact ((rR18.take kk).append ⟨rfl,fun i a x h1 h2=>by
    match i,h1,h2 with
    |0,h1,h2=>cases h1;cases h2;exact ent18⟩).append (rR18.drop (kk+1))
  clear h6 h5 h4 h13 h46 efl efa efa5 es2 ent ent18 enl e1' rR18 nfl ns2 nfa;try dsimp only[aT,aZ]
  refine ⟨_,rfl,_,rfl,by show 0<=sizeLine;decide,fun l6 n6=>⟨by show 2<=sizeLine;decide,fun t6 nt6=>?_⟩⟩
  have s5:=ai n6 (.lst []);have s6:=ai nt6 (.tup [.ref fl,.ref l6]);have pF:fU (av (av H18 l6 (.lst [])) t6 (.tup [.ref fl,.ref l6])) t6 ((dP A0_ c PL).take kk++ [(A0_+c*w.1,A0_+c*w.1+5*c+1,0)]++(dP A0_ c PL).drop (kk+1)) []:=(aA fl l6 ⟨ag,tf.same (s5.trans s6),s6 _ _ ag⟩);have kln:kk<(dP A0_ c PL).length:=by rw[lrn];exact kl
  refine (aR x t6 D (dW c PL) ⟨_,⟨rfl,⟨N18.same (s5.trans s6),pF,nok,jo ?_ ?_⟩,fun ys=>xu kl (b:=A0_+c*w.1) ?_,fun H' _=>q H'⟩⟩)
  ·rw[D7,D7,DK,Ec,lrn];simp;omega
  ·intro r hr2;rcases DO.mp hr2 with k|k
   ·rcases DO.mp k with k|k
    ·exact jV r (FO k)
    ·rw[DR.mp k]
   ·exact jV r (List.mem_of_mem_drop k)
  ·have lt_:((dP A0_ c PL).take kk).length=kk:=by rw[DK];lia
   rw[DN,DU,DH (by lia),lt_,Fg]
   rfl
end
theorem AO {l:PySem.W.OpenLaw} {w:World} {K:D5} {h:Heap} {mg:GS} {fa ej ek el em en eo ep eq er cg ch ci ck cl cm cn co cp cq cs ct cv c0 c1 c2 c3 c6 c8 cA cD cE cF cO cP cR cV da bA Fp mt Fw on Fk Fu Gq:Addr} (X:K.In h) (G:h.Ns mainGlobals mg) (hfa:mg "law" =some (.ref fa))
  {ca b5:GY} {cc:GU} {cd b6 b7 b8 bw b9:Value}
  {bi:Tok}
  {ab:Tok}
  {an:Tok}
  {ap:Tok}
  {al:Tok}
  {aD:Tok}
  {ac:Tok}
  {aG:Tok}
  {aq:Tok}
  {bc:Tok}
  {eh:Addr} {db:Value} {dc:GY} {dd:Nat} {de:GU} {bB:Tok}
  (es:cz K ej "is_name" C2 .none)
  (et:cz K ek "points_of" C3 .none)
  (eu:cz K el "copy_of_task" C4 .none)
  (ev:cz K em "refuse_wrong_tools" C5 .none)
  (ew:cz K en "refuse_wrong_uses" C6 .none)
  (ex:cz K eo "refuse_wrong_tasks" C7 .none)
  (ey:cz K ep "refuse_wrong_arcs" C8 .none)
  (ez:cz K eq "refuse_wrong_pairs" C9 .none)
  (e0:cz K er "use_in" Da .none)
  (dg:cz K cg "is_plan" Al .none)
  (di:cz K ch "time_of" Am .none)
  (dl:cz K ci "runs_meet" Ao .none)
  (dm:cz K ck "goes_on" Ap .none)
  (dn:cz K cl "use_of" Aq .none)
  (dp:cz K cm "breaches_of_turns" Ar .none)
  (dq:cz K cn "breaches_of_arcs" As .none)
  (dr:cz K co "breaches_of_apart" At .none)
  (dt:cz K cp "in_use" Au .none)
  (du:cz K cq "breaches_of_tool" Av .none)
  (dx:cz K cs "breaches_of_heat" Aw .none)
  (dz:cz K ct "breaches" Ax .none)
  (d1:cz K cv "plan_fits" Ay .none)
  (d3:cz K c0 "least_free" Az .none)
  (d4:cz K c1 "pieces_had" AA .none)
  (d5:cz K c2 "deal" AB .none)
  (d6:cz K c3 "roster" AC .none)
  (d7:cz K c6 "_law_cell_at" AD .none)
  (d8:cz K c8 "_law_whole" AE .none)
  (d9:cz K cA "_law_drawn" AF .none)
  (dB:cz K cD "_law_tools" AG .none)
  (dC:cz K cE "_law_uses" AH .none)
  (dJ:cz K cF "_law_free" AI .none)
  (dK:cz K cO "_law_placed" AJ .none)
  (dV:cz K cP "_law_behind_one_another" AK .none)
  (ea:cz K cR "_law_dealt" AL .none)
  (eb:cz K cV "_law_told" AM .none)
  (ec:cz K da "_law_refused" AN .none)
  (ed:E5 K mainGlobals "law" =some (some (.ref bA)))
  (ee:K.lookup bA=some ⟨cd,ca,.func (Ez "law" "law" (dX oz) (c7 oz) (aw oz) .none b6 b7 b8 b5 bw b9),cc⟩) (ef:PySem.W.codeIn K bw "law" =true) (eg:FG K (.ref bA)=true)
  (bk:E5 K mainGlobals "LETTERS" =some (some (.str "abcdefghijklmnopqrstuvwxyz" bi)))
  (ad:E5 K mainGlobals "MOST_LETTERS" =some (some (.int 12 ab)))
  (ax:E5 K mainGlobals "MOST_TASKS" =some (some (.int 24 an)))
  (ay:E5 K mainGlobals "MOST_TOOLS" =some (some (.int 12 ap)))
  (am:E5 K mainGlobals "MOST_PIECES" =some (some (.int 8 al)))
  (aJ:E5 K mainGlobals "MOST_WAYS" =some (some (.int 2 aD)))
  (af:E5 K mainGlobals "MOST_MOMENTS" =some (some (.int 8 ac)))
  (aO:E5 K mainGlobals "MOST_ARCS" =some (some (.int 600 aG)))
  (a0:E5 K mainGlobals "MOST_APART" =some (some (.int 300 aq)))
  (bd:E5 K mainGlobals "GREATEST" =some (some (.int 1000000000 bc)))
  (a1:E5 K mainGlobals "ValueError" =some none)
  (bC:E5 K mainGlobals "abs" =some none)
  (b0:E5 K mainGlobals "bool" =some none)
  (b1:E5 K mainGlobals "dict" =some none)
  (aS:E5 K mainGlobals "enumerate" =some none)
  (bE:E5 K mainGlobals "int" =some none)
  (a2:E5 K mainGlobals "isinstance" =some none)
  (bF:E5 K mainGlobals "len" =some none)
  (b2:E5 K mainGlobals "list" =some none)
  (bG:E5 K mainGlobals "max" =some none)
  (bx:E5 K mainGlobals "range" =some none)
  (be:E5 K mainGlobals "reversed" =some none)
  (bO:E5 K mainGlobals "set" =some none)
  (bl:E5 K mainGlobals "sorted" =some none)
  (bP:E5 K mainGlobals "str" =some none)
  (bT:E5 K mainGlobals "zip" =some none)
  (aZ:E5 K mainGlobals "EmptyHeap" =some (some (.ref Fp)))
  (bW:E5 K mainGlobals "Net" =some (some (.ref mt)))
  (bz:E5 K mainGlobals "NoNet" =some (some (.ref Fw)))
  (bm:E5 K mainGlobals "NoPlan" =some (some (.ref on)))
  (a3:E5 K mainGlobals "StoveError" =some (some (.ref Fk)))
  (bo:E5 K mainGlobals "TooFew" =some (some (.ref Fu)))
  (atZ8:Eu K (.ref mt) "__init__" =some (some (.ref Gq)))
  (e1:FnAt K Gq "__init__" "Net.__init__" Cl (.ref eh))
  (ei:K.lookup eh=some ⟨db,dc,.seq #[.none,.int 0 bB] dd,de⟩)
  (br:PySem.W.excIn K on CN "ValueError.__new__" =true)
  (bs:XI K on)
  (a4:XT K Fk)
  (dh:PySem.W.subIn K (.ref on) (.ref Fk)=some true)
  (ah:Ef K (.ref on) (.ref Fw)=some false)
  (kh:Ef K (.ref on) (.ref Fp)=some false)
  (ln:Ef K (.ref on) (.ref Fu)=some false)
  (tx:Ef K (.ref on) (.ref on)=some true)
  (gs:Ef K (.ref on) (.type "ValueError")=some true)
  (b3:xV K mt)
  (b4:Mk K mt Gq)
  (a5:bX K mt "tools")
  (a6:bX K mt "tasks")
  (bb:bX K mt "arcs")
  (a8:bX K mt "apart")
  (ak:bX K mt "moments")
  :∃fd:FuncData,(∀(s:Shared) (v:Value),BindsTo s fd ⟨[v],[]⟩ [("_law_script",v)])/\∀base:Heap,K.In base->base.Ns mainGlobals mg->bv l.prog w K mg base bQ 9 fa fd ["_law_script"] (sU K):=by
 have e:=hfa.symm.trans (Ea X G ed);cases e;have B:Bn K mg Fp mt Fw on Fk Fu Gq:=⟨Exists.intro _<|Ea X G bk,Exists.intro _<|Ea X G ad,Exists.intro _<|Ea X G ax,Exists.intro _<|Ea X G ay,Exists.intro _<|Ea X G am,Exists.intro _<|Ea X G aJ,Exists.intro _<|Ea X G af,Exists.intro _<|Ea X G aO,Exists.intro _<|Ea X G a0,Exists.intro _<|Ea X G bd,EJ X G a1,EJ X G bC,EJ X G b0,EJ X G b1,EJ X G aS,EJ X G bE,EJ X G a2,EJ X G bF,EJ X G b2,EJ X G bG,EJ X G bx,EJ X G be,EJ X G bO,EJ X G bl,EJ X G bP,EJ X G bT,Ea X G aZ,Ea X G bW,Ea X G bz,Ea X G bm,Ea X G a3,Ea X G bo,br,bs,a4,dh,ah,kh,ln,tx,gs,b3,b4,a5,a6,bb,a8,ak⟩;refine AQ e1 fun _ _ _ _ _ _ _ _ _ _hi=>?_
 refine dA _hi fun lZ8 cZ8 kZ8=>?_
 have FZ8:=nK (st:=Cl) lZ8 cZ8 kZ8;have Flaw:=nK (st:=oz) ee ef eg;refine ⟨Ez "law" "law" (dX oz) (c7 oz) (aw oz) .none b6 b7 b8 b5 bw b9,?bind,fun base _ _=>?ok⟩
 case bind=>exact fun s v=> .of_eq rfl
 case ok=>
  have z9:Bx l.prog w base:=⟨⟩;have DZ0:=fZ z9 X G es (fun _ _ _ _ _ _=>hG fun _=>rfl) fun F=>Db B F
  have DZ1:=fZ z9 X G et (fun _ _ _ _ _ _=>hG fun _=>rfl) fun F=>Dc B F
  have DZ2:=fZ z9 X G eu (fun _ _ _ _ _ _=>hG fun _=>rfl) fun F=>Dd B F
  have DZ3:=fZ z9 X G ev (fun _ _ _ _ _ _=>hG fun _=>rfl) fun F=>De B F DZ0
  have DZ4:=fZ z9 X G ew (fun _ _ _ _ _ _=>bZ fun _ _=>rfl) fun F=>Df B F
  have DZ5:=fZ z9 X G ex (fun _ _ _ _ _ _=>bZ fun _ _=>rfl) fun F=>Dg B F DZ4
  have DZ6:=fZ z9 X G ey (fun _ _ _ _ _ _=>bZ fun _ _=>rfl) fun F=>Dh B F
  have DZ7:=fZ z9 X G ez (fun _ _ _ _ _ _=>bZ fun _ _=>rfl) fun F=>Di B F
  have DZ8:CQ l.prog w K mg base bQ 3 Gq ["self","tools","tasks","arcs","apart","moments"] [.non,.int 0] (sh mt):=⟨_,Dj B FZ8 DZ1 DZ2 DZ3 DZ5 DZ6 DZ7,FZ8.binds (ps:= ["self","tools","tasks","arcs","apart","moments"]) (ds:= []) ei rfl fun _ _ _ _ _ _ us hl=>match us,hl with| [_,_,_,_,_,_],_=>⟨_,rfl,rfl⟩,⟨[.none,.int 0 bB],FZ8.binds (ps:= ["self","tools","tasks","arcs","apart","moments"]) (ds:= [.none,.int 0 bB]) ei rfl fun _ _ _ _ _ _ us hl=>match us,hl with| [_,_,_,_],_=>⟨_,rfl,rfl⟩| [],h=>absurd h (by simp)| [_],h=>absurd h (by simp)| [_,_],h=>absurd h (by simp)| [_,_,_],h=>absurd h (by simp)|_::_::_::_::_::_,h=>absurd h (by simp),.cons rfl (.cons ⟨_,rfl⟩ .nil)⟩⟩
  have DZ9:=fZ z9 X G e0 (fun _ _ _ _ _ _=>bZ fun _ _=>rfl) fun F=>Dk B F
  have DZ10:=fZ z9 X G dg (fun _ _ _ _ _ _=>bZ fun _ _=>rfl) fun F=>BH B F
  have DZ11:=fZ z9 X G di (fun _ _ _ _ _ _=>bZ fun _ _=>rfl) fun F=>BI B F
  have DZ12:=fZ z9 X G dl (fun _ _ _ _ _ _=>bZ fun _ _=>rfl) fun F=>BJ B F
  have DZ13:=fZ z9 X G dm (fun _ _ _ _ _ _=>bZ fun _ _=>rfl) fun F=>BK B F
  have DZ14:=fZ z9 X G dn (fun _ _ _ _ _ _=>rV fun _ _ _ _=>rfl) fun F=>BL B F DZ9
  have DZ15:=fZ z9 X G dp (fun _ _ _ _ _ _=>bZ fun _ _=>rfl) fun F=>BM B F
  have DZ16:=fZ z9 X G dq (fun _ _ _ _ _ _=>bZ fun _ _=>rfl) fun F=>BN B F DZ11
  have DZ17:=fZ z9 X G dr (fun _ _ _ _ _ _=>bZ fun _ _=>rfl) fun F=>BO B F DZ12
  have DZ18:=fZ z9 X G dt (fun _ _ _ _ _ _=>rV fun _ _ _ _=>rfl) fun F=>BP B F DZ13 DZ14
  have DZ19:=fZ z9 X G du (fun _ _ _ _ _ _=>ko fun _ _ _=>rfl) fun F=>BQ B F DZ18
  have DZ20:=fZ z9 X G dx (fun _ _ _ _ _ _=>ko fun _ _ _=>rfl) fun F=>BR B F DZ12 DZ14
  have DZ21:=fZ z9 X G dz (fun _ _ _ _ _ _=>bZ fun _ _=>rfl) fun F=>BS B F DZ10 DZ15 DZ16 DZ17 DZ19 DZ20
  have DZ22:=fZ z9 X G d1 (fun _ _ _ _ _ _=>bZ fun _ _=>rfl) fun F=>BU B F DZ21
  have DZ23:=fZ z9 X G d3 (fun _ _ _ _ _ _=>bZ fun _ _=>rfl) fun F=>BV B F
  have DZ24:=fZ z9 X G d4 (fun _ _ _ _ _ _=>ko fun _ _ _=>rfl) fun F=>BW B F DZ13
  have DZ25:=fZ z9 X G d5 (fun _ _ _ _ _ _=>rV fun _ _ _ _=>rfl) fun F=>BX B F DZ14 DZ23 DZ24
  have XZ26:=fZ z9 X G d6 (fun _ _ _ _ _ _=>bZ fun _ _=>rfl) fun F=>BY B F DZ22 DZ25
  have DZ26:Dx l.prog w K mg base bQ 7 "roster" ["net","plan"] [] (kS mt):=XZ26.calm (fun _ _ _ _=>qF)
  have DZ27:=fZ z9 X G d7 (fun _ _ _ _ _ _=>bZ fun _ _=>rfl) fun F=>BZ B F
  have DZ28:=fZ z9 X G d8 (fun _ _ _ _ _ _=>hG fun _=>rfl) fun F=>B3 B F
  have DZ29:=fZ z9 X G d9 (fun _ _ _ _ _ _=>bZ fun _ _=>rfl) fun F=>B4 B F
  have DZ30:=fZ z9 X G dB (fun _ _ _ _ _ _=>hG fun _=>rfl) fun F=>B5 B F
  have DZ31:=fZ z9 X G dC (fun _ _ _ _ _ _=>bZ fun _ _=>rfl) fun F=>B6 B F
  have DZ32:=fZ z9 X G dJ (fun _ _ _ _ _ _=>Ac fun _ _ _ _ _=>rfl) fun F=>B7 B F
  have DZ33:=fZ z9 X G dK (fun _ _ _ _ _ _=>ko fun _ _ _=>rfl) fun F=>B8 B F DZ27 DZ29 DZ31 DZ32
  have DZ34:=fZ z9 X G dV (fun _ _ _ _ _ _=>hG fun _=>rfl) fun F=>B9 B F
  have DZ35:=fZ z9 X G ea (fun _ _ _ _ _ _=>ko fun _ _ _=>rfl) fun F=>Ca B F
  have DZ36:=fZ z9 X G eb (fun _ _ _ _ _ _=>bZ fun _ _=>rfl) fun F=>Cb B F DZ28
  have DZ37:=fZ z9 X G ec (fun _ _ _ _ _ _=>bZ fun _ _=>rfl) fun F=>Cc B F XZ26
  exact Cd B Flaw DZ8 DZ26 DZ27 DZ29 DZ30 DZ33 DZ34 DZ35 DZ36 DZ37
theorem walk {l:PySem.W.OpenLaw} {q:Program} {loose:GV} {XP:GS->Heap->Prop} {YP:World->Heap->Prop} {d:DefRec} {K:Params->D5} (hn:l.most=some 63) (hdf:d.params.defaults= [])
  (hY:∀(w:World) (h:Heap),YP w h->(K w.params).In h)
  (F:∀(w:World) (mg:GS) (fa:Addr) (h:Heap),(K w.params).In h->h.Ns mainGlobals mg->mg d.name=some (.ref fa)->
   ∃fd:FuncData,(∀(s:Shared) (u:Value),BindsTo s fd ⟨[u],[]⟩ [("_law_script",u)])/\∀base:Heap,(K w.params).In base->base.Ns mainGlobals mg->bv l.prog w (K w.params) mg base bQ 9 fa fd ["_law_script"] (sU (K w.params))):
  PySem.W.WalkO q loose XP YP l.row.toRowW d [] (fun f vs=>PySem.call f vs):=
 L2.yf (n:=63) (k:=9) (x:= "_law_script") (CX:=fun _=>bQ) (sp:=fun w=>sU (K w.params)) hn (by decide) hdf ⟨rfl,by decide,by decide⟩ hY F (fun _ _ a ns hl _ hS=>(aA a ns ⟨rfl,hS,hl,fun _=>rfl⟩)) fun _ _ _ _ _ z=>z
end Lk58
open PySem PySem.W PyProof.Rows
set_option maxRecDepth 100000 in
set_option maxHeartbeats 0 in
theorem PySem.Challenge.cw_stovework_k58_roster_dealt_holds : PySem.Challenge.rw_stovework_k58_roster_dealt.Holds := by
 refine Lk58.hd ?_
 k_fill
 refine Lk58.walk (l:=PySem.Challenge.rw_stovework_k58_roster_dealt) rfl rfl (fun w h Y=>PySem.W.kIn_of Y) ?F
 case F=>
  intro w mg fa h KX G hmg
  refine' Lk58.AO KX G hmg ?h0 ?h1 ?h2 ?h3 ?h4 ?h5 ?h6 ?h7 ?h8 ?h9 ?h10 ?h11 ?h12 ?h13 ?h14 ?h15 ?h16 ?h17 ?h18 ?h19 ?h20 ?h21 ?h22 ?h23 ?h24 ?h25 ?h26 ?h27 ?h28 ?h29 ?h30 ?h31 ?h32 ?h33 ?h34 ?h35 ?h36 ?h37 ?h38 ?h39 ?h40 ?h41 ?h42 ?h43 ?h44 ?h45 ?h46 ?h47 ?h48 ?h49 ?h50 ?h51 ?h52 ?h53 ?h54 ?h55 ?h56 ?h57 ?h58 ?h59 ?h60 ?h61 ?h62 ?h63 ?h64 ?h65 ?h66 ?h67 ?h68 ?h69 ?h70 ?h71 ?h72 ?h73 ?h74 ?h75 ?h76 ?h77 ?h78 ?h79 ?h80 ?h81 ?h82 ?h83 ?h84 ?h85 ?h86 ?h87 ?h88 ?h89 ?h90 ?h91
  (case h0=>exact ⟨by k_is,_,_,_,_,_,_,_,_,_,by k_is,by k_is,by k_is⟩)
  (case h1=>exact ⟨by k_is,_,_,_,_,_,_,_,_,_,by k_is,by k_is,by k_is⟩)
  (case h2=>exact ⟨by k_is,_,_,_,_,_,_,_,_,_,by k_is,by k_is,by k_is⟩)
  (case h3=>exact ⟨by k_is,_,_,_,_,_,_,_,_,_,by k_is,by k_is,by k_is⟩)
  (case h4=>exact ⟨by k_is,_,_,_,_,_,_,_,_,_,by k_is,by k_is,by k_is⟩)
  (case h5=>exact ⟨by k_is,_,_,_,_,_,_,_,_,_,by k_is,by k_is,by k_is⟩)
  (case h6=>exact ⟨by k_is,_,_,_,_,_,_,_,_,_,by k_is,by k_is,by k_is⟩)
  (case h7=>exact ⟨by k_is,_,_,_,_,_,_,_,_,_,by k_is,by k_is,by k_is⟩)
  (case h8=>exact ⟨by k_is,_,_,_,_,_,_,_,_,_,by k_is,by k_is,by k_is⟩)
  (case h9=>exact ⟨by k_is,_,_,_,_,_,_,_,_,_,by k_is,by k_is,by k_is⟩)
  (case h10=>exact ⟨by k_is,_,_,_,_,_,_,_,_,_,by k_is,by k_is,by k_is⟩)
  (case h11=>exact ⟨by k_is,_,_,_,_,_,_,_,_,_,by k_is,by k_is,by k_is⟩)
  (case h12=>exact ⟨by k_is,_,_,_,_,_,_,_,_,_,by k_is,by k_is,by k_is⟩)
  (case h13=>exact ⟨by k_is,_,_,_,_,_,_,_,_,_,by k_is,by k_is,by k_is⟩)
  (case h14=>exact ⟨by k_is,_,_,_,_,_,_,_,_,_,by k_is,by k_is,by k_is⟩)
  (case h15=>exact ⟨by k_is,_,_,_,_,_,_,_,_,_,by k_is,by k_is,by k_is⟩)
  (case h16=>exact ⟨by k_is,_,_,_,_,_,_,_,_,_,by k_is,by k_is,by k_is⟩)
  (case h17=>exact ⟨by k_is,_,_,_,_,_,_,_,_,_,by k_is,by k_is,by k_is⟩)
  (case h18=>exact ⟨by k_is,_,_,_,_,_,_,_,_,_,by k_is,by k_is,by k_is⟩)
  (case h19=>exact ⟨by k_is,_,_,_,_,_,_,_,_,_,by k_is,by k_is,by k_is⟩)
  (case h20=>exact ⟨by k_is,_,_,_,_,_,_,_,_,_,by k_is,by k_is,by k_is⟩)
  (case h21=>exact ⟨by k_is,_,_,_,_,_,_,_,_,_,by k_is,by k_is,by k_is⟩)
  (case h22=>exact ⟨by k_is,_,_,_,_,_,_,_,_,_,by k_is,by k_is,by k_is⟩)
  (case h23=>exact ⟨by k_is,_,_,_,_,_,_,_,_,_,by k_is,by k_is,by k_is⟩)
  (case h24=>exact ⟨by k_is,_,_,_,_,_,_,_,_,_,by k_is,by k_is,by k_is⟩)
  (case h25=>exact ⟨by k_is,_,_,_,_,_,_,_,_,_,by k_is,by k_is,by k_is⟩)
  (case h26=>exact ⟨by k_is,_,_,_,_,_,_,_,_,_,by k_is,by k_is,by k_is⟩)
  (case h27=>exact ⟨by k_is,_,_,_,_,_,_,_,_,_,by k_is,by k_is,by k_is⟩)
  (case h28=>exact ⟨by k_is,_,_,_,_,_,_,_,_,_,by k_is,by k_is,by k_is⟩)
  (case h29=>exact ⟨by k_is,_,_,_,_,_,_,_,_,_,by k_is,by k_is,by k_is⟩)
  (case h30=>exact ⟨by k_is,_,_,_,_,_,_,_,_,_,by k_is,by k_is,by k_is⟩)
  (case h31=>exact ⟨by k_is,_,_,_,_,_,_,_,_,_,by k_is,by k_is,by k_is⟩)
  (case h32=>exact ⟨by k_is,_,_,_,_,_,_,_,_,_,by k_is,by k_is,by k_is⟩)
  (case h33=>exact ⟨by k_is,_,_,_,_,_,_,_,_,_,by k_is,by k_is,by k_is⟩)
  (case h34=>exact ⟨by k_is,_,_,_,_,_,_,_,_,_,by k_is,by k_is,by k_is⟩)
  (case h35=>exact ⟨by k_is,_,_,_,_,_,_,_,_,_,by k_is,by k_is,by k_is⟩)
  (case h36=>exact ⟨by k_is,_,_,_,_,_,_,_,_,_,by k_is,by k_is,by k_is⟩)
  case h37|h38|h39|h40|h41|h42|h43|h44|h45|h46|h47|h48|h49|h50|h51|h52|h53|h54|h55|h56|h57|h58|h59|h60|h61|h62|h63|h64|h65|h66|h67|h68|h69|h70|h71|h72|h73=>k_is
  (case h74=>exact ⟨_,_,_,_,_,_,_,_,_,by k_is,by k_is,by k_is⟩)
  (case h75=>k_is)
  (case h76=>kernel_rfl)
  (case h77=>exact ⟨⟨by k_is,by k_is,by k_is⟩,by kernel_rfl,by k_is,by k_is,by k_is,by k_is⟩)
  (case h78=>exact ⟨by k_is,by kernel_rfl,by k_is⟩)
  (case h79=>k_is)
  (case h80=>kernel_rfl)
  (case h81=>kernel_rfl)
  (case h82=>kernel_rfl)
  (case h83=>kernel_rfl)
  (case h84=>kernel_rfl)
  (case h85=>exact ⟨by k_is,by k_is,by k_is,by k_is⟩)
  (case h86=>exact ⟨by k_is,by k_is,by k_is,by k_is⟩)
  (case h87=>unfold L2.bX;k_is)
  (case h88=>unfold L2.bX;k_is)
  (case h89=>unfold L2.bX;k_is)
  (case h90=>unfold L2.bX;k_is)
  (case h91=>unfold L2.bX;k_is)
