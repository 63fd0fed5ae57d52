import PyProof.Rows.All
import Wide.All
import OpenK.AllK
import Wide.FinOn
import Lean
import PyProof.EqAt
import PyProof.EqKinds
import PyProof.TupleCall
import PyProof.NeKinds
import PyProof.StationsW
import PyProof.RulesAs
import PyProof.ExcArgsOwn
import PyProof.CompFree
import PyProof.ExcInit
import PyProof.ConsumeWalk
import PyProof.Rows.SeqGen
import PyProof.StrWalks
import PyProof.SliceStr2
import PyProof.MeetsStr
import KE.KIntText
import PyProof.Rows.FStr
import PyProof.StrCalls6
import PyProof.StrBlockL
import PyProof.ToksMono
import PyProof.WalkInts
import PyProof.Rows.MinMaxN
import PyProof.StrLawsReplace
import PyProof.StrLawsTight
import PyProof.Rows.StrLawsPart
import PyProof.DictWalks
import KE.KEqDict
import KE.KDictLaws
import KE.KRevIter
import PyProof.ListCopy
import PyProof.CollectIter
import PyProof.Rows.SetFrom
import PyProof.Rows.SortShellK
import PyProof.Rows.SortStr
import PyProof.Rows.SortWalk
import KE.KDictSum
import KE.KSortTup
import PyProof.TupleOfSeq
import PyProof.Rows.SortRuns
import PyProof.FactsAll.tuple_2
import PyProof.WalksEnum
import PyProof.EnumMake
import PyProof.EnumFor
import PyProof.ZipIter
import KE.KDictOf
import PyProof.DictItems
import PyProof.FactsAll.dict_itemiterator_1
import PyProof.Rows.StrMul
import KE.KDictList
import PyProof.Rows.SumAny
import KE.KIsAll
import PyProof.StrLaws
import PyProof.FactsAll.list_3
import KE.KUnpack
import PyProof.Rows.CallKwBuiltin
import PySem.Challenge.RW_stovework_k38_whole_read_again
set_option maxHeartbeats 4000000
noncomputable section
abbrev GK:=PySem.Value->PySem.Shared->Prop
abbrev GL:=PySem.Str->Option PySem.Value
abbrev GM:=List (PySem.Addr×PySem.Obj)
abbrev GN:=Array (Option PySem.Value)
abbrev GO:=List PySem.Str
abbrev GP:=List PySem.Addr
abbrev GQ:=List PySem.Value
abbrev GR:=Option PySem.Addr
abbrev GS:=Option PySem.Value
open Array renaming getElem?_eq_some_iff → EU, length_toList → EX
open Bool renaming false_ne_true → DL
open Int renaming fmod_nonneg_of_pos → DP, fmod_lt_of_pos → Df, fdiv_eq_ediv_of_nonneg → E8, natCast_mul → E9, mul_ediv_cancel_left → Ed
open List renaming getElem?_eq_getElem → D1, mem_cons → D2, length_map → D4, mem_of_getElem? → D5, not_mem_nil → D6, mem_cons_of_mem → D7, mem_singleton → D8, getElem?_map → DA, length_append → DB, mem_append → DC, length_cons → DD, mem_append_right → DH, mem_map → DI, size_toArray → DK, getElem?_eq_some_iff → DM, map_append → DQ, mem_iff_getElem? → DR, length_take → DX, append_assoc → Da, mem_cons_self → Dc, map_cons → Dd, nodup_cons → De, getElem?_append_left → Do, nodup_append → Dq, length_drop → Ds, map_nil → Du, mem_flatten → Dv, mem_append_left → Dz, getElem?_append_right → E6, getD_eq_getElem?_getD → E7, range → EA, getElem_mem → EB, append_nil → EF, take_length → EH, all_eq_true → EI, findIdx?_eq_some_iff_getElem → EK, perm_iff_count → EL, cons_append → EM, take_of_length_le → EN, take_append_drop → ER, getElem?_set → ES, count_append → ET, map_map → EV, flatten_nil → EW, drop_eq_getElem_cons → EY, map_congr_left → EZ, filterMap_cons → Ea, nil_append → Ec
open Nat renaming le_refl → D9, lt_trans → DO, lt_of_lt_of_le → DT, le_trans → DU, ne_of_lt → DW, lt_of_le_of_lt → Dt, zero_le → E1, gcd → ED, ne_of_gt → EG, add_lt_add_left → Eb
open Option renaming map_eq_some_iff → DV, bind_eq_some_iff → Dn, isSome_iff_exists → EC
open Option.some renaming inj → DS
open PyProof renaming noPylong_small → DZ
open PyProof.Rows renaming callWith_type1 → EE
open PySem renaming mem_of_lookup → Dw
open PySem.F renaming plainAttrs_list → DE, type_list_append → DF, slot_list_append → DG, plainAttrs_str → Dp, type_str_join → EO, slot_str_join → EQ
open PySem.W renaming Frag → D3, kitOne → DJ, nsIn → DN, mg_of → DY, findIn → Dm, mg_none_of → Dr, kia_one → Dy, fnOf → E3, keepIn → E4, emptyDict → E5, instObj → EJ
open PySem.W.Fast renaming te14364793385576792824 → Dg, te14289696077712309145 → Dh, te11892475500146522536 → Di, te10274390034422433532 → Dj, te10156331382660048174 → Dk, te6613529449190102663 → Dl
namespace Ht
open PySem PySem.W PyProof.Rows
noncomputable def nZ (ok:Thread->Bool) (st:SharedT->Thread->Option (SharedT×Thread)) (n:Nat):SharedT->Thread->Option SharedT:=
 Nat.rec (motive:=fun _=>SharedT->Thread->Option SharedT) (fun _ _=>none) (fun _ ih s t=>
  Bool.rec (motive:=fun _=>Option SharedT)
   (Bool.rec (motive:=fun _=>Option SharedT) none (Option.rec (motive:=fun _=>Option SharedT) none (fun r=>Prod.rec (motive:=fun _=>Option SharedT) (fun s' t'=>ih s' t') r) (st s t)) (ok t))
   (some s) (through t)) n
theorem pK {tb:String->Option Builtin} {p:Program} {w:World} {m:Nat} {ann:GS}:∀{n:Nat} {s s':SharedT} {t:Thread},nZ (stepOk m ann) (stepT (denote tb) p w) n s t=some s'->topRun tb p w m ann n s.abs t=some s'.abs
 |0,_,_,_,h=>by cases h
 |n+1,s,s',t,h=>by
  unfold topRun;have h':Bool.rec (motive:=fun _=>Option SharedT)
   (Bool.rec (motive:=fun _=>Option SharedT) none (Option.rec (motive:=fun _=>Option SharedT) none (fun r=>Prod.rec (motive:=fun _=>Option SharedT) (fun s' t'=>nZ (stepOk m ann) (stepT (denote tb) p w) n s' t') r) (stepT (denote tb) p w s t)) (stepOk m ann t))
   (some s) (through t)=some s':=h
  cases ht:through t with
  |true=>rw[ht] at h';cases h';rfl
  |false=>
   rw[ht] at h';cases hk:stepOk m ann t with
   |false=>rw[hk] at h';cases h'
   |true=>
    rw[hk] at h';cases hs:stepT (denote tb) p w s t with
    |none=>rw[hs] at h';cases h'
    |some r=>
     obtain ⟨s₂,t₂⟩:=r;rw[hs] at h';dsimp only;rw[stepT_spec hs];exact pK h'
noncomputable def grow (l:List Obj):Nat->BT->Option BT:=
 List.rec (motive:=fun _=>Nat->BT->Option BT) (fun _ t=>some t) (fun o _ ih n t=>
  Bool.rec (motive:=fun _=>Option BT) none (ih (n+1) (t.ins n o)) ((t.ins n o).get n).isSome) l
theorem pL {life:Life}:∀{l:List Obj} {n:Nat} {t t':BT},grow l n t=some t'->absHeap t' (n+l.length) life=⟨(absHeap t n life).objs++l.toArray,life⟩
 | [],n,t,t',h=>by
  cases h;simp[absHeap]
 |o::l,n,t,t',h=>by
  have h':Bool.rec (motive:=fun _=>Option BT) none (grow l (n+1) (t.ins n o)) ((t.ins n o).get n).isSome=some t':=h
  cases e:((t.ins n o).get n).isSome with
  |false=>rw[e] at h';cases h'
  |true=>
   rw[e] at h';have z:=pL (life:=life) h';rw[absHeap_ins e] at z;rw[show n+(o::l).length=n+1+l.length by rw[DD];omega,z]
   simp[Heap.push]
noncomputable def treeOf (s:Shared):Option SharedT:=
 Option.rec (motive:=fun _=>Option SharedT) none (fun t=>some ⟨t,s.heap.objs.size,s.heap.life,s.gens,s.drawn,s.toks,s.os⟩) (grow s.heap.objs.toList 0 .nil)
theorem n8 {s:Shared} {s':SharedT} (h:treeOf s=some s'):s'.abs=s:=by
 have h':Option.rec (motive:=fun _=>Option SharedT) none (fun t=>some ⟨t,s.heap.objs.size,s.heap.life,s.gens,s.drawn,s.toks,s.os⟩) (grow s.heap.objs.toList 0 .nil)=some s':=h
 cases e:grow s.heap.objs.toList 0 .nil with
 |none=>rw[e] at h';cases h'
 |some t=>
  rw[e] at h';cases h';have z:=pL (life:=s.heap.life) e;obtain ⟨⟨objs,life⟩,gens,drawn,toks,os⟩:=s;simp only[SharedT.abs];have z':absHeap t objs.size life=⟨objs,life⟩:=by
   simpa [absHeap,BT.list] using z
  rw[z']
noncomputable def rR (ok:Nat->GS->Thread->Bool) (st:SharedT->Thread->Option (SharedT×Thread)) (p:Program) (N:Nat) (s₀:Shared):Option Shared:=
 Bool.rec (motive:=fun _=>Option Shared) none
  ((treeOf s₀).bind fun t₀=>(nZ (ok s₀.heap.objs.size (s₀.heap.nsMap mainGlobals "__annotations__")) st N t₀ (topStub p)).bind fun t₁=>
   (fun s₁=>Bool.rec (motive:=fun _=>Option Shared) none (some s₁) (staticsOk (importedModules p.main.body) s₀.heap s₁.heap&&namesBound p s₁.heap&&gensDone s₁&&laidKept s₀.heap s₁.heap)) t₁.abs)
  (s₀.heap.isNs mainGlobals&&s₀.gens.size==0)
theorem rS {tb:String->Option Builtin} {p:Program} {w:World} {N:Nat} {s₀ s:Shared} (h:rR stepOk (stepT (denote tb) p w) p N s₀=some s):topFrom tb p w N s₀=some s:=by
 unfold rR at h;unfold topFrom;cases e:s₀.heap.isNs mainGlobals&&s₀.gens.size==0 with
 |false=>rw[e] at h;cases h
 |true=>
  rw[e] at h;obtain ⟨t₀,e0,h⟩:=Dn.mp h;obtain ⟨t₁,e1,h⟩:=Dn.mp h;have r:=pK e1;rw[n8 e0] at r;dsimp only;rw[r];dsimp only at h;show (match staticsOk (importedModules p.main.body) s₀.heap t₁.abs.heap&&namesBound p t₁.abs.heap&&gensDone t₁.abs&&laidKept s₀.heap t₁.abs.heap with|true=>some t₁.abs|false=>none)=some s
  cases q:staticsOk (importedModules p.main.body) s₀.heap t₁.abs.heap&&namesBound p t₁.abs.heap&&gensDone t₁.abs&&laidKept s₀.heap t₁.abs.heap with
  |false=>rw[q] at h;cases h
  |true=>rw[q] at h;exact h
noncomputable def jJ (ok:Nat->GS->Thread->Bool) (st:SharedT->Thread->Option (SharedT×Thread)) (p:Program) (N:Nat) (s₀:Shared):Option Shared:=
 (treeOf s₀).bind fun t₀=>(nZ (ok s₀.heap.objs.size (s₀.heap.nsMap mainGlobals "__annotations__")) st N t₀ (topStub p)).map fun t₁=>t₁.abs
def qI (p:Program) (s₀ s₁:Shared):Bool:=(s₀.heap.isNs mainGlobals&&s₀.gens.size==0)&&(staticsOk (importedModules p.main.body) s₀.heap s₁.heap&&namesBound p s₁.heap&&gensDone s₁&&laidKept s₀.heap s₁.heap)
theorem rT {tb:String->Option Builtin} {p:Program} {w:World} {N:Nat} {s₀ s:Shared} (h:jJ stepOk (stepT (denote tb) p w) p N s₀=some s) (c:qI p s₀ s=true):topFrom tb p w N s₀=some s:=by
 apply rS;unfold jJ at h;obtain ⟨t₀,e0,h⟩:=Dn.mp h;obtain ⟨t₁,e1,rfl⟩:=DV.mp h;unfold qI at c;rw[Bool.and_eq_true] at c;unfold rR;rw[c.1];show ((treeOf s₀).bind fun t₀=>_)=_
 rw[e0];show ((nZ _ _ N t₀ (topStub p)).bind fun t₁=>_)=_
 rw[e1];show (Bool.rec (motive:=fun _=>Option Shared) none (some t₁.abs) (staticsOk (importedModules p.main.body) s₀.heap t₁.abs.heap&&namesBound p t₁.abs.heap&&gensDone t₁.abs&&laidKept s₀.heap t₁.abs.heap):Option Shared)=_
 rw[c.2]
abbrev Look (p:Program) (N:Nat) {α:Type} (f:Shared->Shared->α) (v:World->α):Prop:=∀w:World,((importEnds treeTable (opening p) w N (start (opening p)).1 (start (opening p)).2).bind fun s=>(fenceModules? p s).bind fun s₀=>(jJ stepOk (stepT (denote treeTable) p w) p N s₀).map fun s₁=>f s₀ s₁)=some (v w)
theorem Look.at_ {p:Program} {N:Nat} {α:Type} {f:Shared->Shared->α} {v:World->α} (h:Look p N f v) (w:World) {s s₀ s₁:Shared} (a:importEnds treeTable (opening p) w N (start (opening p)).1 (start (opening p)).2=some s) (b:fenceModules? p s=some s₀) (c:jJ stepOk (stepT (denote treeTable) p w) p N s₀=some s₁):f s₀ s₁=v w:=by
 have:=h w;rw[a] at this;replace this:((fenceModules? p s).bind fun s₀=>(jJ stepOk (stepT (denote treeTable) p w) p N s₀).map fun s₁=>f s₀ s₁)=some (v w):=this
 rw[b] at this;replace this:((jJ stepOk (stepT (denote treeTable) p w) p N s₀).map fun s₁=>f s₀ s₁)=some (v w):=this
 rw[c] at this;injection this
theorem rV {p q:Program} {loose:GO} {Xt:Shared->Bool} {α:Type} {Yf:Shared->α} {Ya:World->α} {N:Nat} {g0:Bool} (hc:Look p N (fun s₀ s₁=>qI p s₀ s₁) fun _=>true)
  (h1:Look p N (fun _ s=>openSeen q loose (importedModules p.main.body) Xt g0 s) fun _=>openGood q loose) (h2:Look p N (fun _ s=>Yf s) Ya):LeftO p q loose Xt Yf Ya N g0:=fun w=>by
 obtain ⟨s,a,e⟩:=Dn.mp (hc w);obtain ⟨s₀,b,e⟩:=Dn.mp e;obtain ⟨s₁,c,e⟩:=DV.mp e;have z:openEnds treeTable p w N=some s₁:=by
  unfold openEnds fencedOpening;rw[a];show (fenceModules? p s).bind _=_;rw[b];exact rT c e
 rw[z];show some (_,_)=some (_,_);rw[h1.at_ w a b c,h2.at_ w a b c]
def dL (p:Program) (N:Nat) {α:Type} (f:Shared->Shared->α) (v:World->α) (w:World):Prop:=((importEnds treeTable (opening p) w N (start (opening p)).1 (start (opening p)).2).bind fun s=>(fenceModules? p s).bind fun s₀=>(jJ stepOk (stepT (denote treeTable) p w) p N s₀).map fun s₁=>f s₀ s₁)=some (v w)
noncomputable def pM (t:SharedT) (a:Addr):Option Obj:=Bool.rec (motive:=fun _=>Option Obj) none ((fun o=>Bool.rec (motive:=fun _=>Option Obj) (some o) none (Obj.isFreed o)) ((t.tree.get a).getD default)) (Nat.blt a t.n)
theorem qJ (t:SharedT) (a:Addr):pM t a=t.abs.heap.get? a:=by
 unfold pM SharedT.abs Heap.get?;dsimp only;rw[absHeap_at];cases h:Nat.blt a t.n with
 |false=>
  rw[if_neg fun z=>by rw[Nat.blt_eq.mpr z] at h;cases h]
 |true=>
  rw[if_pos (Nat.blt_eq.mp h)];obtain ⟨cls,dict,data,slots⟩:=(t.tree.get a).getD default;cases data<;>rfl
theorem qK {p:Program} {N:Nat} {as:GP} {v:World->List (Option Obj)}
  (h:∀w:World,((importEnds treeTable (opening p) w N (start (opening p)).1 (start (opening p)).2).bind fun s=>(fenceModules? p s).bind fun s₀=>(treeOf s₀).bind fun t₀=>(nZ (stepOk s₀.heap.objs.size (s₀.heap.nsMap mainGlobals "__annotations__")) (stepT (denote treeTable) p w) N t₀ (topStub p)).map fun t₁=>as.map (pM t₁))=some (v w)):
  Look p N (fun _ s=>as.map s.heap.get?) v:=fun w=>by
 obtain ⟨s,a,e⟩:=Dn.mp (h w);obtain ⟨s₀,b,e⟩:=Dn.mp e;obtain ⟨t₀,c,e⟩:=Dn.mp e;obtain ⟨t₁,d,e⟩:=DV.mp e;rw[a];show (fenceModules? p s).bind _=_;rw[b];show (jJ stepOk (stepT (denote treeTable) p w) p N s₀).map _=_;unfold jJ;rw[c];show ((nZ _ _ N t₀ (topStub p)).map fun t₁=>t₁.abs).map _=_
 rw[d];show some (as.map t₁.abs.heap.get?)=_;rw[<-e,show (as.map (pM t₁))=as.map t₁.abs.heap.get? from EZ fun a _=>qJ t₁ a]
theorem wI {p:Program} {N:Nat} {α β γ δ:Type} {f:Shared->Shared->α×β×γ×δ} {v:World->α×β×γ×δ} (h1:Look p N (fun a b=>((f a b).1,(f a b).2.1,(f a b).2.2.1)) fun w=>((v w).1,(v w).2.1,(v w).2.2.1)) (h2:Look p N (fun a b=>(f a b).2.2.2) fun w=>(v w).2.2.2):Look p N f v:=fun w=>by
 obtain ⟨s,a,e⟩:=Dn.mp (h1 w);obtain ⟨s₀,b,e⟩:=Dn.mp e;obtain ⟨s₁,c,e⟩:=DV.mp e;have e1:=h1.at_ w a b c;have e2:=h2.at_ w a b c;rw[a];show (fenceModules? p s).bind _=_;rw[b];show (jJ stepOk (stepT (denote treeTable) p w) p N s₀).map _=_;rw[c];obtain ⟨f1,f2⟩:=Prod.mk.inj e1;obtain ⟨f2,f3⟩:=Prod.mk.inj f2;have f4:f s₀ s₁=v w:=Prod.ext f1 (Prod.ext f2 (Prod.ext f3 e2));exact congrArg some f4
end Ht
set_option Elab.async false
set_option linter.all false
set_option maxRecDepth 100000
namespace Lk38
open PySem PySem.W PyProof.Rows
def qv:Program:={PySem.Challenge.pw_stovework_k38_whole_read_again with main:={PySem.Challenge.pw_stovework_k38_whole_read_again.main with body:=([0,2,3,4,5,6,7,8,10,11,12,14,15,18,19,21,22,23,24,26,27,28,30,31,33,34,35,36,38,39,40,41,43,44,45,46,47,48,50,51,52,53,54,55,56,57,58,59,60,61,62,63,64,65,66,67,68,69,70,71,73,74,75,76,77,78,79,80,81,82,83,84,85,86,87,88,89,90,91,92]:List Nat).filterMap fun i=>PySem.Challenge.pw_stovework_k38_whole_read_again.main.body[i]?}}
def lo:GO:= ["fraction","BOUNDS","Warm","FORMS"]
theorem head {α:Type} {Yf:Shared->α} {Ya:World->α} {YP:World->Heap->Prop} {d:DefRec} {kwd:List (Str×Expr)} (left:LeftO PySem.Challenge.pw_stovework_k38_whole_read_again qv lo (fun s=>xlAt qv [] s&&recOk [] s) Yf Ya 10892)
  (hY:∀w s,Yf s=Ya w->YP w s.heap) (hYk:∀w h h',YP w h->(∀b o,h.get? b=some o->h'.get? b=some o)->YP w h') (hd:defOf qv PySem.Challenge.rw_stovework_k38_whole_read_again.row.name=some (d,kwd))
  (hp:PySem.Challenge.rw_stovework_k38_whole_read_again.row.prog.theDef PySem.Challenge.rw_stovework_k38_whole_read_again.row.name=some (d.params,d.body,d.scope)) (hk:kwWritten? d.params.kwonlyargs d.params.kw_defaults=some kwd)
  (said:PySem.Challenge.rw_stovework_k38_whole_read_again.row.wellSaid=true) (hw:PySem.Challenge.rw_stovework_k38_whole_read_again.row.toRowW.promised) (call:WalkO qv lo (XL qv []) YP PySem.Challenge.rw_stovework_k38_whole_read_again.row.toRowW d kwd fun f vs=>PySem.call f vs):PySem.Challenge.rw_stovework_k38_whole_read_again.row.Holds:=
 holds_open left hY hYk (fun s e=>xl_of s (Bool.and_eq_true_iff.mp e).1) XL.keeps hd hp hk (fun s e=>recFacts_of (Bool.and_eq_true_iff.mp e).2) rfl said (by decide+kernel) ⟨rfl,rfl,rfl,rfl,rfl,by decide+kernel⟩ hw call
set_option maxHeartbeats 0 in
theorem CK:∀w:World,Ht.dL PySem.Challenge.pw_stovework_k38_whole_read_again 10892 (fun s₀ s₁=>Ht.qI PySem.Challenge.pw_stovework_k38_whole_read_again s₀ s₁) (fun _=>true) (w.withFollow "special-get-raises" false):=by
 intro w;unfold Ht.dL;rw[Dj,Dh,Dl,Dk,Di,Dg]
 kernel_rfl
set_option maxHeartbeats 0 in
theorem CL:∀w:World,Ht.dL PySem.Challenge.pw_stovework_k38_whole_read_again 10892 (fun s₀ s₁=>Ht.qI PySem.Challenge.pw_stovework_k38_whole_read_again s₀ s₁) (fun _=>true) (w.withFollow "special-get-raises" true):=by
 intro w;unfold Ht.dL;rw[Dj,Dh,Dl,Dk,Di,Dg]
 kernel_rfl
theorem la:Ht.Look PySem.Challenge.pw_stovework_k38_whole_read_again 10892 (fun s₀ s₁=>Ht.qI PySem.Challenge.pw_stovework_k38_whole_read_again s₀ s₁) (fun _=>true):=PySem.W.byRow2 "special-get-raises" CK CL
set_option maxHeartbeats 0 in
theorem BC:∀w:World,Ht.dL PySem.Challenge.pw_stovework_k38_whole_read_again 10892 (fun _ s=>((openSeen qv lo (importedModules PySem.Challenge.pw_stovework_k38_whole_read_again.main.body) (fun s=>xlAt qv [] s&&recOk [] s) true s).1,(openSeen qv lo (importedModules PySem.Challenge.pw_stovework_k38_whole_read_again.main.body) (fun s=>xlAt qv [] s&&recOk [] s) true s).2.1,(openSeen qv lo (importedModules PySem.Challenge.pw_stovework_k38_whole_read_again.main.body) (fun s=>xlAt qv [] s&&recOk [] s) true s).2.2.1)) (fun _=>((openGood qv lo).1,(openGood qv lo).2.1,(openGood qv lo).2.2.1)) (w.withFollow "special-get-raises" false):=by
 intro w;unfold Ht.dL;dsimp only[openSeen,openGood];rw[Dj,Dh,Dl,Dk,Di,Dg]
 kernel_rfl
set_option maxHeartbeats 0 in
theorem BD:∀w:World,Ht.dL PySem.Challenge.pw_stovework_k38_whole_read_again 10892 (fun _ s=>((openSeen qv lo (importedModules PySem.Challenge.pw_stovework_k38_whole_read_again.main.body) (fun s=>xlAt qv [] s&&recOk [] s) true s).1,(openSeen qv lo (importedModules PySem.Challenge.pw_stovework_k38_whole_read_again.main.body) (fun s=>xlAt qv [] s&&recOk [] s) true s).2.1,(openSeen qv lo (importedModules PySem.Challenge.pw_stovework_k38_whole_read_again.main.body) (fun s=>xlAt qv [] s&&recOk [] s) true s).2.2.1)) (fun _=>((openGood qv lo).1,(openGood qv lo).2.1,(openGood qv lo).2.2.1)) (w.withFollow "special-get-raises" true):=by
 intro w;unfold Ht.dL;dsimp only[openSeen,openGood];rw[Dj,Dh,Dl,Dk,Di,Dg]
 kernel_rfl
theorem CM:Ht.Look PySem.Challenge.pw_stovework_k38_whole_read_again 10892 (fun _ s=>((openSeen qv lo (importedModules PySem.Challenge.pw_stovework_k38_whole_read_again.main.body) (fun s=>xlAt qv [] s&&recOk [] s) true s).1,(openSeen qv lo (importedModules PySem.Challenge.pw_stovework_k38_whole_read_again.main.body) (fun s=>xlAt qv [] s&&recOk [] s) true s).2.1,(openSeen qv lo (importedModules PySem.Challenge.pw_stovework_k38_whole_read_again.main.body) (fun s=>xlAt qv [] s&&recOk [] s) true s).2.2.1)) (fun _=>((openGood qv lo).1,(openGood qv lo).2.1,(openGood qv lo).2.2.1)):=PySem.W.byRow2 "special-get-raises" BC BD
set_option maxHeartbeats 0 in
theorem BE:∀w:World,Ht.dL PySem.Challenge.pw_stovework_k38_whole_read_again 10892 (fun _ s=>(openSeen qv lo (importedModules PySem.Challenge.pw_stovework_k38_whole_read_again.main.body) (fun s=>xlAt qv [] s&&recOk [] s) true s).2.2.2) (fun _=>(openGood qv lo).2.2.2) (w.withFollow "special-get-raises" false):=by
 intro w;unfold Ht.dL;dsimp only[openSeen,openGood];rw[Dj,Dh,Dl,Dk,Di,Dg]
 kernel_rfl
set_option maxHeartbeats 0 in
theorem BF:∀w:World,Ht.dL PySem.Challenge.pw_stovework_k38_whole_read_again 10892 (fun _ s=>(openSeen qv lo (importedModules PySem.Challenge.pw_stovework_k38_whole_read_again.main.body) (fun s=>xlAt qv [] s&&recOk [] s) true s).2.2.2) (fun _=>(openGood qv lo).2.2.2) (w.withFollow "special-get-raises" true):=by
 intro w;unfold Ht.dL;dsimp only[openSeen,openGood];rw[Dj,Dh,Dl,Dk,Di,Dg]
 kernel_rfl
theorem CN:Ht.Look PySem.Challenge.pw_stovework_k38_whole_read_again 10892 (fun _ s=>(openSeen qv lo (importedModules PySem.Challenge.pw_stovework_k38_whole_read_again.main.body) (fun s=>xlAt qv [] s&&recOk [] s) true s).2.2.2) (fun _=>(openGood qv lo).2.2.2):=PySem.W.byRow2 "special-get-raises" BE BF
theorem lb:Ht.Look PySem.Challenge.pw_stovework_k38_whole_read_again 10892 (fun _ s=>(openSeen qv lo (importedModules PySem.Challenge.pw_stovework_k38_whole_read_again.main.body) (fun s=>xlAt qv [] s&&recOk [] s) true s)) (fun _=>(openGood qv lo)):=Ht.wI CM CN
end Lk38
local macro_rules| `(tactic|o_head $H)=> `(tactic|(refine Lk38.head (Yf:=PySem.W.Hook.obs $H) (Ya:=PySem.W.Hook.val $H) (YP:=PySem.W.Hook.says $H) ?hl (PySem.W.Hook.of $H) (PySem.W.Hook.keeps $H) (by rfl) (by rfl) (by rfl) (by assumption) ?hw ?hc;(case hl=>(refine Ht.rV Lk38.la Lk38.lb ?c;(case c=>(refine Ht.qK ?c2;(case c2=>(refine PySem.W.byRow2 "special-get-raises" (fun w=>?_) (fun w=>?_)<;>(rw[Dj,Dh,Dl,Dk,Di,Dg];kernel_rfl)))))))))
namespace PySem.W.Fast
def tw2933003787402334005:PySem.Program:=PySem.Challenge.pw_stovework_k38_whole_read_again
theorem te2933003787402334005:PySem.Challenge.pw_stovework_k38_whole_read_again=tw2933003787402334005:=rfl
end PySem.W.Fast
set_option maxHeartbeats 0 in
open_top Lk38.hd for PySem.Challenge.rw_stovework_k38_whole_read_again
namespace L2
open PySem PySem.Spec PyProof.Rows
abbrev Key:=Sum Int Str
def jS:Key->Value->Bool
 | .inl k,v=>Value.isInt k v
 | .inr x,v=>Value.isStrOf x v
def BG (w:World):Key->Int
 | .inl k=>hashInt k
 | .inr x=>hashStr w x
theorem b4:∀{k:Key} {v:Value},jS k v=true->(∃i t,k=Sum.inl i/\v=Value.int i t)∨(∃x t,k=Sum.inr x/\v=Value.str x t)
 | .inl i,v,h=>by
  obtain ⟨t,e⟩:=Value.isInt_shape (k:=i) (v:=v) h;exact .inl ⟨i,t,rfl,e⟩
 | .inr x,v,h=>by
  obtain ⟨t,e⟩:=Value.isStrOf_shape (x:=x) (v:=v) h;exact .inr ⟨x,t,rfl,e⟩
theorem qL (i:Int) (t:Tok):jS (.inl i) (.int i t)=true:=by simp[jS,Value.isInt]
theorem qM (x:Str) (t:Tok):jS (.inr x) (.str x t)=true:=by simp[jS,Value.isStrOf]
theorem wJ (a b:Int):decide ((Sum.inl a:Key)=Sum.inl b)=(a==b):=by
 by_cases e:a=b
 ·subst e;simp
 ·have h:¬(Sum.inl a:Key)=Sum.inl b:=fun q=>e (Sum.inl.inj q)
  rw[decide_eq_false h];exact (beq_eq_false_iff_ne.mpr e).symm
theorem wK (a b:Str):decide ((Sum.inr a:Key)=Sum.inr b)=decide (a=b):=by
 by_cases e:a=b
 ·subst e;simp
 ·have h:¬(Sum.inr a:Key)=Sum.inr b:=fun q=>e (Sum.inr.inj q)
  rw[decide_eq_false h,decide_eq_false e]
theorem wL (a:Int) (b:Str):decide ((Sum.inl a:Key)=Sum.inr b)=false:=decide_eq_false (fun q=>nomatch q)
theorem wM (a:Str) (b:Int):decide ((Sum.inr a:Key)=Sum.inl b)=false:=decide_eq_false (fun q=>nomatch q)
def dP (prog:Program) (w:World):PySem.KeyKind prog w Key where
 is:=jS
 hash:=BG w
 inj:=fun v a b ha hb=>by
  rcases b4 ha with ⟨i,t,rfl,rfl⟩|⟨x,t,rfl,rfl⟩
  ·rcases b4 hb with ⟨j,u,rfl,e⟩|⟨y,u,rfl,e⟩
   ·injection e with e1 _;rw[e1]
   ·exact nomatch e
  ·rcases b4 hb with ⟨j,u,rfl,e⟩|⟨y,u,rfl,e⟩
   ·exact nomatch e
   ·injection e with e1 _;rw[e1]
 byValue:=fun k v h=>by
  rcases b4 h with ⟨i,t,rfl,rfl⟩|⟨x,t,rfl,rfl⟩<;>rfl
 pyHash:=fun hv h=>by
  rcases b4 hv with ⟨i,t,rfl,rfl⟩|⟨x,t,rfl,rfl⟩
  ·exact wpAny_pyHash_int h
  ·exact wpAny_pyHash_str h
 eqBool:=fun hu hv h=>by
  rcases b4 hu with ⟨i,t,rfl,rfl⟩|⟨x,t,rfl,rfl⟩
  ·rcases b4 hv with ⟨j,u,rfl,rfl⟩|⟨y,u,rfl,rfl⟩
   ·rw[wJ] at h;exact wpAny_eqBool_int h
   ·rw[wL] at h;exact SeqAt.EqAt.int_str i t y u _ _ _ _ h
  ·rcases b4 hv with ⟨j,u,rfl,rfl⟩|⟨y,u,rfl,rfl⟩
   ·rw[wM] at h;exact SeqAt.EqAt.str_int x t j u _ _ _ _ h
   ·rw[wK] at h;exact wpAny_eqBool_str h
 «strs» :=fun k x t v h=>by
  rcases b4 h with ⟨i,u,rfl,e⟩|⟨y,u,rfl,e⟩
  ·exact nomatch e
  ·injection e with e1 _
   subst e1;cases v<;>rfl
theorem me (prog:Program) (w:World) (i:Int) (t:Tok):(dP prog w).is (.inl i) (.int i t)=true:=qL i t
theorem mf (prog:Program) (w:World) (x:Str) (t:Tok):(dP prog w).is (.inr x) (.str x t)=true:=qM x t
inductive V where
 |non|bl (b:Bool)|int (i:Int)|str (x:Str)|byt (b:Array UInt8)|flt (b:UInt64)|ref (a:Addr)|ty (n:String)
 deriving DecidableEq
def RelV:V->Value->Prop
 | .non,u=>u=Value.none
 | .bl b,u=>u=Value.bool b
 | .int i,u=>∃t,u=Value.int i t
 | .str x,u=>∃t,u=Value.str x t
 | .byt b,u=>∃t,u=Value.bytes b t
 | .flt b,u=>∃t,u=Value.float b t
 | .ref a,u=>u=Value.ref a
 | .ty n,u=>u=Value.type n
abbrev bn:List V->GQ->Prop:=Paired RelV
theorem bn.length {xs:List V} {us:GQ} (r:bn xs us):xs.length=us.length:=Paired.length r
theorem bn.get:∀{xs:List V} {us:GQ} {i:Nat} {x:V},bn xs us->xs[i]?=some x->∃u,us[i]?=some u/\RelV x u
 |_,_,_,_,.nil,e=>by simp at e
 |_,_,0,_,.cons r _,e=>by simp at e;subst e;exact ⟨_,rfl,r⟩
 |_,_,i+1,x,.cons _ t,e=>by
  obtain ⟨u,h1,h2⟩:=bn.get (i:=i) (x:=x) t (by simpa using e)
  exact ⟨u,by simpa using h1,h2⟩
theorem bn.set {x:V} {u:Value} (r:RelV x u):∀{xs:List V} {us:GQ} (i:Nat),bn xs us->bn (xs.set i x) (us.set i u)
 |_,_,_,.nil=> .nil
 |_,_,0,.cons _ t=> .cons r t
 |_,_,i+1,.cons q t=> .cons q (bn.set r i t)
theorem bn.append:∀{xs ys:List V} {us ws:GQ},bn xs us->bn ys ws->bn (xs++ys) (us++ws)
 |_,_,_,_,.nil,s=>s
 |_,_,_,_,.cons r t,s=> .cons r (bn.append t s)
theorem bn.take:∀{xs:List V} {us:GQ} (n:Nat),bn xs us->bn (xs.take n) (us.take n)
 |_,_,0,_=> .nil
 |_,_,_+1,.nil=> .nil
 |_,_,n+1,.cons r t=> .cons r (bn.take n t)
theorem bn.drop:∀{xs:List V} {us:GQ} (n:Nat),bn xs us->bn (xs.drop n) (us.drop n)
 |_,_,0,r=>r
 |_,_,_+1,.nil=> .nil
 |_,_,n+1,.cons _ t=>bn.drop n t
def jK:Option V->GS->Prop
 |some v,some u=>RelV v u
 |none,none=>True
 |_,_=>False
def KV {κ:Type}:List (κ×V)->List (κ×Value)->Prop:=Paired fun (p:κ×V) (q:κ×Value)=>p.1=q.1/\RelV p.2 q.2
def kV:Key->V
 | .inl i=> .int i
 | .inr x=> .str x
inductive HO where
  |lst (xs:List V)
  |tup (xs:List V)
  |dK (kvs:List (Key×V))|dT (kvs:List (List Key×V))
  |set (S:Int->Bool) (n:Nat)
  |ins (C dx:Addr) (fs:List (Str×V))
  |own (x:Addr)
  |xd (fs:List (Str×V))
  |met (f x:Addr)
  |rng (lo hi:Int)
  |frz (o:Obj) (u:HO)
  |tbl (ps:Array Value)
  |ext (φ:Heap->Prop)
abbrev Hp:=Addr->Option HO
def aO (H:Hp) (a:Addr) (o:HO):Hp:=fun b=>if b=a then some o else H b
theorem af {H:Hp} {a:Addr} {o:HO}:aO H a o a=some o:=by unfold aO;rw[if_pos rfl]
theorem aB {H:Hp} {a b:Addr} {o:HO} (h:b≠a):aO H a o b=H b:=by unfold aO;rw[if_neg h]
theorem aQ {H:Hp} {a b:Addr} {o:HO} (h:H a=some o) (h':H b=none):a≠b:=by
 intro e;subst e;rw[h] at h';cases h'
section
variable (P:Program) (w:World)
def cn (H:Hp) (h:Heap) (a:Addr):HO->Prop
 | .lst xs=>xs.length<=sizeLine/\∃(its:GQ) (n:Nat),bn xs its/\h.get? a=some {cls:= .type "list",data:= .seq its.toArray n}
 | .tup xs=>xs.length<=sizeLine/\∃its:GQ,bn xs its/\IsTup h a its.toArray
 | .dK kvs=>kvs.length<=sizeLine/\(a==sysModules)=false/\∃vs,KV kvs vs/\h.DictOf (dP P w) a vs
 | .dT kvs=>kvs.length<=sizeLine/\(a==sysModules)=false/\∃xs:List (List Key×Addr×Value),
   Paired (fun (p:List Key×V) (q:List Key×Addr×Value)=>p.1=q.1/\H q.2.1=some (.tup (p.1.map kV))/\RelV p.2 q.2.2) kvs xs/\
   ∃o es ep,h.get? a=some o/\o.ExactDict/\o.data= .dict es ep/\es.toList=xs.map (entryOfKey (tupleKind (dP P w)))/\(xs.map (·.1)).Nodup
 | .set S n=>h.SetOf (intKind P w) a S n
 | .ins C dx fs=>H dx=some (.own a)/\fs.length<=1000/\dx≠a/\h.get? a=some (EJ C dx)/\
   ∃mA,h.Ns1 dx mA/\(∀f,jK (fs.lookup f) (mA f))/\PySem.Within mA (fs.map (·.1))
 | .own _=>∃o,h.get? a=some o
 | .xd fs=>∃mA,h.Ns1 a mA/\∀f,jK (fs.lookup f) (mA f)
 | .rng lo hi=>∃t u v,h.get? a=some {cls:= .type "range",data:= .fields #[.int lo t,.int hi u,.int 1 v]}
 | .frz o u=>h.get? a=some o/\cn H h a u
 | .tbl ps=>h.get? a=some {cls:= .none,data:= .fields ps}
 | .met f x=>h.get? a=some (PySem.W.methodObj (.ref f) (.ref x))
 | .ext φ=>φ h/\(∃o,h.get? a=some o)/\∀h1 h2:Heap,φ h1->(∀o,h1.get? a=some o->h2.get? a=some o)->φ h2
def gC (H:Hp) (h:Heap):Prop:=∀a o,H a=some o->cn P w H h a o
end
section
variable {P:Program} {w:World} {H H':Hp} {h h':Heap} {a:Addr} {o:HO}
theorem cn.lt (x:cn P w H h a o):a<h.objs.size:=by
 cases o with
 |lst xs=>obtain ⟨_,_,_,_,e⟩:=x;exact Heap.lt_size e
 |tup xs=>obtain ⟨_,_,_,p⟩:=x;exact p.lt
 |dK kvs=>obtain ⟨_,_,_,_,o,_,_,e,_⟩:=x;exact Heap.lt_size e
 |dT kvs=>obtain ⟨_,_,_,_,o,_,_,e,_⟩:=x;exact Heap.lt_size e
 |set S n=>obtain ⟨o,_,_,_,e,_⟩:=x;exact Heap.lt_size e
 |ins C dx fs=>obtain ⟨_,_,_,e,_⟩:=x;exact Heap.lt_size e
 |own y=>obtain ⟨_,e⟩:=x;exact Heap.lt_size e
 |xd fs=>obtain ⟨_,⟨_,_,_,e,_⟩,_⟩:=x;exact Heap.lt_size e
 |rng lo hi=>obtain ⟨_,_,_,e⟩:=x;exact Heap.lt_size e
 |frz ob u=>obtain ⟨e,_⟩:=x;exact Heap.lt_size e
 |tbl ps=>exact Heap.lt_size (show h.get? a=some _ from x)
 |met f y=>exact Heap.lt_size (show h.get? a=some _ from x)
 |ext φ=>obtain ⟨_,⟨_,e⟩,_⟩:=x;exact Heap.lt_size e
theorem Paired.mapP {α β:Type} {F G:α->β->Prop}:∀{l₁:List α} {l₂:List β},Paired F l₁ l₂->(∀a b,F a b->G a b)->Paired G l₁ l₂
 |_,_,.nil,_=> .nil
 |_,_,.cons r t,f=> .cons (f _ _ r) (Paired.mapP t f)
theorem cn.stay (x:cn P w H h a o) (k:∀b u,(b=a∨H b=some (.own a))->h.get? b=some u->h'.get? b=some u)
  (ho:∀b,H b=some (.own a)->H' b=some (.own a)) (ht:∀b xs,H b=some (.tup xs)->H' b=some (.tup xs)):cn P w H' h' a o:=by
 induction o with
 |lst xs=>obtain ⟨z,its,n,r,e⟩:=x;exact ⟨z,its,n,r,k _ _ (.inl rfl) e⟩
 |tup xs=>obtain ⟨z,its,r,ob,e,c⟩:=x;exact ⟨z,its,r,ob,k _ _ (.inl rfl) e,c⟩
 |dK kvs=>obtain ⟨z,y,vs,r,ob,es,ep,e,c⟩:=x;exact ⟨z,y,vs,r,ob,es,ep,k _ _ (.inl rfl) e,c⟩
 |dT kvs=>
  obtain ⟨z,y,xs,r,ob,es,ep,e,c⟩:=x;exact ⟨z,y,xs,Paired.mapP r fun p q z=>⟨z.1,ht _ _ z.2.1,z.2.2⟩,ob,es,ep,k _ _ (.inl rfl) e,c⟩
 |set S n=>obtain ⟨ob,es,ep,t,e,c⟩:=x;exact ⟨ob,es,ep,t,k _ _ (.inl rfl) e,c⟩
 |ins C dx fs=>
  obtain ⟨d,z,ne,e,mA,⟨od,es,ep,e2,c⟩,r⟩:=x;exact ⟨ho _ d,z,ne,k _ _ (.inl rfl) e,mA,⟨od,es,ep,k _ _ (.inr d) e2,c⟩,r⟩
 |own y=>obtain ⟨ob,e⟩:=x;exact ⟨ob,k _ _ (.inl rfl) e⟩
 |xd fs=>obtain ⟨mA,⟨od,es,ep,e,c⟩,r⟩:=x;exact ⟨mA,⟨od,es,ep,k _ _ (.inl rfl) e,c⟩,r⟩
 |rng lo hi=>obtain ⟨t,u,v,e⟩:=x;exact ⟨t,u,v,k _ _ (.inl rfl) e⟩
 |frz ob u ih=>obtain ⟨e,q⟩:=x;exact ⟨k _ _ (.inl rfl) e,ih q⟩
 |tbl ps=>
  have e:h.get? a=some {cls:= .none,data:= .fields ps}:=x;show h'.get? a=some {cls:= .none,data:= .fields ps};exact k a _ (.inl rfl) e
 |met f y=>
  have e:h.get? a=some (PySem.W.methodObj (.ref f) (.ref y)):=x;show h'.get? a=some (PySem.W.methodObj (.ref f) (.ref y));exact k a _ (.inl rfl) e
 |ext φ=>obtain ⟨p,⟨o,e⟩,st⟩:=x;exact ⟨st _ _ p fun o q=>k _ _ (.inl rfl) q,⟨o,k _ _ (.inl rfl) e⟩,st⟩
theorem gC.lt (x:gC P w H h) (e:H a=some o):a<h.objs.size:=(x a o e).lt
theorem gC.fresh (x:gC P w H h) (e:h.objs.size<=a):H a=none:=by
 cases q:H a with
 |none=>rfl
 |some u=>exact absurd (DT (x.lt q) e) (Nat.lt_irrefl _)
theorem gC.kept (x:gC P w H h) (k:∀b u,h.get? b=some u->h'.get? b=some u):gC P w H h':=fun a o e=>
 (x a o e).stay (fun b u _ q=>k b u q) (fun _ q=>q) fun _ _ q=>q
theorem gC.laid (x:gC P w H h) (k:∀b u,h.get? b=some u->h'.get? b=some u) (hp:h.objs.size<=a) (new:cn P w (aO H a o) h' a o):gC P w (aO H a o) h':=fun b u e=>by
 have hn:=x.fresh hp
 by_cases hb:b=a
 ·subst hb;rw[af] at e;cases e;exact new
 ·rw[aB hb] at e;exact (x b u e).stay (fun c v _ q=>k c v q) (fun c q=>by rw[aB (aQ q hn)];exact q) fun c xs q=>by rw[aB (aQ q hn)];exact q
end
def Rd (H:Hp) (a:Addr) (u:HO):Prop:=H a=some u∨∃o,H a=some (.frz o u)
theorem Rd.ok {P:Program} {w:World} {H:Hp} {h:Heap} {a:Addr} {u:HO} (r:Rd H a u) (x:gC P w H h):cn P w H h a u:=by
 rcases r with r|⟨o,r⟩
 ·exact x a u r
 ·obtain ⟨_,q⟩:=x a _ r;exact q
def Bq:Option HO->Prop
 |some (.lst _)=>True
 |some (.dK _)=>True
 |some (.dT _)=>True
 |some (.set _ _)=>True
 |some (.ins _ _ _)=>True
 |some (.ext _)=>True
 |_=>False
section
variable {P:Program} {w:World} {H:Hp} {h h':Heap} {x e:Addr} {o':HO}
theorem gC.write (ok:gC P w H h) (mu:Bq (H x)) (he:e=x∨H e=some (.own x)) (k:∀b u,b≠e->h.get? b=some u->h'.get? b=some u) (heo:∃u,h'.get? e=some u)
  (new:cn P w (aO H x o') h' x o'):gC P w (aO H x o') h':=fun b u q=>by
 have nown:∀c y,H c=some (.own y)->c≠x:=fun c y r z=>by subst z;rw[r] at mu;exact mu
 have ntup:∀c xs,H c=some (.tup xs)->c≠x:=fun c xs r z=>by subst z;rw[r] at mu;exact mu
 by_cases hb:b=x
 ·subst hb;rw[af] at q;cases q;exact new
 ·rw[aB hb] at q
  by_cases hbe:b=e
  ·have q':H b=some (.own x):=by
    rcases he with z|z
    ·exact absurd (hbe.trans z) hb
    ·rw[hbe];exact z
   rw[q] at q';cases q';obtain ⟨v,hv⟩:=heo;exact ⟨v,by rw[hbe];exact hv⟩
  ·refine (ok b u q).stay (fun c v hc r=>k c v ?_ r) (fun c r=>by rw[aB (nown c b r)];exact r) fun c xs r=>by rw[aB (ntup c xs r)];exact r
   rcases hc with rfl|hc
   ·exact hbe
   ·rintro rfl;rcases he with z|z
    ·exact nown c b hc z
    ·rw[hc] at z;cases z;exact hb rfl
end
structure Un (fs ex:GP) (H H':Hp) (h h':Heap):Prop where
 keep:∀b o,h.get? b=some o->H b=none->b∉fs->b∉ex->h'.get? b=some o
 slot:∀b o,h.get? b=some o->H b=none->b∈fs->b∉ex->∃sl,h'.get? b=some {o with slots:=sl}
 free:∀b o,h.get? b=some o->H b=none->b∉ex->H' b=none
 there:∀b o,h.get? b=some o->b∉ex->∃o',h'.get? b=some o'
 tups:∀b xs,H b=some (.tup xs)->H' b=some (.tup xs)
 frzs:∀b o u,H b=some (.frz o u)->H' b=some (.frz o u)
 tbls:∀b ps,H b=some (.tbl ps)->∃more,H' b=some (.tbl (ps++more))
section
variable {fs fs' ex ex':GP} {H H1 H2:Hp} {h h1 h2 h':Heap} {a x e:Addr} {o:HO}
theorem Un.any (u:Un fs ex H H1 h h1) {b:Addr} {ob:Obj} (q:h.get? b=some ob) (n:H b=none) (hx:b∉ex):∃sl,h1.get? b=some {ob with slots:=sl}:=by
 by_cases hb:b∈fs
 ·exact u.slot b ob q n hb hx
 ·exact ⟨ob.slots,u.keep b ob q n hb hx⟩
theorem Un.kept (k:∀b u,h.get? b=some u->h'.get? b=some u):Un fs ex H H h h':=
 ⟨fun b ob q _ _ _=>k b ob q,fun b ob q _ _ _=>⟨ob.slots,k b ob q⟩,fun _ _ _ n _=>n,fun b ob q _=>⟨ob,k b ob q⟩,fun _ _ q=>q,fun _ _ _ q=>q,fun _ ps q=>⟨#[],by rw[q];simp⟩⟩
theorem Un.refl:Un fs ex H H h h:=Un.kept fun _ _ q=>q
theorem Un.laid (k:∀b u,h.get? b=some u->h'.get? b=some u) (hp:h.objs.size<=a) (hn:H a=none):Un fs ex H (aO H a o) h h' where
 keep:=fun b u q _ _ _=>k b u q
 slot:=fun b u q _ _ _=>⟨u.slots,k b u q⟩
 free:=fun b u q n _=>by rw[aB (DW (DT (Heap.lt_size q) hp))];exact n
 there:=fun b u q _=>⟨u,k b u q⟩
 tups:=fun b xs q=>by rw[aB (aQ q hn)];exact q
 frzs:=fun b u xs q=>by rw[aB (aQ q hn)];exact q
 tbls:=fun b ps q=>⟨#[],by rw[aB (aQ q hn),q];simp⟩
theorem Un.write (mu:Bq (H x)) (he:e=x∨H e=some (.own x)) (k:∀b u,b≠e->h.get? b=some u->h'.get? b=some u) (heo:∃u,h'.get? e=some u):Un fs ex H (aO H x o) h h':=by
 have hx:∀b,H b=none->b≠x:=fun b n z=>by subst z;rw[n] at mu;exact mu
 have hb:∀b,H b=none->b≠e:=fun b n z=>by
  subst z;rcases he with r|r
  ·exact hx b n r
  ·rw[n] at r;cases r
 have hm:∀b u,H b=some u->¬Bq (some u)->b≠x:=fun b u q nm z=>by subst z;rw[q] at mu;exact nm mu
 refine ⟨fun b u q n _ _=>k b u (hb b n) q,fun b u q n _ _=>⟨u.slots,k b u (hb b n) q⟩,fun b u q n _=>by rw[aB (hx b n)];exact n,fun b u q _=>?_,
  fun b xs q=>by rw[aB (hm b _ q fun z=>z)];exact q,fun b u xs q=>by rw[aB (hm b _ q fun z=>z)];exact q,fun b ps q=>⟨#[],by rw[aB (hm b _ q fun z=>z),q];simp⟩⟩
 by_cases hbe:b=e
 ·subst hbe;exact heo
 ·exact ⟨u,k b u hbe q⟩
end
def Br (h:Heap) (H:Hp):GP:=(EA h.objs.size).filter fun a=>(H a).isSome
def kX (h:Heap) (H:Hp):Heap:=PySem.W.hideAll h (Br h H)
theorem qN (h:Heap) (H:Hp):(kX h H).objs.size=h.objs.size:=PySem.W.hideAll_size _ _
theorem rW {h:Heap} {H:Hp} {b:Addr} {o:Obj} (e:h.get? b=some o) (n:H b=none):(kX h H).get? b=some o:=
 PySem.W.hideAll_get _ e fun hm=>by
  have q:(H b).isSome=true:=(List.mem_filter.mp hm).2;rw[n] at q;simp at q
theorem uF {h:Heap} {H:Hp} {b:Addr} {o:Obj} (e:(kX h H).get? b=some o):h.get? b=some o/\H b=none:=by
 have e':h.get? b=some o:=PySem.W.of_hideAll (Br h H) e;refine ⟨e',?_⟩;cases q:H b with
 |none=>rfl
 |some x=>
  have hm:b∈Br h H:=List.mem_filter.mpr ⟨List.mem_range.mpr (Heap.lt_size e'),by simp[q]⟩
  have z:(kX h H).get? b=none:=PySem.W.hideAll_none (Br h H) hm;rw[z] at e;cases e
structure Mod (K:D3) (mg:GL) (base:Heap):Prop where
 kin:K.In base
 glob:base.Ns mainGlobals mg
 blt:∃mb,base.Ns builtinsNs mb/\∀x:Str,x≠ "__name__" ->mb x=bootBuiltins x
 nolimit:base.NoLimit
structure Cx where
 prog:Program
 w:World
 K:D3
 mg:Str->GS
 base:Heap
 A:Around
 N:GO
 s₀:Shared
 H₀:Hp
 env:Env
 outer:List Env
 stack:List Env
 ex:GP
 fn:Str->Bool
 calm:Bool
 pn:GM
 xe:Value->Shared->Prop
def i7 (l:List Env):GP:=l.filterMap (·.frame)
abbrev Cx.fs (X:Cx):GP:=i7 X.outer
def BH (sc:Scope) (x:Str):Prop:=sc.names.lookup x=some .local∨sc.names.lookup x=some .cell∨sc.names.lookup x=some .free
def Loc (sc:Scope) (x:Str):Prop:=sc.names.lookup x=some .local∨sc.names.lookup x=some .cell
def Look (env:Env) (h:Heap) (m:GL) (x:Str) (u:Value):Prop:=
 (env.kindOf x=some .local/\m x=some u)∨((env.kindOf x=some .cell∨env.kindOf x=some .free)/\∃c,env.cells.lookup x=some c/\h.IsCell c (some u))
structure Cx.Ok (X:Cx):Prop where
 mod:Mod X.K X.mg X.base
 kind:X.env.scope.kind= .function
 glob:X.env.globals=mainGlobals
 blt:X.env.builtins=builtinsNs
 above:X.s₀.heap.objs.size<=X.env.locals
 inj:∀x y c,X.env.cells.lookup x=some c->X.env.cells.lookup y=some c->x=y
 has:∀x,(X.env.kindOf x=some .cell∨X.env.kindOf x=some .free)->∃c,X.env.cells.lookup x=some c
 cab:∀x c,X.fn x=true->X.env.cells.lookup x=some c->X.s₀.heap.objs.size<=c
 hd:X.calm=true->X.A.handled=none
 frames:X.A.frames=some X.stack
 stk:X.stack=X.outer∨(X.stack=X.env::X.outer/\X.env.frame=some X.env.locals)
 exf:∀b∈X.ex,b≠X.env.locals/\∀x c,X.env.cells.lookup x=some c->c≠b
 bs:∀b o,X.base.get? b=some o->X.s₀.heap.get? b=some o/\X.H₀ b=none
 bsz:X.base.objs.size<=X.s₀.heap.objs.size
 noex:∀b o,X.base.get? b=some o->b∉X.ex
 exfs:∀b∈X.ex,b∉X.fs
 funs:X.s₀.heap.FunFrames X.base X.outer
 frf:∀b∈X.fs,X.H₀ b=none
structure aP (X:Cx) (pins:GM) (σ:List (Option V)) (H:Hp) (s:Shared):Prop where
 ok:X.Ok
 os:s.os=X.s₀.os
 bare:AllBare s.gens
 base:Un X.fs X.ex X.H₀ H X.s₀.heap s.heap
 loc:∃m,s.heap.Ns X.env.locals m/\∀(i:Nat) (x:Str) (v:V),X.N[i]?=some x->σ[i]?=some (some v)->BH X.env.scope x->∃u,RelV v u/\Look X.env s.heap m x u
 cell:∀x c,X.env.cells.lookup x=some c->∃v,s.heap.IsCell c v
 free:H X.env.locals=none
 freeC:∀x c,X.env.cells.lookup x=some c->H c=none
 pin:∀p∈X.pn++pins,s.heap.get? p.1=some p.2/\H p.1=none/\p.1≠X.env.locals/\p.1∉X.fs/\∀v,p.2.data≠ .cell v
 hok:gC X.prog X.w H s.heap
 len:σ.length=X.N.length
section
variable {X:Cx} {pins:GM} {σ:List (Option V)} {H H':Hp} {s:Shared} {h':Heap}
theorem Cx.Ok.nofr (ok:X.Ok) {b:Addr} {o:Obj} (e:X.base.get? b=some o):b∉X.fs:=fun hb=>by
 have:=(ok.funs.mem hb).1;rw[e] at this;cases this
theorem aP.bs (I:aP X pins σ H s):∀b o,X.base.get? b=some o->s.heap.get? b=some o/\H b=none:=fun b o e=>
 ⟨I.base.keep b o (I.ok.bs b o e).1 (I.ok.bs b o e).2 (I.ok.nofr e) (I.ok.noex b o e),I.base.free b o (I.ok.bs b o e).1 (I.ok.bs b o e).2 (I.ok.noex b o e)⟩
theorem aP.bk (I:aP X pins σ H s):∀b o,X.base.get? b=some o->s.heap.get? b=some o:=fun b o e=>(I.bs b o e).1
theorem aP.mod (I:aP X pins σ H s):Mod X.K X.mg X.base:=I.ok.mod
theorem aP.kIn (I:aP X pins σ H s):X.K.In s.heap:=I.ok.mod.kin.keeps I.bk
theorem aP.lt (I:aP X pins σ H s):X.env.locals<s.heap.objs.size:=let ⟨_,hn,_⟩:=I.loc;hn.lt
theorem aP.sz (I:aP X pins σ H s):X.s₀.heap.objs.size<=s.heap.objs.size:=DU I.ok.above (Nat.le_of_lt I.lt)
theorem aP.nofs (I:aP X pins σ H s) {a:Addr} (h:s.heap.objs.size<=a):a∉X.fs:=fun hb=>by
 obtain ⟨_,o,ho,_⟩:=I.ok.funs.mem hb;exact absurd (DT (Heap.lt_size ho) (DU I.sz h)) (Nat.lt_irrefl _)
theorem aP.cne (I:aP X pins σ H s):∀x c,X.env.cells.lookup x=some c->c≠X.env.locals:=fun x c e z=>by
 obtain ⟨v,o,ho,hd⟩:=I.cell x c e;obtain ⟨m,⟨o',es,ep,ho',hd',_⟩,_⟩:=I.loc;rw[z,ho'] at ho;cases ho;rw[hd'] at hd;cases hd
theorem aP.funs (I:aP X pins σ H s):s.heap.FunFrames X.base X.outer:=by
 have all:∀(l:List Env),(∀b∈i7 l,b∈X.fs)->X.s₀.heap.FunFrames X.base l->s.heap.FunFrames X.base l:=by
  intro l
  induction l with
  |nil=>intro _ _;trivial
  |cons env r ih=>
   intro hs hl;obtain ⟨hk,⟨L,o,hf,hn,ho,hd⟩,hr⟩:=hl;have hL:L∈X.fs:=hs L (by unfold i7;rw[Ea,hf];exact Dc)
   obtain ⟨sl,e⟩:=I.base.slot L o ho (I.ok.frf L hL) hL fun z=>I.ok.exfs L z hL
   exact ⟨hk,⟨L,_,hf,hn,e,hd⟩,ih (fun b hb=>hs b (by unfold i7;rw[Ea,hf];exact D7 _ hb)) hr⟩
 exact all X.outer (fun _ hb=>hb) I.ok.funs
theorem aP.stack (I:aP X pins σ H s):s.heap.FunFrames X.base X.stack:=by
 rcases I.ok.stk with e|⟨e,hf⟩
 ·rw[e];exact I.funs
 ·rw[e];obtain ⟨m,hn,_⟩:=I.loc;refine .cons (by rw[I.ok.kind];decide) hf hn ?_ I.funs
  exact Heap.get?_none_of_le (DU I.ok.bsz I.ok.above)
theorem aP.stkSub (I:aP X pins σ H s):∀b∈i7 X.stack,b∈X.env.locals::X.fs:=fun b hb=>by
 rcases I.ok.stk with e|⟨e,hf⟩
 ·rw[e] at hb;exact D7 _ hb
 ·rw[e] at hb;unfold i7 at hb;rw[Ea,hf] at hb;exact hb
theorem aP.stkFree (I:aP X pins σ H s):∀b∈i7 X.stack,H b=none:=fun b hb=>by
 rcases D2.mp (I.stkSub b hb) with e|hb
 ·rw[e];exact I.free
 ·obtain ⟨_,o,ho,_⟩:=I.ok.funs.mem hb;exact I.base.free b o ho (I.ok.frf b hb) fun z=>I.ok.exfs b z hb
theorem aP.step {g':Array GenState} {t':Nat} {d':Drawn} {ch:GP} (I:aP X pins σ H s)
  (hch:∀b∈ch,(b∈X.ex∨X.s₀.heap.objs.size<=b)/\b≠X.env.locals/\(∀x c,X.env.cells.lookup x=some c->c≠b)/\∀p∈X.pn++pins,p.1≠b)
  (keep:∀b o,b≠X.env.locals->b∉X.fs->b∉ch->s.heap.get? b=some o->H b=none->h'.get? b=some o)
  (slot:∀b o,b≠X.env.locals->b∈X.fs->b∉ch->s.heap.get? b=some o->H b=none->∃sl,h'.get? b=some {o with slots:=sl}) (free:∀b o,b∉ch->s.heap.get? b=some o->H b=none->H' b=none)
  (there:∀b o,b∉ch->s.heap.get? b=some o->∃o',h'.get? b=some o')
  (tups:∀b xs,H b=some (.tup xs)->H' b=some (.tup xs)) (frzs:∀b o u,H b=some (.frz o u)->H' b=some (.frz o u)) (tbls:∀b ps,H b=some (.tbl ps)->∃more,H' b=some (.tbl (ps++more)))
  (ns:∀m,s.heap.Ns X.env.locals m->h'.Ns X.env.locals m) (hok:gC X.prog X.w H' h') (hg:AllBare g'):
  aP X pins σ H' {s with heap:=h',gens:=g',drawn:=d',toks:=t'}:=by
 have neL:∀b o,X.s₀.heap.get? b=some o->b≠X.env.locals:=fun b o e=>DW (DT (Heap.lt_size e) I.ok.above)
 have neC:∀b o,X.s₀.heap.get? b=some o->b∉X.ex->b∉ch:=fun b o e hx hb=>by
  rcases (hch b hb).1 with z|z
  ·exact hx z
  ·exact absurd (DT (Heap.lt_size e) z) (Nat.lt_irrefl _)
 have cellK:∀x c,X.env.cells.lookup x=some c->∀v,s.heap.IsCell c v->h'.IsCell c v:=fun x c e v ⟨o,ho,hd⟩=>by
  have nch:c∉ch:=fun z=>(hch c z).2.2.1 x c e rfl
  by_cases hc:c∈X.fs
  ·obtain ⟨sl,q⟩:=slot c o (I.cne x c e) hc nch ho (I.freeC x c e);exact ⟨_,q,hd⟩
  ·exact ⟨o,keep c o (I.cne x c e) hc nch ho (I.freeC x c e),hd⟩
 refine ⟨I.ok,I.os,hg,⟨fun b o e n hb hx=>?_,fun b o e n hb hx=>?_,fun b o e n hx=>?_,fun b o e hx=>?_,fun b xs e=>tups b xs (I.base.tups b xs e),fun b o xs e=>frzs b o xs (I.base.frzs b o xs e),fun b ps e=>?_⟩,?_,fun x c e=>?_,?_,fun x c e=>?_,fun p hp=>?_,hok,I.len⟩
 ·exact keep b o (neL b o e) hb (neC b o e hx) (I.base.keep b o e n hb hx) (I.base.free b o e n hx)
 ·obtain ⟨sl,e1⟩:=I.base.slot b o e n hb hx;obtain ⟨sl',e2⟩:=slot b _ (neL b o e) hb (neC b o e hx) e1 (I.base.free b o e n hx);exact ⟨sl',e2⟩
 ·obtain ⟨o',e1⟩:=I.base.there b o e hx;exact free b o' (neC b o e hx) e1 (I.base.free b o e n hx)
 ·obtain ⟨o',e1⟩:=I.base.there b o e hx;exact there b o' (neC b o e hx) e1
 ·obtain ⟨m1,e1⟩:=I.base.tbls b ps e;obtain ⟨m2,e2⟩:=tbls b _ e1;exact ⟨m1++m2,by rw[e2,Array.append_assoc]⟩
 ·obtain ⟨m,hn,hl⟩:=I.loc;refine ⟨m,ns m hn,fun i x v e1 e2 e3=>?_⟩
  obtain ⟨u,r,l⟩:=hl i x v e1 e2 e3;refine ⟨u,r,?_⟩;rcases l with l|⟨k,c,e,z⟩
  ·exact .inl l
  ·exact .inr ⟨k,c,e,cellK x c e _ z⟩
 ·obtain ⟨v,z⟩:=I.cell x c e;exact ⟨v,cellK x c e v z⟩
 ·obtain ⟨m,⟨o,_,_,ho,_⟩,_⟩:=I.loc;exact free _ o (fun z=>(hch _ z).2.1 rfl) ho I.free
 ·obtain ⟨v,o,ho,hd⟩:=I.cell x c e;exact free c o (fun z=>(hch c z).2.2.1 x c e rfl) ho (I.freeC x c e)
 ·obtain ⟨e,n,ne,nf,d⟩:=I.pin p hp;have nch:p.1∉ch:=fun z=>(hch p.1 z).2.2.2 p hp rfl
  exact ⟨keep p.1 p.2 ne nf nch e n,free p.1 p.2 nch e n,ne,nf,d⟩
theorem aP.un {t':Nat} (I:aP X pins σ H s) (u:Un X.fs [] H H' s.heap h') (hok:gC X.prog X.w H' h'):aP X pins σ H' {s with heap:=h',toks:=t'}:=by
 obtain ⟨m,⟨o,es,ep,ho,r⟩,_⟩:=id I.loc;obtain ⟨sl,hL⟩:=u.any ho I.free (by simp)
 exact I.step (g':=s.gens) (d':=s.drawn) (ch:= []) (fun _ z=>nomatch z) (fun b o _ hb _ e n=>u.keep b o e n hb (by simp)) (fun b o _ hb _ e n=>u.slot b o e n hb (by simp)) (fun b o _ e n=>u.free b o e n (by simp)) (fun b o _ e=>u.there b o e (by simp)) u.tups u.frzs u.tbls (fun m' hm=>by
  obtain ⟨o',es',ep',ho',r'⟩:=hm;rw[ho] at ho';cases ho';exact ⟨_,es',ep',hL,r'⟩) hok I.bare
theorem aP.call {g':Array GenState} {t':Nat} {d':Drawn} {ch:GP} (I:aP X pins σ H s) (u:Un (i7 X.stack) ch H H' s.heap h') (hok:gC X.prog X.w H' h') (hg:AllBare g')
  (hch:∀b∈ch,(b∈X.ex∨X.s₀.heap.objs.size<=b)/\b≠X.env.locals/\(∀x c,X.env.cells.lookup x=some c->c≠b)/\∀p∈X.pn++pins,p.1≠b):
  aP X pins σ H' {s with heap:=h',gens:=g',drawn:=d',toks:=t'}:=by
 obtain ⟨m,⟨o,es,ep,ho,r⟩,_⟩:=id I.loc;obtain ⟨sl,hL⟩:=u.any ho I.free fun z=>(hch _ z).2.1 rfl
 exact I.step (ch:=ch) hch (fun b o hL hb hc e n=>u.keep b o e n (fun z=>(D2.mp (I.stkSub b z)).elim hL hb) hc) (fun b o _ _ hc e n=>u.any e n hc) (fun b o hc e n=>u.free b o e n hc) (fun b o hc e=>u.there b o e hc) u.tups u.frzs u.tbls (fun m' hm=>by
  obtain ⟨o',es',ep',ho',r'⟩:=hm;rw[ho] at ho';cases ho';exact ⟨_,es',ep',hL,r'⟩) hok hg
theorem aP.turned {t':Nat} {it:Addr} (I:aP X pins σ H s) (k:∀b o,b≠it->s.heap.get? b=some o->h'.get? b=some o) (hn:H it=none) (hL:it≠X.env.locals)
  (h1:it∈X.ex∨X.s₀.heap.objs.size<=it) (h2:∀x c,X.env.cells.lookup x=some c->c≠it) (h3:∀p∈X.pn++pins,p.1≠it):aP X pins σ H {s with heap:=h',toks:=t'}:=by
 have nit:∀b u,H b=some u->b≠it:=fun b u e z=>by rw[z,hn] at e;cases e
 refine I.step (g':=s.gens) (d':=s.drawn) (ch:= [it]) (fun b hb=>?_) (fun b o _ _ hc e _=>k b o (fun z=>hc (by simp[z])) e) (fun b o _ _ hc e _=>⟨o.slots,k b o (fun z=>hc (by simp[z])) e⟩) (fun _ _ _ _ n=>n)
  (fun b o hc e=>⟨o,k b o (fun z=>hc (by simp[z])) e⟩) (fun _ _ e=>e) (fun _ _ _ e=>e) (fun b ps e=>⟨#[],by rw[e];simp⟩) (fun m hm=>?_) (fun b u e=>?_) I.bare
 ·have e:b=it:=by simpa using hb
  subst e;exact ⟨h1,hL,h2,h3⟩
 ·obtain ⟨o,es,ep,ho,r⟩:=hm;exact ⟨o,es,ep,k _ o (Ne.symm hL) ho,r⟩
 ·refine (I.hok b u e).stay (fun c v hc q=>k c v ?_ q) (fun _ q=>q) fun _ _ q=>q
  rcases hc with z|z
  ·rw[z];exact nit b u e
  ·exact nit c _ z
theorem aP.tok (I:aP X pins σ H s) (t:Nat):aP X pins σ H {s with toks:=t}:=I.un (h':=s.heap) (t':=t) Un.refl I.hok
theorem aP.kept {t':Nat} (I:aP X pins σ H s) (k:∀b u,s.heap.get? b=some u->h'.get? b=some u):aP X pins σ H {s with heap:=h',toks:=t'}:=I.un (Un.kept k) (I.hok.kept k)
theorem aP.laid {a:Addr} {o:HO} {t':Nat} (I:aP X pins σ H s) (k:∀b u,s.heap.get? b=some u->h'.get? b=some u) (hp:s.heap.objs.size<=a) (new:cn X.prog X.w (aO H a o) h' a o):
  aP X pins σ (aO H a o) {s with heap:=h',toks:=t'}:=I.un (Un.laid k hp (I.hok.fresh hp)) (I.hok.laid k hp new)
theorem aP.write {x e:Addr} {o:HO} {t':Nat} (I:aP X pins σ H s) (mu:Bq (H x)) (he:e=x∨H e=some (.own x)) (k:∀b u,b≠e->s.heap.get? b=some u->h'.get? b=some u) (heo:∃u,h'.get? e=some u)
  (new:cn X.prog X.w (aO H x o) h' x o):aP X pins σ (aO H x o) {s with heap:=h',toks:=t'}:=I.un (Un.write mu he k heo) (I.hok.write mu he k heo new)
theorem aP.pins_of {pins':GM} (I:aP X pins σ H s) (h:∀p∈pins',s.heap.get? p.1=some p.2/\H p.1=none/\p.1≠X.env.locals/\p.1∉X.fs/\∀v,p.2.data≠ .cell v):aP X pins' σ H s:=
 ⟨I.ok,I.os,I.bare,I.base,I.loc,I.cell,I.free,I.freeC,fun p hp=>(DC.mp hp).elim (fun z=>I.pin p (Dz _ z)) (h p),I.hok,I.len⟩
theorem mh {N:GO} (hN:N.Nodup) {i j:Nat} {x:Str} (a:N[i]?=some x) (b:N[j]?=some x):i=j:=by
 obtain ⟨h1,e1⟩:=DM.mp a;obtain ⟨h2,e2⟩:=DM.mp b;exact (List.getElem_inj hN).mp (e1.trans e2.symm)
theorem qO {M:Model} {A:Around} {E:GK} {i:Nat} {x:Str} {v:V} {u:Value} {Q:Unit->Shared->Prop} (I:aP X pins σ H s) (hN:X.N.Nodup) (hi:X.N[i]?=some x) (hx:Loc X.env.scope x) (r:RelV v u)
  (h:∀s',aP X pins (σ.set i (some v)) H s'->(∃a,Heap.SameBut a s.heap s'.heap/\(a=X.env.locals∨X.env.cells.lookup x=some a))->Q () s') (hf:X.fn x=true∨X.env.scope.names.lookup x=some .local:=by first|exact .inl rfl|exact .inr rfl|assumption):wpAny M A (storeName X.env x u) Q E s:=by
 obtain ⟨m,hn,hl⟩:=id I.loc;have hcls:(X.env.scope.kind== .class||(X.env.scope.kind== .module&&X.env.locals !=X.env.globals))=false:=by rw[I.ok.kind];rfl
 have hiσ:i<σ.length:=by rw[I.len];exact (DM.mp hi).1
 have cne:=I.cne;have tracked:∀{a:Addr} {h':Heap},(∃o,s.heap.get? a=some o/\H a=none)->Heap.SameBut a s.heap h'->gC X.prog X.w H h':=fun {a h'} ha hs b ob e=>by
  obtain ⟨_,_,hfree⟩:=ha;refine (I.hok b ob e).stay (fun c w' hc q=>(hs.2 c ?_).trans q) (fun _ q=>q) fun _ _ q=>q
  rintro rfl;rcases hc with rfl|hc
  ·rw[hfree] at e;cases e
  ·rw[hfree] at hc;cases hc
 rcases hx with hk|hk
 ·refine wpAny_storeName_local hk hn (fun h' hn' hs=>?_) hcls
  obtain ⟨oL,_,_,hoL,_⟩:=id hn;refine h _ ⟨I.ok,I.os,I.bare,⟨fun b o e n hb hx=>?_,fun b o e n hb hx=>?_,I.base.free,fun b o e hx=>?_,I.base.tups,I.base.frzs,I.base.tbls⟩,⟨_,hn',fun j y v' e1 e2 e3=>?_⟩,fun y c e=>?_,I.free,I.freeC,fun p hp=>?_,tracked ⟨oL,hoL,I.free⟩ hs,by simpa using I.len⟩ ⟨_,hs,.inl rfl⟩
  ·exact (hs.2 b (DW (DT (Heap.lt_size e) I.ok.above))).trans (I.base.keep b o e n hb hx)
  ·obtain ⟨sl,e1⟩:=I.base.slot b o e n hb hx;exact ⟨sl,(hs.2 b (DW (DT (Heap.lt_size e) I.ok.above))).trans e1⟩
  ·obtain ⟨o',e1⟩:=I.base.there b o e hx;exact ⟨o',(hs.2 b (DW (DT (Heap.lt_size e) I.ok.above))).trans e1⟩
  ·by_cases hj:j=i
   ·subst hj;rw[hi] at e1;cases e1;rw[List.getElem?_set_self hiσ] at e2;cases e2;exact ⟨u,r,.inl ⟨hk,by simp⟩⟩
   ·rw[List.getElem?_set_ne (Ne.symm hj)] at e2;obtain ⟨u',r',q⟩:=hl j y v' e1 e2 e3;refine ⟨u',r',?_⟩;rcases q with ⟨k,e⟩|⟨k,c,e,z⟩
    ·refine .inl ⟨k,?_⟩;have:y≠x:=fun e=>hj (mh hN e1 (e▸hi))
     simp[this,e]
    ·exact .inr ⟨k,c,e,z.sameBut hs (cne y c e)⟩
  ·obtain ⟨w',z⟩:=I.cell y c e;exact ⟨w',z.sameBut hs (cne y c e)⟩
  ·obtain ⟨e,n,ne,nf,d⟩:=I.pin p hp;exact ⟨(hs.2 p.1 ne).trans e,n,ne,nf,d⟩
 ·have hfn:X.fn x=true:=by
   rcases hf with z|z
   ·exact z
   ·rw[z] at hk;cases hk
  obtain ⟨c,hc⟩:=I.ok.has x (.inl hk);obtain ⟨w',z⟩:=I.cell x c hc;refine wpAny_storeName_cell I.ok.kind hk hc z (fun h' hc' hs=>?_)
  obtain ⟨oc,hoc,hocd⟩:=id z;refine h {s with heap:=h'} ⟨I.ok,I.os,I.bare,⟨fun b o e n hb hx=>?_,fun b o e n hb hx=>?_,I.base.free,fun b o e hx=>?_,I.base.tups,I.base.frzs,I.base.tbls⟩,⟨m,hn.sameBut hs (Ne.symm (cne x c hc)),fun j y v' e1 e2 e3=>?_⟩,fun y c' e=>?_,I.free,I.freeC,fun p hp=>?_,tracked ⟨oc,hoc,I.freeC x c hc⟩ hs,by simpa using I.len⟩ ⟨c,hs,.inr hc⟩
  ·exact (hs.2 b (DW (DT (Heap.lt_size e) (I.ok.cab x c hfn hc)))).trans (I.base.keep b o e n hb hx)
  ·obtain ⟨sl,e1⟩:=I.base.slot b o e n hb hx;exact ⟨sl,(hs.2 b (DW (DT (Heap.lt_size e) (I.ok.cab x c hfn hc)))).trans e1⟩
  ·obtain ⟨o',e1⟩:=I.base.there b o e hx;exact ⟨o',(hs.2 b (DW (DT (Heap.lt_size e) (I.ok.cab x c hfn hc)))).trans e1⟩
  ·by_cases hj:j=i
   ·subst hj;rw[hi] at e1;cases e1;rw[List.getElem?_set_self hiσ] at e2;cases e2;exact ⟨u,r,.inr ⟨.inl hk,c,hc,hc'⟩⟩
   ·rw[List.getElem?_set_ne (Ne.symm hj)] at e2;obtain ⟨u',r',q⟩:=hl j y v' e1 e2 e3;refine ⟨u',r',?_⟩;rcases q with q|⟨k,c',e,z'⟩
    ·exact .inl q
    ·refine .inr ⟨k,c',e,z'.sameBut hs ?_⟩;rintro rfl;exact hj (mh hN e1 (I.ok.inj _ _ _ e hc▸hi))
  ·by_cases hcc:c'=c
   ·subst hcc;exact ⟨_,hc'⟩
   ·obtain ⟨w2,z2⟩:=I.cell y c' e;exact ⟨w2,z2.sameBut hs hcc⟩
  ·obtain ⟨e,n,ne,nf,d⟩:=I.pin p hp;refine ⟨(hs.2 p.1 ?_).trans e,n,ne,nf,d⟩;intro q;rw[q,hoc] at e;have q':oc=p.2:=DS e;exact d w' (by rw[<-q'];exact hocd)
theorem mm {M:Model} {A:Around} {E:GK} {i:Nat} {x:Str} {v:V} {u:Value} {Q:Unit->Shared->Prop} (I:aP X pins σ H s) (hN:X.N.Nodup) (hi:X.N[i]?=some x) (hx:Loc X.env.scope x) (r:RelV v u)
  (h:∀s',aP X pins (σ.set i (some v)) H s'->Q () s') (hf:X.fn x=true∨X.env.scope.names.lookup x=some .local:=by first|exact .inl rfl|exact .inr rfl|assumption):wpAny M A (storeName X.env x u) Q E s:=
 qO I hN hi hx r (fun s' I' _=>h s' I') hf
theorem aP.call' {s':Shared} {ch:GP} (I:aP X pins σ H s) (ho:s'.os=s.os) (u:Un (i7 X.stack) ch H H' s.heap s'.heap) (hok:gC X.prog X.w H' s'.heap) (hg:AllBare s'.gens)
  (hch:∀b∈ch,(b∈X.ex∨X.s₀.heap.objs.size<=b)/\b≠X.env.locals/\(∀x c,X.env.cells.lookup x=some c->c≠b)/\∀p∈X.pn++pins,p.1≠b):aP X pins σ H' s':=by
 obtain ⟨h',g',d',t',o'⟩:=s';have e:o'=s.os:=ho;subst e;exact I.call (g':=g') (t':=t') (d':=d') u hok hg hch
end
abbrev XK:=Value->GR->Hp->Prop
abbrev St:=List (Option V)
abbrev VK:=V->Hp->Prop
abbrev TE:=St->Hp->VK->Prop
abbrev TT:=St->Hp->(Bool->Hp->Prop)->Prop
abbrev TA:=St->Hp->(List V->Hp->Prop)->Prop
structure Ends where
 nx:St->Hp->Prop
 rt:VK
 bk:St->Hp->Prop:=fun _ _=>False
 ct:St->Hp->Prop:=fun _ _=>False
abbrev TS:=Ends->St->Hp->Prop
def EP (X:Cx) (pins:GM) (σ:St) (Q:VK) (u:Value) (s':Shared):Prop:=∃v H',aP X pins σ H' s'/\RelV v u/\Q v H'
def TP (X:Cx) (pins:GM) (σ:St) (Q:Bool->Hp->Prop) (b:Bool) (s':Shared):Prop:=∃H',aP X pins σ H' s'/\Q b H'
def AP (X:Cx) (pins:GM) (σ:St) (Q:List V->Hp->Prop) (us:GQ) (s':Shared):Prop:=∃vs H',aP X pins σ H' s'/\bn vs us/\Q vs H'
def SP (X:Cx) (pins:GM) (D:Ends) (f:Flow) (s':Shared):Prop:=
 match f with
 | .next=>∃σ' H',aP X pins σ' H' s'/\D.nx σ' H'
 | .brk=>∃σ' H',aP X pins σ' H' s'/\D.bk σ' H'
 | .cont=>∃σ' H',aP X pins σ' H' s'/\D.ct σ' H'
 | .ret u=>∃v σ' H',aP X pins σ' H' s'/\RelV v u/\D.rt v H'
def PE (X:Cx) (e:Expr) (t:TE):Prop:=
 ∀(pins:GM) (s:Shared) (σ:St) (H:Hp) (Q:VK),aP X pins σ H s->t σ H Q->wpAny (model X.prog X.w) X.A (eval e X.env) (EP X pins σ Q) X.xe s
def PT (X:Cx) (e:Expr) (t:TT):Prop:=
 ∀(pins:GM) (s:Shared) (σ:St) (H:Hp) (Q:Bool->Hp->Prop),aP X pins σ H s->t σ H Q->wpAny (model X.prog X.w) X.A (isTrue e X.env (eval e X.env)) (TP X pins σ Q) X.xe s
def PW (X:Cx) (e:Expr) (t:TT):Prop:=
 ∀(whole:Sem Value) (pins:GM) (s:Shared) (σ:St) (H:Hp) (Q:Bool->Hp->Prop),aP X pins σ H s->t σ H Q->wpAny (model X.prog X.w) X.A (isTrue e X.env whole) (TP X pins σ Q) X.xe s
theorem PW.pt {X:Cx} {e:Expr} {t:TT} (h:PW X e t):PT X e t:=h _
def PA (X:Cx) (es:List Expr) (t:TA):Prop:=
 ∀(pos:Pos) (pins:GM) (s:Shared) (σ:St) (H:Hp) (Q:List V->Hp->Prop),aP X pins σ H s->t σ H Q->wpAny (model X.prog X.w) X.A (spliced (backTo pos (starEach es X.env))) (AP X pins σ Q) X.xe s
def PS (X:Cx) (st:Stmt) (t:TS):Prop:=
 ∀(pins:GM) (s:Shared) (σ:St) (H:Hp) (D:Ends),aP X pins σ H s->t D σ H->wpAny (model X.prog X.w) X.A (exec st X.env) (SP X pins D) X.xe s
def i8 (X:Cx) (st:List Stmt) (t:TS):Prop:=
 ∀(pins:GM) (s:Shared) (σ:St) (H:Hp) (D:Ends),aP X pins σ H s->t D σ H->wpAny (model X.prog X.w) X.A (execs st X.env) (SP X pins D) X.xe s
theorem b7 {α:Type} {t:Sem α} {Q Q':α->Shared->Prop} {M:Model} {A:Around} {E:GK} {s:Shared} (h:wpAny M A t Q E s) (hQ:∀a s,Q a s->Q' a s):wpAny M A t Q' E s:=wpAny_mono h hQ fun _ _ x=>x
section
variable {X:Cx}
def mn (i:Nat):TE:=fun σ H Q=>∃v,σ[i]?=some (some v)/\Q v H
def tC (v:V):TE:=fun _ H Q=>Q v H
theorem wN {i:Nat} {x:Str} {pos:Pos} (hN:X.N[i]?=some x) (hv:BH X.env.scope x) (hd:(x==("__debug__" :Str))=false:=by decide) (hcd:(x==("__classdict__" :Str))=false:=by decide):PE X (.Name x pos) (mn i):=by
 intro pins s σ H Q I h;obtain ⟨v,e,h⟩:=h;obtain ⟨m,hn,hl⟩:=I.loc;obtain ⟨u,r,l⟩:=hl i x v hN e hv;have fin:EP X pins σ Q u s:=⟨v,H,I,r,h⟩;rcases l with ⟨hk,hm⟩|⟨hk,c,hc,hcell⟩
 ·exact wpAny_Name (wpAny_loadName_local I.ok.kind hk hn hm fin) hd
 ·rcases hk with hk|hk
  ·exact wpAny_Name (wpAny_loadName_cell I.ok.kind hk hc hcell fin) hd
  ·exact wpAny_Name (wpAny_loadName_free I.ok.kind hk hc hcell fin hcd) hd
theorem ad {i j pos}:PE X (.Constant (.int i) j pos) (tC (.int i)):=fun _ _ _ H _ I h=>wpAny_Constant_int ⟨.int i,H,I.tok _,⟨_,rfl⟩,h⟩
theorem di {b j pos}:PE X (.Constant (.bool b) j pos) (tC (.bl b)):=fun _ _ _ H _ I h=>Constant_bool ⟨.bl b,H,I,rfl,h⟩
theorem bo {j pos}:PE X (.Constant .none j pos) (tC .non):=fun _ _ _ H _ I h=>Constant_none ⟨.non,H,I,rfl,h⟩
theorem ax {x j pos}:PE X (.Constant (.str x) j pos) (tC (.str x)):=fun _ _ _ H _ I h=>Calls.Constant_str ⟨.str x,H,I.tok _,⟨_,rfl⟩,h⟩
def Gl (X:Cx) (x:Str):Prop:=X.env.kindOf x=some .globalImplicit
theorem eZ {E:GK} {pins:GM} {s:Shared} {σ:St} {H:Hp} {x:Str} {u:Value} {pos:Pos} {Q:GK} (I:aP X pins σ H s) (hg:Gl X x) (hm:X.mg x=some u) (h:Q u s)
  (hd:(x==("__debug__" :Str))=false:=by decide):wpAny (model X.prog X.w) X.A (eval (.Name x pos) X.env) Q E s:=
 Calls.Name_function_global I.ok.kind hg (Calls.loadGlobal_global (by rw[I.ok.glob];exact I.mod.glob.keeps I.bk) hm h) hd
theorem fF {E:GK} {pins:GM} {s:Shared} {σ:St} {H:Hp} {x:Str} {u:Value} {pos:Pos} {Q:GK} (I:aP X pins σ H s) (hg:Gl X x) (hm:X.mg x=none) (hv:bootBuiltins x=some u) (h:Q u s)
  (hn:x≠ "__name__" :=by decide) (hd:(x==("__debug__" :Str))=false:=by decide):wpAny (model X.prog X.w) X.A (eval (.Name x pos) X.env) Q E s:=by
 obtain ⟨mb,h1,h2⟩:=I.mod.blt;exact Calls.Name_function_global I.ok.kind hg (Calls.loadGlobal_builtin (by rw[I.ok.glob];exact I.mod.glob.keeps I.bk) hm (by rw[I.ok.blt];exact h1.keeps I.bk) ((h2 x hn).trans hv) h) hd
theorem cf {x:Str} {v:V} {u:Value} {pos:Pos} (hg:Gl X x) (hm:X.mg x=some u) (r:RelV v u) (hd:(x==("__debug__" :Str))=false:=by decide):PE X (.Name x pos) (tC v):=
 fun _ _ _ H _ I h=>eZ I hg hm ⟨v,H,I,r,h⟩ hd
theorem b6 {x:Str} {v:V} {u:Value} {pos:Pos} (hg:Gl X x) (hm:X.mg x=none) (hv:bootBuiltins x=some u) (r:RelV v u) (hn:x≠ "__name__" :=by decide) (hd:(x==("__debug__" :Str))=false:=by decide):PE X (.Name x pos) (tC v):=
 fun _ _ _ H _ I h=>fF I hg hm hv ⟨v,H,I,r,h⟩ hn hd
variable {a b:Expr} {ta tb:TE} {pos:Pos}
def tB (t:TE):TT:=fun σ H Q=>t σ H fun x H1=>∃c,x= .bl c/\Q c H1
theorem bS {e:Expr} {t:TE} (h:PE X e t) (he:∀whole,isTrue e X.env whole=(do let v<-whole;standAt e.pos;holding [v] (truthy v)):=by intro _;rfl):PT X e (tB t):=by
 intro pins s σ H Q I hw;refine isTrue_plain (b7 (h pins s σ H _ I hw) fun v s1 ⟨x,H1,I1,r1,q1⟩=>?_) (he _)
 obtain ⟨d,rfl,q⟩:=q1;cases r1;exact wpAny_truthy_bool ⟨H1,I1,q⟩
variable {tA tB':TT} {rest:List Expr}
def BI (t u:TT):TT:=fun σ H Q=>t σ H fun c H1=>if c=true then u σ H1 Q else Q false H1
def CO (t u:TT):TT:=fun σ H Q=>t σ H fun c H1=>if c=true then Q true H1 else u σ H1 Q
def BJ (t:TT):TT:=fun σ H Q=>t σ H fun c H1=>Q (!c) H1
theorem kY (ha:PT X a tA):PW X (.BoolOp .And [a] pos) tA:=by
 intro wh pins s σ H Q I h;refine isTrue_and (b7 (ha pins s σ H Q I h) fun c s1 e=>?_)
 cases c with
 |true=>exact isTrue_and_nil e
 |false=>exact e
theorem bM (ha:PT X a tA):PW X (.BoolOp .Or [a] pos) tA:=by
 intro wh pins s σ H Q I h;refine isTrue_or (b7 (ha pins s σ H Q I h) fun c s1 e=>?_)
 cases c with
 |false=>exact isTrue_or_nil e
 |true=>exact e
theorem n9 (ha:PT X a tA) (hb:PW X (.BoolOp .And (b::rest) pos) tB'):PW X (.BoolOp .And (a::b::rest) pos) (BI tA tB'):=by
 intro wh pins s σ H Q I h;refine isTrue_and (b7 (ha pins s σ H _ I h) fun c s1 ⟨H1,I1,q1⟩=>?_)
 cases c with
 |true=>exact hb wh pins s1 σ H1 Q I1 q1
 |false=>exact ⟨H1,I1,q1⟩
theorem bU (ha:PT X a tA) (hb:PW X (.BoolOp .Or (b::rest) pos) tB'):PW X (.BoolOp .Or (a::b::rest) pos) (CO tA tB'):=by
 intro wh pins s σ H Q I h;refine isTrue_or (b7 (ha pins s σ H _ I h) fun c s1 ⟨H1,I1,q1⟩=>?_)
 cases c with
 |true=>exact ⟨H1,I1,q1⟩
 |false=>exact hb wh pins s1 σ H1 Q I1 q1
theorem bW (ha:PT X a tA):PT X (.UnaryOp .Not a pos) (BJ tA):=by
 intro pins s σ H Q I h;exact isTrue_not (ha pins s σ H (fun c H1=>Q (!c) H1) I h)
def zt (ta tb:TE):TE:=fun σ H Q=>ta σ H fun x H1=>∃c,x= .bl c/\if c=true then tb σ H1 Q else Q (.bl false) H1
def zu (ta:TE):TE:=fun σ H Q=>ta σ H fun x H1=>∃c,x= .bl c/\Q (.bl (!c)) H1
theorem og {op} {t:TE} (h:PE X a t):PE X (.BoolOp op [a] pos) t:=fun pins s σ H Q I hw=>BoolOp_one (h pins s σ H Q I hw)
theorem oh (ha:PE X a ta) (hb:PE X (.BoolOp .And (b::rest) pos) tb):PE X (.BoolOp .And (a::b::rest) pos) (zt ta tb):=by
 intro pins s σ H Q I h;refine BoolOp_and (b7 (ha pins s σ H _ I h) fun v s1 ⟨x,H1,I1,r1,q1⟩=>?_)
 obtain ⟨c,rfl,q1⟩:=q1;cases r1;refine wpAny_truthy_bool ?_;cases c with
 |true=>exact hb pins s1 σ H1 Q I1 q1
 |false=>exact ⟨.bl false,H1,I1,rfl,q1⟩
theorem rX (ha:PE X a ta):PE X (.UnaryOp .Not a pos) (zu ta):=by
 intro pins s σ H Q I h;refine UnaryOp_ (b7 (ha pins s σ H _ I h) fun v s1 ⟨x,H1,I1,r1,q1⟩=>?_)
 obtain ⟨c,rfl,q1⟩:=q1;cases r1;exact not_of (wpAny_truthy_bool ⟨.bl (!c),H1,I1,rfl,q1⟩)
def CP (t:TT) (ta tb:TE):TE:=fun σ H Q=>t σ H fun c H1=>if c=true then ta σ H1 Q else tb σ H1 Q
theorem eO {c:Expr} (hc:PT X c tA) (ha:PE X a ta) (hb:PE X b tb):PE X (.IfExp c a b pos) (CP tA ta tb):=by
 intro pins s σ H Q I h;refine wpAny_IfExp (b7 (hc pins s σ H _ I h) fun d s1 ⟨H1,I1,q1⟩=>?_)
 cases d with
 |true=>exact ha pins s1 σ H1 Q I1 q1
 |false=>exact hb pins s1 σ H1 Q I1 q1
end
def aE (K:D3) (H:Hp) (a:Addr) (xs:List V):Prop:=
 Rd H a (.lst xs)∨
  ∃(o:Obj) (its:Array Value) (n:Nat),K.lookup a=some o/\o.cls= .type "list" /\o.dict=none/\o.data= .seq its n/\its.size<=sizeLine/\bn xs its.toList
def bX (K:D3) (H:Hp) (a:Addr) (xs:List V):Prop:=
 Rd H a (.tup xs)∨
  ∃(o:Obj) (its:Array Value) (n:Nat),K.lookup a=some o/\o.cls= .type "tuple" /\o.data= .seq its n/\its.size<=sizeLine/\bn xs its.toList
def BK:Value->Option V
 | .none=>some .non
 | .bool b=>some (.bl b)
 | .int i _=>some (.int i)
 | .str x _=>some (.str x)
 | .bytes b _=>some (.byt b)
 | .float b _=>some (.flt b)
 | .ref a=>some (.ref a)
 | .type n=>some (.ty n)
 |_=>none
theorem RelV.abs {x:V} {u:Value} (r:RelV x u):BK u=some x:=by
 cases x with
 |non=>cases r;rfl
 |bl _=>cases r;rfl
 |int _=>obtain ⟨t,rfl⟩:=r;rfl
 |str _=>obtain ⟨t,rfl⟩:=r;rfl
 |byt _=>obtain ⟨t,rfl⟩:=r;rfl
 |flt _=>obtain ⟨t,rfl⟩:=r;rfl
 |ref _=>cases r;rfl
 |ty _=>cases r;rfl
theorem RelV.inj {x y:V} {u:Value} (r:RelV x u) (q:RelV y u):x=y:=DS (r.abs.symm.trans q.abs)
theorem bn.inj:∀{xs ys:List V} {us:GQ},bn xs us->bn ys us->xs=ys
 |_,_,_,.nil,.nil=>rfl
 |_,_,_,.cons r t,.cons r' t'=>by rw[r.inj r',bn.inj t t']
section
variable {X:Cx} {pins:GM} {σ:St} {H:Hp} {s:Shared} {a:Addr} {xs ys:List V}
theorem aE.of {K:D3} (h:H a=some (.lst xs)):aE K H a xs:= .inl (.inl h)
theorem bX.of {K:D3} (h:H a=some (.tup xs)):bX K H a xs:= .inl (.inl h)
theorem aP.list (I:aP X pins σ H s) (h:aE X.K H a xs):∃its:GQ,bn xs its/\PlainL s.heap a its.toArray/\xs.length<=sizeLine:=by
 rcases h with h|⟨o,its,n,hk,hc,hd,hs,hz,r⟩
 ·obtain ⟨z,its,n,r,e⟩:=h.ok I.hok;exact ⟨its,r,⟨_,n,e,rfl,rfl,rfl⟩,z⟩
 ·refine ⟨its.toList,r,⟨o,n,I.kIn a o hk,hc,hd,by simpa using hs⟩,?_⟩
  have e:=r.length;simp only[EX] at e;omega
theorem aP.tuple (I:aP X pins σ H s) (h:bX X.K H a xs):∃its:GQ,bn xs its/\IsTup s.heap a its.toArray/\xs.length<=sizeLine:=by
 rcases h with h|⟨o,its,n,hk,hc,hs,hz,r⟩
 ·obtain ⟨z,its,r,p⟩:=h.ok I.hok;exact ⟨its,r,p,z⟩
 ·refine ⟨its.toList,r,⟨o,I.kIn a o hk,hc,n,by simpa using hs⟩,?_⟩
  have e:=r.length;simp only[EX] at e;omega
theorem aP.list_inj (I:aP X pins σ H s) (h:aE X.K H a xs) (h':aE X.K H a ys):xs=ys:=by
 obtain ⟨its,r,⟨o,n,e,_,_,d⟩,_⟩:=I.list h;obtain ⟨its',r',⟨o',n',e',_,_,d'⟩,_⟩:=I.list h';rw[e] at e';cases e';rw[d] at d';injection d' with d1 _
 have:its=its':=by simpa using congrArg Array.toList d1
 subst this;exact r.inj r'
theorem aP.tuple_inj (I:aP X pins σ H s) (h:bX X.K H a xs) (h':bX X.K H a ys):xs=ys:=by
 obtain ⟨its,r,⟨o,e,_,n,d⟩,_⟩:=I.tuple h;obtain ⟨its',r',⟨o',e',_,n',d'⟩,_⟩:=I.tuple h';rw[e] at e';cases e';rw[d] at d';injection d' with d1 _
 have:its=its':=by simpa using congrArg Array.toList d1
 subst this;exact r.inj r'
end
abbrev Cx.wish (X:Cx) (E:GK):Cx:={X with xe:=E}
abbrev Cx.nox (X:Cx):Cx:=X.wish fun _ _=>False
theorem Cx.Ok.wish {X:Cx} (ok:X.Ok) (E:GK):(X.wish E).Ok:=
 ⟨ok.mod,ok.kind,ok.glob,ok.blt,ok.above,ok.inj,ok.has,ok.cab,ok.hd,ok.frames,ok.stk,ok.exf,ok.bs,ok.bsz,ok.noex,ok.exfs,ok.funs,ok.frf⟩
theorem Cx.Ok.unwish {X:Cx} {E:GK} (ok:(X.wish E).Ok):X.Ok:=
 ⟨ok.mod,ok.kind,ok.glob,ok.blt,ok.above,ok.inj,ok.has,ok.cab,ok.hd,ok.frames,ok.stk,ok.exf,ok.bs,ok.bsz,ok.noex,ok.exfs,ok.funs,ok.frf⟩
section
variable {X:Cx} {pins:GM} {σ:St} {H:Hp} {s:Shared} {E:GK}
theorem aP.wish (I:aP X pins σ H s) (E:GK):aP (X.wish E) pins σ H s:=⟨I.ok.wish E,I.os,I.bare,I.base,I.loc,I.cell,I.free,I.freeC,I.pin,I.hok,I.len⟩
theorem aP.unwish (I:aP (X.wish E) pins σ H s):aP X pins σ H s:=⟨I.ok.unwish,I.os,I.bare,I.base,I.loc,I.cell,I.free,I.freeC,I.pin,I.hok,I.len⟩
theorem SP.unwish {D:Ends} {f:Flow} {s':Shared} (h:SP (X.wish E) pins D f s'):SP X pins D f s':=by
 cases f with
 |next=>obtain ⟨σ',H',I,q⟩:=h;exact ⟨σ',H',I.unwish,q⟩
 |brk=>obtain ⟨σ',H',I,q⟩:=h;exact ⟨σ',H',I.unwish,q⟩
 |cont=>obtain ⟨σ',H',I,q⟩:=h;exact ⟨σ',H',I.unwish,q⟩
 |ret u=>obtain ⟨v,σ',H',I,r,q⟩:=h;exact ⟨v,σ',H',I.unwish,r,q⟩
theorem i8.nox {st:List Stmt} {t:TS} (h:i8 X.nox st t):i8 X st t:=fun pins s σ H D I hw=>
 wpAny_mono (h pins s σ H D (I.wish _) hw) (fun _ _ q=>q.unwish) fun _ _ z=>False.elim z
end
section
variable {X:Cx} {st:Stmt} {rest:List Stmt} {t u:TS} {e:Expr} {te:TE} {pos:Pos}
def aS:TS:=fun D σ H=>D.nx σ H
def mq (t u:TS):TS:=fun D σ H=>t {D with nx:=u D} σ H
theorem az:i8 X [] aS:=fun _ _ σ H _ I h=>wpAny_execs_nil ⟨σ,H,I,h⟩
theorem ac (h1:PS X st t) (h2:i8 X rest u):i8 X (st::rest) (mq t u):=by
 intro pins s σ H D I h;refine wpAny_execs_cons (b7 (h1 pins s σ H {D with nx:=u D} I h) fun f s1 q=>?_)
 cases f with
 |next=>
  obtain ⟨σ',H',I',q⟩:=q;exact h2 pins s1 σ' H' D I' q
 |ret v=>exact q
 |brk=>exact q
 |cont=>exact q
theorem ah (h1:PS X st t):i8 X [st] t:=by
 intro pins s σ H D I h;refine wpAny_execs_cons (b7 (h1 pins s σ H D I h) fun f s1 q=>?_)
 cases f with
 |next=>exact wpAny_execs_nil q
 |ret v=>exact q
 |brk=>exact q
 |cont=>exact q
theorem aP.quiet {pins:GM} {σ:St} {H:Hp} {s:Shared} (I:aP X pins σ H s):interactive X.env=false:=by simp[interactive,I.ok.kind]
def zv (te:TE):TS:=fun D σ H=>te σ H fun _ H1=>D.nx σ H1
theorem aV (he:PE X e te) (hs:swapsWith e none pos.line X.env=pure false:=by rfl):PS X (.Expr e pos) (zv te):=by
 intro pins s σ H D I h;exact wpAny_Expr_any (b7 (he pins s σ H _ I h) fun v s1 ⟨x,H1,I1,r1,q1⟩=>⟨σ,H1,I1,q1⟩) I.quiet hs
def uG (te:TE):TS:=fun D σ H=>te σ H D.rt
theorem ay (he:PE X e te):PS X (.Return (some e) pos) (uG te):=by
 intro pins s σ H D I h;exact wpAny_Return_some (b7 (he pins s σ H _ I h) fun v s1 ⟨x,H1,I1,r1,q1⟩=>⟨x,σ,H1,I1,r1,q1⟩)
def zw (c:TT) (t u:TS):TS:=fun D σ H=>c σ H fun b H1=>if b=true then t D σ H1 else u D σ H1
theorem aJ {c:Expr} {a b:List Stmt} {tc:TT} (hc:PT X c tc) (ha:i8 X a t) (hb:i8 X b u):PS X (.If c a b pos) (zw tc t u):=by
 intro pins s σ H D I h;refine wpAny_If (b7 (hc pins s σ H _ I h) fun d s1 ⟨H1,I1,q1⟩=>?_)
 cases d with
 |true=>exact ha pins s1 σ H1 D I1 q1
 |false=>exact hb pins s1 σ H1 D I1 q1
def wO:TS:=fun _ _ _=>False
theorem cM:PS X st wO:=fun _ _ _ _ _ _ h=>h.elim
end
abbrev TG:=V->St->Hp->(St->Hp->Prop)->Prop
abbrev uH:=List V->St->Hp->(St->Hp->Prop)->Prop
def PG (X:Cx) (target:Expr) (t:TG):Prop:=
 ∀(pins:GM) (s:Shared) (σ:St) (H:Hp) (v:V) (u:Value) (Q:St->Hp->Prop),aP X pins σ H s->RelV v u->t v σ H Q->
  wpAny (model X.prog X.w) X.A (assign target X.env u) (fun _ s'=>∃σ' H',aP X pins σ' H' s'/\Q σ' H') X.xe s
def zx (X:Cx) (ts:List Expr) (t:uH):Prop:=
 ∀(pins:GM) (s:Shared) (σ:St) (H:Hp) (vs:List V) (us:GQ) (Q:St->Hp->Prop),aP X pins σ H s->bn vs us->t vs σ H Q->
  wpAny (model X.prog X.w) X.A (assignInOrder ((assignEach ts X.env).map (·.2)) us) (fun _ s'=>∃σ' H',aP X pins σ' H' s'/\Q σ' H') X.xe s
abbrev wP:=V->V->V->Hp->(Hp->Prop)->Prop
def zy (X:Cx) (t:wP):Prop:=
 ∀(pins:GM) (s:Shared) (σ:St) (H:Hp) (o i v:V) (ov iv u:Value) (Q:Hp->Prop),aP X pins σ H s->RelV o ov->RelV i iv->RelV v u->t o i v H Q->
  wpAny (model X.prog X.w) X.A (setItem ov iv u) (fun _ s'=>∃H',aP X pins σ H' s'/\Q H') X.xe s
section
variable {X:Cx} {pos:Pos}
def aR (i:Nat):TG:=fun v σ H Q=>Q (σ.set i (some v)) H
theorem kZ {i:Nat} {x:Str} (hN:X.N.Nodup) (hi:X.N[i]?=some x) (hx:Loc X.env.scope x) (hf:X.fn x=true∨X.env.scope.names.lookup x=some .local:=by first|exact .inl rfl|exact .inr rfl|assumption):PG X (.Name x pos) (aR i):=by
 intro pins s σ H v u Q I r h;exact wpAny_assign_Name (mm I hN hi hx r (fun s' I'=>⟨_,H,I',h⟩) hf)
def BL:uH:=fun vs σ H Q=>vs= []/\Q σ H
def zA (t:TG) (u:uH):uH:=fun vs σ H Q=>∃v r,vs=v::r/\t v σ H fun σ' H'=>u r σ' H' Q
theorem dC:zx X [] BL:=by
 intro pins s σ H vs us Q I r h;obtain ⟨e,h⟩:=h;subst e;cases r;exact assignInOrder_nil ⟨σ,H,I,h⟩
theorem aW {e:Expr} {es:List Expr} {t:TG} {u:uH} (h1:PG X e t) (h2:zx X es u)
  (hs:(assignEach (e::es) X.env).map (·.2)=assign e X.env::(assignEach es X.env).map (·.2):=by rfl):zx X (e::es) (zA t u):=by
 intro pins s σ H vs us Q I r h;obtain ⟨v,vr,e1,h⟩:=h;subst e1;cases r with
 |cons r rr=>
  rw[hs];refine assignInOrder_cons (b7 (h1 pins s σ H _ _ _ I r h) fun _ s1 ⟨σ1,H1,I1,q1⟩=>?_)
  exact h2 pins s1 σ1 H1 _ _ Q I1 rr q1
def BM (K:D3) (n:Nat) (t:uH):TG:=fun v σ H Q=>∃a xs,v= .ref a/\bX K H a xs/\xs.length=n/\t xs σ H Q
theorem fG {es:List Expr} {k:Nat} {t:uH} {n:Nat} (hc:X.calm=true) (h:zx X es t)
  (hn:(assignEach es X.env).length=n:=by rfl) (hst:(assignEach es X.env).findIdx? (·.1)=none:=by rfl):PG X (.Tuple es k pos) (BM X.K n t):=by
 intro pins s σ H v u Q I r hw;obtain ⟨a,xs,e1,hq,hl,hw⟩:=hw;subst e1;cases r;obtain ⟨its,rv,ht,hz⟩:=I.tuple hq;refine assign_Tuple_tuple (I.ok.hd hc) ht (by simp[hn,<-hl,rv.length]) hst fun h' hx=>?_
 have I1:aP X pins σ H {s with heap:=h'}:=I.kept (t':=s.toks) fun b o e=>hx b o (DW (Heap.lt_size e)) e
 exact h pins _ σ H xs _ Q I1 (by simpa using rv) hw
def BN (to ti:TE) (t:wP):TG:=fun v σ H Q=>to σ H fun o H1=>ti σ H1 fun i H2=>t o i v H2 fun H3=>Q σ H3
theorem wQ {o i:Expr} {to ti:TE} {t:wP} (ho:PE X o to) (hi:PE X i ti) (hs:zy X t)
  (ha:∀v,assign (.Subscript o i pos) X.env v=(do
   let ov<-holding [v] (eval o X.env)
   let iv<-holding [v,ov] (eval i X.env)
   standAt pos
   holding [v,ov,iv] (setItem ov iv v)
   release [v,ov,iv] []):=by intro _;rfl):PG X (.Subscript o i pos) (BN to ti t):=by
 intro pins s σ H v u Q I r h;rw[ha];refine wpAny_bind (wpAny_holding (b7 (ho pins s σ H _ I h) fun ov s1 ⟨x,H1,I1,r1,q1⟩=>?_))
 refine wpAny_bind (wpAny_holding (b7 (hi pins s1 σ H1 _ I1 q1) fun iv s2 ⟨y,H2,I2,r2,q2⟩=>?_))
 refine wpAny_bind (wpAny_standAt (wpAny_bind (wpAny_holding (b7 (hs pins s2 σ H2 x y v ov iv u _ I2 r1 r2 r q2) fun _ s3 ⟨H3,I3,q3⟩=>?_))))
 exact wpAny_release ⟨σ,H3,I3,q3⟩
def rY (te:TE) (g:TG):TS:=fun D σ H=>te σ H fun x H1=>g x σ H1 D.nx
theorem i9 {tg e:Expr} {te:TE} {g:TG} (he:PE X e te) (hg:PG X tg g) (hs:swapsWithSole [tg] e pos.line X.env=pure false:=by rfl) (hw:swappedStores [tg] e X.env=pure none:=by rfl)
  (h1:(assignEach [tg] X.env).map (·.2)= [assign tg X.env]:=by rfl):PS X (.Assign [tg] e pos) (rY te g):=by
 intro pins s σ H D I h;refine wpAny_Assign_stores (b7 (he pins s σ H _ I h) fun v s1 ⟨x,H1,I1,r1,q1⟩=>?_) hs hw
 rw[h1];exact b7 (hg pins s1 σ H1 x v _ I1 r1 q1) fun _ s2 q=>q
theorem k7 {i:Nat} {x:Str} {e:Expr} {te:TE} {pos':Pos} (hN:X.N.Nodup) (hi:X.N[i]?=some x) (hx:Loc X.env.scope x) (he:PE X e te) (hs:swapsWith e (some (.Name x pos')) pos.line X.env=pure false:=by rfl) (hf:X.fn x=true∨X.env.scope.names.lookup x=some .local:=by first|exact .inl rfl|exact .inr rfl|assumption):
  PS X (.Assign [.Name x pos'] e pos) (rY te (aR i)):=by
 intro pins s σ H D I h;refine wpAny_Assign_Name (b7 (he pins s σ H _ I h) fun v s1 ⟨y,H1,I1,r1,q1⟩=>?_) hs
 exact mm I1 hN hi hx r1 (fun s2 I2=>⟨_,H1,I2,q1⟩) hf
end
section
variable {X:Cx} {pos:Pos}
def rZ (c:TT) (tb:TS):TS:=fun D σ H=>∃W:Nat->St->Hp->Prop,(∃m,W m σ H)/\∀m σ H,W m σ H->
 c σ H fun b H1=>if b=true then ∃N:St->Hp->Prop,(∀σ' H',N σ' H'->∃m',m'<m/\W m' σ' H')/\tb {D with nx:=N,ct:=N,bk:=D.nx} σ H1 else D.nx σ H1
theorem mr {c:Expr} {body:List Stmt} {tc:TT} {tb:TS} (hp:PassesOwn (model X.prog X.w) X.A X.env X.xe) (hc:PT X c tc) (hb:i8 X body tb):PS X (.While c body [] pos) (rZ tc tb):=by
 intro pins s σ H D I h;obtain ⟨W,⟨m0,w0⟩,turn⟩:=h;refine wpAny_While (codeAny_whileLoop (fun n s'=>∃σ' H',aP X pins σ' H' s'/\W n σ' H') ?_ m0 ⟨σ,H,I,w0⟩)
 rintro n s1 ⟨σ1,H1,I1,w1⟩;refine wpAny_passesOwn hp (b7 (hc pins s1 σ1 H1 _ I1 (turn n σ1 H1 w1)) fun b s2 ⟨H2,I2,q2⟩=>?_)
 cases b with
 |true=>
  obtain ⟨N,hN,q2⟩:=q2;rw[if_pos rfl];refine wpAny_passesOwn hp (b7 (hb pins s2 σ1 H2 _ I2 q2) fun f s3 q3=>?_)
  cases f with
  |next=>
   obtain ⟨σ3,H3,I3,n3⟩:=q3;obtain ⟨m',hm,w3⟩:=hN σ3 H3 n3;exact ⟨m',hm,σ3,H3,I3,w3⟩
  |cont=>
   obtain ⟨σ3,H3,I3,n3⟩:=q3;obtain ⟨m',hm,w3⟩:=hN σ3 H3 n3;exact ⟨m',hm,σ3,H3,I3,w3⟩
  |brk=>exact q3
  |ret v=>exact q3
 |false=>
  rw[if_neg DL];exact wpAny_execs_nil ⟨σ1,H2,I2,q2⟩
end
structure It where
 go:Nat->Hp->Prop
 yld:Nat->Hp->V->Hp->Prop
 stop:Nat->Hp->Prop
def fH (X:Cx) (pins:GM) (H:Hp) (b:Addr):Prop:=
 H b=none/\b≠X.env.locals/\b∉X.fs/\(b∈X.ex∨X.s₀.heap.objs.size<=b)/\(∀x c,X.env.cells.lookup x=some c->c≠b)/\∀p∈X.pn++pins,p.1≠b
theorem aP.fpOk {X:Cx} {pins:GM} {σ:St} {H H':Hp} {s:Shared} {b:Addr} (I:aP X pins σ H s) (hb:s.heap.objs.size<=b) (hn:H' b=none):fH X pins H' b:=by
 refine ⟨hn,EG (DT I.lt hb),I.nofs hb,.inr (DU I.sz hb),fun x c e z=>?_,fun p hp z=>?_⟩
 ·obtain ⟨v,q⟩:=I.cell x c e;exact absurd (DT q.lt (by rw[z];exact hb)) (Nat.lt_irrefl _)
 ·exact absurd (DT (Heap.lt_size (I.pin p hp).1) (by rw[z];exact hb)) (Nat.lt_irrefl _)
structure Turn (P:Program) (w:World) (K:D3) (tg:Expr) (J:It) (fp:GP) (it:Addr) (tn:Nat->Heap->Prop):Prop where
 mem:it∈fp
 obj:∀i h,tn i h->∀b∈fp,∃o,h.get? b=some o/\∀v,o.data≠ .cell v
 keep:∀i h h',tn i h->(∀b∈fp,∀o,h.get? b=some o->h'.get? b=some o)->tn i h'
 item:∀(X:Cx),X.prog=P->X.w=w->X.K=K->X.calm=true->∀(i:Nat) (pins:GM) (s:Shared) (σ:St) (H:Hp) (E:GK),aP X pins σ H s->(∀b∈fp,fH X pins H b)->tn i s.heap->J.go i H->
  wpAny (model P w) X.A (pyNext (.ref it)) (fun r s1=>∃u,r=some u/\
   wpAny (model P w) X.A (letOwnedTupleGo tg (.ref it) u) (fun _ s2=>∃x H',aP X pins σ H' s2/\RelV x u/\J.yld i H x H'/\tn (i+1) s2.heap/\∀b∈fp,H' b=none) E s1) E s
 done:∀(X:Cx),X.prog=P->X.w=w->X.K=K->X.calm=true->∀(i:Nat) (pins:GM) (s:Shared) (σ:St) (H:Hp) (E:GK),aP X pins σ H s->(∀b∈fp,fH X pins H b)->tn i s.heap->J.stop i H->
  wpAny (model P w) X.A (pyNext (.ref it)) (fun r s1=>r=none/\aP X pins σ H s1) E s
 self:∀(A:Around) (i:Nat) (s:Shared) (Q:GK) (E:GK),tn i s.heap->Q (.ref it) s->wpAny (model P w) A (pyIter (.ref it)) Q E s
abbrev TI:=St->Hp->(It->Hp->Prop)->Prop
def BO (X:Cx) (pins:GM) (σ:St) (tg:Expr) (R:It->Hp->Prop) (itv:Value) (s2:Shared):Prop:=
 ∃(it:Addr) (fp:GP) (tn:Nat->Heap->Prop) (J:It) (H':Hp),itv= .ref it/\aP X pins σ H' s2/\Turn X.prog X.w X.K tg J fp it tn/\tn 0 s2.heap/\(∀b∈fp,fH X pins H' b)/\R J H'
def PI (X:Cx) (tg iter:Expr) (wi:TI):Prop:=
 ∀(pins:GM) (s:Shared) (σ:St) (H:Hp) (R:It->Hp->Prop),aP X pins σ H s->wi σ H R->
  wpAny (model X.prog X.w) X.A (eval iter X.env) (fun v s1=>wpAny (model X.prog X.w) X.A (pyIter v) (BO X pins σ tg R) X.xe s1) X.xe s
theorem pN {M:Model} {A:Around} {E:GK} {s:Shared} {tg:Expr} {it:Addr} {u:Value} {o:Obj} {n:String} {vs:Array Value} {Q:Unit->Shared->Prop} (ho:s.heap.get? it=some o) (hc:o.cls= .type n) (hd:o.data= .fields vs)
    (hn: ["enumerate","zip","dict_itemiterator","dict_reverseitemiterator","odict_iterator","itertools.zip_longest","itertools.pairwise"].contains n=false) (hQ:Q () s):wpAny M A (letOwnedTupleGo tg (.ref it) u) Q E s:=by
  unfold letOwnedTupleGo;cases tg<;>first
    |exact wpAny_pure hQ
    | (cases u<;>first
        |exact wpAny_pure hQ
        | (refine wpAny_bind (wpAny_load ho ?_)
           rw[hc,hd];show wpAny M A (if (["enumerate","zip","dict_itemiterator","dict_reverseitemiterator","odict_iterator","itertools.zip_longest","itertools.pairwise"].contains n&&vs[0]?==some (rawInt _))=true then _ else _) Q E s
           rw[if_neg (by intro h;rw[hn,Bool.false_and] at h;cases h)]
           exact wpAny_pure hQ))
def wR (K:D3) (a:Addr):It:=
 ⟨fun i H=>∃xs x,aE K H a xs/\xs[i]?=some x,fun i H x H'=>H'=H/\∀xs,aE K H a xs->xs[i]?=some x,fun i H=>∃xs,aE K H a xs/\xs.length<=i⟩
def zj (lo:Int) (n:Nat):It:=⟨fun i _=>i<n,fun i H x H'=>H'=H/\x= .int (lo+i),fun i _=>n<=i⟩
theorem qP {P:Program} {w:World} {K:D3} {tg:Expr} (a it:Addr):Turn P w K tg (wR K a) [it] it (fun i h=>h.IsListIter it a i) where
 mem:=by simp
 obj:=fun i h st b hb=>by
  have e:b=it:=by simpa using hb
  subst e;obtain ⟨o,e,c,d⟩:=st;exact ⟨o,e,fun v z=>by rw[d] at z;cases z⟩
 keep:=fun i h h' st k=>st.at fun o e=>k it (by simp) o e
 item:=by
  intro X hP hw hK hc i pins s σ H E I hf st hg;subst hP hw hK;obtain ⟨xs,x,hq,hx⟩:=hg;obtain ⟨its,rv,p,hz⟩:=I.list hq;obtain ⟨u,hu,ru⟩:=rv.get hx;obtain ⟨f0,f1,f2,f3,f4,f5⟩:=hf it (by simp)
  refine wpAny_pyNext_list_item st p.isList (x:=u) (by simpa using hu) fun h' st' sb=>?_
  have I1:aP X pins σ H {s with heap:=h'}:=I.turned (t':=s.toks) (fun b o hb e=>(sb.2 b hb).trans e) f0 f1 f3 f4 f5
  obtain ⟨o,e,c,d⟩:=id st';exact ⟨u,rfl,pN (s:={s with heap:=h'}) e c d (by decide) ⟨x,H,I1,ru,⟨rfl,fun ys hy=>by rw[I.list_inj hy hq];exact hx⟩,st',fun b hb=>(hf b hb).1⟩⟩
 done:=by
  intro X hP hw hK hc i pins s σ H E I hf st hg;subst hP hw hK;obtain ⟨xs,hq,hx⟩:=hg;obtain ⟨its,rv,p,hz⟩:=I.list hq;obtain ⟨f0,f1,f2,f3,f4,f5⟩:=hf it (by simp)
  have hl:=rv.length;exact wpAny_pyNext_list_end (I.ok.hd hc) st p.isList (by simp;omega) fun h' eb=>⟨rfl,I.turned (t':=s.toks) (fun b o hb e=>eb b o hb e) f0 f1 f3 f4 f5⟩
 self:=fun _ _ _ _ _ st h=>wpAny_pyIter_listiter st h
theorem om {P:Program} {w:World} {K:D3} {tg:Expr} (it:Addr) (lo:Int) (n:Nat):Turn P w K tg (zj lo n) [it] it (fun i h=>IsRangeIter h it (lo+(i:Nat)*1) ((n:Int)-(i:Nat)) 1) where
 mem:=by simp
 obj:=fun i h st b hb=>by
  have e:b=it:=by simpa using hb
  subst e;exact ⟨_,st,fun v z=>by
   have z':Data.fields _=Data.cell v:=z;cases z'⟩
 keep:=fun i h h' st k=>k it (by simp) _ st
 item:=by
  intro X hP hw hK hc i pins s σ H E I hf st hg;subst hP hw hK;obtain ⟨f0,f1,f2,f3,f4,f5⟩:=hf it (by simp)
  have W:=Walks.range (prog:=X.prog) (w:=X.w) (I.ok.hd hc) it lo 1 n;refine W.item i s _ _ hg st fun v h' tk hv st' kk=>?_
  obtain ⟨t,rfl⟩:=hv;have I1:aP X pins σ H {s with heap:=h',toks:=tk}:=I.turned (fun b o hb e=>kk b o (by simpa using hb) e) f0 f1 f3 f4 f5
  refine ⟨_,rfl,pN (s:={s with heap:=h',toks:=tk}) (n:= "range_iterator") st' rfl rfl (by decide) ⟨.int (lo+i),H,I1,⟨t,?_⟩,⟨rfl,rfl⟩,st',fun b hb=>(hf b hb).1⟩⟩
  rw[Int.mul_one]
 done:=by
  intro X hP hw hK hc i pins s σ H E I hf st hg;subst hP hw hK;obtain ⟨f0,f1,f2,f3,f4,f5⟩:=hf it (by simp)
  exact wpAny_pyNext_range_end (I.ok.hd hc) st (by have:n<=i:=hg;omega) fun h' eb=>⟨rfl,I.turned (t':=s.toks) (fun b o hb e=>eb b o hb e) f0 f1 f3 f4 f5⟩
 self:=fun _ _ _ _ _ st h=>wpAny_pyIter_rangeiter st h
variable {X:Cx} {tg:Expr}
def zB (K:D3) (tl:TE):TI:=fun σ H R=>tl σ H fun x H1=>∃a,x= .ref a/\(∃xs,aE K H1 a xs)/\R (wR K a) H1
theorem cv {l:Expr} {tl:TE} (hl:PE X l tl):PI X tg l (zB X.K tl):=by
 intro pins s σ H R I h;refine b7 (hl pins s σ H _ I h) fun v s1 ⟨x,H1,I1,r1,q1⟩=>?_
 obtain ⟨a,e,⟨xs,hq⟩,q⟩:=q1;subst e;cases r1;obtain ⟨its,rv,p,hz⟩:=I1.list hq;refine wpAny_pyIter_list p.isList ?_;refine ⟨s1.heap.objs.size,[s1.heap.objs.size],_,_,H1,rfl,I1.kept (t':=s1.toks) fun b o e=>Heap.get?_push_of_some _ e,qP a _,⟨_,Heap.get?_push_size _ rfl,rfl,rfl⟩,fun b hb=>?_,q⟩
 have e:b=s1.heap.objs.size:=by simpa using hb
 subst e;exact I1.fpOk (D9 _) (I1.hok.fresh (D9 _))
theorem r6 {pins:GM} {σ:St} {H:Hp} {s:Shared} {R:It->Hp->Prop} {E:GK} {lo hi:Int} {t u v:Tok} {tk:Nat} (I:aP X pins σ H s) (h1: -(2^62)<=lo) (h2:lo<2^62) (h3: -(2^62)<=hi) (h4:hi<2^62)
  (q:R (zj lo (hi-lo).toNat) H):wpAny (model X.prog X.w) X.A (pyIter (.ref s.heap.objs.size)) (BO X pins σ tg R) E {s with heap:=s.heap.push {cls:= .type "range",data:= .fields #[.int lo t,.int hi u,.int 1 v]},toks:=tk}:=by
 refine wpAny_pyIter_range (IsRange.new ..) (small_one h1 h2 h3 h4) ?_;have I1:aP X pins σ H {s with heap:=s.heap.push {cls:= .type "range",data:= .fields #[.int lo t,.int hi u,.int 1 v]},toks:=tk}:=I.kept fun b o e=>Heap.get?_push_of_some _ e
 refine ⟨(s.heap.push {cls:= .type "range",data:= .fields #[.int lo t,.int hi u,.int 1 v]}).objs.size,[(s.heap.push {cls:= .type "range",data:= .fields #[.int lo t,.int hi u,.int 1 v]}).objs.size],_,_,H,rfl,
  I1.kept (t':=tk) fun b o e=>Heap.get?_push_of_some _ e,om _ lo (hi-lo).toNat,?_,fun b hb=>?_,q⟩
 ·have e1:lo+((0:Nat):Int)*1=lo:=by simp
  have e2:(((hi-lo).toNat:Nat):Int)-((0:Nat):Int)=Builtin.Range.rangeSize lo hi 1:=by rw[rangeSize_one];split<;>omega
  show IsRangeIter _ _ (lo+((0:Nat):Int)*1) ((((hi-lo).toNat:Nat):Int)-((0:Nat):Int)) 1;rw[e1,e2];exact Heap.get?_push_size _ rfl
 ·have e:b=(s.heap.push {cls:= .type "range",data:= .fields #[.int lo t,.int hi u,.int 1 v]}).objs.size:=by simpa using hb
  subst e;exact I1.fpOk (D9 _) (I1.hok.fresh (D9 _))
def zC (ta:TA):TI:=fun σ H R=>ta σ H fun vs H1=>∃j:Int,vs= [.int j]/\ -(2^62)<=j/\j<2^62/\R (zj 0 j.toNat) H1
theorem iu {a:Expr} {ta:TA} {p pos:Pos} (hg:Gl X "range") (hm:X.mg "range" =none) (ha:PA X [a] ta) (hs:starEach [a] X.env= [(false,eval a X.env)]:=by rfl):PI X tg (.Call (.Name "range" p) [a] [] pos) (zC ta):=by
 intro pins s σ H R I h;refine Call_ (fF I hg hm boot_range (EE (b7 (ha pos pins s σ H _ I h) fun us s1 ⟨vs,H1,I1,r1,q1⟩=>?_) hs rfl))
 obtain ⟨j,e,q1,q2,q⟩:=q1;subst e;cases r1 with
 |cons r rr=>
  cases rr;obtain ⟨t,rfl⟩:=r;exact call_range_1 (r6 I1 (by omega) (by omega) q1 q2 (by simpa using q))
def BP (wi:TI) (g:TG) (tb:TS):TS:=fun D σ H=>wi σ H fun J H1=>∃W:Nat->Nat->St->Hp->Prop,(∃m,W 0 m σ H1)/\∀i m σ H,W i m σ H->
 (J.stop i H/\D.nx σ H)∨(J.go i H/\∃N:St->Hp->Prop,(∀σ' H',N σ' H'->∃m',m'<m/\W (i+1) m' σ' H')/\∀x H',J.yld i H x H'->g x σ H' fun σ2 H2=>tb {D with nx:=N,ct:=N,bk:=D.nx} σ2 H2)
def k8 (fp:GP) (h:Heap):GM:=fp.filterMap fun b=>(h.get? b).map fun o=>(b,o)
theorem dy {fp:GP} {h:Heap} {b:Addr} {o:Obj} (hb:b∈fp) (e:h.get? b=some o):(b,o)∈k8 fp h:=List.mem_filterMap.mpr ⟨b,hb,by rw[e];rfl⟩
theorem qQ {fp:GP} {h:Heap} {p:Addr×Obj} (hp:p∈k8 fp h):p.1∈fp/\h.get? p.1=some p.2:=by
 obtain ⟨b,hb,e⟩:=List.mem_filterMap.mp hp;cases q:h.get? b with
 |none=>rw[q] at e;cases e
 |some o=>
  rw[q] at e;have e':(b,o)=p:=DS e;subst e';exact ⟨hb,q⟩
theorem aP.pinned {pins:GM} {σ:St} {H:Hp} {s:Shared} {fp:GP} (I:aP X pins σ H s) (hf:∀b∈fp,fH X pins H b) (ho:∀b∈fp,∃o,s.heap.get? b=some o/\∀v,o.data≠ .cell v):aP X (pins++k8 fp s.heap) σ H s:=
 I.pins_of fun p hp=>(DC.mp hp).elim (fun z=>I.pin p (DH _ z)) fun z=>by
  obtain ⟨hb,e⟩:=qQ z;obtain ⟨f0,f1,f2,_⟩:=hf p.1 hb;obtain ⟨o,e',d⟩:=ho p.1 hb;rw[e] at e';cases e';exact ⟨e,f0,f1,f2,d⟩
theorem aP.unpinned {pins pl:GM} {σ:St} {H:Hp} {s:Shared} (I:aP X (pins++pl) σ H s):aP X pins σ H s:=I.pins_of fun p hp=>I.pin p (DH _ (Dz _ hp))
theorem cF {iter:Expr} {body:List Stmt} {wi:TI} {g:TG} {tb:TS} {pos:Pos} (hp:PassesOwn (model X.prog X.w) X.A X.env X.xe) (hc:X.calm=true) (hi:PI X tg iter wi) (hg:PG X tg g) (hb:i8 X body tb)
  (hs:∀x,foldedSetIterable iter X.env x=pure x:=by intro _;rfl):PS X (.For tg iter body [] pos) (BP wi g tb):=by
 intro pins s σ H D I h;refine wpAny_For (b7 (hi pins s σ H _ I h) fun v s1 h1=>b7 h1 fun itv s2 h2=>?_) hs
 obtain ⟨it,fp,tn,J,H2,e,I2,T,st2,f2,W,⟨m0,w0⟩,turn⟩:=h2;subst e;have stat:∀{H':Hp},(∀b∈fp,H' b=none)->∀b∈fp,fH X pins H' b:=fun hn b hb=>⟨hn b hb,(f2 b hb).2⟩
 refine codeAny_forLoop_any (fun n s'=>∃i σ' H',aP X pins σ' H' s'/\tn i s'.heap/\(∀b∈fp,H' b=none)/\W i n σ' H') ?_ m0 ⟨0,σ,H2,I2,st2,fun b hb=>(f2 b hb).1,w0⟩
 rintro n s3 ⟨i,σ3,H3,I3,st3,fr3,w3⟩;rcases turn i n σ3 H3 w3 with ⟨stop,qn⟩|⟨go,N,hN,step⟩
 ·refine wpAny_passesOwn hp (b7 (T.done X rfl rfl rfl hc i pins s3 σ3 H3 X.xe I3 (stat fr3) st3 stop) fun r s4 ⟨hr,I4⟩=>?_)
  subst hr;exact wpAny_execs_nil ⟨σ3,H3,I4,qn⟩
 ·refine wpAny_passesOwn hp (b7 (T.item X rfl rfl rfl hc i pins s3 σ3 H3 X.xe I3 (stat fr3) st3 go) fun r s4 ⟨u,hr,h4⟩=>?_)
  subst hr;refine wpAny_passesOwn hp (b7 h4 fun _ s5 ⟨x,H5,I5,r5,y5,st5,fr5⟩=>?_)
  have I5':=I5.pinned (stat fr5) (T.obj _ _ st5);refine wpAny_passesOwn hp (b7 (hg _ s5 σ3 H5 x u _ I5' r5 (step x H5 y5)) fun _ s6 ⟨σ6,H6,I6,q6⟩=>?_)
  refine wpAny_passesOwn hp (b7 (hb _ s6 σ6 H6 _ I6 q6) fun f s7 q7=>?_)
  have again:∀{σ7:St} {H7:Hp},aP X (pins++k8 fp s5.heap) σ7 H7 s7->N σ7 H7->∃m,m<n/\∃i σ' H',aP X pins σ' H' s7/\tn i s7.heap/\(∀b∈fp,H' b=none)/\W i m σ' H':=fun {σ7 H7} I7 n7=>by
   obtain ⟨m',hm,w7⟩:=hN σ7 H7 n7;refine ⟨m',hm,i+1,σ7,H7,I7.unpinned,T.keep _ _ _ st5 fun b hb o e=>(I7.pin (b,o) (DH _ (DH _ (dy hb e)))).1,fun b hb=>?_,w7⟩
   obtain ⟨o,e,d⟩:=T.obj _ _ st5 b hb;exact (I7.pin (b,o) (DH _ (DH _ (dy hb e)))).2.1
  cases f with
  |next=>obtain ⟨σ7,H7,I7,n7⟩:=q7;exact again I7 n7
  |cont=>obtain ⟨σ7,H7,I7,n7⟩:=q7;exact again I7 n7
  |brk=>obtain ⟨σ7,H7,I7,q7⟩:=q7;exact ⟨σ7,H7,I7.unpinned,q7⟩
  |ret v=>obtain ⟨x7,σ7,H7,I7,r7,q7⟩:=q7;exact ⟨x7,σ7,H7,I7.unpinned,r7,q7⟩
theorem dG {K:D3} {a:Addr} {xs:List V} {g:TG} {tb:TS} {D:Ends} {σ:St} {H:Hp} (Pv:Nat->St->Hp->Prop) (h0:Pv 0 σ H) (hl:∀i σ H,i<=xs.length->Pv i σ H->aE K H a xs)
  (hs:∀i x σ H,xs[i]?=some x->Pv i σ H->g x σ H fun σ2 H2=>tb {D with nx:=Pv (i+1),ct:=Pv (i+1),bk:=D.nx} σ2 H2) (hd:∀σ H,Pv xs.length σ H->D.nx σ H):
  ∃W:Nat->Nat->St->Hp->Prop,(∃m,W 0 m σ H)/\∀i m σ H,W i m σ H->
   ((wR K a).stop i H/\D.nx σ H)∨((wR K a).go i H/\∃N:St->Hp->Prop,(∀σ' H',N σ' H'->∃m',m'<m/\W (i+1) m' σ' H')/\∀x H',(wR K a).yld i H x H'->g x σ H' fun σ2 H2=>tb {D with nx:=N,ct:=N,bk:=D.nx} σ2 H2):=by
 refine ⟨fun i m σ H=>m=xs.length-i/\i<=xs.length/\Pv i σ H,⟨xs.length,by simp,E1 _,h0⟩,?_⟩
 rintro i m σ H ⟨rfl,hi,p⟩;have q:=hl i σ H hi p
 by_cases hlt:i<xs.length
 ·refine .inr ⟨⟨xs,xs[i],q,by simp[hlt]⟩,Pv (i+1),fun σ' H' p'=>⟨xs.length-(i+1),by omega,rfl,hlt,p'⟩,fun x H' y=>?_⟩
  obtain ⟨e,y⟩:=y;subst e;exact hs i x σ _ (y xs q) p
 ·have e:i=xs.length:=by omega
  subst e;exact .inl ⟨⟨xs,q,D9 _⟩,hd σ H p⟩
theorem iw {lo:Int} {n:Nat} {g:TG} {tb:TS} {D:Ends} {σ:St} {H:Hp} (Pv:Nat->St->Hp->Prop) (h0:Pv 0 σ H)
  (hs:∀i σ H,i<n->Pv i σ H->g (.int (lo+i)) σ H fun σ2 H2=>tb {D with nx:=Pv (i+1),ct:=Pv (i+1),bk:=D.nx} σ2 H2) (hd:∀σ H,Pv n σ H->D.nx σ H):
  ∃W:Nat->Nat->St->Hp->Prop,(∃m,W 0 m σ H)/\∀i m σ H,W i m σ H->
   ((zj lo n).stop i H/\D.nx σ H)∨((zj lo n).go i H/\∃N:St->Hp->Prop,(∀σ' H',N σ' H'->∃m',m'<m/\W (i+1) m' σ' H')/\∀x H',(zj lo n).yld i H x H'->g x σ H' fun σ2 H2=>tb {D with nx:=N,ct:=N,bk:=D.nx} σ2 H2):=by
 refine ⟨fun i m σ H=>m=n-i/\i<=n/\Pv i σ H,⟨n,by simp,E1 _,h0⟩,?_⟩
 rintro i m σ H ⟨rfl,hi,p⟩
 by_cases hlt:i<n
 ·refine .inr ⟨hlt,Pv (i+1),fun σ' H' p'=>⟨n-(i+1),by omega,rfl,hlt,p'⟩,fun x H' y=>?_⟩
  obtain ⟨e,y⟩:=y;subst e y;exact hs i σ _ hlt p
 ·have e:i=n:=by omega
  subst e;exact .inl ⟨D9 _,hd σ H p⟩
theorem mw {c:TT} {tb:TS} {D:Ends} {σ:St} {H:Hp} (Pv:St->Hp->Prop) (μ:St->Hp->Nat) (h0:Pv σ H)
  (hs:∀σ H,Pv σ H->c σ H fun b H1=>if b=true then tb {D with nx:=fun σ' H'=>Pv σ' H'/\μ σ' H'<μ σ H,ct:=fun σ' H'=>Pv σ' H'/\μ σ' H'<μ σ H,bk:=D.nx} σ H1 else D.nx σ H1)
  (mono:∀σ H Q Q',(∀b H1,Q b H1->Q' b H1)->c σ H Q->c σ H Q'):rZ c tb D σ H:=by
 refine ⟨fun m σ H=>m=μ σ H/\Pv σ H,⟨_,rfl,h0⟩,?_⟩
 rintro m σ H ⟨rfl,p⟩;refine mono σ H _ _ (fun b H1 q=>?_) (hs σ H p)
 cases b with
 |true=>exact ⟨_,fun σ' H' ⟨p',l⟩=>⟨_,l,rfl,p'⟩,q⟩
 |false=>exact q
abbrev R2:=V->V->Hp->VK->Prop
def gA (X:Cx) (f:Value->Value->Sem Value) (r:R2):Prop:=
 ∀(pins:GM) (s:Shared) (σ:St) (H:Hp) (x y:V) (v u:Value) (Q:VK),aP X pins σ H s->RelV x v->RelV y u->r x y H Q->
  wpAny (model X.prog X.w) X.A (f v u) (EP X pins σ Q) X.xe s
def BQ (X:Cx) (f:Value->Sem Value) (r:V->Hp->VK->Prop):Prop:=
 ∀(pins:GM) (s:Shared) (σ:St) (H:Hp) (x:V) (v:Value) (Q:VK),aP X pins σ H s->RelV x v->r x H Q->
  wpAny (model X.prog X.w) X.A (f v) (EP X pins σ Q) X.xe s
def dH (X:Cx) (f:Value) (r:List V->Hp->VK->Prop):Prop:=
 ∀(pins:GM) (s:Shared) (σ:St) (H:Hp) (xs:List V) (us:GQ) (Q:VK),aP X pins σ H s->bn xs us->r xs H Q->
  wpAny (model X.prog X.w) X.A (call f us) (EP X pins σ Q) X.xe s
def wS (r:R2) (ta tb:TE):TE:=fun σ H Q=>ta σ H fun x H1=>tb σ H1 fun y H2=>r x y H2 Q
def CQ (r:V->Hp->VK->Prop) (ta:TE):TE:=fun σ H Q=>ta σ H fun x H1=>r x H1 Q
def rI (C:Int->Int->Prop) (g:Int->Int->V):R2:=fun x y H Q=>∃i j,x= .int i/\y= .int j/\C i j/\Q (g i j) H
def uI (g:Int->Int->V):R2:=fun x y H Q=>∃i j,x= .int i/\y= .int j/\Q (g i j) H
def rU (g:Int->V):V->Hp->VK->Prop:=fun x H Q=>∃i,x= .int i/\Q (g i) H
section
variable {a b c:Expr} {ta tb tc:TE} {pos:Pos}
theorem wT (ha:PE X a ta) (hb:PE X b tb) {pins:GM} {s:Shared} {σ:St} {H:Hp} {R:V->V->Hp->Prop} (I:aP X pins σ H s)
  (h:ta σ H fun x H1=>tb σ H1 fun y H2=>R x y H2) {Q:GK} {f:Value->Value->Sem Value}
  (hf:∀v u s2 x y H2,aP X pins σ H2 s2->RelV x v->RelV y u->R x y H2->wpAny (model X.prog X.w) X.A (f v u) Q X.xe s2):
  wpAny (model X.prog X.w) X.A (eval a X.env) (fun v s₁=>wpAny (model X.prog X.w) X.A (eval b X.env) (fun u s₂=>wpAny (model X.prog X.w) X.A (f v u) Q X.xe s₂) X.xe s₁) X.xe s:=by
 refine b7 (ha pins s σ H _ I h) fun v s1 ⟨x,H1,I1,r1,q1⟩=>?_
 refine b7 (hb pins s1 σ H1 _ I1 q1) fun u s2 ⟨y,H2,I2,r2,q2⟩=>?_
 exact hf v u s2 x y H2 I2 r1 r2 q2
theorem ar {op:Operator} {r:R2} (ho:gA X (binaryOp op) r) (ha:PE X a ta) (hb:PE X b tb):PE X (.BinOp a op b pos) (wS r ta tb):=by
 intro pins s σ H Q I h;exact wpAny_BinOp (wT ha hb I h fun v u s2 x y H2 I2 rx ry q=>ho pins s2 σ H2 x y v u Q I2 rx ry q)
theorem wc {op:UnaryOp} {r:V->Hp->VK->Prop} (ho:BQ X (unaryOp op) r) (ha:PE X a ta):PE X (.UnaryOp op a pos) (CQ r ta):=by
 intro pins s σ H Q I h;exact UnaryOp_ (b7 (ha pins s σ H _ I h) fun v s1 ⟨x,H1,I1,r1,q1⟩=>ho pins s1 σ H1 x v Q I1 r1 q1)
theorem Bs {f:Value->Value->Sem Value} {C:Int->Int->Prop} {g:Int->Int->Int}
  (rule:∀(i j:Int) (t u:Tok) (s:Shared) (Q:GK) (E:GK),C i j->Q (.int (g i j) s.toks) {s with toks:=s.toks+1}->wpAny (model X.prog X.w) X.A (f (.int i t) (.int j u)) Q E s):
  gA X f (rI C fun i j=> .int (g i j)):=by
 intro pins s σ H x y v u Q I rx ry h;obtain ⟨i,j,rfl,rfl,hc,q⟩:=h;obtain ⟨t,rfl⟩:=rx;obtain ⟨t',rfl⟩:=ry;exact rule i j t t' s _ _ hc ⟨.int (g i j),H,I.tok _,⟨_,rfl⟩,q⟩
theorem zD {f:Value->Value->Sem Value} {g:Int->Int->Int}
  (rule:∀(i j:Int) (t u:Tok) (s:Shared) (Q:GK) (E:GK),Q (.int (g i j) s.toks) {s with toks:=s.toks+1}->wpAny (model X.prog X.w) X.A (f (.int i t) (.int j u)) Q E s):
  gA X f (uI fun i j=> .int (g i j)):=by
 intro pins s σ H x y v u Q I rx ry h;obtain ⟨i,j,rfl,rfl,q⟩:=h;obtain ⟨t,rfl⟩:=rx;obtain ⟨t',rfl⟩:=ry;exact rule i j t t' s _ _ ⟨.int (g i j),H,I.tok _,⟨_,rfl⟩,q⟩
theorem uJ {f:Value->Value->Sem Value} {g:Int->Int->Bool}
  (rule:∀(i j:Int) (t u:Tok) (s:Shared) (Q:GK) (E:GK),Q (.bool (g i j)) s->wpAny (model X.prog X.w) X.A (f (.int i t) (.int j u)) Q E s):
  gA X f (uI fun i j=> .bl (g i j)):=by
 intro pins s σ H x y v u Q I rx ry h;obtain ⟨i,j,rfl,rfl,q⟩:=h;obtain ⟨t,rfl⟩:=rx;obtain ⟨t',rfl⟩:=ry;exact rule i j t t' s _ _ ⟨.bl (g i j),H,I,rfl,q⟩
theorem bY:gA X (binaryOp .Add) (uI fun i j=> .int (i+j)):=zD fun _ _ _ _ _ _ _ q=>add_int q
theorem ix:gA X (binaryOp .Sub) (uI fun i j=> .int (i-j)):=zD fun _ _ _ _ _ _ _ q=>sub_int q
theorem aN:gA X (binaryOp .Mod) (rI (fun _ j=>j≠0) fun i j=> .int (i.fmod j)):=Bs fun _ _ _ _ _ _ _ hc q=>mod_int' hc q
theorem CS {f:Value->Sem Value} {g:Int->Int}
  (rule:∀(i:Int) (t:Tok) (s:Shared) (Q:GK) (E:GK),Q (.int (g i) s.toks) {s with toks:=s.toks+1}->wpAny (model X.prog X.w) X.A (f (.int i t)) Q E s):
  BQ X f (rU fun i=> .int (g i)):=by
 intro pins s σ H x v Q I rx h;obtain ⟨i,rfl,q⟩:=h;obtain ⟨t,rfl⟩:=rx;exact rule i t s _ _ ⟨.int (g i),H,I.tok _,⟨_,rfl⟩,q⟩
theorem r8:BQ X (unaryOp .USub) (rU fun i=> .int (-i)):=CS fun _ _ _ _ _ q=>neg_int q
end
def zE:V->V->Bool
 | .non,.non=>true| .non,.int _=>true| .int _,.non=>true| .non,.bl _=>true| .bl _,.non=>true| .non,.str _=>true| .str _,.non=>true
 | .int _,.int _=>true| .bl _,.bl _=>true| .str _,.str _=>true| .byt _,.byt _=>true
 | .int _,.str _=>true| .str _,.int _=>true| .bl _,.str _=>true| .str _,.bl _=>true
 |_,_=>false
def CT:R2:=fun x y H Q=>zE x y=true/\Q (.bl (decide (x=y))) H
def CU:R2:=fun x y H Q=>zE x y=true/\Q (.bl (!decide (x=y))) H
theorem pO {i j:Int}:decide (V.int i=V.int j)=(i==j):=by
 rw[Bool.eq_iff_iff];simp
theorem sd {i j:Bool}:decide (V.bl i=V.bl j)=(i==j):=by
 rw[Bool.eq_iff_iff];simp
theorem pP {i j:Str}:decide (V.str i=V.str j)=(i==j):=by
 rw[Bool.eq_iff_iff];simp
theorem pQ {i j:Array UInt8}:decide (V.byt i=V.byt j)=(i.toList==j.toList):=by
 rw[Bool.eq_iff_iff];cases i;cases j;simp
section
variable {a b c:Expr} {ta tb tc:TE} {pos:Pos}
theorem bF {pins:GM} {σ:St} {H:Hp} {s:Shared} {Q:VK} {k k':Bool} (I:aP X pins σ H s) (q:Q (.bl k) H) (e:k=k'):EP X pins σ Q (.bool k') s:=by
 subst e;exact ⟨.bl k,H,I,rfl,q⟩
theorem bC:gA X (compareOp .Eq) CT:=by
 intro pins s σ H x y v u Q I rx ry h;obtain ⟨hs,q⟩:=h;cases x with
 |non=>
  cases rx;cases y with
  |non=>cases ry;exact PySem.EqNone.eq_none_none (bF I q (by simp))
  |bl j=>cases ry;exact PySem.EqNone.eq_none_bool (bF I q (by simp))
  |int j=>obtain ⟨t',rfl⟩:=ry;exact PySem.EqNone.eq_none_int (bF I q (by simp))
  |str j=>obtain ⟨t',rfl⟩:=ry;exact PySem.EqNone.eq_none_str (bF I q (by simp))
  |_=>exact absurd (show false=true from hs) DL
 |bl i=>
  cases rx;cases y with
  |non=>cases ry;exact PySem.EqNone.eq_bool_none (bF I q (by simp))
  |bl j=>cases ry;exact eq_bool (bF I q sd)
  |str j=>obtain ⟨t',rfl⟩:=ry;exact PySem.EqMixed.eq_bool_str (bF I q (by simp))
  |_=>exact absurd (show false=true from hs) DL
 |int i=>
  obtain ⟨t,rfl⟩:=rx;cases y with
  |non=>cases ry;exact PySem.EqNone.eq_int_none (bF I q (by simp))
  |int j=>obtain ⟨t',rfl⟩:=ry;exact eq_int (bF I q pO)
  |str j=>obtain ⟨t',rfl⟩:=ry;exact PySem.EqMixed.eq_int_str (bF I q (by simp))
  |_=>exact absurd (show false=true from hs) DL
 |str i=>
  obtain ⟨t,rfl⟩:=rx;cases y with
  |non=>cases ry;exact PySem.EqNone.eq_str_none (bF I q (by simp))
  |bl j=>cases ry;exact PySem.EqMixed.eq_str_bool (bF I q (by simp))
  |int j=>obtain ⟨t',rfl⟩:=ry;exact PySem.EqMixed.eq_str_int (bF I q (by simp))
  |str j=>obtain ⟨t',rfl⟩:=ry;exact eq_str (bF I q pP)
  |_=>exact absurd (show false=true from hs) DL
 |byt i=>
  obtain ⟨t,rfl⟩:=rx;cases y with
  |byt j=>obtain ⟨t',rfl⟩:=ry;exact PySem.W.eq_bytes (bF I q pQ)
  |_=>exact absurd (show false=true from hs) DL
 |_=>cases y<;>exact absurd (show false=true from hs) DL
theorem eP:gA X (compareOp .NotEq) CU:=by
 intro pins s σ H x y v u Q I rx ry h;obtain ⟨hs,q⟩:=h;cases x with
 |non=>
  cases rx;cases y with
  |non=>cases ry;exact PySem.EqNone.ne_none_none (bF I q (by simp))
  |bl j=>cases ry;exact PySem.EqNone.ne_none_bool (bF I q (by simp))
  |int j=>obtain ⟨t',rfl⟩:=ry;exact PySem.EqNone.ne_none_int (bF I q (by simp))
  |str j=>obtain ⟨t',rfl⟩:=ry;exact PySem.EqNone.ne_none_str (bF I q (by simp))
  |_=>exact absurd (show false=true from hs) DL
 |bl i=>
  cases rx;cases y with
  |non=>cases ry;exact PySem.EqNone.ne_bool_none (bF I q (by simp))
  |bl j=>cases ry;exact ne_bool (bF I q (congrArg not sd))
  |str j=>obtain ⟨t',rfl⟩:=ry;exact PySem.EqMixed.ne_bool_str (bF I q (by simp))
  |_=>exact absurd (show false=true from hs) DL
 |int i=>
  obtain ⟨t,rfl⟩:=rx;cases y with
  |non=>cases ry;exact PySem.EqNone.ne_int_none (bF I q (by simp))
  |int j=>obtain ⟨t',rfl⟩:=ry;exact ne_int (bF I q (congrArg not pO))
  |str j=>obtain ⟨t',rfl⟩:=ry;exact PySem.EqMixed.ne_int_str (bF I q (by simp))
  |_=>exact absurd (show false=true from hs) DL
 |str i=>
  obtain ⟨t,rfl⟩:=rx;cases y with
  |non=>cases ry;exact PySem.EqNone.ne_str_none (bF I q (by simp))
  |bl j=>cases ry;exact PySem.EqMixed.ne_str_bool (bF I q (by simp))
  |int j=>obtain ⟨t',rfl⟩:=ry;exact PySem.EqMixed.ne_str_int (bF I q (by simp))
  |str j=>obtain ⟨t',rfl⟩:=ry;exact ne_str (bF I q (congrArg not pP))
  |_=>exact absurd (show false=true from hs) DL
 |byt i=>
  obtain ⟨t,rfl⟩:=rx;cases y with
  |byt j=>obtain ⟨t',rfl⟩:=ry;exact PySem.W.ne_bytes (bF I q (congrArg not pQ))
  |_=>exact absurd (show false=true from hs) DL
 |_=>cases y<;>exact absurd (show false=true from hs) DL
theorem ja:gA X (compareOp .Lt) (uI fun i j=> .bl (decide (i<j))):=uJ fun _ _ _ _ _ _ _ q=>lt_int q
theorem zF:gA X (compareOp .LtE) (uI fun i j=> .bl (decide (i<=j))):=uJ fun _ _ _ _ _ _ _ q=>le_int q
theorem mz:gA X (compareOp .Gt) (uI fun i j=> .bl (decide (j<i))):=uJ fun _ _ _ _ _ _ _ q=>gt_int q
theorem zG:gA X (compareOp .GtE) (uI fun i j=> .bl (decide (j<=i))):=uJ fun _ _ _ _ _ _ _ q=>ge_int q
theorem cG:gA X (compareOp .Is) (fun x y H Q=>y= .non/\Q (.bl (decide (x= .non))) H):=by
 intro pins s σ H x y v u Q I rx ry h;obtain ⟨rfl,q⟩:=h;cases ry;refine is_none_gen (bF I q ?_);cases x<;>first
  |(cases rx;rfl)
  |(obtain ⟨t,rfl⟩:=rx;rfl)
theorem iW:gA X (compareOp .IsNot) (fun x y H Q=>y= .non/\Q (.bl (!decide (x= .non))) H):=by
 intro pins s σ H x y v u Q I rx ry h;obtain ⟨rfl,q⟩:=h;cases ry;refine isnot_none_gen (bF I q ?_);cases x<;>first
  |(cases rx;rfl)
  |(obtain ⟨t,rfl⟩:=rx;rfl)
theorem aA (b:Expr) {op:CmpOp} (h:op≠ .In:=by decide) (h2:op≠ .NotIn:=by decide):behindInMarks op b=false:=by
 have e1:(op==CmpOp.In)=false:=by cases op<;>first|rfl|exact absurd rfl h
 have e2:(op==CmpOp.NotIn)=false:=by cases op<;>first|rfl|exact absurd rfl h2
 cases b<;>simp[behindInMarks,e1,e2]
theorem eI {op:CmpOp} {r:R2} (ho:gA X (compareOp op) r) (ha:PE X a ta) (hb:PE X b tb) (hm:behindInMarks op b=false):PE X (.Compare a [op] [b] pos) (wS r ta tb):=by
 intro pins s σ H Q I h;exact wpAny_Compare1 (wT ha hb I h fun v u s2 x y H2 I2 rx ry q=>ho pins s2 σ H2 x y v u Q I2 rx ry q) hm
def zH (t:TE):TT:=fun σ H Q=>t σ H fun x H'=>∃k,x= .bl k/\Q k H'
theorem av {op:CmpOp} {r:R2} (ho:gA X (compareOp op) r) (ha:PE X a ta) (hb:PE X b tb) (hm:behindInMarks op b=false):PT X (.Compare a [op] [b] pos) (zH (wS r ta tb)):=by
 intro pins s σ H Q I h;refine wpAny_isTrue_Compare1 (b7 (ha pins s σ H _ I h) fun v s1 ⟨x,H1,I1,r1,q1⟩=>b7 (hb pins s1 σ H1 _ I1 q1) fun u s2 ⟨y,H2,I2,r2,q2⟩=>
  b7 (ho pins s2 σ H2 x y v u _ I2 r1 r2 q2) fun c s3 ⟨z,H3,I3,r3,k,e,q3⟩=>?_) hm
 subst e;cases r3;exact wpAny_truthy_bool ⟨H3,I3,q3⟩
theorem iy:(sizeLine:Nat)<2^63:=by rw[sizeLine_eq];decide
theorem ao:gA X (binaryOp .Add) (fun x y H Q=>∃i j,x= .str i/\y= .str j/\i.length+j.length<=sizeLine/\Q (.str (i++j)) H):=by
 intro pins s σ H x y v u Q I rx ry h;obtain ⟨i,j,rfl,rfl,hz,q⟩:=h;obtain ⟨t,rfl⟩:=rx;obtain ⟨t',rfl⟩:=ry;exact add_str (fun t' tk=>⟨.str (i++j),H,I.tok _,⟨_,rfl⟩,q⟩) hz
theorem vals1 {x:V} {us:GQ} (r:bn [x] us):∃u,us= [u]/\RelV x u:=by
 cases r with
 |cons r1 r2=>cases r2;exact ⟨_,rfl,r1⟩
theorem vals2 {x y:V} {us:GQ} (r:bn [x,y] us):∃u w',us= [u,w']/\RelV x u/\RelV y w':=by
 cases r with
 |cons r1 r2=>
  cases r2 with
  |cons r3 r4=>cases r4;exact ⟨_,_,rfl,r1,r3⟩
theorem mB:dH X (.builtin "abs") (fun xs H Q=>∃i,xs= [.int i]/\Q (.int (if i<0 then-i else i)) H):=by
 intro pins s σ H xs us Q I r h;obtain ⟨i,rfl,q⟩:=h;obtain ⟨u,rfl,t,rfl⟩:=vals1 r;exact call_abs_int fun u tk=>⟨.int (if i<0 then-i else i),H,I.tok _,⟨_,rfl⟩,q⟩
theorem aG:dH X (.type "str") (fun xs H Q=>∃i,xs= [.int i]/\i.natAbs.log2<1920/\Q (.str (toString i)) H):=by
 intro pins s σ H xs us Q I r h;obtain ⟨i,rfl,hz,q⟩:=h;obtain ⟨u,rfl,t,rfl⟩:=vals1 r;exact PySem.P.str_of_int hz ⟨.str _,H,I.tok _,⟨_,rfl⟩,q⟩
end
structure oo (h:Heap) (x dx C:Addr) (mA:GL):Prop where
 obj:h.get? x=some (EJ C dx)
 ns:h.Ns1 dx mA
 ne:dx≠x
theorem qR {h:Heap} {dx:Addr} {mA:GL} (n:h.Ns1 dx mA):∃od,h.get? dx=some od/\∀name,PySem.W.lookIn name od=some (mA name):=by
 obtain ⟨o,es,ep,ho,hd,hk,_,hm⟩:=n;refine ⟨o,ho,fun name=>?_⟩
 have e:=hm name;unfold nsFind findBy at e;rw[<-Array.find?_toList] at e;unfold PySem.W.lookIn;rw[hd];dsimp only
 split
 ·rename_i y q;rw[q] at e;exact congrArg some e
 ·rename_i q;rw[q] at e;have a:es.toList.any (·.refKey)=false:=by
   rw[List.any_eq_false];intro y hy;obtain ⟨z,t,hkey⟩:=hk y (Array.mem_toList_iff.mp hy);simp[DictEntry.refKey,hkey]
  have a':¬es.toList.any (·.refKey)=true:=by rw[a];exact DL
  rw[if_neg a'];exact congrArg some e
theorem oo.look {h:Heap} {x dx C:Addr} {mA:GL} (I:oo h x dx C mA):∃od,PySem.W.InstAt h x (EJ C dx) C (some od)/\∀name,PySem.W.lookIn name od=some (mA name):=
 let ⟨od,ho,hl⟩:=qR I.ns
 ⟨od,⟨I.obj,rfl,rfl,ho⟩,hl⟩
section
variable {prog:Program} {w:World} {A:Around} {E:GK} {s:Shared} {K:D3} {x dx C f:Addr} {mA:GL} {name:Str} {v:Value}
theorem uK {expr:Bool} {Q:GK} (X:K.In s.heap) (I:oo s.heap x dx C mA) (hg:PySem.W.plainGet K C name=true) (hh:PySem.W.hasDictIn K C=true)
  (ha:Dm K (.ref C) name=some none) (hv:mA name=some v) (hv':PySem.W.handedIn v=true) (h:Q v {s with toks:=s.toks+1}):
  wpAny (model prog w) A (getAttr (.ref x) name expr) Q E s:=by
 obtain ⟨od,J,hl⟩:=I.look;exact PySem.W.get_value X J (PySem.W.plainGet_of hg).1 (PySem.W.findObj_own hh ha rfl (by rw[hl,hv])) hv' h
theorem se {pl:Sem Bool} {Q:Value×GQ->Shared->Prop} (X:K.In s.heap) (I:oo s.heap x dx C mA) (hg:PySem.W.plainGet K C name=true)
  (hf:Dm K (.ref C) name=some (some (.ref f))) (ht:PySem.W.isFn K (.ref f)=true) (hv:mA name=none) (h:Q (.ref f,[.ref x]) s):
  wpAny (model prog w) A (getMethod (.ref x) name pl) Q E s:=by
 obtain ⟨od,J,hl⟩:=I.look;exact PySem.W.method_fn X J (PySem.W.plainGet_of hg).1 (PySem.W.plainGet_of hg).2 hf (beq_iff_eq.mp ht) (by show (PySem.W.lookIn name od).map (·.isSome)=some false;rw[hl,hv];rfl) h
theorem uL {ns:GO} {Q:Unit->Shared->Prop} (X:K.In s.heap) (I:oo s.heap x dx C mA)
  (hs:Dm K (.ref C) "__setattr__" =some (some (.builtin "object.__setattr__"))) (hp:PySem.W.plainOver K C=true) (ht:PySem.W.takerIn K C name=some none) (hh:PySem.W.hasDictIn K C=true)
  (hw:PySem.Within mA ns) (hsz:ns.length<=sizeLine)
  (h:∀h',oo h' x dx C (fun y=>if y=name then some v else mA y)->Heap.SameBut dx s.heap h'->Q () {s with heap:=h',toks:=s.toks+2}):
  wpAny (model prog w) A (setAttr (.ref x) name v) Q E s:=by
 obtain ⟨od,J,hl⟩:=I.look;refine PySem.W.set_plain X J hs (PySem.W.osa_open (s:={s with toks:=s.toks+1}) (r:=none) X J hp ht fun b=>?_)
 obtain ⟨cd,hc,hd'⟩:=PySem.W.any_some hh;have hx:s.heap.get? x=some ⟨.ref C,some dx,.plain,#[]⟩:=I.obj;refine wpAny_bind (wpAny_pure (wpAny_bind (wpAny_bind (wpAny_loadPart hx (wpAny_bind (PySem.W.Looks.here (s:={s with toks:=s.toks+1}) (PySem.W.looks_clsIn X hc) ?_))))))
 rw[hd'];refine wpAny_pure (a:=some dx) (wpAny_bind (wpAny_pure (wpAny_bind ?_)));refine wpAny_nsSet1 (s:={s with toks:=s.toks+1}) I.ns fun h' hn2 hs2=>?_
 obtain ⟨oD,esD,epD,hoD,hdD,hcD⟩:=hn2.count (PySem.Within.cons name v hw);refine wpAny_bind (wpAny_lookBehind hoD (by rw[hdD];exact pastItsLine_dict (DU hcD (by rw[DD];omega))) ?_)
 exact wpAny_pure (h _ ⟨(hs2.2 _ (Ne.symm I.ne)).trans I.obj,hn2,I.ne⟩ hs2)
theorem sg {R:Result->Shared->Prop} {vs:GQ} {kw:List (Str×Value)} (X:K.In s.heap) (hm:PySem.W.makesIn K C=true)
  (hi:Dm K (.ref C) "__init__" =some (some (.ref f))) (hf:PySem.W.typeIn K (.ref f)=some (.type "function"))
  (h:codeAny (model prog w) (A.under (.builtin "type.__call__" ⟨.ref C::vs,kw⟩)) (.call (.ref f) ⟨.ref (s.heap.objs.size+1)::vs,kw⟩) (PySem.W.InitBack (s.heap.objs.size+1) R)
   {s with heap:=(s.heap.push E5).push (EJ C s.heap.objs.size)}):
  codeAny (model prog w) A (.call (.ref C) ⟨vs,kw⟩) R s:=by
 obtain ⟨hh,g,d,t,os⟩:=s;exact PySem.W.make_core (PySem.W.makes_of X hm) (PySem.W.looks_findIn X hi) (fun self=>PySem.W.bind_fn X self hf) (.inl rfl) h
end
def aM (f:Str) (v:V):List (Str×V)->List (Str×V)
 | []=> [(f,v)]
 |(g,x)::r=>if g=f then (g,v)::r else (g,x)::aM f v r
theorem bE (f g:Str) (v:V):∀fs:List (Str×V),(aM f v fs).lookup g=if g=f then some v else fs.lookup g
 | []=>by
  show List.lookup g [(f,v)]=_
  by_cases h:g=f
  ·have hb:(g==f)=true:=beq_iff_eq.mpr h;simp only[List.lookup,hb,if_pos h]
  ·have hb:(g==f)=false:=beq_eq_false_iff_ne.mpr h;simp only[List.lookup,hb,if_neg h]
 |(k,x)::r=>by
  have ih:=bE f g v r;rw[show aM f v ((k,x)::r)=(if k=f then (k,v)::r else (k,x)::aM f v r) from rfl]
  by_cases hk:k=f
  ·rw[if_pos hk]
   by_cases h:g=k
   ·have hb:(g==k)=true:=beq_iff_eq.mpr h;simp only[List.lookup,hb,if_pos (h.trans hk)]
   ·have hb:(g==k)=false:=beq_eq_false_iff_ne.mpr h;simp only[List.lookup,hb,if_neg (fun e:g=f=>h (e.trans hk.symm))]
  ·rw[if_neg hk]
   by_cases h:g=k
   ·have hb:(g==k)=true:=beq_iff_eq.mpr h;simp only[List.lookup,hb,if_neg (fun e:g=f=>hk (h.symm.trans e))]
   ·have hb:(g==k)=false:=beq_eq_false_iff_ne.mpr h;simp only[List.lookup,hb];exact ih
theorem iz (f:Str) (v:V):∀fs:List (Str×V),f∈(aM f v fs).map (·.1)/\∀g,g∈fs.map (·.1)->g∈(aM f v fs).map (·.1)
 | []=>⟨by simp[aM],fun g h=>by simp at h⟩
 |(k,x)::r=>by
  obtain ⟨i1,i2⟩:=iz f v r;rw[show aM f v ((k,x)::r)=(if k=f then (k,v)::r else (k,x)::aM f v r) from rfl]
  by_cases hk:k=f
  ·rw[if_pos hk];subst hk;exact ⟨by simp,fun g h=>by simpa using h⟩
  ·rw[if_neg hk];refine ⟨?_,fun g h=>?_⟩
   ·rw[Dd];exact D7 _ i1
   ·rw[Dd] at h⊢;rcases D2.mp h with e|e
    ·exact D2.mpr (.inl e)
    ·exact D7 _ (i2 g e)
theorem aX (f:Str) (v:V):∀fs:List (Str×V),(aM f v fs).length<=fs.length+1
 | []=>by simp[aM]
 |(k,x)::r=>by
  have ih:=aX f v r;rw[show aM f v ((k,x)::r)=(if k=f then (k,v)::r else (k,x)::aM f v r) from rfl]
  by_cases hk:k=f
  ·rw[if_pos hk,DD,DD];omega
  ·rw[if_neg hk,DD,DD];omega
theorem jK.some_of {v:V} {o:GS} (r:jK (some v) o):∃u,o=some u/\RelV v u:=by
 cases o with
 |none=>exact (show False from r).elim
 |some u=>exact ⟨u,rfl,r⟩
theorem jK.none_of {o:GS} (r:jK none o):o=none:=by
 cases o with
 |none=>rfl
 |some u=>exact (show False from r).elim
theorem qS {v:V} {u:Value} (r:RelV v u):PySem.W.handedIn u=true:=by
 cases v with
 |non=>cases (show u=Value.none from r);rfl
 |bl b=>cases (show u=Value.bool b from r);rfl
 |int i=>obtain ⟨t,e⟩:=(show ∃t,u=Value.int i t from r);cases e;rfl
 |str x=>obtain ⟨t,e⟩:=(show ∃t,u=Value.str x t from r);cases e;rfl
 |byt b=>obtain ⟨t,e⟩:=(show ∃t,u=Value.bytes b t from r);cases e;rfl
 |flt b=>obtain ⟨t,e⟩:=(show ∃t,u=Value.float b t from r);cases e;rfl
 |ref a=>cases (show u=Value.ref a from r);rfl
 |ty n=>cases (show u=Value.type n from r);rfl
section
variable {P:Program} {w:World} {H H':Hp} {h h':Heap} {a C dx:Addr} {fs fs':List (Str×V)}
theorem iX (hok:gC P w H h) (e:H a=some (.ins C dx fs)):∃mA,oo h a dx C mA/\(∀f,jK (fs.lookup f) (mA f))/\PySem.Within mA (fs.map (·.1))/\fs.length<=1000/\H dx=some (.own a):=by
 obtain ⟨d,z,ne,ob,mA,n,r,q⟩:=(show cn P w H h a (.ins C dx fs) from hok a _ e)
 exact ⟨mA,⟨ob,n,ne⟩,r,q,z,d⟩
end
structure jL (K:D3) (C:Addr):Prop where
 pg:PySem.W.plainGet K C Str.empty=true
 hd:PySem.W.hasDictIn K C=true
 po:PySem.W.plainOver K C=true
 sa:Dm K (.ref C) "__setattr__" =some (some (.builtin "object.__setattr__"))
theorem jL.get {K:D3} {C:Addr} (c:jL K C) (f:Str):PySem.W.plainGet K C f=true:=c.pg
def aF (K:D3) (C:Addr) (f:Str):Prop:=Dm K (.ref C) f=some none
theorem aF.taker {K:D3} {C:Addr} {f:Str} (n:aF K C f):PySem.W.takerIn K C f=some none:=by
 unfold PySem.W.takerIn;rw[show Dm K (.ref C) f=some none from n]
 rfl
structure mC (K:D3) (C:Addr) (m:Str) (f:Addr):Prop where
 at_:Dm K (.ref C) m=some (some (.ref f))
 fn:PySem.W.isFn K (.ref f)=true
 kp:E4 K (.ref f)=true
section
variable {pins:GM} {σ:St} {H:Hp} {s:Shared} {a C dx:Addr} {fs:List (Str×V)} {f:Str} {v:V} {A:Around} {E:GK}
theorem ou {b:Bool} {Q:GK} (I:aP X pins σ H s) (e:H a=some (.ins C dx fs)) (c:jL X.K C) (n:aF X.K C f) (l:fs.lookup f=some v)
  (h:∀u s',aP X pins σ H s'->RelV v u->Q u s'):wpAny (model X.prog X.w) A (getAttr (.ref a) f b) Q E s:=by
 obtain ⟨mA,O,r,_,_,_⟩:=iX I.hok e;obtain ⟨u,hu,ru⟩:=jK.some_of (v:=v) (o:=mA f) (by rw[<-l];exact r f)
 exact uK I.kIn O (c.get f) c.hd n hu (qS ru) (h u _ (I.tok _) ru)
theorem ow {m:Str} {g:Addr} {pl:Sem Bool} {Q:Value×GQ->Shared->Prop} (I:aP X pins σ H s) (e:H a=some (.ins C dx fs)) (c:jL X.K C) (k:mC X.K C m g) (l:fs.lookup m=none)
  (h:Q (.ref g,[.ref a]) s):wpAny (model X.prog X.w) A (getMethod (.ref a) m pl) Q E s:=by
 obtain ⟨mA,O,r,_,_,_⟩:=iX I.hok e;have hn:mA m=none:=jK.none_of (by rw[<-l];exact r m)
 exact se I.kIn O (c.get m) k.at_ k.fn hn h
theorem oz {y:V} {u:Value} {Q:Unit->Shared->Prop} (I:aP X pins σ H s) (e:H a=some (.ins C dx fs)) (c:jL X.K C) (n:aF X.K C f) (hl:fs.length<1000) (ry:RelV y u)
  (h:∀s',aP X pins σ (aO H a (.ins C dx (aM f y fs))) s'->Q () s'):wpAny (model X.prog X.w) A (setAttr (.ref a) f u) Q E s:=by
 obtain ⟨mA,O,r,wi,_,ho⟩:=iX I.hok e;have hz:(fs.map (·.1)).length<=sizeLine:=by rw[D4,sizeLine_eq];omega
 refine uL I.kIn O c.sa c.po n.taker c.hd wi hz fun h' O' sb=>h _ ?_
 have hd:∃o,h'.get? dx=some o:=let ⟨o,_,_,e',_⟩:=O'.ns;⟨o,e'⟩;refine I.write (x:=a) (e:=dx) (by rw[e];exact True.intro) (.inr ho) (fun b q hb z=>(sb.2 b hb).trans z) hd ?_
 refine ⟨by rw[aB O.ne];exact ho,?_,O.ne,O'.obj,_,O'.ns,fun g=>?_,fun g hg=>?_⟩
 ·have:=aX f y fs;omega
 ·show jK ((aM f y fs).lookup g) (if g=f then some u else mA g)
  rw[bE]
  by_cases q:g=f
  ·rw[if_pos q,if_pos q];exact ry
  ·rw[if_neg q,if_neg q];exact r g
 ·by_cases q:g=f
  ·rw[q];exact (iz f y fs).1
  ·refine (iz f y fs).2 g (wi g fun z=>hg ?_)
   show (if g=f then some u else mA g)=none
   rw[if_neg q];exact z
theorem aP.made (I:aP X pins σ H s):aP X pins σ (aO (aO H s.heap.objs.size (.own (s.heap.objs.size+1))) (s.heap.objs.size+1) (.ins C s.heap.objs.size []))
  {s with heap:=(s.heap.push E5).push (EJ C s.heap.objs.size)}:=by
 have e1:(s.heap.push E5).get? s.heap.objs.size=some E5:=Heap.get?_push_size s.heap rfl;have e2:((s.heap.push E5).push (EJ C s.heap.objs.size)).get? (s.heap.objs.size+1)=some (EJ C s.heap.objs.size):=by
  have:=Heap.get?_push_size (s.heap.push E5) (o:=EJ C s.heap.objs.size) rfl
  rwa [Heap.size_push] at this
 have e3:(s.heap.push E5).Ns s.heap.objs.size (fun _=>none):=⟨E5,#[],_,e1,rfl,(fun e he=>absurd he (by simp)),fun _=>rfl⟩
 have I1:=I.laid (a:=s.heap.objs.size) (o:= .own (s.heap.objs.size+1)) (h':=s.heap.push E5) (t':=s.toks) (fun b u q=>Heap.get?_push_of_some _ q) (D9 _) ⟨_,e1⟩
 refine I1.laid (a:=s.heap.objs.size+1) (o:= .ins C s.heap.objs.size []) (t':=s.toks) (fun b u q=>Heap.get?_push_of_some _ q) (Nat.le_of_eq (Heap.size_push _ _)) ?_
 have ne:s.heap.objs.size≠s.heap.objs.size+1:=DW (Nat.lt_succ_self _);refine ⟨by rw[aB ne,af],E1 _,ne,e2,fun _=>none,(Heap.Ns1.of_empty e3).at fun o q=>Heap.get?_push_of_some _ q,fun _=>True.intro,fun y hy=>absurd rfl hy⟩
theorem uM {prog:Program} {w:World} {env:Env} {e:Expr} {f:Str} {pos:Pos} {s:Shared} {Q:GK} (hb:attributeBase e f env (eval e env)=eval e env)
  (h:wpAny (model prog w) A (eval e env) (fun o s₁=>wpAny (model prog w) A (getAttr o f true) Q E s₁) E s):wpAny (model prog w) A (eval (.Attribute e f pos) env) Q E s:=
 Attribute_any_ h (by rw[arm_eval_Attribute,hb])
end
def zI (K:D3) (ta:TE) (f:Str):TE:=fun σ H Q=>ta σ H fun x H1=>∃a C dx fs v,x= .ref a/\H1 a=some (.ins C dx fs)/\jL K C/\aF K C f/\fs.lookup f=some v/\Q v H1
def BR (K:D3) (ta tv:TE) (f:Str):TS:=fun D σ H=>tv σ H fun y H1=>ta σ H1 fun x H2=>∃a C dx fs,x= .ref a/\H2 a=some (.ins C dx fs)/\jL K C/\aF K C f/\fs.length<1000/\
 D.nx σ (aO H2 a (.ins C dx (aM f y fs)))
section
variable {o e value:Expr} {f:Str} {pos pos' tpos:Pos} {ta tv:TE}
theorem aL (he:PE X e ta) (hb:attributeBase e f X.env (eval e X.env)=eval e X.env):PE X (.Attribute e f pos) (zI X.K ta f):=by
 intro pins s σ H Q I h;refine uM hb (b7 (he pins s σ H _ I h) fun u s1 ⟨x,H1,I1,rx,a,C,dx,fs,v,ex,ea,c,n,l,q⟩=>?_)
 subst ex;obtain rfl:u=Value.ref a:=rx;exact ou I1 ea c n l fun u' s2 I2 ru=>⟨v,H1,I2,ru,q⟩
theorem dM (ha:PE X o ta) (hv:PE X value tv) (hs:swapsWith value (some (.Attribute o f pos')) pos.line X.env=pure false):PS X (.Assign [.Attribute o f pos'] value pos) (BR X.K ta tv f):=by
 intro pins s σ H D I h;refine plainObj_wpAny_Assign_Attribute (b7 (hv pins s σ H _ I h) fun u s1 ⟨y,H1,I1,ry,q⟩=>b7 (ha pins s1 σ H1 _ I1 q) fun ov s2 ⟨x,H2,I2,rx,a,C,dx,fs,ex,ea,c,n,l,q2⟩=>?_) hs
 subst ex;obtain rfl:ov=Value.ref a:=rx;exact oz I2 ea c n l ry fun s3 I3=>⟨σ,_,I3,q2⟩
end
section
variable {pins:GM} {σ:St} {H:Hp} {s:Shared} {A:Around} {E:GK} {Q:GK} {c:Value} {b:Bool}
inductive gE (K:D3) (H:Hp):V->Value->Prop where
 |non:gE K H .non (.type "NoneType")
 |bl (x:Bool):gE K H (.bl x) (.type "bool")
 |int (i:Int):gE K H (.int i) (.type "int")
 |str (x:Str):gE K H (.str x) (.type "str")
 |flt (x:UInt64):gE K H (.flt x) (.type "float")
 |lst {a:Addr} {xs:List V} (e:H a=some (.lst xs)):gE K H (.ref a) (.type "list")
 |frz {a:Addr} {o:Obj} {xs:List V} (e:H a=some (.frz o (.lst xs))):gE K H (.ref a) (.type "list")
 |tup {a:Addr} {xs:List V} (e:H a=some (.tup xs)):gE K H (.ref a) (.type "tuple")
 |dK {a:Addr} {kvs:List (Key×V)} (e:H a=some (.dK kvs)):gE K H (.ref a) (.type "dict")
 |dT {a:Addr} {kvs:List (List Key×V)} (e:H a=some (.dT kvs)):gE K H (.ref a) (.type "dict")
 |ins {a C dx:Addr} {fs:List (Str×V)} (e:H a=some (.ins C dx fs)) (cl:jL K C) (ha:Dm K (.ref C) "__class__" =some (some (.builtin "object.__class__")))
   (hn:PySem.W.specialIn K (.builtin "object.__class__") "__get__" =some (some (.builtin "getset_descriptor.__get__"))) (htk:PySem.W.takesIn K (.builtin "object.__class__")=some true)
   (hm:PySem.W.mroIn K C (.type "object")=some true):gE K H (.ref a) (.ref C)
theorem jT {x:V} {u t:Value} (I:aP X pins σ H s) (rx:RelV x u) (ty:gE X.K H x t) (e:DJ X.K t c=some b) (h:∀tk,Q (.bool b) {s with toks:=tk}):
  wpAny (model X.prog X.w) A (call (.builtin "isinstance") [u,c]) Q E s:=by
 cases ty with
 |non=>cases (show u=Value.none from rx);exact Dy PySem.W.kitx_none I.kIn True.intro e (fun z=>nomatch z) h
 |bl y=>cases (show u=Value.bool y from rx);exact Dy PySem.W.kitx_bool I.kIn True.intro e (fun z=>nomatch z) h
 |int i=>obtain ⟨t,q⟩:=(show ∃t,u=Value.int i t from rx);cases q;exact Dy PySem.W.kitx_int I.kIn True.intro e (fun z=>nomatch z) h
 |str y=>obtain ⟨t,q⟩:=(show ∃t,u=Value.str y t from rx);cases q;exact Dy PySem.W.kitx_str I.kIn True.intro e (fun z=>nomatch z) h
 |flt y=>obtain ⟨t,q⟩:=(show ∃t,u=Value.float y t from rx);cases q;exact Dy PySem.W.kitx_float I.kIn True.intro e (fun z=>nomatch z) h
 | @lst a xs ea=>
  cases (show u=Value.ref a from rx)
  obtain ⟨_,_,n,_,h1⟩:=(show cn X.prog X.w H s.heap a (.lst xs) from I.hok a _ ea)
  exact Dy PySem.W.kitx_list I.kIn ⟨_,h1,rfl⟩ e (fun z=>nomatch z) h
 | @frz a ob xs ea=>
  cases (show u=Value.ref a from rx)
  obtain ⟨_,_,_,n,_,h1⟩:=(show cn X.prog X.w H s.heap a (.frz ob (.lst xs)) from I.hok a _ ea)
  exact Dy PySem.W.kitx_list I.kIn ⟨_,h1,rfl⟩ e (fun z=>nomatch z) h
 | @tup a xs ea=>
  cases (show u=Value.ref a from rx)
  obtain ⟨_,_,_,p⟩:=(show cn X.prog X.w H s.heap a (.tup xs) from I.hok a _ ea)
  obtain ⟨o,h1,h2,_⟩:=p;exact Dy PySem.W.kitx_tuple I.kIn ⟨o,h1,h2⟩ e (fun z=>nomatch z) h
 | @dK a kvs ea=>
  cases (show u=Value.ref a from rx)
  obtain ⟨_,_,vs,_,p⟩:=(show cn X.prog X.w H s.heap a (.dK kvs) from I.hok a _ ea)
  obtain ⟨o,es,ep,h1,h2,_⟩:=p;exact Dy PySem.W.kitx_dict I.kIn ⟨o,h1,h2.1⟩ e (fun z=>nomatch z) h
 | @dT a kvs ea=>
  cases (show u=Value.ref a from rx)
  obtain ⟨_,_,xs,_,o,es,ep,h1,h2,_⟩:=(show cn X.prog X.w H s.heap a (.dT kvs) from I.hok a _ ea)
  exact Dy PySem.W.kitx_dict I.kIn ⟨o,h1,h2.1⟩ e (fun z=>nomatch z) h
 | @ins a C dx fs ea cl ha hn htk hm=>
  cases (show u=Value.ref a from rx)
  obtain ⟨mA,O,_⟩:=iX I.hok ea;obtain ⟨od,J,_⟩:=O.look;exact Dy (PySem.W.kitx_own (cl.get _) cl.hd ha hn htk hm) I.kIn J e (fun z=>nomatch z) h
end
structure cx (k:Nat) (A:Around):Prop where
 hd:A.handled=none
 dp:A.depth+3*k+5<recursionLimit
 un:A.units+16*k+200<cLine
theorem cx.mono {j k:Nat} {A:Around} (r:cx k A) (h:j<=k):cx j A:=⟨r.hd,by have:=r.dp;omega,by have:=r.un;omega⟩
theorem cx.deeper {k:Nat} {A:Around} (r:cx (k+1) A) (env:Env):cx k (A.deeper env):=
 ⟨r.hd,by have:=r.dp;show A.depth+1+3*k+5<_;omega,by have:=r.un;show A.units+3+16*k+200<_;omega⟩
theorem oA {A:Around} {C:Addr} {us:GQ} {kw:List (Str×Value)}:(A.under (.builtin "type.__call__" ⟨.ref C::us,kw⟩)).depth=A.depth+1:=by
 first|rfl|simp[Around.under,Code.weight,Code.isCreation,Code.isGuard,Code.isCaller,Code.frames,Code.isFrame,guardIds]
theorem oB {A:Around} {C:Addr} {us:GQ} {kw:List (Str×Value)}:(A.under (.builtin "type.__call__" ⟨.ref C::us,kw⟩)).units=A.units+1:=by
 first|rfl|simp[Around.under,Code.cUnits,Code.frames,Code.isFrame]
theorem cx.make {k:Nat} {A:Around} (r:cx (k+1) A) (C:Addr) (us:GQ) (kw:List (Str×Value)):cx k (A.under (.builtin "type.__call__" ⟨.ref C::us,kw⟩)):=
 ⟨r.hd,by have:=r.dp;rw[oA];omega,by have:=r.un;rw[oB];omega⟩
theorem cx.depth {k:Nat} {A:Around} (r:cx k A):A.depth<recursionLimit:=by have:=r.dp;omega
theorem cx.units {k:Nat} {A:Around} (r:cx k A):A.units+64<cLine:=by have:=r.un;omega
theorem cx.units0 {k:Nat} {A:Around} (r:cx k A):A.units<cLine:=by have:=r.un;omega
def uN:TA:=fun _ H Q=>Q [] H
def jU (ta:TE) (tr:TA):TA:=fun σ H Q=>ta σ H fun x H1=>tr σ H1 fun xs H2=>Q (x::xs) H2
section
variable {e:Expr} {es:List Expr} {te:TE} {t:TA} {pos:Pos}
theorem ae:PA X [] uN:=fun _ _ _ _ H Q I h=>Calls.spliced_nil ⟨[],H,I,.nil,h⟩
theorem aa (ha:PE X e te) (hr:PA X es t) (hs:starEach (e::es) X.env=(false,eval e X.env)::starEach es X.env:=by rfl):PA X (e::es) (jU te t):=by
 intro pos pins s σ H Q I h;rw[hs];show wpAny _ _ (spliced ((false,eval e X.env)::backTo pos (starEach es X.env))) _ _ s;refine Calls.spliced_cons (b7 (ha pins s σ H _ I h) fun u s1 ⟨x,H1,I1,r1,q1⟩=>?_)
 exact b7 (hr pos pins s1 σ H1 _ I1 q1) fun us s2 ⟨xs,H2,I2,r2,q2⟩=>⟨x::xs,H2,I2,.cons r1 r2,q2⟩
def BS (t:TA):TE:=fun σ H Q=>t σ H fun xs H1=>xs.length<=sizeLine/\∀p,H1 p=none->Q (.ref p) (aO H1 p (.tup xs))
def zJ (t:TA):TE:=fun σ H Q=>t σ H fun xs H1=>xs.length<=sizeLine/\∀p,H1 p=none->Q (.ref p) (aO H1 p (.lst xs))
theorem cH {x1} (h:PA X es t):PE X (.Tuple es x1 pos) (BS t):=by
 intro pins s σ H Q I hq;refine wpAny_Tuple_spliced (b7 (h pos pins s σ H _ I hq) fun us s1 ⟨xs,H1,I1,r,z,q⟩=>⟨by rw[<-r.length];exact z,?_⟩)
 have hf:H1 s1.heap.objs.size=none:=I1.hok.fresh (D9 _);refine ⟨.ref s1.heap.objs.size,aO H1 s1.heap.objs.size (.tup xs),I1.laid (t':=s1.toks) (fun b u e=>Heap.get?_push_of_some _ e) (D9 _) ?_,rfl,q _ hf⟩
 exact ⟨z,us,r,⟨_,Heap.get?_push_size _ rfl,rfl,_,rfl⟩⟩
theorem aZ (h:PA X es t):PE X (.List es pos) (zJ t):=by
 intro pins s σ H Q I hq;refine wpAny_List_spliced (b7 (h pos pins s σ H _ I hq) fun us s1 ⟨xs,H1,I1,r,z,q⟩=>⟨by rw[<-r.length];exact z,?_⟩)
 have hf:H1 s1.heap.objs.size=none:=I1.hok.fresh (D9 _);refine ⟨.ref s1.heap.objs.size,aO H1 s1.heap.objs.size (.lst xs),I1.laid (t':=s1.toks) (fun b u e=>Heap.get?_push_of_some _ e) (D9 _) ?_,rfl,q _ hf⟩
 exact ⟨z,us,0,r,Heap.get?_push_size _ rfl⟩
end
abbrev Sp:=List V->Hp->VK->XK->Prop
abbrev oC:=List Env->Hp->Shared->XK->Value->Shared->Prop
structure oE (P:Program) (w:World) (K:D3) (mg:GL) (base:Heap) (A:Around) (outer:List Env) (s:Shared) (H:Hp):Prop where
 frames:A.frames=some outer
 mod:Mod K mg base
 bs:∀b o,base.get? b=some o->s.heap.get? b=some o/\H b=none
 bsz:base.objs.size<=s.heap.objs.size
 funs:s.heap.FunFrames base outer
 frf:∀b∈i7 outer,H b=none
 hok:gC P w H s.heap
 bare:AllBare s.gens
def CE (outer:List Env) (P:Program) (w:World) (H:Hp) (s:Shared) (Q:VK) (u:Value) (s':Shared):Prop:=
 ∃v H',s'.os=s.os/\AllBare s'.gens/\Un (i7 outer) [] H H' s.heap s'.heap/\gC P w H' s'.heap/\RelV v u/\Q v H'
def CR (CX:oC) (outer:List Env) (P:Program) (w:World) (H:Hp) (s:Shared) (Q:VK) (E:XK) (r:Result) (s':Shared):Prop:=
 match r with
 | .ok (.ret u)=>CE outer P w H s Q u s'
 | .ok _=>False
 | .error e=>CX outer H s E e s'
structure bh (P:Program) (w:World) (K:D3) (mg:GL) (base:Heap) (CX:oC) (k:Nat) (f:Addr) (fd:FuncData) (ps:GO) (sp:Sp):Prop where
 len:∀vs H Q E,sp vs H Q E->vs.length=ps.length
 run:∀(A:Around) (outer:List Env) (s:Shared) (H:Hp) (args:Args) (us:GQ) (vs:List V) (Q:VK) (E:XK),cx k A->oE P w K mg base A outer s H->BindsTo s fd args (ps.zip us)->bn vs us->sp vs H Q E->
  codeAny (model P w) A (.call (.ref f) args) (CR CX outer P w H s Q E) s
theorem oE.make {P:Program} {w:World} {K:D3} {mg:GL} {base:Heap} {A:Around} {outer:List Env} {s:Shared} {H:Hp} (e:oE P w K mg base A outer s H) (C:Addr) (us:GQ) (kw:List (Str×Value)):
  oE P w K mg base (A.under (.builtin "type.__call__" ⟨.ref C::us,kw⟩)) outer s H:=⟨by first|exact e.frames|(simpa [Around.under,Code.envs,Code.isFrame,pushEnvs] using e.frames),e.mod,e.bs,e.bsz,e.funs,e.frf,e.hok,e.bare⟩
section
variable {pins:GM} {σ:St} {H:Hp} {s s':Shared}
theorem aP.env0 (I:aP X pins σ H s):oE X.prog X.w X.K X.mg X.base X.A X.stack s H:=
 ⟨I.ok.frames,I.ok.mod,I.bs,DU I.ok.bsz I.sz,I.stack,I.stkFree,I.hok,I.bare⟩
theorem aP.after {Q:VK} {u:Value} (I:aP X pins σ H s) (h:CE X.stack X.prog X.w H s Q u s'):EP X pins σ Q u s':=by
 obtain ⟨v,H',os,bare,un,hok,r,q⟩:=h;obtain ⟨hh,g,d,t,os'⟩:=s';obtain rfl:os'=s.os:=os;exact ⟨v,H',I.call (h':=hh) (g':=g) (d':=d) (t':=t) (ch:= []) un hok bare (fun b z=>absurd z (by simp)),r,q⟩
end
def mD (sp:Sp) (dvs:List V) (E:XK) (t:TA):TE:=fun σ H Q=>t σ H fun vs H1=>sp (vs++dvs) H1 Q E
def sh (C:Addr) (sp:Sp) (dvs:List V) (E:XK) (t:TA):TE:=fun σ H Q=>t σ H fun vs H1=>∀x dx,H1 x=none->H1 dx=none->dx≠x->
 sp (.ref x::(vs++dvs)) (aO (aO H1 dx (.own x)) x (.ins C dx [])) (fun v H2=>v= .non/\Q (.ref x) H2) E
def Binds (K:D3) (fd:FuncData) (ps:GO) (ds:GQ):Prop:=
 ∀(s:Shared) (us:GQ),K.In s.heap->(us++ds).length=ps.length->BindsTo s fd ⟨us,[]⟩ (ps.zip (us++ds))
theorem Binds.all {K:D3} {fd:FuncData} {ps:GO} (h:∀us:GQ,us.length=ps.length->bindArgs fd ⟨us,[]⟩=pure (ps.zip us)):Binds K fd ps []:=fun s us _ hl=>by
 rw[EF] at hl⊢;exact .of_eq (h us hl)
def jb (CX:oC) (X:Cx) (E:XK):Prop:=∀(pins:GM) (σ:St) (H:Hp) (s:Shared) (e:Value) (s':Shared),aP X pins σ H s->CX X.stack H s E e s'->X.xe e s'
section
variable {CX:oC} {k:Nat} {f C:Addr} {fd:FuncData} {ps:GO} {sp:Sp} {dvs:List V} {ds:GQ} {E:XK} {x m:Str} {p pos apos:Pos} {e o:Expr} {es:List Expr} {ta:TE} {t:TA}
theorem oF {pins:GM} {σ:St} {H:Hp} {s:Shared} {Q:VK} {us:GQ} {vs:List V} (F:bh X.prog X.w X.K X.mg X.base CX k f fd ps sp) (hr:cx k X.A) (hb:Binds X.K fd ps ds) (hd:bn dvs ds) (hx:jb CX X E)
  (I:aP X pins σ H s) (r:bn vs us) (h:sp (vs++dvs) H Q E):wpAny (model X.prog X.w) X.A (call (.ref f) us) (EP X pins σ Q) X.xe s:=by
 have r2:bn (vs++dvs) (us++ds):=r.append hd;have hl:(us++ds).length=ps.length:=by rw[<-r2.length];exact F.len _ _ _ _ h
 refine wpAny_call (codeAny_mono (F.run X.A X.stack s H ⟨us,[]⟩ (us++ds) (vs++dvs) Q E hr I.env0 (hb s us I.kIn hl) r2 h) fun r s' hq=>?_)
 cases r with
 |error e=>exact hx pins σ H s e s' I hq
 |ok fl=>
  cases fl with
  |ret u=>exact I.after hq
  |next=>exact False.elim hq
  |brk=>exact False.elim hq
  |cont=>exact False.elim hq
theorem uO (F:bh X.prog X.w X.K X.mg X.base CX k f fd ps sp) (hr:cx k X.A) (hg:Gl X x) (hm:X.mg x=some (.ref f)) (hk:E4 X.K (.ref f)=true) (hb:Binds X.K fd ps ds) (hd:bn dvs ds) (hx:jb CX X E)
  (ha:PA X (e::es) t) (hdb:(x==("__debug__" :Str))=false:=by decide) (he:starEach (e::es) X.env=(false,eval e X.env)::starEach es X.env:=by rfl) (hpl:(backTo pos (starEach es X.env)).any (·.1)=false:=by rfl):
  PE X (.Call (.Name x p) (e::es) [] pos) (mD sp dvs E t):=by
 intro pins s σ H Q I h;refine wpAny_Call_Name_kw (eZ I hg hm ?_ hdb);refine PySem.W.callWith_K (h₀:=X.base) I.ok.mod.kin hk (b7 (ha pos pins s σ H _ I h) fun us s1 ⟨vs,H1,I1,r,q⟩=>⟨I1.kIn,?_⟩) he hpl
 exact oF F hr hb hd hx I1 r q
structure Mk (K:D3) (C f:Addr):Prop where
 makes:PySem.W.makesIn K C=true
 init:Dm K (.ref C) "__init__" =some (some (.ref f))
 fn:PySem.W.isFn K (.ref f)=true
 kp:E4 K (.ref C)=true
theorem su {pins:GM} {σ:St} {H:Hp} {s:Shared} {Q:VK} {us:GQ} {vs:List V} (M:Mk X.K C f) (F:bh X.prog X.w X.K X.mg X.base CX k f fd ps sp) (hr:cx (k+1) X.A) (hb:Binds X.K fd ps ds) (hd:bn dvs ds)
  (hx:jb CX X E) (I:aP X pins σ H s) (r:bn vs us)
  (h:∀x dx,H x=none->H dx=none->dx≠x->sp (.ref x::(vs++dvs)) (aO (aO H dx (.own x)) x (.ins C dx [])) (fun v H2=>v= .non/\Q (.ref x) H2) E):
  wpAny (model X.prog X.w) X.A (call (.ref C) us) (EP X pins σ Q) X.xe s:=by
 have hq:=h (s.heap.objs.size+1) s.heap.objs.size (I.hok.fresh (Nat.le_succ _)) (I.hok.fresh (D9 _)) (DW (Nat.lt_succ_self _));have I2:=aP.made (C:=C) I;have r2:bn (V.ref (s.heap.objs.size+1)::(vs++dvs)) (Value.ref (s.heap.objs.size+1)::(us++ds)):= .cons rfl (r.append hd);have hl:(Value.ref (s.heap.objs.size+1)::us++ds).length=ps.length:=by
  have e:=r2.length;rw[F.len _ _ _ _ hq] at e;exact e.symm
 refine wpAny_call (sg (f:=f) I.kIn M.makes M.init (beq_iff_eq.mp M.fn) (codeAny_mono (F.run _ X.stack _ _ ⟨Value.ref (s.heap.objs.size+1)::us,[]⟩ (Value.ref (s.heap.objs.size+1)::(us++ds)) _ _ E (hr.make C us [])
  (I2.env0.make C us []) (hb _ (Value.ref (s.heap.objs.size+1)::us) I2.kIn hl) r2 hq) fun r s' hq'=>?_))
 cases r with
 |error e=>exact hx pins σ _ _ e s' I2 hq'
 |ok fl=>
  cases fl with
  |ret u=>
   obtain ⟨v,H',I3,rv,ev,q3⟩:=I2.after hq';subst ev;exact ⟨rv,⟨V.ref (s.heap.objs.size+1),H',I3,rfl,q3⟩⟩
  |next=>exact False.elim hq'
  |brk=>exact False.elim hq'
  |cont=>exact False.elim hq'
theorem pR (M:Mk X.K C f) (F:bh X.prog X.w X.K X.mg X.base CX k f fd ps sp) (hr:cx (k+1) X.A) (hg:Gl X x) (hm:X.mg x=some (.ref C)) (hb:Binds X.K fd ps ds) (hd:bn dvs ds) (hx:jb CX X E)
  (ha:PA X (e::es) t) (hdb:(x==("__debug__" :Str))=false:=by decide) (he:starEach (e::es) X.env=(false,eval e X.env)::starEach es X.env:=by rfl) (hpl:(backTo pos (starEach es X.env)).any (·.1)=false:=by rfl):
  PE X (.Call (.Name x p) (e::es) [] pos) (sh C sp dvs E t):=by
 intro pins s σ H Q I h;refine wpAny_Call_Name_kw (eZ I hg hm ?_ hdb);refine PySem.W.callWith_K (h₀:=X.base) I.ok.mod.kin M.kp (b7 (ha pos pins s σ H _ I h) fun us s1 ⟨vs,H1,I1,r,q⟩=>⟨I1.kIn,?_⟩) he hpl
 exact su M F hr hb hd hx I1 r q
end
structure aC (N P:GO) (sc:Scope):Prop where
 kind:sc.kind= .function
 co:sc.isCoroutine=false
 gen:sc.isGenerator=false
 nd:N.Nodup
 pre:N.take P.length=P
 par:∀x∈P,sc.names.lookup x=some .local∨sc.names.lookup x=some .cell
 nofree:∀y∈sc.names,y.2≠ .free
theorem jV {kindOf:Str->Option NameKind} {x:Str}:∀{binds:List (Str×Value)} {m:GL},(∀v,(x,v)∉binds)->bindL kindOf binds m x=m x
 | [],_,_=>rfl
 |(n,v)::r,m,h=>by
  unfold bindL;rw[jV fun w hw=>h w (D7 _ hw)]
  split
  ·have:x≠n:=by rintro rfl;exact h v Dc
   simp[this]
  ·rfl
theorem jW {kindOf:Str->Option NameKind} {x:Str}:∀{binds:List (Str×Value)} {m:GL},(∀v,(x,v)∉binds)->bindC kindOf binds m x=m x
 | [],_,_=>rfl
 |(n,v)::r,m,h=>by
  unfold bindC;rw[jW fun w hw=>h w (D7 _ hw)]
  split
  ·rfl
  ·have:x≠n:=by rintro rfl;exact h v Dc
   simp[this]
theorem jX {kindOf:Str->Option NameKind} {x:Str} {v:Value}:∀{P:GO} {vs:GQ} {i:Nat} {m:GL},P.Nodup->P[i]?=some x->vs[i]?=some v->kindOf x=some .local->
  bindL kindOf (P.zip vs) m x=some v
 | [],_,_,_,_,h,_,_=>by simp at h
 |_::_,[],_,_,_,_,h,_=>by simp at h
 |p::P,w::vs,0,m,nd,h1,h2,hk=>by
  simp at h1 h2;subst h1;subst h2;show bindL kindOf ((p,w)::P.zip vs) m p=_;unfold bindL;rw[jV fun v hv=>(De.mp nd).1 (List.of_mem_zip hv).1,if_pos hk]
  simp
 |p::P,w::vs,i+1,m,nd,h1,h2,hk=>by
  show bindL kindOf ((p,w)::P.zip vs) m x=_;unfold bindL;exact jX (i:=i) (De.mp nd).2 (by simpa using h1) (by simpa using h2) hk
theorem jY {kindOf:Str->Option NameKind} {x:Str} {v:Value}:∀{P:GO} {vs:GQ} {i:Nat} {m:GL},P.Nodup->P[i]?=some x->vs[i]?=some v->kindOf x≠some .local->
  bindC kindOf (P.zip vs) m x=some v
 | [],_,_,_,_,h,_,_=>by simp at h
 |_::_,[],_,_,_,_,h,_=>by simp at h
 |p::P,w::vs,0,m,nd,h1,h2,hk=>by
  simp at h1 h2;subst h1;subst h2;show bindC kindOf ((p,w)::P.zip vs) m p=_;unfold bindC;rw[jW fun v hv=>(De.mp nd).1 (List.of_mem_zip hv).1,if_neg hk]
  simp
 |p::P,w::vs,i+1,m,nd,h1,h2,hk=>by
  show bindC kindOf ((p,w)::P.zip vs) m x=_;unfold bindC;exact jY (i:=i) (De.mp nd).2 (by simpa using h1) (by simpa using h2) hk
def start (N:GO) (vs:List V):St:=vs.map some++List.replicate (N.length-vs.length) none
def iS (CX:oC) (P:Program) (w:World) (K:D3) (mg:GL) (base:Heap) (N:GO) (qual:Str) (scope:Scope) (f:Addr) (cd:Value) (A:Around) (outer:List Env) (s:Shared) (H:Hp) (E:XK):Cx where
 prog:=P
 w:=w
 K:=K
 mg:=mg
 base:=base
 A:=A.deeper (envOfC qual scope s.heap.objs.size f cd)
 N:=N
 s₀:=s
 H₀:=H
 env:=envOfC qual scope s.heap.objs.size f cd
 outer:=outer
 stack:=envOfC qual scope s.heap.objs.size f cd::outer
 ex:= []
 calm:=true
 fn:=fun _=>true
 pn:= []
 xe:=fun e s'=>wpAny (model P w) (A.deeper (envOfC qual scope s.heap.objs.size f cd)) (leaving (envOfC qual scope s.heap.objs.size f cd) e) (fun _ s''=>CX outer H s E e s'') (fun e' s''=>CX outer H s E e' s'') s'
theorem mE {sc:Scope} {n:Nat} {x:Str} (h:sc.names.lookup x=some .cell):∃c,(cellsFrom n sc.names []).lookup x=some c:=by
 have q:=PySem.W.cellsFrom_some sc.names n [] (.inl h);exact EC.mp q
theorem qT {CX:oC} {P:Program} {w:World} {K:D3} {mg:GL} {base:Heap} {N ps:GO} {qual:Str} {scope:Scope} {f:Addr} {cd:Value} {A:Around} {outer:List Env} {s s1:Shared} {H:Hp} {E:XK} {us:GQ} {vs:List V}
  (S:aC N ps scope) (hd:A.handled=none) (e0:oE P w K mg base A outer s H) (hl:vs.length=ps.length) (r:bn vs us)
  (x:InCallC s s.heap.objs.size (bindL (envOfC qual scope s.heap.objs.size f cd).kindOf (ps.zip us) fun _=>none) (cellsFrom (s.heap.objs.size+1) scope.names []) (bindC (envOfC qual scope s.heap.objs.size f cd).kindOf (ps.zip us) fun _=>none) s1):
  aP (iS CX P w K mg base N qual scope f cd A outer s H E) [] (start N vs) H s1:=by
 have hpl:ps.length<=N.length:=by have:=congrArg List.length S.pre;rw[DX] at this;omega
 obtain ⟨h1,tk,rfl,hk⟩:=x.done;have noA:∀b:Addr,b∉(iS CX P w K mg base N qual scope f cd A outer s H E).ex:=fun b z=>absurd (show b∈([]:GP) from z) (by simp)
 refine ⟨⟨e0.mod,S.kind,rfl,rfl,D9 _,fun y z c h1 h2=>?_,fun y hy=>?_,fun y c _ h=>?_,fun _=>hd,Around.frames_deeper e0.frames,.inr ⟨rfl,rfl⟩,fun b z=>absurd z (noA b),e0.bs,e0.bsz,fun b _ _=>noA b,fun b z=>absurd z (noA b),e0.funs,e0.frf⟩,
  rfl,e0.bare,Un.kept hk,⟨_,x.toInCall.ns,fun i y v h1 h2 h3=>?_⟩,fun y c h=>⟨_,x.cell y c h⟩,e0.hok.fresh (D9 _),fun y c h=>?_,fun p hp=>absurd (show p∈([]:GM) from hp) (by simp),e0.hok.kept hk,?_⟩
 ·exact name_of_addr x.apart (Dw h1) (Dw h2)
 ·have hy:scope.names.lookup y=some .cell∨scope.names.lookup y=some .free:=hy;rcases hy with hy|hy
  ·exact mE hy
  ·exact absurd rfl (S.nofree _ (Dw hy))
 ·exact Nat.le_of_lt (x.above y c (Dw h))
 ·have hi:i<vs.length:=by
   unfold start at h2
   by_cases hi:i<vs.length
   ·exact hi
   ·rw[E6 (by simpa using hi)] at h2
    rw[List.getElem?_replicate] at h2
    split at h2<;>cases h2
  have ha:vs[i]?=some v:=by
   unfold start at h2;rw[Do (by simpa using hi),DA] at h2
   cases e:vs[i]? with
   |none=>rw[e] at h2;cases h2
   |some a=>rw[e] at h2;cases h2;rfl
  obtain ⟨u,hu,rv⟩:=r.get ha;have hp:ps[i]?=some y:=by
   rw[<-S.pre,List.getElem?_take_of_lt (by omega)];exact h1
  have ndP:ps.Nodup:=by rw[<-S.pre];exact S.nd.sublist (List.take_sublist _ _)
  refine ⟨u,rv,?_⟩;rcases S.par y (D5 hp) with k|k
  ·exact .inl ⟨k,jX ndP hp hu k⟩
  ·obtain ⟨c,e⟩:=mE (n:=s.heap.objs.size+1) k;refine .inr ⟨.inl k,c,e,?_⟩;have q:=x.cell y c e;rw[jY ndP hp hu (by show scope.names.lookup y≠_;rw[k];decide)] at q
   exact q
 ·exact e0.hok.fresh (Nat.le_of_lt (x.above y c (Dw h)))
 ·unfold start;show _=N.length;rw[DB,D4,List.length_replicate];omega
theorem we {CX:oC} {P:Program} {w:World} {K:D3} {mg:GL} {base:Heap} {k:Nat} {f:Addr} {name qual:Str} {params:Arguments} {body:List Stmt} {scope:Scope} {dV kV doc pm cdv ct oc:Value} {an od:GR}
  {osl:GN} {N ps:GO} {sp:Sp} (lk:K.lookup f=some ⟨oc,od,.func (E3 name qual params body scope dV kV doc pm an cdv ct),osl⟩) (hcd:PySem.W.codeIn K cdv qual=true) (S:aC N ps scope)
  (len:∀vs H Q E,sp vs H Q E->vs.length=ps.length)
  (hbody:∀(A:Around) (outer:List Env) (s:Shared) (H:Hp) (vs:List V) (Q:VK) (E:XK),cx k (A.deeper (envOfC qual scope s.heap.objs.size f cdv))->sp vs H Q E->
   ∃t,i8 (iS CX P w K mg base N qual scope f cdv A outer s H E) body t/\t {nx:=fun _ H'=>Q .non H',rt:=Q} (start N vs) H):
  bh P w K mg base CX (k+1) f (E3 name qual params body scope dV kV doc pm an cdv ct) ps sp:=by
 refine ⟨len,fun A outer s H args us vs Q E hr e0 hb r hsp=>?_⟩
 have hl:=len _ _ _ _ hsp;have KX:K.In s.heap:=e0.mod.kin.keeps fun b o e=>(e0.bs b o e).1
 have lim:s.heap.NoLimit:=e0.mod.nolimit.keeps fun b o e=>(e0.bs b o e).1
 have hkind:∀y∈ps.zip us,scope.names.lookup y.1=some .local∨(scope.names.lookup y.1=some .cell/\((cellsFrom (s.heap.objs.size+1) scope.names []).lookup y.1).isSome=true):=fun ⟨n,v⟩ hy=>by
  rcases S.par n (List.of_mem_zip hy).1 with q|q
  ·exact .inl q
  ·exact .inr ⟨q,PySem.W.cellsFrom_some _ _ _ (.inl q)⟩
 refine codeAny_call_function hr.depth (KX _ _ lk) rfl S.co S.gen rfl (PySem.W.codeRec_of KX hcd) (hb _ _ _ _ ?_);refine wpAny_newFunctionEnv_cells S.kind hkind fun env he s1 x=>?_
 subst he;refine ⟨lim.keeps x.toInCall.keep,codeAny_func ?_⟩;obtain ⟨t,ht,hq⟩:=hbody A outer s H vs Q E (hr.deeper _) hsp;have I:aP (iS CX P w K mg base N qual scope f cdv A outer s H E) [] (start N vs) H s1:=qT S hr.hd e0 hl r x;refine wpAny_mono (ht [] s1 (start N vs) H _ I hq) (fun fl s' hs=>?_) fun e s' hs=>hs
 have fin:∀{σ':St} {H':Hp} {v:V} {u:Value},aP (iS CX P w K mg base N qual scope f cdv A outer s H E) [] σ' H' s'->RelV v u->Q v H'->CE outer P w H s Q u s':=
  fun {σ' H' v u} J rv q=>⟨v,H',J.os,J.bare,J.base,J.hok,rv,q⟩
 cases fl with
 |ret u=>
  obtain ⟨v,σ',H',J,rv,q⟩:=hs;exact fin J rv q
 |next=>
  obtain ⟨σ',H',J,q⟩:=hs;exact fin (v:=V.non) (u:=Value.none) J rfl q
 |brk=>
  obtain ⟨_,_,_,q⟩:=hs;exact False.elim q
 |cont=>
  obtain ⟨_,_,_,q⟩:=hs;exact False.elim q
section
variable {x:Str} {p pos:Pos} {e:Expr} {es:List Expr} {t:TA} {id T:String} {r:List V->Hp->VK->Prop}
def CD (r:List V->Hp->VK->Prop) (t:TA):TE:=fun σ H Q=>t σ H fun vs H1=>r vs H1 Q
theorem aI (hc:dH X (.builtin id) r) (hg:Gl X x) (hm:X.mg x=none) (hv:bootBuiltins x=some (.builtin id)) (ha:PA X (e::es) t) (hn:x≠ "__name__" :=by decide) (hdb:(x==("__debug__" :Str))=false:=by decide)
  (he:starEach (e::es) X.env=(false,eval e X.env)::starEach es X.env:=by rfl) (hpl:(backTo pos (starEach es X.env)).any (·.1)=false:=by rfl):PE X (.Call (.Name x p) (e::es) [] pos) (CD r t):=by
 intro pins s σ H Q I h;refine wpAny_Call_Name_kw (fF I hg hm hv ?_ hn hdb);exact PyProof.Rows.callWith_builtin1 (b7 (ha pos pins s σ H _ I h) fun us s1 ⟨vs,H1,I1,r1,q1⟩=>hc pins s1 σ H1 vs us Q I1 r1 q1) he hpl
theorem aK (hc:dH X (.type T) r) (hg:Gl X x) (hm:X.mg x=none) (hv:bootBuiltins x=some (.type T)) (ha:PA X (e::es) t) (hn:x≠ "__name__" :=by decide) (hdb:(x==("__debug__" :Str))=false:=by decide)
  (he:starEach (e::es) X.env=(false,eval e X.env)::starEach es X.env:=by rfl) (hpl:(backTo pos (starEach es X.env)).any (·.1)=false:=by rfl):PE X (.Call (.Name x p) (e::es) [] pos) (CD r t):=by
 intro pins s σ H Q I h;refine wpAny_Call_Name_kw (fF I hg hm hv ?_ hn hdb);exact EE (b7 (ha pos pins s σ H _ I h) fun us s1 ⟨vs,H1,I1,r1,q1⟩=>hc pins s1 σ H1 vs us Q I1 r1 q1) he hpl
end
end L2
namespace HT
open PySem PyProof.Rows
section
variable {prog:Program} {w:World} {A:Around} {E:GK} {s:Shared}
def c6 (n d:Nat):Option Int->Nat
 |none=>d
 |some v=>if v<0 then (v+(n:Int)).toNat else min v.toNat n
end
end HT
namespace L2
open PySem PySem.Spec PyProof.Rows
abbrev TO:=St->Hp->(Option Int->Hp->Prop)->Prop
def PO (X:Cx) (e:Option Expr) (t:TO):Prop:=
 ∀(pins:GM) (s:Shared) (σ:St) (H:Hp) (Q:Option Int->Hp->Prop),aP X pins σ H s->t σ H Q->
  wpAny (model X.prog X.w) X.A (evalPart e X.env) (fun u s'=>∃o H',aP X pins σ H' s'/\IsPart u o/\Q o H') X.xe s
def uP:TO:=fun _ H Q=>Q none H
def zK (t:TE):TO:=fun σ H Q=>t σ H fun x H1=>∃i,x= .int i/\Q (some i) H1
section
variable {X:Cx} {e:Expr} {te:TE} {lo hi:Option Expr} {tl th:TO} {pos p2:Pos}
theorem eJ:PO X none uP:=by
 intro pins s σ H Q I h;rw[evalPart_none];exact wpAny_pure ⟨none,H,I,.none,h⟩
theorem cT (h:PE X e te):PO X (some e) (zK te):=by
 intro pins s σ H Q I hw;rw[evalPart_some];refine b7 (h pins s σ H _ I hw) fun u s1 ⟨x,H1,I1,r1,q1⟩=>?_
 obtain ⟨i,rfl,q⟩:=q1;obtain ⟨t,rfl⟩:=r1;exact ⟨some i,H1,I1,.int i t,q⟩
def BU (X:Cx) (r:V->Option Int->Option Int->Hp->VK->Prop):Prop:=
 ∀(pins:GM) (s:Shared) (σ:St) (H:Hp) (x:V) (v vl vu:Value) (lo hi:Option Int) (sl:Addr) (Q:VK),aP X pins σ H s->RelV x v->s.heap.IsSliceOf sl vl vu .none->IsPart vl lo->IsPart vu hi->r x lo hi H Q->
  ∃T id,typeLookup (.type T) "__getitem__" =pure (some (.builtin id))/\s.TypeIs v T/\wpAny (model X.prog X.w) X.A (getItem v (.ref sl)) (EP X pins σ Q) X.xe s
def CV (r:V->Option Int->Option Int->Hp->VK->Prop) (te:TE) (tl th:TO):TE:=fun σ H Q=>te σ H fun x H1=>tl σ H1 fun l H2=>th σ H2 fun u H3=>r x l u H3 Q
theorem cN {r:V->Option Int->Option Int->Hp->VK->Prop} (hr:BU X r) (he:PE X e te) (hl:PO X lo tl) (hu:PO X hi th):PE X (.Subscript e (.Slice lo hi none p2) pos) (CV r te tl th):=by
 intro pins s σ H Q I h;refine Subscript_ (b7 (he pins s σ H _ I h) fun v s1 ⟨x,H1,I1,r1,q1⟩=>?_)
 refine wpAny_Slice (b7 (hl pins s1 σ H1 _ I1 q1) fun vl s2 ⟨l,H2,I2,pl,q2⟩=>b7 (hu pins s2 σ H2 _ I2 q2) fun vu s3 ⟨u,H3,I3,pu,q3⟩=>?_)
 rw[evalPart_none];refine wpAny_pure ?_;have I4:aP X pins σ H3 {s3 with heap:=s3.heap.push {cls:= .type "slice",data:= .fields #[vl,vu,.none]}}:=I3.kept (t':=s3.toks) fun b ob q=>Heap.get?_push_of_some _ q
 obtain ⟨T,id,hT,ht,hg⟩:=hr pins {s3 with heap:=s3.heap.push {cls:= .type "slice",data:= .fields #[vl,vu,.none]}} σ H3 x v vl vu l u s3.heap.objs.size Q I4 r1 (Heap.IsSliceOf.new ..) pl pu q3
 show wpAny (model X.prog X.w) X.A (subscriptTail e (.Slice lo hi none p2) v (.ref s3.heap.objs.size)) (EP X pins σ Q) X.xe {s3 with heap:=s3.heap.push {cls:= .type "slice",data:= .fields #[vl,vu,.none]}}
 exact tail_any (ops:= [.ref s3.heap.objs.size,v]) ht hT hg (by with_unfolding_all rfl)
def dN (xs:List V) (lo hi:Option Int):List V:=(xs.drop (HT.c6 xs.length 0 lo)).take (HT.c6 xs.length xs.length hi-HT.c6 xs.length 0 lo)
theorem mF (xs:List V) (lo hi:Option Int):(dN xs lo hi).length<=xs.length:=by
 unfold dN;rw[DX,Ds];omega
end
def uQ (n:Nat) (i:Int):Option Nat:=if 0<=i then (if i<n then some i.toNat else none) else if-(n:Int)<=i then some (i+n).toNat else none
def ir {α:Type} (xs:List α) (i:Int):Option α:=(uQ xs.length i).bind fun j=>xs[j]?
theorem pS {n:Nat} {i:Int} {j:Nat} (h:uQ n i=some j):seqIndex? i n=some j/\j<n/\ -(n:Int)<=i/\i<n:=by
 unfold uQ at h
 by_cases h0:0<=i
 ·rw[if_pos h0] at h
  by_cases h1:i<n
  ·rw[if_pos h1] at h;have e:i.toNat=j:=DS h;exact ⟨by rw[seqIndex_of h0 h1,e],by omega,by omega,h1⟩
  ·rw[if_neg h1] at h;cases h
 ·rw[if_neg h0] at h
  by_cases h1: -(n:Int)<=i
  ·rw[if_pos h1] at h;have e:(i+n).toNat=j:=DS h;exact ⟨by rw[seqIndex_neg (by omega) h1,e],by omega,h1,by omega⟩
  ·rw[if_neg h1] at h;cases h
theorem k9 {α:Type} {xs:List α} {i:Int} {v:α} (h:ir xs i=some v):∃j,seqIndex? i xs.length=some j/\xs[j]?=some v/\j<xs.length/\ -(xs.length:Int)<=i/\i<xs.length:=by
 unfold ir at h;cases e:uQ xs.length i with
 |none=>rw[e] at h;cases h
 |some j=>
  rw[e] at h;obtain ⟨h1,h2,h3,h4⟩:=pS e;exact ⟨j,h1,h,h2,h3,h4⟩
theorem aD {α:Type} {xs:List α} {j:Nat} {v:α} (h:xs[j]?=some v):ir xs (j:Int)=some v:=by
 have hj:j<xs.length:=(DM.mp h).1;have e:uQ xs.length (j:Int)=some j:=by
  unfold uQ;rw[if_pos (by omega),if_pos (by omega)];simp
 unfold ir;rw[e];exact h
def uR (b:Expr):Prop:=∀o i,subscripted b false o i=operate [o,i] (getItem o i)
def zL (X:Cx) (r:R2):Prop:=
 ∀(value slice:Expr) (pins:GM) (s:Shared) (σ:St) (H:Hp) (x y:V) (v u:Value) (Q:VK),aP X pins σ H s->RelV x v->RelV y u->r x y H Q->
  subscripted slice false v u=operate [v,u] (getItem v u)->wpAny (model X.prog X.w) X.A (subscriptTail value slice v u) (EP X pins σ Q) X.xe s
def Bt (X:Cx) (id:String) (r:V->List V->Hp->VK->Prop):Prop:=
 ∀(pins:GM) (s:Shared) (σ:St) (H:Hp) (x:V) (xs:List V) (v:Value) (us:GQ) (Q:VK),aP X pins σ H s->RelV x v->bn xs us->r x xs H Q->
  wpAny (model X.prog X.w) X.A (call (.builtin id) (v::us)) (EP X pins σ Q) X.xe s
section
variable {X:Cx} {a b:Expr} {ta tb:TE} {pos:Pos}
theorem aj {r:R2} (hr:zL X r) (ha:PE X a ta) (hb:PE X b tb) (hs:uR b):PE X (.Subscript a b pos) (wS r ta tb):=by
 intro pins s σ H Q I h;exact Subscript_ (wT ha hb I h fun v u s2 x y H2 I2 rx ry q=>hr a b pins s2 σ H2 x y v u Q I2 rx ry q (hs _ _))
def wU (K:D3):R2:=fun x y H Q=>∃p xs i v,x= .ref p/\y= .int i/\aE K H p xs/\ir xs i=some v/\Q v H
def zM (K:D3):R2:=fun x y H Q=>∃p xs i v,x= .ref p/\y= .int i/\bX K H p xs/\ir xs i=some v/\Q v H
def BV:R2:=fun x y H Q=>∃z i c,x= .str z/\y= .int i/\z.length<=sizeLine/\ir z.cps.toList i=some c/\Q (.str ⟨#[c]⟩) H
theorem ai:zL X (wU X.K):=by
 intro value slice pins s σ H x y v u Q I rx ry h hs;obtain ⟨p,xs,i,z,rfl,rfl,hq,he,q⟩:=h;cases rx;obtain ⟨t,rfl⟩:=ry;obtain ⟨its,r,pl,hz⟩:=I.list hq;obtain ⟨j,h1,h2,h3,h4,h5⟩:=k9 he;obtain ⟨w,ew,rw'⟩:=r.get h2;have hl:=r.length;have hn:=iy;have fin:EP X pins σ Q w s:=⟨z,H,I,rw',q⟩
 by_cases h0:0<=i
 ·have hj:i.toNat=j:=by
   rw[seqIndex_of h0 h5] at h1;exact DS h1
  exact item_listR pl.isList h0 (by omega) (by rw[hj];simpa using ew) fin hs
 ·have hj:(i+(its.toArray.size:Int)).toNat=j:=by
   rw[seqIndex_neg (by omega) h4] at h1
   rw[DK,<-hl];exact DS h1
  exact subscriptTail_builtinR (x:=w) pl.isList.typeIs slot_list_getitem.lookup
   (wpAny_getItem_list_neg (Q:=fun r s'=>r=w/\EP X pins σ Q r s') pl.isList (by omega) (by rw[DK]<;>omega) (by omega) (by rw[hj];simpa using ew) ⟨rfl,fin⟩) hs
theorem aY:zL X (zM X.K):=by
 intro value slice pins s σ H x y v u Q I rx ry h hs;obtain ⟨p,xs,i,z,rfl,rfl,hq,he,q⟩:=h;cases rx;obtain ⟨t,rfl⟩:=ry;obtain ⟨its,r,pl,hz⟩:=I.tuple hq;obtain ⟨j,h1,h2,h3,h4,h5⟩:=k9 he;obtain ⟨w,ew,rw'⟩:=r.get h2;have hl:=r.length;have hn:=iy;have fin:EP X pins σ Q w s:=⟨z,H,I,rw',q⟩;exact subscriptTail_builtinR (x:=w) pl.typeIs slot_tuple_getitem.lookup
  (getItem_tuple (j:=j) (Q:=fun r s'=>r=w/\EP X pins σ Q r s') pl (by omega) (by omega) (by rw[DK,<-hl];exact h1) (by simpa using ew) ⟨rfl,fin⟩) hs
theorem oG:zL X BV:=by
 intro value slice pins s σ H x y v u Q I rx ry h hs;obtain ⟨z,i,c,rfl,rfl,hz,he,q⟩:=h;obtain ⟨t,rfl⟩:=rx;obtain ⟨t',rfl⟩:=ry;obtain ⟨j,h1,h2,h3,h4,h5⟩:=k9 he;have hl:z.cps.toList.length=z.length:=by simp[Str.length]
 rw[hl] at h1 h4 h5;have hn:=iy;exact tail_any (typeIs_str s z t) slot_str_getitem.lookup (getItem_str (c:=c) (by
  have e1:decide (i< -(2^63:Int))=false:=decide_eq_false (by omega)
  have e2:decide (i≥2^63)=false:=decide_eq_false (by omega)
  rw[e1,e2,Bool.or_false]) (by rw[h1];simpa using h2) ⟨.str ⟨#[c]⟩,H,I.tok _,⟨_,rfl⟩,q⟩) hs
theorem oH (its:GQ) (n j:Nat) (u:Value):Obj.mapSeq (·.setIfInBounds j u) {cls:= .type "list",data:= .seq its.toArray n}={cls:= .type "list",data:= .seq (its.set j u).toArray n}:=by
 simp[Obj.mapSeq]
theorem aP.lst {pins:GM} {σ:St} {H:Hp} {s:Shared} {p:Addr} {xs:List V} (I:aP X pins σ H s) (h:H p=some (.lst xs)):
  ∃(its:GQ) (n:Nat),bn xs its/\s.heap.get? p=some {cls:= .type "list",data:= .seq its.toArray n}/\xs.length<=sizeLine:=by
 obtain ⟨z,its,n,r,e⟩:=I.hok p _ h;exact ⟨its,n,r,e,z⟩
theorem aP.lstUpd {pins:GM} {σ:St} {H:Hp} {s:Shared} {p:Addr} {xs ys:List V} {its its':GQ} {n n':Nat} {f:Obj->Obj} (I:aP X pins σ H s) (h:H p=some (.lst xs))
  (ho:s.heap.get? p=some {cls:= .type "list",data:= .seq its.toArray n}) (hf:f {cls:= .type "list",data:= .seq its.toArray n}={cls:= .type "list",data:= .seq its'.toArray n'}) (r:bn ys its') (hz:ys.length<=sizeLine) (t:Nat):
  aP X pins σ (aO H p (.lst ys)) {s with heap:=s.heap.update p f,toks:=t}:=by
 have e:(s.heap.update p f).get? p=some {cls:= .type "list",data:= .seq its'.toArray n'}:=by
  rw[Heap.get?_update_self f ho (by rw[hf]<;>rfl),hf]
 refine I.write (x:=p) (e:=p) (by rw[h];trivial) (.inl rfl) (fun b u hb q=>(Heap.get?_update_other _ _ (Ne.symm hb)).trans q) ⟨_,e⟩ ?_
 exact ⟨hz,its',n',r,e⟩
def zN:V->V->V->Hp->(Hp->Prop)->Prop:=fun o i v H Q=>∃p xs k j,o= .ref p/\i= .int k/\H p=some (.lst xs)/\uQ xs.length k=some j/\Q (aO H p (.lst (xs.set j v)))
theorem set_list:zy X zN:=by
 intro pins s σ H o i v ov iv u Q I ro ri rv h;obtain ⟨p,xs,k,j,rfl,rfl,hp,hj,q⟩:=h;cases ro;obtain ⟨t,rfl⟩:=ri;obtain ⟨its,n,r,ho,hz⟩:=I.lst hp;obtain ⟨h1,h2,h3,h4⟩:=pS hj;have hl:=r.length;have hn:=iy;have I':aP X pins σ (aO H p (.lst (xs.set j v))) {s with heap:=s.heap.update p (Obj.mapSeq (·.setIfInBounds j u))}:=
  I.lstUpd hp ho (oH its n j u) (r.set rv j) (by rw[List.length_set];exact hz) s.toks
 by_cases h0:0<=k
 ·have hk:k.toNat=j:=by
   rw[seqIndex_of h0 h4] at h1;exact DS h1
  exact PySem.W.ki_setAt ho h0 (by omega) (by rw[DK,<-hl];exact h4) (by rw[hk];exact ⟨_,I',q⟩)
 ·have hk:(k+(its.toArray.size:Int)).toNat=j:=by
   rw[seqIndex_neg (by omega) h3] at h1
   rw[DK,<-hl];exact DS h1
  exact PySem.W.ki_setBack ho (by omega) (by rw[DK,<-hl];exact h3) (by omega) (by rw[hk];exact ⟨_,I',q⟩)
theorem ld (lo hi:Option Int) (n:Nat):(sliceBounds lo hi none n).1=((HT.c6 n 0 lo:Nat):Int)/\(sliceBounds lo hi none n).2.1=((HT.c6 n n hi:Nat):Int)/\(sliceBounds lo hi none n).2.2=1:=by
 refine ⟨?_,?_,rfl⟩
 ·cases lo with
  |none=>simp[sliceBounds,HT.c6]
  |some i=>
   simp only[sliceBounds,HT.c6,Option.getD_none,show (1:Int)>0 by decide,if_true]
   by_cases h:i<0
   ·simp only[h,if_true]<;>omega
   ·simp only[h,if_false]<;>omega
 ·cases hi with
  |none=>simp[sliceBounds,HT.c6]
  |some i=>
   simp only[sliceBounds,HT.c6,Option.getD_none,show (1:Int)>0 by decide,if_true]
   by_cases h:i<0
   ·simp only[h,if_true]<;>omega
   ·simp only[h,if_false]<;>omega
theorem jM (its:GQ) (lo hi:Option Int):slicePick its.toArray lo hi none=((its.drop (HT.c6 its.length 0 lo)).take (HT.c6 its.length its.length hi-HT.c6 its.length 0 lo)).toArray:=by
 obtain ⟨h1,h2,h3⟩:=ld lo hi its.toArray.size;unfold slicePick;rw[h1,h2,h3];simp only[sliceRange_one,pick_run,DK]<;>rfl
def BW (K:D3):V->Option Int->Option Int->Hp->VK->Prop:=fun x lo hi H Q=>∃a xs,x= .ref a/\aE K H a xs/\∀p,H p=none->Q (.ref p) (aO H p (.lst (dN xs lo hi)))
theorem fb:BU X (BW X.K):=by
 intro pins s σ H x v vl vu lo hi sl Q I rx hs pl pu h;obtain ⟨a,xs,rfl,hx,q⟩:=h;cases rx;obtain ⟨its,r,ht,hz⟩:=I.list hx;have hlen:=r.length;refine ⟨"list",_,slot_list_getitem.lookup,ht.isList.typeIs,?_⟩;refine wpAny_getItem_list_slice ht.isList hs pl pu .none (by simp) ?_ (by rw[DK]<;>omega)
 rw[jM,<-hlen];refine ⟨.ref s.heap.objs.size,_,I.laid (t':=s.toks) (o:= .lst (dN xs lo hi)) (fun b ob q=>Heap.get?_push_of_some _ q) (D9 _) ?_,rfl,q _ (I.hok.fresh (D9 _))⟩
 exact ⟨DU (mF xs lo hi) hz,_,0,(r.drop (HT.c6 xs.length 0 lo)).take (HT.c6 xs.length xs.length hi-HT.c6 xs.length 0 lo),Heap.get?_push_size _ rfl⟩
def gN:V->Bool
 | .non=>true
 | .bl _=>true
 | .int _=>true
 | .str _=>true
 |_=>false
def uS:V->V->Bool
 | .non,.non=>true
 | .bl a,.bl b=>a==b
 | .bl a,.int b=>(if a then 1 else 0)==b
 | .int a,.bl b=>a==(if b then 1 else 0)
 | .int a,.int b=>a==b
 | .str a,.str b=>a==b
 |_,_=>false
theorem wV {A:Around} {s:Shared} {y x:V} {u v:Value} (ry:RelV y u) (rx:RelV x v) (fy:gN y=true) (fx:gN x=true):SeqAt.EqAt A s u v (uS y x):=by
 cases y with
 |non=>
  cases ry;cases x with
  |non=>cases rx;exact SeqAt.EqAt.same _
  |bl b=>cases rx;exact SeqAt.EqAt.none_bool b
  |int b=>obtain ⟨t,rfl⟩:=rx;exact SeqAt.EqAt.none_int b t
  |str b=>obtain ⟨t,rfl⟩:=rx;exact SeqAt.EqAt.none_str b t
  |_=>exact absurd (show false=true from fx) DL
 |bl a=>
  cases ry;cases x with
  |non=>cases rx;exact SeqAt.EqAt.bool_none a
  |bl b=>cases rx;exact SeqAt.EqAt.bool_bool a b
  |int b=>obtain ⟨t,rfl⟩:=rx;exact SeqAt.EqAt.bool_int a b t
  |str b=>obtain ⟨t,rfl⟩:=rx;exact SeqAt.EqAt.bool_str a b t
  |_=>exact absurd (show false=true from fx) DL
 |int a=>
  obtain ⟨t',rfl⟩:=ry;cases x with
  |non=>cases rx;exact SeqAt.EqAt.int_none a t'
  |bl b=>cases rx;exact SeqAt.EqAt.int_bool a t' b
  |int b=>obtain ⟨t,rfl⟩:=rx;exact SeqAt.EqAt.int_int a t' b t
  |str b=>obtain ⟨t,rfl⟩:=rx;exact SeqAt.EqAt.int_str a t' b t
  |_=>exact absurd (show false=true from fx) DL
 |str a=>
  obtain ⟨t',rfl⟩:=ry;cases x with
  |non=>cases rx;exact SeqAt.EqAt.str_none a t'
  |bl b=>cases rx;exact SeqAt.EqAt.str_bool a t' b
  |int b=>obtain ⟨t,rfl⟩:=rx;exact SeqAt.EqAt.str_int a t' b t
  |str b=>obtain ⟨t,rfl⟩:=rx;exact SeqAt.EqAt.str_str a t' b t
  |_=>exact absurd (show false=true from fx) DL
 |_=>exact absurd (show false=true from fy) DL
def uT (x:V) (u:Value):Bool:=match u with
 | .none=>uS .non x
 | .bool b=>uS (.bl b) x
 | .int i _=>uS (.int i) x
 | .str z _=>uS (.str z) x
 |_=>false
theorem sw {x y:V} {u:Value} (r:RelV y u) (f:gN y=true):uT x u=uS y x:=by
 cases y with
 |non=>cases r;rfl
 |bl b=>cases r;rfl
 |int i=>obtain ⟨t,rfl⟩:=r;rfl
 |str z=>obtain ⟨t,rfl⟩:=r;rfl
 |_=>exact absurd (show false=true from f) DL
theorem lh {x:V}:∀{xs:List V} {us:GQ},bn xs us->xs.all gN=true->us.any (uT x)=xs.any fun y=>uS y x
 |_,_,.nil,_=>rfl
 |y::xs,u::us,.cons r t,f=>by
  rw[List.all_cons,Bool.and_eq_true] at f;rw[List.any_cons,List.any_cons,sw r f.1,lh t f.2]
theorem jc {A:Around} {s:Shared} {x:V} {v:Value} (rx:RelV x v) (fx:gN x=true):∀{xs:List V} {us:GQ},bn xs us->xs.all gN=true->∀u∈us,SeqAt.EqAt A s u v (uT x u)
 |_,_,.nil,_=>fun u hu=>by cases hu
 |y::xs,u::us,.cons r t,f=>fun u' hu=>by
  rw[List.all_cons,Bool.and_eq_true] at f;rcases D2.mp hu with rfl|hu
  ·rw[sw r f.1];exact wV r rx f.1 fx
  ·exact jc rx fx t f.2 u' hu
def zk (x:V) (xs:List V):Bool:=xs.any fun y=>uS y x
def CW (K:D3) (neg:Bool):R2:=fun x y H Q=>∃p xs,y= .ref p/\(aE K H p xs∨bX K H p xs)/\gN x=true/\xs.all gN=true/\Q (.bl (if neg then !zk x xs else zk x xs)) H
theorem dX:gA X (compareOp .In) (CW X.K false):=by
 intro pins s σ H x y v u Q I rx ry h;obtain ⟨p,xs,rfl,hq,fx,fs,q⟩:=h;cases ry;rcases hq with hq|hq
 ·obtain ⟨its,r,pl,hz⟩:=I.list hq;refine SeqAt.in_listAt (uT x) pl.isList (fun w hw=>jc rx fx r fs w (by simpa using hw)) ⟨.bl _,H,I,rfl,?_⟩
  rw[show its.toArray.any (uT x)=its.any (uT x) by simp,lh r fs]
  exact q
 ·obtain ⟨its,r,pl,hz⟩:=I.tuple hq;refine SeqAt.in_tupleAt (uT x) pl (fun w hw=>jc rx fx r fs w (by simpa using hw)) ⟨.bl _,H,I,rfl,?_⟩
  rw[show its.toArray.any (uT x)=its.any (uT x) by simp,lh r fs]
  exact q
theorem dQ:gA X (compareOp .NotIn) (fun x y H Q=>∃i j,x= .str i/\y= .str j/\Q (.bl (!(!(Builtin.Str.occurrences j i 0 j.length 1).isEmpty))) H):=by
 intro pins s σ H x y v u Q I rx ry h;obtain ⟨i,j,rfl,rfl,q⟩:=h;obtain ⟨t,rfl⟩:=rx;obtain ⟨t',rfl⟩:=ry;exact notIn_str ⟨.bl _,H,I,rfl,q⟩
theorem a7:dH X (.builtin "len") (fun xs H Q=>∃p ys,xs= [.ref p]/\(aE X.K H p ys∨bX X.K H p ys)/\Q (.int ys.length) H):=by
 intro pins s σ H xs us Q I r h;obtain ⟨p,ys,rfl,hq,q⟩:=h;obtain ⟨u,rfl,rx⟩:=vals1 r;cases rx;have hn:=iy;rcases hq with hq|hq
 ·obtain ⟨its,r',pl,hz⟩:=I.list hq;have hlen:=r'.length;exact Calls.call_len_list pl.isList (by simp only[DK]<;>omega) ⟨.int ys.length,H,I.tok _,⟨s.toks+1,by rw[DK,hlen]⟩,q⟩
 ·obtain ⟨its,r',pl,hz⟩:=I.tuple hq;have hlen:=r'.length;exact len_tuple pl (by simp only[DK]<;>omega) ⟨.int ys.length,H,I.tok _,⟨s.toks+1,by rw[DK,hlen]⟩,q⟩
theorem dR:dH X (.builtin "len") (fun xs H Q=>∃z,xs= [.str z]/\z.length<=sizeLine/\Q (.int z.length) H):=by
 intro pins s σ H xs us Q I r h;obtain ⟨z,rfl,hz,q⟩:=h;obtain ⟨u,rfl,t,rfl⟩:=vals1 r;have hn:=iy;exact len_str (by omega) ⟨.int z.length,H,I.tok _,⟨_,rfl⟩,q⟩
theorem dk:dH X (.type "list") (fun xs H Q=>∃p ys,xs= [.ref p]/\(aE X.K H p ys∨bX X.K H p ys)/\∀l,H l=none->Q (.ref l) (aO H l (.lst ys))):=by
 intro pins s σ H xs us Q I r h;obtain ⟨p,ys,rfl,hq,q⟩:=h;obtain ⟨u,rfl,rx⟩:=vals1 r;cases rx;have fin:∀(its:GQ),bn ys its->ys.length<=sizeLine->∀(h':Heap) (c':Nat),(∀b o',s.heap.get? b=some o'->h'.get? b=some o')->
   h'.get? s.heap.objs.size=some {cls:= .type "list",dict:=none,data:= .seq its.toArray c',slots:= #[]}->EP X pins σ Q (.ref s.heap.objs.size) {s with heap:=h'}:=fun its r' hz h' c' kp e=>
  ⟨.ref s.heap.objs.size,_,I.laid (t':=s.toks) kp (D9 _) (show cn X.prog X.w _ h' _ (.lst ys) from ⟨hz,its,c',r',e⟩),rfl,q _ (I.hok.fresh (D9 _))⟩
 rcases hq with hq|hq
 ·obtain ⟨its,r',pl,hz⟩:=I.list hq;have hlen:=r'.length;obtain ⟨o,ho,hc,n,hd⟩:=pl.isList;exact call_list_seq p (.inl rfl) ho hc hd (fun h' c' kp e=>fin its r' hz h' c' kp e) (by simp only[DK]<;>omega)
 ·obtain ⟨its,r',pl,hz⟩:=I.tuple hq;have hlen:=r'.length;obtain ⟨o,ho,hc,n,hd⟩:=pl;exact call_list_seq p (.inr rfl) ho hc hd (fun h' c' kp e=>fin its r' hz h' c' kp e) (by simp only[DK]<;>omega)
def CF (K:D3) (T:String) (x:V) (H:Hp):Prop:=match x with
 | .str _=>T= "str"
 | .int _=>T= "int"
 | .ref p=>(T= "list" /\∃xs,aE K H p xs)∨(T= "tuple" /\∃o,K.lookup p=some o/\o.cls= .type "tuple" /\o.dict=none)∨
   (T= "dict" /\((∃kvs,H p=some (.dK kvs))∨∃kvs,H p=some (.dT kvs)))∨(T= "set" /\∃S n,H p=some (.set S n))
 |_=>False
theorem wW {pins:GM} {σ:St} {H:Hp} {s:Shared} {T:String} {x:V} {v:Value} (I:aP X pins σ H s) (r:RelV x v) (ty:CF X.K T x H):
  s.TypeIs v T/\∀a,v= .ref a->∃ob,s.heap.get? a=some ob/\ob.dict=none:=by
 cases x with
 |str z=>
  obtain ⟨t,rfl⟩:=r;cases (show T= "str" from ty)
  exact ⟨typeIs_str s z t,fun _ e=>nomatch e⟩
 |int i=>
  obtain ⟨t,rfl⟩:=r;cases (show T= "int" from ty)
  exact ⟨typeIs_int s i t,fun _ e=>nomatch e⟩
 |ref p=>
  cases r;rcases ty with ⟨rfl,xs,hq⟩|⟨rfl,o,hk,hc,hd⟩|⟨rfl,hk⟩|⟨rfl,S,n,hk⟩
  ·obtain ⟨its,_,pl,_⟩:=I.list hq;refine ⟨pl.isList.typeIs,fun a e=>?_⟩
   cases e;obtain ⟨o,n,e,c,hd,_⟩:=pl;exact ⟨o,e,hd⟩
  ·refine ⟨⟨o,I.kIn p o hk,hc⟩,fun a e=>?_⟩
   cases e;exact ⟨o,I.kIn _ o hk,hd⟩
  ·have z:∃o,s.heap.get? p=some o/\o.ExactDict:=by
    rcases hk with ⟨kvs,hk⟩|⟨kvs,hk⟩
    ·obtain ⟨_,_,_,_,o,_,_,e,ex,_⟩:=I.hok p _ hk;exact ⟨o,e,ex⟩
    ·obtain ⟨_,_,_,_,o,_,_,e,ex,_⟩:=I.hok p _ hk;exact ⟨o,e,ex⟩
   obtain ⟨o,e,ex⟩:=z;refine ⟨⟨o,e,ex.1⟩,fun a e2=>?_⟩
   cases e2;exact ⟨o,e,ex.2.1⟩
  ·obtain ⟨o,_,_,_,e,ex,_⟩:=I.hok p _ hk;refine ⟨⟨o,e,ex.1⟩,fun a e2=>?_⟩
   cases e2;exact ⟨o,e,ex.2.1⟩
 |_=>exact False.elim ty
def CY (K:D3) (T:String) (r:V->List V->Hp->VK->Prop) (to:TE) (t:TA):TE:=fun σ H Q=>to σ H fun x H1=>CF K T x H1/\t σ H1 fun xs H2=>r x xs H2 Q
variable {o e:Expr} {es:List Expr} {to:TE} {t:TA} {name:Str} {apos cpos:Pos} {T id:String} {r:V->List V->Hp->VK->Prop}
theorem bO (pa:PlainAttrs T) (slot:Slot T name id) (hty:typeOf (.builtin id)=pure (.type "method_descriptor")) (hm:Bt X id r) (ho:PE X o to) (ha:PA X (e::es) t)
  (hbase:attributeBase o name X.env (eval o X.env)=eval o X.env:=by rfl)
  (hfew:((backTo cpos (starEach (e::es) X.env)).all (fun x=> !x.1)&&(backToKw cpos (keywordEach [] X.env)).all (fun x=>x.1.isSome)
   &&decide ((e::es).length+([]:List Keyword).length+(if ([]:List Keyword).isEmpty then 0 else 1)<30))=true:=by rfl)
  (hline:(apos.endLine==cpos.line)=true:=by rfl) (hs:starEach (e::es) X.env=(false,eval e X.env)::starEach es X.env:=by rfl) (hplain:(backTo cpos (starEach es X.env)).any (·.1)=false:=by rfl):
  PE X (.Call (.Attribute o name apos) (e::es) [] cpos) (CY X.K T r to t):=by
 intro pins s σ H Q I h;refine wpAny_Call_method_late hbase hfew hline rfl (b7 (ho pins s σ H _ I h) fun v s1 ⟨x,H1,I1,r1,ty,q1⟩=>?_)
 obtain ⟨h1,h2⟩:=wW I1 r1 ty;refine ⟨T,id,pa,slot,hty,h1,h2,?_⟩;have hA:=ha cpos pins s1 σ H1 _ I1 q1;rw[hs] at hA⊢;refine Calls.callWith_builtin (by show (false||(backTo cpos (starEach es X.env)).any (·.1))=false;rw[hplain]<;>rfl) (Calls.evalArgs_plain ?_)
 exact b7 hA fun us s2 ⟨vs,H2,I2,r2,q2⟩=>hm pins s2 σ H2 x vs v us Q I2 r1 r2 q2
end
def CG (X:Cx) (id:String) (r:V->List V->Hp->VK->Prop):Prop:=
 ∀(pins:GM) (s:Shared) (σ:St) (H:Hp) (x:V) (xs:List V) (v:Value) (us:GQ) (Q:VK),aP X pins σ H s->RelV x v->bn xs us->r x xs H Q->
  wpAny (model X.prog X.w) X.A (call (.builtin id) (v::us)) (EP X pins σ Q) X.xe s
theorem bn.one:∀{x:V} {us:GQ},bn [x] us->∃u,us= [u]/\RelV x u
 |_,_,.cons r .nil=>⟨_,rfl,r⟩
section
variable {X:Cx} {pins:GM} {σ:St} {H:Hp} {s:Shared} {l b:Addr} {xs ys zs:List V}
theorem aP.lset {its its':GQ} {n:Nat} {f:Array Value->Array Value} {t':Nat} (I:aP X pins σ H s) (hH:H l=some (.lst xs))
  (e:s.heap.get? l=some {cls:= .type "list",data:= .seq its.toArray n}) (hf:f its.toArray=its'.toArray) (hv:bn ys its') (hz:ys.length<=sizeLine):
  aP X pins σ (aO H l (.lst ys)) {s with heap:=s.heap.update l (Obj.mapSeq f),toks:=t'}:=by
 have q:=PySem.IsL.update e f;rw[hf] at q;refine I.write (x:=l) (e:=l) (by rw[hH];exact trivial) (.inl rfl) (fun b' u hb hu=>(Heap.get?_update_other s.heap (Obj.mapSeq f) (Ne.symm hb)).trans hu) ⟨_,q⟩ ?_
 exact ⟨hz,its',_,hv,q⟩
theorem aP.lnew {its:GQ} {t':Nat} (I:aP X pins σ H s) (hv:bn ys its) (hz:ys.length<=sizeLine):
  aP X pins σ (aO H s.heap.objs.size (.lst ys)) {s with heap:=s.heap.push {cls:= .type "list",data:= .seq its.toArray},toks:=t'}:=
 I.laid (fun _ _ q=>Heap.get?_push_of_some _ q) (D9 _) ⟨hz,its,0,hv,Heap.get?_push_size _ rfl⟩
theorem aP.fresh (I:aP X pins σ H s):H s.heap.objs.size=none:=I.hok.fresh (D9 _)
theorem aP.lstM (I:aP X pins σ H s) (hH:H l=some (.lst xs)):xs.length<=sizeLine/\∃(its:GQ) (n:Nat),bn xs its/\xs.length=its.length/\s.heap.get? l=some {cls:= .type "list",data:= .seq its.toArray n}:=by
 obtain ⟨z,its,n,r,e⟩:=I.hok l _ hH;exact ⟨z,its,n,r,r.length,e⟩
theorem sx {n:Nat} (h:n<=sizeLine):Builtin.List.listTooLong n=false:=by
 unfold Builtin.List.listTooLong;exact decide_eq_false (by omega)
end
variable {X:Cx}
def uU:V->List V->Hp->VK->Prop:=fun x vs H Q=>∃l xs y,x= .ref l/\vs= [y]/\H l=some (.lst xs)/\xs.length<sizeLine/\Q .non (aO H l (.lst (xs++ [y])))
theorem a8:CG X "list.append" uU:=by
 intro pins s σ H x vs v us Q I rx rv h;obtain ⟨l,xs,y,rfl,rfl,hH,hz,q⟩:=h;cases rx;obtain ⟨u,rfl,ru⟩:=rv.one;obtain ⟨z,its,n,r,hl,e⟩:=I.lstM hH;refine call_meets F.slot_list_append ⟨_,e,rfl⟩ F.entry_list_append (F.args_list_append_2 _ _) (PySem.list_append l its.toArray n u (by rw[DK];omega)) ⟨e,?_⟩
 refine ⟨.non,_,I.lset (its':=its++ [u]) hH e (by simp) (r.append (.cons ru .nil)) ?_,rfl,q⟩
 rw[DB,List.length_singleton];omega
def uV:V->List V->Hp->VK->Prop:=fun x vs H Q=>∃l b xs zs,x= .ref l/\vs= [.ref b]/\H l=some (.lst xs)/\H b=some (.lst zs)/\xs.length+zs.length<=sizeLine/\Q .non (aO H l (.lst (xs++zs)))
theorem iA:CG X "list.extend" uV:=by
 intro pins s σ H x vs v us Q I rx rv h;obtain ⟨l,b,xs,zs,rfl,rfl,hH,hB,hz,q⟩:=h;cases rx;obtain ⟨u,rfl,ru⟩:=rv.one;cases ru;obtain ⟨z,its,n,r,hl,e⟩:=I.lstM hH;obtain ⟨z2,its2,n2,r2,hl2,e2⟩:=I.lstM hB;have hsz:its.toArray.size+its2.toArray.size<=sizeLine:=by rw[DK,DK];omega
 have hlong:¬(!its.toArray.isEmpty&&Builtin.List.listTooLong (its.toArray.size+its2.toArray.size))=true:=by
  rw[sx hsz,Bool.and_false];exact DL
 refine call_meets F.slot_list_extend ⟨_,e,rfl⟩ F.entry_list_extend (F.args_list_extend_2 _ _)
  (AutoSeq1.list_extend_list_list_0 l its.toArray n b its2.toArray n2 hlong (by rw[DK];omega) (by omega)) ⟨e,e2,?_⟩
 refine ⟨.non,_,I.lset (its':=its++its2) hH e (by simp) (r.append r2) ?_,rfl,q⟩
 rw[DB];omega
def BX:R2:=fun x y H Q=>∃l b xs zs,x= .ref l/\y= .ref b/\H l=some (.lst xs)/\H b=some (.lst zs)/\xs.length+zs.length<=sizeLine/\∀p,H p=none->Q (.ref p) (aO H p (.lst (xs++zs)))
theorem lm:gA X (binaryOp .Add) BX:=by
 intro pins s σ H x y v u Q I rx ry h;obtain ⟨l,b,xs,zs,rfl,rfl,hH,hB,hz,q⟩:=h;cases rx;cases ry;obtain ⟨z,its,n,r,hl,e⟩:=I.lstM hH;obtain ⟨z2,its2,n2,r2,hl2,e2⟩:=I.lstM hB;refine PySem.P.add_list e e2 ?_ (by rw[DK,DK];omega)
 have ea:its.toArray++its2.toArray=(its++its2).toArray:=by simp
 rw[ea];exact ⟨.ref _,_,I.lnew (t':=s.toks) (r.append r2) (by rw[DB];omega),rfl,q _ I.fresh⟩
theorem pT {P:Program} {w:World} {k:Key} {u:Value} (r:RelV (kV k) u):(dP P w).is k u=true:=by
 cases k with
 |inl i=>obtain ⟨t,e⟩:=(show ∃t,u=Value.int i t from r);subst e;exact me P w i t
 |inr x=>obtain ⟨t,e⟩:=(show ∃t,u=Value.str x t from r);subst e;exact mf P w x t
def zO (i:Expr):Prop:=∀ov iv,subscripted i false ov iv=operate [ov,iv] (getItem ov iv)
theorem uW {prog:Program} {w:World} {A:Around} {E:GK} {s:Shared} {env:Env} {value slice:Expr} {pos:Pos} {T id:String} {Q:GK}
  (hl:typeLookup (.type T) "__getitem__" =pure (some (.builtin id))) (hs:zO slice)
  (h:wpAny (model prog w) A (eval value env) (fun o s₁=>wpAny (model prog w) A (eval slice env) (fun i s₂=>s₂.TypeIs o T/\wpAny (model prog w) A (getItem o i) Q E s₂) E s₁) E s):
  wpAny (model prog w) A (eval (.Subscript value slice pos) env) Q E s:=by
 refine Subscript_ (wpAny_mono h (fun o s₁ h₁=>wpAny_mono h₁ (fun i s₂ h₂=>?_) fun _ _ x=>x) fun _ _ x=>x)
 obtain ⟨hT,h₂⟩:=h₂;unfold subscriptTail;refine wpAny_bind ?_;rw[getitemInPython_of_ne hT.not_modules];refine wpAny_bind (wpAny_specialOf hT hl ?_);have fin:wpAny (model prog w) A (subscripted slice false o i) (fun r s₃=>wpAny (model prog w) A (letTemporaryGo value o r>>=fun _=>pure r) Q E s₃) E s₂:=by
  rw[hs o i];exact wpAny_operating (wpAny_mono h₂ (fun r s₃ h₃=>wpAny_bind (wpAny_letTemporaryGo (wpAny_pure h₃))) fun _ _ x=>x)
 first
  |exact wpAny_pure (wpAny_bind fin)
  |exact wpAny_bind (wpAny_pure (wpAny_bind fin))
  |exact wpAny_bind fin
end L2
namespace Att
open PySem PySem.W PySem.Calls PyProof.Rows
theorem iT {P:Params} {h:Heap}:∀(ns:List Int) (vs:GQ),WellAll P h vs (ns.map WData.int)->IntsAre vs ns:=by
 intro ns
 induction ns with
 |nil=>
  intro vs w;rw[Du] at w;cases w;exact .nil
 |cons n ns ih=>
  intro vs w;rw[Dd] at w;cases w with
  |cons a b=>
   cases a;exact .cons _ _ (ih _ b)
theorem qU {l:OpenLaw} {n:Nat} (hn:l.most=some n) {P:Params} {h:Heap} {args:List WData} {vals:GQ}
  (hpre:l.row.toRowW.claim.pre args=true) (hwl:WellAll P h vals args):
  ∃a vs ns,vals= [Value.ref a]/\args= [WData.list (ns.map WData.int)]/\h.get? a=some {cls:= .type "list",data:= .seq vs.toArray}/\IntsAre vs ns/\ns.length<=n:=by
 have hsh:WShape.hasAll [] args [.list .int]=true:=(pre_splitW hpre).1;have hc:l.pre.holds [] {args:=args}=true:=(pre_splitW hpre).2;obtain ⟨d,r,rfl,h1,h2⟩:=hasAllW_cons hsh;obtain rfl:=hasAllW_nil h2;obtain ⟨xs,rfl,h3⟩:=hasW_list h1;obtain ⟨ns,rfl⟩:=items_int h3;have hlen:ns.length<=n:=by
  unfold OpenLaw.pre at hc;have h4:(WTm.not (.lt (.lit (.int (n:Int))) (.len (.arg 0)))).holds [] {args:= [.list (ns.map .int)]}=true:=by
   have h4:=(holds_andW hc).1;rw[hn] at h4;exact h4
  have h5:=condW_of h4 (w_not (w_lt w_lit (w_len_list (w_arg rfl))));rw[D4] at h5;refine Nat.le_of_not_lt fun q=>?_
  have q':(n:Int)<((ns.length:Nat):Int):=by omega
  first
   |(rw[decide_eq_true q'] at h5;exact absurd h5 (by decide))
   |(simp at h5;omega)
 cases hwl with
 |cons w1 w2=>
  cases w2;cases w1 with
  |list ho hall=>exact ⟨_,_,ns,rfl,rfl,ho,iT ns _ hall,hlen⟩
theorem qV (l:OpenLaw) (args:List WData):l.row.toRowW.claim.post args (.bool true) args=true:=
 postW_of (r:=l.row.toRowW) (X:=(true==true))
  (show WShape.has [] (.bool true) .bool=true by first|rfl|decide|simp[WShape.has,WShape.arms,WShape.armsAll])
  (show (WTm.eq .res (.lit (.bool true))).value [] {args:=args,res:=some (.bool true),after:=args}=some (.bool (true==true)) from w_eq_bool (w_res rfl) w_lit) rfl
theorem mG {l:OpenLaw} {n:Nat} {q:Program} {loose:GO} {XP:GL->Heap->Prop} {YP:World->Heap->Prop} {d:DefRec}
  (hn:l.most=some n) (hdf:d.params.defaults= [])
  (call:∀(w:World) (s₀ s₁:Shared) (mg mb:GL) (fa:Addr) (o:Obj) (pm cd doc:Value) (a:Addr) (vs:GQ) (ns:List Int),
   Ground q loose [] XP w s₀ mg mb s₁.heap->YP w s₁.heap->
   s₁.heap.get? fa=some o->o.data= .func (docDef d.name d.params d.body d.scope pm cd doc)->s₁.heap.CodeRec cd d.name->mg d.name=some (.ref fa)->
   s₁.heap.get? a=some {cls:= .type "list",data:= .seq vs.toArray}->IntsAre vs ns->ns.length<=n->s₁.gens= #[]->
   codeAny (model l.prog w) callerA (.call (.ref fa) ⟨[.ref a],[]⟩) (fun r s'=>r= .ok (.ret (.bool true))/\OldK s₁.heap s'.heap/\s'.os=s₁.os/\AllBare s'.gens) s₁):
  WalkO q loose XP YP l.row.toRowW d [] (fun f vs=>PySem.call f vs):=by
 intro w s₀ s₁ mg mb G Y fa o pm cd doc dV kV ho hd hcd hD hmg hg args vals as hpre hlay hrd hwl hlo;obtain rfl:dV= .none:=Dflts.none hD hdf;obtain rfl:kV= .none:=Dflts.noKw hD;obtain ⟨a,vs,ns,rfl,rfl,hobj,hints,hlen⟩:=qU hn hpre hwl;refine enter_call (codeAny_mono (call w s₀ s₁ mg mb fa o pm cd doc a vs ns G Y ho (fd_plain hd) hcd hmg hobj hints hlen hg) fun r s' hq=>?_)
 obtain ⟨rfl,h2,h3,h4⟩:=hq;exact ⟨.inl ⟨.bool true,.bool true,[],rfl,fun _=>rfl,.bool true,qV l _,fun _=>⟨List.Pairwise.nil,fun _ hm=>(nomatch hm)⟩⟩,h2,h3,h4⟩
end Att
namespace L2
open PySem PySem.Spec PyProof.Rows
theorem jZ:∀{vs:GQ} {ns:List Int},IntsAre vs ns->bn (ns.map V.int) vs
 |_,_,.nil=> .nil
 |_,_,.cons n t h=> .cons ⟨t,rfl⟩ (jZ h)
def wX (H:Hp):Prop:=∀b,H b=none∨∃o xs,H b=some (.frz o (.lst xs))
theorem sy {P:Program} {w:World} {K:D3} {mg mb:GL} {CX:oC} {k:Nat} {fa a:Addr} {fd:FuncData} {x:Str} {sp:Sp} {s₁:Shared} {vs:GQ} {ns:List Int}
  (KX:K.In s₁.heap) (hns:s₁.heap.Ns mainGlobals mg) (hb:s₁.heap.Ns builtinsNs mb) (hbb:∀x:Str,x≠ "__name__" ->mb x=bootBuiltins x) (hlim:s₁.heap.NoLimit) (hg:s₁.gens= #[])
  (ha:s₁.heap.get? a=some {cls:= .type "list",data:= .seq vs.toArray}) (hi:IntsAre vs ns) (hl:ns.length<=sizeLine) (hr:cx k callerA)
  (F:∀base:Heap,K.In base->base.Ns mainGlobals mg->bh P w K mg base CX k fa fd [x] sp) (hbind:∀(s:Shared) (u:Value),BindsTo s fd ⟨[u],[]⟩ [(x,u)])
  (hsp:∀H:Hp,wX H->aE K H a (ns.map V.int)->sp [.ref a] H (fun v _=>v= .bl true) fun _ _ _=>False)
  (hCX:∀H e s',CX [] H s₁ (fun _ _ _=>False) e s'->False):
  codeAny (model P w) callerA (.call (.ref fa) ⟨[.ref a],[]⟩) (fun r s'=>r= .ok (.ret (.bool true))/\OldK s₁.heap s'.heap/\s'.os=s₁.os/\AllBare s'.gens) s₁:=by
 have rv:=jZ hi;have lenV:=hi.length;have core:∀H:Hp,wX H->aE K H a (ns.map V.int)->gC P w H s₁.heap->(∀b,H b≠none->b=a)->(H a≠none->K.lookup a=none)->
   codeAny (model P w) callerA (.call (.ref fa) ⟨[.ref a],[]⟩) (fun r s'=>r= .ok (.ret (.bool true))/\OldK s₁.heap s'.heap/\s'.os=s₁.os/\AllBare s'.gens) s₁:=by
  intro H hO hS hok hA hK;have base_of:∀{b:Addr} {o:Obj},s₁.heap.get? b=some o->H b=none->(kX s₁.heap H).get? b=some o:=fun e n=>rW e n
  have noA:∀{b:Addr} {o:Obj} {es:Array DictEntry} {ep:Nat},s₁.heap.get? b=some o->o.data= .dict es ep->H b=none:=fun {b o es ep} e d=>by
   cases q:H b with
   |none=>rfl
   |some u=>
    have e':b=a:=hA b (by rw[q];simp)
    subst e';rw[ha] at e;cases e;have d':Data.seq vs.toArray _=Data.dict es ep:=d;cases d'
  have nsK:∀{b:Addr} {m:GL},s₁.heap.Ns b m->(kX s₁.heap H).Ns b m:=fun {b m} ⟨o,es,ep,e,d,r⟩=>⟨o,es,ep,base_of e (noA e d),d,r⟩
  have hKb:K.In (kX s₁.heap H):=fun b o e=>base_of (KX b o e) (by
   cases q:H b with
   |none=>rfl
   |some u=>
    have e':b=a:=hA b (by rw[q];simp)
    subst e';rw[hK (by rw[q];simp)] at e;cases e)
  have hM:Mod K mg (kX s₁.heap H):=⟨hKb,nsK hns,⟨mb,nsK hb,hbb⟩,let ⟨mc,h1,h2⟩:=hlim;⟨mc,nsK h1,h2⟩⟩;have e0:oE P w K mg (kX s₁.heap H) callerA [] s₁ H:=⟨rfl,hM,fun b o e=>uF e,Nat.le_of_eq (qN _ _),trivial,fun b hb=>absurd (show b∈([]:GP) from hb) (by simp),hok,.of_eq hg⟩
  refine codeAny_mono ((F _ hKb (nsK hns)).run callerA [] s₁ H ⟨[.ref a],[]⟩ [.ref a] [.ref a] _ _ hr e0 (hbind s₁ (.ref a)) (.cons rfl .nil) (hsp H hO hS)) fun r s' h=>?_
  cases r with
  |error e=>exact (hCX H e s' h).elim
  |ok fl=>
   cases fl with
   |next=>exact False.elim h
   |brk=>exact False.elim h
   |cont=>exact False.elim h
   |ret u=>
    obtain ⟨v,H',os,bare,un,hok',r',q⟩:=h;have q':v= .bl true:=q;subst q';obtain rfl:u=Value.bool true:=r';refine ⟨rfl,OldK.of_keep fun b o e=>?_,os,bare⟩
    cases q:H b with
    |none=>exact un.keep b o e q (by intro z;exact absurd (show b∈([]:GP) from z) (by simp)) (by simp)
    |some u=>
     rcases hO b with z|⟨ob,xs,z⟩
     ·rw[q] at z;cases z
     ·have z2:=un.frzs b ob _ z;obtain ⟨e1,_⟩:=hok b _ z;obtain ⟨e2,_⟩:=hok' b _ z2;rw[e] at e1;cases e1;exact e2
 cases hk:K.lookup a with
 |some o=>
  have e:=KX a o hk;rw[ha] at e;cases e;refine core (fun _=>none) (fun _=> .inl rfl) (.inr ⟨_,vs.toArray,_,hk,rfl,rfl,rfl,by rw[DK,lenV];exact hl,by simpa using rv⟩) (fun b u z=>by have z':(none:Option HO)=some u:=z;cases z') (fun b z=>absurd rfl z) fun z=>absurd rfl z
 |none=>
  refine core (fun b=>if b=a then some (.frz {cls:= .type "list",data:= .seq vs.toArray} (.lst (ns.map V.int))) else none) (fun b=>?_) (.inl (.inr ⟨{cls:= .type "list",data:= .seq vs.toArray},if_pos rfl⟩)) (fun b u z=>?_) (fun b z=>?_) fun _=>hk
  ·by_cases hb:b=a
   ·exact .inr ⟨_,_,if_pos hb⟩
   ·exact .inl (if_neg hb)
  ·by_cases hb:b=a
   ·have z':=(if_pos hb).symm.trans z;cases z';subst hb;exact ⟨ha,by rw[D4];exact hl,vs,_,rv,ha⟩
   ·have z':=(if_neg hb).symm.trans z;cases z'
  ·by_cases hb:b=a
   ·exact hb
   ·exact absurd (if_neg hb) z
theorem uX {l:PySem.W.OpenLaw} {n k:Nat} {q:Program} {loose:GO} {XP:GL->Heap->Prop} {YP:World->Heap->Prop} {d:DefRec} {K:Params->D3} {CX:World->oC} {sp:World->Sp} {x:Str}
  (hn:l.most=some n) (hn2:n<=sizeLine) (hdf:d.params.defaults= []) (hr:cx k callerA)
  (hY:∀(w:World) (h:Heap),YP w h->(K w.params).In h)
  (F:∀(w:World) (mg:GL) (fa:Addr) (h:Heap),(K w.params).In h->h.Ns mainGlobals mg->mg d.name=some (.ref fa)->
   ∃fd:FuncData,(∀(s:Shared) (u:Value),BindsTo s fd ⟨[u],[]⟩ [(x,u)])/\
    ∀base:Heap,(K w.params).In base->base.Ns mainGlobals mg->bh l.prog w (K w.params) mg base (CX w) k fa fd [x] (sp w))
  (hsp:∀(w:World) (H:Hp) (a:Addr) (ns:List Int),ns.length<=n->wX H->aE (K w.params) H a (ns.map V.int)->sp w [.ref a] H (fun v _=>v= .bl true) fun _ _ _=>False)
  (hCX:∀(w:World) (H:Hp) (s:Shared) (e:Value) (s':Shared),CX w [] H s (fun _ _ _=>False) e s'->False):
  PySem.W.WalkO q loose XP YP l.row.toRowW d [] (fun f vs=>PySem.call f vs):=by
 refine Att.mG hn hdf fun w s₀ s₁ mg mb fa o pm cd doc a vs ns G Y ho hd hcd hmg hobj hints hlen hg=>?_
 have KX:=hY w _ Y;obtain ⟨fd,hb,hF⟩:=F w mg fa _ KX G.T.g hmg;exact sy KX G.T.g G.T.b G.T.builtins G.T.nolimit hg hobj hints (DU hlen hn2) hr hF hb (fun H hO hS=>hsp w H a ns hlen hO hS) fun H e s'=>hCX w H s₁ e s'
def dS (s:Stmt):Arguments:=match s with
 | .FunctionDef _ a _ _ _ _ _ _ _ _=>a
 |_=>{posonlyargs:= [],args:= [],vararg:=none,kwonlyargs:= [],kw_defaults:= [],kwarg:=none,defaults:= []}
def dm (s:Stmt):List Stmt:=match s with
 | .FunctionDef _ _ b _ _ _ _ _ _ _=>b
 |_=> []
def aw (s:Stmt):Scope:=match s with
 | .FunctionDef _ _ _ _ _ _ sc _ _ _=>sc
 |_=>{kind:= .function,names:= [],isGenerator:=false,isCoroutine:=false}
abbrev bi:oC:=fun _ _ _ _ _ _=>False
abbrev E0:XK:=fun _ _ _=>False
theorem mH {X:Cx}:jb bi X E0:=fun _ _ _ _ _ _ _ h=>h.elim
theorem wf {A:Around} {k:Nat} (hr:cx k A):A.units+1<cLine:=Dt (Nat.add_le_add_left (by decide:1<=64) _) hr.units
variable {X:Cx}
theorem pv (i:Nat) {x:Str} {pos:Pos} (hN:X.N[i]?=some x:=by rfl) (hv:BH X.env.scope x:=by first|exact Or.inl rfl|exact Or.inr (Or.inl rfl)|exact Or.inr (Or.inr rfl)) (hd:(x==("__debug__" :Str))=false:=by decide)
  (hcd:(x==("__classdict__" :Str))=false:=by decide):PE X (.Name x pos) (mn i):=wN hN hv hd hcd
theorem cq {A B:Prop} (h:B):if false=true then A else B:=by
 rw[if_neg DL];exact h
theorem lq {A B:Prop} (h:A):if true=true then A else B:=by
 rw[if_pos rfl];exact h
def aH (H H':Hp):Prop:=∀b o,H b=some o->H' b=some o
theorem aH.refl (H:Hp):aH H H:=fun _ _ h=>h
theorem aH.trans {H H1 H2:Hp} (a:aH H H1) (b:aH H1 H2):aH H H2:=fun c o h=>b c o (a c o h)
theorem aH.free {H H':Hp} (e:aH H H') {l:Addr} (h:H' l=Option.none):H l=Option.none:=by
 cases q:H l with
 |none=>rfl
 |some o=>
  rw[e l o q] at h;cases h
theorem aH.seq {K:D3} {H H':Hp} {a:Addr} {xs:List V} (e:aH H H') (h:aE K H a xs):aE K H' a xs:=by
 rcases h with (h|⟨o,h⟩)|h
 ·exact .inl (.inl (e _ _ h))
 ·exact .inl (.inr ⟨o,e _ _ h⟩)
 ·exact .inr h
theorem dn:gA X (binaryOp .Mult) (rI (fun i j=>IntMulOk i j) fun i j=> .int (i*j)):=Bs fun _ _ _ _ _ _ _ hc q=>mul_int q hc
theorem bR:gA X (binaryOp .FloorDiv) (rI (fun i j=>j≠0/\Builtin.divisionGoesByPylong i j=false) fun i j=> .int (i.fdiv j)):=Bs fun _ _ _ _ _ _ _ hc q=>floordiv_int hc.1 q (.inl hc.2)
theorem uY:gA X (binaryOp .Pow) (rI (fun i j=>0<=j/\(Builtin.Int.intBits i:Int)*j<=2^27) fun i j=> .int (i^j.toNat)):=Bs fun _ _ _ _ _ _ _ hc q=>pow_int hc.1 hc.2 q
theorem mI:dH X (.builtin "isinstance") (fun xs H Q=>∃i,xs= [.int i,.ty "int"]/\Q (.bl true) H):=by
 intro pins s σ H xs us Q I r h;obtain ⟨i,rfl,q⟩:=h;obtain ⟨u,w',rfl,⟨t,rfl⟩,e2⟩:=vals2 r;cases e2;exact PySem.call_isinstance (PySem.isinstance_true (Tx:= "int") PySem.F.isi_meta_int PySem.F.isi_self_int) ⟨rfl,⟨.bl true,H,I,rfl,q⟩⟩
theorem lr:dH X (.builtin "isinstance") (fun xs H Q=>∃i,xs= [.int i,.ty "bool"]/\Q (.bl false) H):=by
 intro pins s σ H xs us Q I r h;obtain ⟨i,rfl,q⟩:=h;obtain ⟨u,w',rfl,⟨t,rfl⟩,e2⟩:=vals2 r;cases e2;exact PySem.call_isinstance (PySem.isinstance_false_int (T:= "bool") (by decide) PySem.F.isi_meta_bool PySem.F.sub_int_bool) ⟨.bl false,H,I.tok _,rfl,q⟩
theorem mJ:dH X (.builtin "isinstance") (fun xs H Q=>∃i,xs= [.bl i,.ty "bool"]/\Q (.bl true) H):=by
 intro pins s σ H xs us Q I r h;obtain ⟨i,rfl,q⟩:=h;obtain ⟨u,w',rfl,e1,e2⟩:=vals2 r;cases e1;cases e2;exact PySem.call_isinstance (PySem.isinstance_true (Tx:= "bool") PySem.F.isi_meta_bool PySem.F.isi_self_bool) ⟨rfl,⟨.bl true,H,I,rfl,q⟩⟩
theorem mK:dH X (.builtin "isinstance") (fun xs H Q=>∃a ys,xs= [.ref a,.ty "tuple"]/\bX X.K H a ys/\Q (.bl true) H):=by
 intro pins s σ H xs us Q I r h;obtain ⟨a,ys,rfl,hs,q⟩:=h;obtain ⟨u,w',rfl,e1,e2⟩:=vals2 r;cases e1;cases e2;obtain ⟨its,_,p1,_⟩:=I.tuple hs;exact PySem.call_isinstance (PySem.isinstance_true (Tx:= "tuple") PySem.F.isi_meta_tuple PySem.F.isi_self_tuple) ⟨p1.typeIs,⟨.bl true,H,I,rfl,q⟩⟩
end L2
namespace Sw
open PySem
def Bd (n:Nat) (x:Int):Prop:=x.natAbs<2^n
theorem Bd.mono {m n:Nat} {x:Int} (h:Bd m x) (e:m<=n):Bd n x:=DT h (Nat.pow_le_pow_right (by decide) e)
theorem Bd.of_le {n:Nat} {x y:Int} (h:Bd n y) (e:x.natAbs<=y.natAbs):Bd n x:=Dt e h
theorem Bd.mul {m n:Nat} {x y:Int} (h:Bd m x) (g:Bd n y):Bd (m+n) (x*y):=by
 unfold Bd at*;rw[Int.natAbs_mul,Nat.pow_add];exact Nat.mul_lt_mul_of_lt_of_le h (Nat.le_of_lt g) (Dt (E1 _) g)
theorem Bd.add {k:Nat} {x y:Int} (h:Bd k x) (g:Bd k y):Bd (k+1) (x+y):=by
 unfold Bd at*;rw[Nat.pow_succ];generalize 2^k=p at h g⊢;omega
theorem Bd.ok {m n:Nat} {x y:Int} (h:Bd m x) (g:Bd n y) (e:m+n<=134217728:=by decide):IntMulOk x y:=
 IntMulOk.of_le (intBits_le_iff.mpr h) (intBits_le_iff.mpr g) e
theorem Bd.div {n:Nat} {x y:Int} (h:Bd n y) (y0:y≠0) (e:n<=9000:=by decide):Builtin.divisionGoesByPylong x y=false:=by
 refine PyProof.noPylong_of_log2 ((Nat.log2_lt (by omega)).mpr ?_)
 exact DT h (Nat.pow_le_pow_right (by decide) e)
def bB (a b:Int):Int:=((Int.gcd a b:Nat):Int)
theorem ly (a b:Int):0<=bB a b:=Int.natCast_nonneg _
theorem oI (a b:Int):bB (-a) b=bB a b:=by unfold bB;rw[Int.neg_gcd]
theorem oJ (a b:Int):bB a (-b)=bB a b:=by unfold bB;rw[Int.gcd_neg]
theorem j6 {g l:Int} (hl:0<l):bB l (g.fmod l)=bB g l:=by
 unfold bB;have e:g.fmod l=g-(g.fdiv l)*l:=by rw[Int.fmod_def,Int.mul_comm]
 rw[e,Int.gcd_comm l,Int.gcd_sub_mul_right_left]
def sA (i:Int):Int:=if i<0 then-i else i
theorem pU (i:Int):0<=sA i:=by unfold sA;split<;>omega
theorem sB (a b:Int):bB (sA a) (sA b)=bB a b:=by
 unfold sA
 split<;>split<;>simp only[oI,oJ]
theorem j7 {g:Int} (h:0<=g):bB g 0=g:=by
 unfold bB;rw[Int.gcd_zero_right];omega
theorem fe {a b:Int} (h:bB a b=0):a=0/\b=0:=by
 unfold bB at h;exact Int.gcd_eq_zero_iff.mp (by omega)
theorem dZ (a b:Int):bB a b∣a:=Int.gcd_dvd_left ..
theorem d0 (a b:Int):bB a b∣b:=Int.gcd_dvd_right ..
theorem sC {a b:Int} (h:bB a b≠0):bB (a.fdiv (bB a b)) (b.fdiv (bB a b))=1:=by
 have p:0<bB a b:=by have:=ly a b;omega
 rw[E8 a (Int.le_of_lt p),E8 b (Int.le_of_lt p)];obtain ⟨x,hx⟩:=dZ a b;obtain ⟨y,hy⟩:=d0 a b;have e1:a/bB a b=x:=by
  conv=>lhs;arg 1;rw[hx]
  exact Ed x h
 have e2:b/bB a b=y:=by
  conv=>lhs;arg 1;rw[hy]
  exact Ed y h
 rw[e1,e2];have m:bB (bB a b*x) (bB a b*y)=bB a b*bB x y:=by
  show ((Int.gcd _ _:Nat):Int)=_*((Int.gcd x y:Nat):Int);rw[Int.gcd_mul_left,E9]
  congr 1
 rw[<-hx,<-hy] at m;have:=Int.eq_one_of_mul_eq_self_right h m.symm;exact this
structure Fr (p q a b:Int):Prop where
 pos:0<q
 low:bB p q=1
 same:p*b=a*q
 bt:p.natAbs<=a.natAbs
 bb:q.natAbs<=b.natAbs
structure Bu (p q:Int):Prop where
 pos:0<q
 low:bB p q=1
theorem Fr.to {p q a b:Int} (h:Fr p q a b):Bu p q:=⟨h.pos,h.low⟩
theorem iK {p q k:Int} (h:bB p q=1) (d:q∣p*k):q∣k:=by
 have c:Int.gcd q p=1:=by unfold bB at h;rw[Int.gcd_comm];omega
 have d':q.natAbs∣p.natAbs*k.natAbs:=by rw[<-Int.natAbs_mul];exact Int.natAbs_dvd_natAbs.mpr d
 exact Int.natAbs_dvd_natAbs.mp (Nat.Coprime.dvd_of_dvd_mul_left (show Nat.Coprime q.natAbs p.natAbs from c) d')
theorem oK {p q p' q':Int} (h:Bu p q) (h':Bu p' q') (e:p*q'=p'*q):p=p'/\q=q':=by
 have d1:q∣q':=iK h.low (by rw[e];exact Int.dvd_mul_left ..)
 have d2:q'∣q:=iK h'.low (by rw[<-e];exact Int.dvd_mul_left ..)
 have eq:q=q':=by
  have n1:=Int.le_of_dvd h'.pos d1;have n2:=Int.le_of_dvd h.pos d2;omega
 subst eq;exact ⟨Int.eq_of_mul_eq_mul_right (by have:=h.pos;omega) e,rfl⟩
def j8 (a b:Int):Int:=if b<0 then-bB a b else bB a b
theorem sD {a b:Int} (h:b≠0):j8 a b≠0:=by
 have g:bB a b≠0:=fun z=>h (fe z).2
 unfold j8;split<;>omega
theorem zP {a b:Int} (h:b≠0):Fr (a.fdiv (j8 a b)) (b.fdiv (j8 a b)) a b:=by
 have g:bB a b≠0:=fun z=>h (fe z).2
 have p:0<bB a b:=by have:=ly a b;omega
 have c0:=sD (a:=a) h;have da:j8 a b∣a:=by
  unfold j8;split
  ·exact Int.neg_dvd.mpr (dZ a b)
  ·exact dZ a b
 have db:j8 a b∣b:=by
  unfold j8;split
  ·exact Int.neg_dvd.mpr (d0 a b)
  ·exact d0 a b
 obtain ⟨x,hx⟩:=da;obtain ⟨y,hy⟩:=db;have ex:a.fdiv (j8 a b)=x:=by
  conv=>lhs;arg 1;rw[hx]
  exact Int.mul_fdiv_cancel_left x c0
 have ey:b.fdiv (j8 a b)=y:=by
  conv=>lhs;arg 1;rw[hy]
  exact Int.mul_fdiv_cancel_left y c0
 rw[ex,ey];have yp:0<y:=by
  have e:=hy;unfold j8 at e;rcases (by omega:y<0∨y=0∨0<y) with q|q|q
  ·exfalso
   split at e
   ·rename_i hb;have:=Int.mul_neg_of_pos_of_neg p q;rw[Int.neg_mul] at e;omega
   ·have:=Int.mul_neg_of_pos_of_neg p q;omega
  ·rw[q] at hy;omega
  ·exact q
 have lowx:bB x y=1:=by
  have m:bB (j8 a b*x) (j8 a b*y)=bB a b*bB x y:=by
   show ((Int.gcd _ _:Nat):Int)=_*((Int.gcd x y:Nat):Int);rw[Int.gcd_mul_left,E9]
   congr 1
   unfold j8;split<;>omega
  rw[<-hx,<-hy] at m;exact Int.eq_one_of_mul_eq_self_right g m.symm
 refine ⟨yp,lowx,?_,?_,?_⟩
 ·conv=>lhs;rw[hy]
  conv=>rhs;rw[hx]
  rw[<-Int.mul_assoc,Int.mul_comm x]
 ·have:a.natAbs=(j8 a b).natAbs*x.natAbs:=by conv=>lhs;rw[hx];rw[Int.natAbs_mul]
  rw[this];exact Nat.le_mul_of_pos_left _ (by omega)
 ·have:b.natAbs=(j8 a b).natAbs*y.natAbs:=by conv=>lhs;rw[hy];rw[Int.natAbs_mul]
  rw[this];exact Nat.le_mul_of_pos_left _ (by omega)
end Sw
namespace L2
open PySem
inductive zQ (K:D3) (H:Hp):V->String->Bool->Prop where
 |ii (i:Int):zQ K H (.int i) "int" true
 |ib (i:Int):zQ K H (.int i) "bool" false
 |bb (b:Bool):zQ K H (.bl b) "bool" true
 |tt (a:Addr) (ys:List V) (h:bX K H a ys):zQ K H (.ref a) "tuple" true
theorem gO {X:Cx}:dH X (.builtin "isinstance") (fun xs H Q=>∃x T b,xs= [x,.ty T]/\zQ X.K H x T b/\Q (.bl b) H):=by
 intro pins s σ H xs us Q I r h;obtain ⟨x,T,b,rfl,i,q⟩:=h;cases i with
 |ii i=>exact mI pins s σ H _ us Q I r ⟨i,rfl,q⟩
 |ib i=>exact lr pins s σ H _ us Q I r ⟨i,rfl,q⟩
 |bb i=>exact mJ pins s σ H _ us Q I r ⟨i,rfl,q⟩
 |tt a ys h=>exact mK pins s σ H _ us Q I r ⟨a,ys,rfl,h,q⟩
end L2
namespace Sw
open PySem L2
theorem dT {p A B:Prop} [Decidable p] (h:p) (a:A):if decide p=true then A else B:=by rw[if_pos (decide_eq_true h)];exact a
theorem dF {p A B:Prop} [Decidable p] (h:¬p) (b:B):if decide p=true then A else B:=by rw[if_neg (by simp[h])];exact b
theorem d2 {p A B:Prop} [Decidable p] (h1:p->A) (h2:¬p->B):if decide p=true then A else B:=by
 by_cases h:p
 ·exact dT h (h1 h)
 ·exact dF h (h2 h)
theorem nT {p A B:Prop} [Decidable p] (h:¬p) (a:A):if (!decide p)=true then A else B:=by rw[if_pos (by simp[h])];exact a
theorem nF {p A B:Prop} [Decidable p] (h:p) (b:B):if (!decide p)=true then A else B:=by rw[if_neg (by simp[h])];exact b
theorem vi {a b:Int} (h:a=b):V.int a=V.int b:=by rw[h]
theorem vj {a b:Int} (h:V.int a=V.int b):a=b:=by cases h;rfl
theorem j9 {a b:Int} {A B:Prop} (h1:a=b->A) (h2:a≠b->B):if decide (V.int a=V.int b)=true then A else B:=d2 (fun h=>h1 (vj h)) fun h=>h2 fun e=>h (vi e)
theorem CZ {a b:Int} {A B:Prop} (h1:a≠b->A) (h2:a=b->B):if (!decide (V.int a=V.int b))=true then A else B:=by
 by_cases h:a=b
 ·exact nF (vi h) (h2 h)
 ·exact nT (fun e=>h (vj e)) (h1 h)
theorem C0 {a b:Int} {A B:Prop} (h:a≠b) (x:B):if decide (V.int a=V.int b)=true then A else B:=dF (fun e=>h (vj e)) x
def wg:Sp:=fun vs H Q _=>∃a b:Int,vs= [.int a,.int b]/\Q (.int (bB a b)) H
def sE (K:D3):Sp:=fun vs H Q _=>∃(a:Addr) (ns:List Int) (k:Int),vs= [.ref a,.int k]/\aE K H a (ns.map V.int)/\0<=k/\∀v:Int,Q (.int v) H
def gP:Sp:=fun vs H Q _=>∃v:Int,vs= [.int v]/\Q (.bl true) H
def pV (K:D3):Sp:=fun vs H Q _=>∃(a:Addr) (ns:List Int),vs= [.ref a]/\aE K H a (ns.map V.int)/\ns.length<=63/\∀H',Q (.bl true) H'
theorem pW {ns:List Int} {k:Int} (h0:0<=k) (h:k<(((ns.map V.int).length:Nat):Int)):∃v:Int,ir (ns.map V.int) k=some (.int v):=by
 rw[D4] at h;have hk:k.toNat<ns.length:=by omega
 have ek:k=((k.toNat:Nat):Int):=by omega
 have q:ir (ns.map V.int) ((k.toNat:Nat):Int)=some (.int ns[k.toNat]):=aD (by rw[DA,D1 hk]<;>rfl)
 rw[<-ek] at q;exact ⟨_,q⟩
theorem cut {t u:TS} {D:Ends} {σ:L2.St} {H:Hp} (I:L2.St->Hp->Prop) (h1:∀N:L2.St->Hp->Prop,(∀σ H,I σ H->N σ H)->t {D with nx:=N} σ H) (h2:∀σ H,I σ H->u D σ H):mq t u D σ H:=h1 _ h2
theorem aq {H:Hp} {p:Addr} (h:H p=none) (o:HO):aH H (aO H p o):=fun b u q=>by rw[aB (aQ q h)];exact q
theorem wY {n:Nat} {a b:Int} (b0:b≠0) (h:Bd n b):Bd n (j8 a b):=by
 have d:bB a b∣b:=d0 a b;have k:=Nat.le_of_dvd (by omega) (Int.natAbs_dvd_natAbs.mpr d)
 refine h.of_le ?_;unfold j8
 split<;>omega
def Pair (H:Hp) (Q:VK) (p q:Int):Prop:=∀(t:Addr) (H':Hp),aH H H'->H' t=some (.tup [.int p,.int q])->Q (.ref t) H'
def uZ:Sp:=fun vs H Q _=>∃a b:Int,vs= [.int a,.int b]/\b≠0/\Bd 8500 b/\∀p q:Int,Fr p q a b->Pair H Q p q
structure iU (K:D3) (n:Nat) (H:Hp) (t:Addr) (p q:Int):Prop where
 at_:bX K H t [.int p,.int q]
 pos:0<q
 bp:Bd n p
 bq:Bd n q
theorem iU.mono {K:D3} {m n:Nat} {H:Hp} {t:Addr} {p q:Int} (h:iU K m H t p q) (e:m<=n):iU K n H t p q:=⟨h.at_,h.pos,h.bp.mono e,h.bq.mono e⟩
theorem iU.of {K:D3} {n:Nat} {H:Hp} {t:Addr} {p q a b:Int} (f:Fr p q a b) (ha:Bd n a) (hb:Bd n b) (e:H t=some (.tup [.int p,.int q])):iU K n H t p q:=⟨bX.of e,f.pos,ha.of_le f.bt,hb.of_le f.bb⟩
def sF (K:D3):Sp:=fun vs H Q _=>∃(t:Addr) (p q:Int),vs= [.ref t]/\iU K 8000 H t p q/\Q (.int (p.fdiv q)) H
structure bv (K:D3) (x qual:Str) (st:Stmt) (dV:Value) (f:Addr) (fd:FuncData):Prop where
 ex:∃(oc:Value) (od:GR) (kV doc pm:Value) (an:GR) (cdv ct:Value) (osl:GN),
  fd=E3 x qual (dS st) (dm st) (aw st) dV kV doc pm an cdv ct/\K.lookup f=some ⟨oc,od,.func fd,osl⟩/\PySem.W.codeIn K cdv qual=true
 kp:E4 K (.ref f)=true
section
variable {P:Program} {w:World} {K:D3} {mg:GL} {base:Heap}
theorem bv.ok {x qual:Str} {st:Stmt} {dV:Value} {f:Addr} {fd:FuncData} {N ps:GO} {k:Nat} {sp:Sp} (F:bv K x qual st dV f fd) (S:aC N ps (aw st)) (len:∀vs H Q E,sp vs H Q E->vs.length=ps.length)
  (hbody:∀(cdv:Value) (A:Around) (outer:List Env) (s:Shared) (H:Hp) (vs:List V) (Q:VK) (E:XK),cx k (A.deeper (PyProof.Rows.envOfC qual (aw st) s.heap.objs.size f cdv))->sp vs H Q E->
   ∃t,i8 (iS bi P w K mg base N qual (aw st) f cdv A outer s H E).nox (dm st) t/\t {nx:=fun _ H'=>Q .non H',rt:=Q} (start N vs) H):bh P w K mg base bi (k+1) f fd ps sp:=by
 obtain ⟨oc,od,kV,doc,pm,an,cdv,ct,osl,rfl,lk,hcd⟩:=F.ex;refine we lk hcd S len fun A outer s H vs Q E hr hsp=>?_
 obtain ⟨t,h,q⟩:=hbody cdv A outer s H vs Q E hr hsp;exact ⟨t,h.nox,q⟩
theorem bv.binds {x qual:Str} {st:Stmt} {T:Addr} {f:Addr} {fd:FuncData} {ps:GO} {o:Obj} {items:Array Value} {n:Nat} {ds:GQ} (F:bv K x qual st (.ref T) f fd) (ho:K.lookup T=some o) (hs:o.data= .seq items n)
  (h:∀(kV doc pm:Value) (an:GR) (cdv ct:Value) (us:GQ),(us++ds).length=ps.length->∃k:Option (Array Value)->Sem (List (Str×Value)),bindArgs (E3 x qual (dS st) (dm st) (aw st) (.ref T) kV doc pm an cdv ct) ⟨us,[]⟩=seqItems? (.ref T)>>=k/\k (some items)=pure (ps.zip (us++ds))):Binds K fd ps ds:=by
 obtain ⟨oc,od,kV,doc,pm,an,cdv,ct,osl,rfl,lk,hcd⟩:=F.ex;intro s us KX hl;obtain ⟨k,h1,h2⟩:=h kV doc pm an cdv ct us hl;exact PySem.W.binds_K KX rfl ho hs h1 h2
theorem bv.binds0 {x qual:Str} {st:Stmt} {dV:Value} {f:Addr} {fd:FuncData} {ps:GO} (F:bv K x qual st dV f fd)
  (h:∀(kV doc pm:Value) (an:GR) (cdv ct:Value) (us:GQ),us.length=ps.length->bindArgs (E3 x qual (dS st) (dm st) (aw st) dV kV doc pm an cdv ct) ⟨us,[]⟩=pure (ps.zip us)):Binds K fd ps []:=by
 obtain ⟨oc,od,kV,doc,pm,an,cdv,ct,osl,rfl,lk,hcd⟩:=F.ex;exact .all (h kV doc pm an cdv ct)
theorem gQ {x qual:Str} {st:Stmt} {f:Addr} {oc dV:Value} {od an:GR} {osl:GN} {kV doc pm cdv ct:Value} (l:K.lookup f=some ⟨oc,od,.func (E3 x qual (dS st) (dm st) (aw st) dV kV doc pm an cdv ct),osl⟩)
  (c:PySem.W.codeIn K cdv qual=true) (k:E4 K (.ref f)=true):bv K x qual st dV f (E3 x qual (dS st) (dm st) (aw st) dV kV doc pm an cdv ct):=⟨⟨oc,od,kV,doc,pm,an,cdv,ct,osl,rfl,l,c⟩,k⟩
end
def sG (K:D3):Sp:=fun vs H Q _=>∃(t t':Addr) (p q p' q':Int),vs= [.ref t,.ref t']/\iU K 4000 H t p q/\iU K 4000 H t' p' q'/\∀r s:Int,Fr r s (p*q'+p'*q) (q*q')->Pair H Q r s
theorem wZ {x y k:Int} (h:x*k=y*k) (k0:k≠0):x=y:=Int.eq_of_mul_eq_mul_right k0 h
theorem sH {x y:Int} (h:0<x) (g:0<y):x*y≠0:=by have:=Int.mul_pos h g;omega
theorem sI {p q p' q' a b c d r s:Int} (h1:p*b=a*q) (h2:p'*d=c*q') (q0:0<q) (q1:0<q') (h:r*(q*q')=(p*q'+p'*q)*s):r*(b*d)=(a*d+c*b)*s:=by
 refine wZ (k:=q*q') ?_ (sH q0 q1)
 grind
end Sw
namespace XH
open PySem
structure Mv (fs ch:GP) (h h':Heap):Prop where
 keep:∀b o,b∉fs->b∉ch->h.get? b=some o->h'.get? b=some o
 slot:∀b o,b∈fs->b∉ch->h.get? b=some o->∃sl,h'.get? b=some {o with slots:=sl}
 there:∀b o,h.get? b=some o->∃o',h'.get? b=some o'
theorem Mv.refl (fs ch:GP) (h:Heap):Mv fs ch h h:=⟨fun _ _ _ _ q=>q,fun _ o _ _ q=>⟨o.slots,q⟩,fun _ o q=>⟨o,q⟩⟩
theorem Mv.trans {fs c1 c2 ch:GP} {h h1 h2:Heap} (x:Mv fs c1 h h1) (y:Mv fs c2 h1 h2) (k1:∀b,b∈c1->b∈ch) (k2:∀b,b∈c2->b∈ch):Mv fs ch h h2 where
 keep:=fun b o hf hc q=>y.keep b o hf (fun z=>hc (k2 b z)) (x.keep b o hf (fun z=>hc (k1 b z)) q)
 slot:=fun b o hf hc q=>by
  obtain ⟨sl,q1⟩:=x.slot b o hf (fun z=>hc (k1 b z)) q
  obtain ⟨sl2,q2⟩:=y.slot b _ hf (fun z=>hc (k2 b z)) q1
  exact ⟨sl2,q2⟩
 there:=fun b o q=>by
  obtain ⟨o1,q1⟩:=x.there b o q;exact y.there b o1 q1
inductive wj where
 |new
 |fl (v:Value)
def wj.Is (F:Addr->Prop) (h:Heap) (e:Addr) (vs:Array Value):wj->Prop
 | .new=>vs[1]?=some .none
 | .fl v=>∃T oT ts,vs[1]?=some (.ref T)/\F T/\T≠e/\h.get? T=some oT/\oT.data= .fields ts/\ts[3]?=some v
def Fz (vs:Array Value):Prop:=1<vs.size/\vs[2]?=some .none
theorem Fz.set {vs:Array Value} (h:Fz vs) (v:Value):Fz (vs.setIfInBounds 1 v):=⟨by simpa using h.1,by rw[Array.getElem?_setIfInBounds];simp[h.2]⟩
structure XO (F:Addr->Prop) (h:Heap) (e:Addr) (cls:Value) (dx:GR) (st:wj):Prop where
 ex:∃oe vs,h.get? e=some oe/\oe.cls=cls/\oe.dict=dx/\oe.data= .fields vs/\Fz vs/\st.Is F h e vs
 fr:F e
theorem XO.mono {F G:Addr->Prop} {h:Heap} {e:Addr} {cls:Value} {dx:GR} {st:wj} (x:XO F h e cls dx st) (k:∀b,F b->G b):XO G h e cls dx st:=by
 obtain ⟨⟨oe,vs,a,b,c,d,f,g⟩,fr⟩:=x;refine ⟨⟨oe,vs,a,b,c,d,f,?_⟩,k _ fr⟩;cases st with
 |new=>exact g
 |fl v=>
  obtain ⟨T,oT,ts,g1,g2,g3⟩:=g;exact ⟨T,oT,ts,g1,k _ g2,g3⟩
theorem kc (o:Obj) (f:Array Value->Array Value):(o.mapFields f).dict=o.dict:=by
 obtain ⟨c,d,dt,sl⟩:=o;cases dt<;>rfl
section
variable {M:Model} {A:Around} {E:GK} {s:Shared}
theorem mM {base:Heap} {env:Env} {outer:List Env} {L e:Addr} {oe:Obj} {vs:Array Value} {head:Value} {had:Bool} {Q:Unit->Shared->Prop}
  (hfr:A.frames=some (env::outer)) (hl:s.heap.FunFrames base (env::outer)) (hf:env.frame=some L) (he:s.heap.get? e=some oe) (hd:oe.data= .fields vs) (hsz:1<vs.size)
  (h:∀h' T,Mv ((env::outer).filterMap (·.frame)) [e] s.heap h'->s.heap.get? T=none->T≠e->h'.get? e=some (oe.mapFields (·.setIfInBounds 1 (.ref T)))->
   (∃oT ts,h'.get? T=some oT/\oT.data= .fields ts/\ts[3]?=some (rawInt L))->Q () {s with heap:=h'}):
  wpAny M A (do let a<-frameOf env;let pl<-entryPlaceOf L had;let b<-EntryCells.newEntry head a .none (rawInt L) .none pl;setField (.ref e) 1 b) Q E s:=by
 have hne:e∉(env::outer).filterMap (·.frame):=by
  intro hm;obtain ⟨_,o,ho,hnf⟩:=hl.mem hm;rw[he] at ho;cases ho;exact hnf vs hd
 apply wpAny_bind;apply wpAny_frameOf_fun hfr hl hf;intro h1 hs;apply wpAny_bind;apply wpAny_entryPlaceOf;intro pl hpl;unfold EntryCells.newEntry newFields;apply wpAny_bind;refine wpAny_newObj_type ?_ (hpl.sizeOk5 ..);have e1:h1.get? e=some oe:=(hs.2.1 e hne).trans he;generalize hob:({cls:= .type "traceback",dict:=none,data:= .fields ([head,.ref L,.none,rawInt L,.none]++(if pl.isEmpty then List.replicate 6 Value.none else pl)).toArray}:Obj)=ob
 have e2:=Heap.get?_push_of_some (h:=h1) ob e1;refine wpAny_setField e2 hd hsz ?_;have hTe:h1.objs.size≠e:=EG (Heap.lt_size e1);have d3:=Obj.data_mapFields hd (·.setIfInBounds 1 (Value.ref h1.objs.size));have e3:=Heap.get?_update_self (Obj.mapFields (·.setIfInBounds 1 (Value.ref h1.objs.size))) e2 (Obj.isFreed_of_fields d3);have kp:∀b o,b≠e->h1.get? b=some o->((h1.push ob).update e (Obj.mapFields (·.setIfInBounds 1 (Value.ref h1.objs.size)))).get? b=some o:=by
  intro b o hb q;rw[Heap.get?_update_other _ _ (Ne.symm hb)];exact Heap.get?_push_of_some _ q
 have t3:((h1.push ob).update e (Obj.mapFields (·.setIfInBounds 1 (Value.ref h1.objs.size)))).get? h1.objs.size=some ob:=by
  rw[Heap.get?_update_other _ _ (Ne.symm hTe)];exact Heap.get?_push_size h1 (by rw[<-hob];rfl)
 refine h _ h1.objs.size ⟨?_,?_,?_⟩ ?_ hTe e3 ?_
 ·intro b o hb hc q;exact kp b o (fun z=>hc (by rw[z];exact D8.mpr rfl)) ((hs.2.1 b hb).trans q)
 ·intro b o hb hc q;obtain ⟨sl,q1⟩:=hs.2.2 b o q;exact ⟨sl,kp b _ (fun z=>hc (by rw[z];exact D8.mpr rfl)) q1⟩
 ·intro b o q
  by_cases hb:b=e
  ·subst hb;exact ⟨_,e3⟩
  ·obtain ⟨sl,q1⟩:=hs.2.2 b o q;exact ⟨_,kp b _ hb q1⟩
 ·exact Heap.get?_none_of_le (by rw[hs.1];exact D9 _)
 ·subst hob;refine ⟨_,_,t3,rfl,?_⟩;rcases hpl with rfl|⟨_,_,_,_,_,_,_,rfl⟩<;>simp
theorem qW {F:Addr->Prop} {e:Addr} {cls v:Value} {dx fl:GR} {Q:Unit->Shared->Prop} (x:XO F s.heap e cls dx (.fl v))
  (h:∀h' T,F T->Mv [] [T] s.heap h'->XO F h' e cls dx (.fl (fl.elim .none fun f=>rawInt f))->Q () {s with heap:=h'}):wpAny M A (setFlight (.ref e) fl) Q E s:=by
 obtain ⟨⟨oe,vs,he,hc,hdx,hd,hsz,T,oT,ts,h1,hF,hTe,hT,hdT,h3⟩,fr⟩:=x;have z3:3<ts.size:=(EU.mp h3).1;have oth:∀b,b≠T->(s.heap.update T (Obj.mapFields (·.setIfInBounds 3 (fl.elim Value.none fun f=>rawInt f)))).get? b=s.heap.get? b:=fun b hb=>Heap.get?_update_other _ _ (Ne.symm hb)
 have t4:=Heap.get?_update_self (Obj.mapFields (·.setIfInBounds 3 (fl.elim Value.none fun f=>rawInt f))) hT (Obj.isFreed_of_fields (Obj.data_mapFields hdT _))
 unfold setFlight;apply wpAny_bind;apply wpAny_field he hd h1;rw[if_pos (by simp)]
 apply wpAny_setField hT hdT z3;refine h _ T hF ⟨?_,fun b o hb=>absurd hb (by simp),?_⟩ ⟨⟨oe,vs,(oth e (Ne.symm hTe)).trans he,hc,hdx,hd,hsz,T,_,_,h1,hF,hTe,t4,Obj.data_mapFields hdT _,by simp[z3]⟩,fr⟩
 ·intro b o _ hb q;exact (oth b (fun z=>hb (by rw[z];exact D8.mpr rfl))).trans q
 ·intro b o q
  by_cases hb:b=T
  ·subst hb;exact ⟨_,t4⟩
  ·exact ⟨o,(oth b hb).trans q⟩
theorem u0 {F:Addr->Prop} {base:Heap} {env:Env} {outer:List Env} {L e:Addr} {cls:Value} {dx:GR} {st:wj} {Q:Unit->Shared->Prop}
  (hfr:A.frames=some (env::outer)) (hl:s.heap.FunFrames base (env::outer)) (hf:env.frame=some L) (x:XO F s.heap e cls dx st)
  (h:∀h' ch,(∀b∈ch,F b)->Mv ((env::outer).filterMap (·.frame)) ch s.heap h'->XO (fun b=>F b∨s.heap.get? b=none) h' e cls dx (.fl (rawInt L))->Q () {s with heap:=h'}):wpAny M A (noteFrame (.ref e) env) Q E s:=by
 obtain ⟨⟨oe,vs,he,hc,hdx,hd,hsz,hst⟩,fr⟩:=x;unfold noteFrame;simp only[hf];cases st with
 |new=>
  apply wpAny_bind;apply wpAny_field he hd hst;rw[if_neg (by decide)]
  refine mM hfr hl hf he hd hsz.1 fun h' T mv tn tne he' ⟨oT,ts,hT,hdT,h3⟩=>?_
  refine h h' [e] (fun b hb=>by rw[D8.mp hb];exact fr) mv ⟨⟨_,_,he',?_,?_,Obj.data_mapFields hd _,hsz.set _,T,oT,ts,by simp[hsz.1],.inr tn,tne,hT,hdT,h3⟩,.inl fr⟩
  ·rw[Obj.cls_mapFields];exact hc
  ·rw[kc];exact hdx
 |fl v=>
  obtain ⟨T,oT,ts,h1,hF,hTe,hT,hdT,h3⟩:=hst;have z3:3<ts.size:=(EU.mp h3).1;apply wpAny_bind;apply wpAny_field he hd h1;rw[if_pos (by simp)]
  apply wpAny_bind;apply wpAny_field hT hdT h3
  by_cases hv:(v==rawInt L)=true
  ·rw[if_pos hv];have ev:v=rawInt L:=beq_iff_eq.mp hv;subst ev;refine wpAny_pure (h s.heap [] (fun b hb=>absurd hb (by simp)) (.refl ..) ⟨⟨oe,vs,he,hc,hdx,hd,hsz,T,oT,ts,h1,.inl hF,hTe,hT,hdT,h3⟩,.inl fr⟩)
  ·rw[if_neg hv];apply wpAny_bind;apply wpAny_setField hT hdT z3;have oth:∀b,b≠T->(s.heap.update T (Obj.mapFields (·.setIfInBounds 3 Value.none))).get? b=s.heap.get? b:=fun b hb=>Heap.get?_update_other _ _ (Ne.symm hb)
   have t4:=Heap.get?_update_self (Obj.mapFields (·.setIfInBounds 3 Value.none)) hT (Obj.isFreed_of_fields (Obj.data_mapFields hdT _));have nrec:∀b o,s.heap.get? b=some o->(∀vs,o.data≠ .fields vs)->b≠T:=by
    intro b o hb hn z;rw[z,hT] at hb;cases hb;exact hn ts hdT
   have mv1:Mv ((env::outer).filterMap (·.frame)) [T] s.heap (s.heap.update T (Obj.mapFields (·.setIfInBounds 3 Value.none))):=by
    refine ⟨fun b o _ hb q=>(oth b (fun z=>hb (by rw[z];exact D8.mpr rfl))).trans q,fun b o _ hb q=>⟨o.slots,(oth b (fun z=>hb (by rw[z];exact D8.mpr rfl))).trans q⟩,fun b o q=>?_⟩
    by_cases hb:b=T
    ·subst hb;exact ⟨_,t4⟩
    ·exact ⟨o,(oth b hb).trans q⟩
   refine mM (s:={s with heap:=s.heap.update T (Obj.mapFields (·.setIfInBounds 3 Value.none))}) hfr (hl.of_keeps fun b o hb hn=>⟨o,(oth b (nrec b o hb hn)).trans hb,rfl⟩) hf ((oth e (Ne.symm hTe)).trans he) hd hsz.1 fun h' T2 mv tn tne he' ⟨oT2,ts2,hT2,hdT2,h32⟩=>?_
   refine h h' [T,e] ?_ (mv1.trans mv (fun b hb=>by simp at hb;simp[hb]) (fun b hb=>by simp at hb;simp[hb])) ⟨⟨_,_,he',?_,?_,Obj.data_mapFields hd _,hsz.set _,T2,oT2,ts2,by simp[hsz.1],.inr ?_,tne,hT2,hdT2,h32⟩,.inl fr⟩
   ·intro b hb;simp at hb;rcases hb with rfl|rfl
    ·exact hF
    ·exact fr
   ·rw[Obj.cls_mapFields];exact hc
   ·rw[kc];exact hdx
   ·cases q:s.heap.get? T2 with
    |none=>rfl
    |some o=>
     obtain ⟨o',q'⟩:=mv1.there T2 o q;rw[q'] at tn;cases tn
end
end XH
namespace L2
open PySem PySem.Spec PyProof.Rows XH
structure gR (P:Program) (w:World) (outer:List Env) (H:Hp) (s:Shared) (a:Addr) (H':Hp) (cls:Value) (dx:GR) (st:wj) (s':Shared):Prop where
 os:s'.os=s.os
 bare:AllBare s'.gens
 un:Un (i7 outer) [] H H' s.heap s'.heap
 hok:gC P w H' s'.heap
 xo:XO (fun b=>s.heap.get? b=none/\H' b=none) s'.heap a cls dx st
def lA (P:Program) (w:World):oC:=fun outer H s E e s'=>∃a H' cls dx st,e= .ref a/\gR P w outer H s a H' cls dx st s'/\E cls dx H'
section
variable {P:Program} {w:World} {H H':Hp} {h h' h0:Heap} {fs ch:GP} {a:Addr} {o:HO}
theorem cn.there (x:cn P w H h a o):∃u,h.get? a=some u:=by
 cases o with
 |lst xs=>obtain ⟨_,_,_,_,e⟩:=x;exact ⟨_,e⟩
 |tup xs=>obtain ⟨_,_,_,_,e,_⟩:=x;exact ⟨_,e⟩
 |dK kvs=>obtain ⟨_,_,_,_,_,_,_,e,_⟩:=x;exact ⟨_,e⟩
 |dT kvs=>obtain ⟨_,_,_,_,_,_,_,e,_⟩:=x;exact ⟨_,e⟩
 |set S n=>obtain ⟨_,_,_,_,e,_⟩:=x;exact ⟨_,e⟩
 |ins C dx fs=>obtain ⟨_,_,_,e,_⟩:=x;exact ⟨_,e⟩
 |own y=>exact x
 |xd fs=>obtain ⟨_,⟨_,_,_,e,_⟩,_⟩:=x;exact ⟨_,e⟩
 |rng lo hi=>obtain ⟨_,_,_,e⟩:=x;exact ⟨_,e⟩
 |frz ob u=>obtain ⟨e,_⟩:=x;exact ⟨_,e⟩
 |tbl ps=>exact ⟨_,show h.get? a=some _ from x⟩
 |met f y=>exact ⟨_,show h.get? a=some _ from x⟩
 |ext φ=>obtain ⟨_,⟨_,e⟩,_⟩:=x;exact ⟨_,e⟩
theorem gC.none_of (k:gC P w H h) (q:h.get? a=none):H a=none:=by
 cases r:H a with
 |none=>rfl
 |some o=>
  obtain ⟨u,e⟩:=(k a o r).there;rw[q] at e;cases e
theorem wm (u:Un fs [] H H' h0 h) (m:Mv fs ch h h') (hc:∀b∈ch,h0.get? b=none):Un fs [] H H' h0 h' where
 keep:=fun b o q n hb hx=>m.keep b o hb (fun z=>by rw[hc b z] at q;cases q) (u.keep b o q n hb hx)
 slot:=fun b o q n hb hx=>by
  obtain ⟨sl,q1⟩:=u.slot b o q n hb hx;obtain ⟨sl2,q2⟩:=m.slot b _ hb (fun z=>by rw[hc b z] at q;cases q) q1
  exact ⟨sl2,q2⟩
 free:=u.free
 there:=fun b o q hx=>by
  obtain ⟨o1,q1⟩:=u.there b o q hx;exact m.there b o1 q1
 tups:=u.tups
 frzs:=u.frzs
 tbls:=u.tbls
theorem sJ (k:gC P w H h) (m:Mv fs ch h h') (hc:∀b∈ch,H b=none) (hf:∀b∈fs,H b=none):gC P w H h':=fun a o e=>
 (k a o e).stay (fun b u hb q=>by
  have t:H b≠none:=by
   rcases hb with z|z
   ·rw[z,e];exact fun y=>nomatch y
   ·rw[z];exact fun y=>nomatch y
  exact m.keep b u (fun z=>t (hf b z)) (fun z=>t (hc b z)) q) (fun _ q=>q) fun _ _ q=>q
theorem _root_.XH.Mv.wider (m:Mv [] ch h h'):Mv fs ch h h':=⟨fun b o _ hc q=>m.keep b o (by simp) hc q,fun b o _ hc q=>⟨o.slots,m.keep b o (by simp) hc q⟩,m.there⟩
theorem pX {base:Heap} (u:Un fs [] H H' h h'):∀{l:List Env},h.FunFrames base l->(∀b∈i7 l,b∈fs/\H b=none)->h'.FunFrames base l
 | [],_,_=>trivial
 |env::r,⟨hk,⟨L,o,hf,hn,ho,hd⟩,hr⟩,hs=>by
  have hL:L∈i7 (env::r):=by unfold i7;rw[Ea,hf];exact Dc
  obtain ⟨sl,e⟩:=u.slot L o ho (hs L hL).2 (hs L hL).1 (by simp)
  exact ⟨hk,⟨L,_,hf,hn,e,hd⟩,pX u hr fun b hb=>hs b (by unfold i7;rw[Ea,hf];exact D7 _ hb)⟩
end
section
variable {P:Program} {w:World} {H H':Hp} {s s':Shared} {a L:Addr} {cls v:Value} {dx:GR} {st:wj} {env:Env} {outer:List Env} {base:Heap} {M:Model} {A:Around} {Z:GK} {Q:Unit->Shared->Prop}
theorem gR.frees (c:gR P w outer H s a H' cls dx st s') (hl:s.heap.FunFrames base outer) (hH:∀b∈i7 outer,H b=none):∀b∈i7 outer,H' b=none:=fun b hb=>by
 obtain ⟨_,o,ho,_⟩:=hl.mem hb;exact c.un.free b o ho (hH b hb) (by simp)
theorem gR.note (c:gR P w (env::outer) H s a H' cls dx st s') (hfr:A.frames=some (env::outer)) (hf:env.frame=some L) (hl:s.heap.FunFrames base (env::outer)) (hH:∀b∈i7 (env::outer),H b=none)
  (h:∀s'',gR P w (env::outer) H s a H' cls dx (.fl (rawInt L)) s''->Q () s''):wpAny M A (noteFrame (.ref a) env) Q Z s':=by
 refine u0 hfr (pX c.un hl fun b hb=>⟨hb,hH b hb⟩) hf c.xo fun h' ch hch mv x=>h _ ?_
 refine ⟨c.os,c.bare,wm c.un mv fun b hb=>(hch b hb).1,sJ c.hok mv (fun b hb=>(hch b hb).2) (c.frees hl hH),x.mono ?_⟩
 rintro b (q|q)
 ·exact q
 ·refine ⟨?_,c.hok.none_of q⟩;cases r:s.heap.get? b with
  |none=>rfl
  |some o=>
   obtain ⟨o',r'⟩:=c.un.there b o r (by simp)
   rw[r'] at q;cases q
theorem gR.flight {fl:GR} (c:gR P w outer H s a H' cls dx (.fl v) s') (hl:s.heap.FunFrames base outer) (hH:∀b∈i7 outer,H b=none)
  (h:∀s'',gR P w outer H s a H' cls dx (.fl (fl.elim .none fun f=>rawInt f)) s''->Q () s''):wpAny M A (setFlight (.ref a) fl) Q Z s':=by
 refine qW c.xo fun h' T hT mv x=>h _ ⟨c.os,c.bare,wm c.un mv.wider fun b hb=>?_,sJ c.hok (mv.wider (fs:=i7 outer)) (fun b hb=>?_) (c.frees hl hH),x⟩
 ·rw[D8.mp hb];exact hT.1
 ·rw[D8.mp hb];exact hT.2
end
def XS (X:Cx) (E:St->XK):Value->Shared->Prop:=fun e s'=>∃σ H0 s0,aP X [] σ H0 s0/\lA X.prog X.w X.stack H0 s0 (E σ) e s'
def mO (X:Cx) (E:St->XK):Prop:=∀(pins:GM) (σ:St) (H:Hp) (s:Shared) (e:Value) (s':Shared),aP X pins σ H s->lA X.prog X.w X.stack H s (E σ) e s'->X.xe e s'
theorem sK {X:Cx} {E:St->XK}:mO (X.wish (XS X E)) E:=fun pins σ H s e s' I c=>⟨σ,H,s,I.unwish.pins_of (fun p hp=>absurd hp (by simp)),c⟩
def sM (sp:Sp) (dvs:List V) (E:St->XK) (t:TA):TE:=fun σ H Q=>t σ H fun vs H1=>sp (vs++dvs) H1 Q (E σ)
section
variable {X:Cx} {k:Nat} {f C:Addr} {fd:FuncData} {ps:GO} {sp:Sp} {dvs:List V} {ds:GQ} {E:St->XK} {x m:Str} {p pos apos:Pos} {e o:Expr} {es:List Expr} {ta:TE} {t:TA}
theorem vc {pins:GM} {σ:St} {H:Hp} {s:Shared} {Q:VK} {us:GQ} {vs:List V} (F:bh X.prog X.w X.K X.mg X.base (lA X.prog X.w) k f fd ps sp) (hr:cx k X.A) (hb:Binds X.K fd ps ds) (hd:bn dvs ds) (hx:mO X E)
  (I:aP X pins σ H s) (r:bn vs us) (h:sp (vs++dvs) H Q (E σ)):wpAny (model X.prog X.w) X.A (call (.ref f) us) (EP X pins σ Q) X.xe s:=by
 have r2:bn (vs++dvs) (us++ds):=r.append hd;have hl:(us++ds).length=ps.length:=by rw[<-r2.length];exact F.len _ _ _ _ h
 refine wpAny_call (codeAny_mono (F.run X.A X.stack s H ⟨us,[]⟩ (us++ds) (vs++dvs) Q (E σ) hr I.env0 (hb s us I.kIn hl) r2 h) fun r s' hq=>?_)
 cases r with
 |error e=>exact hx pins σ H s e s' I hq
 |ok fl=>
  cases fl with
  |ret u=>exact I.after hq
  |next=>exact False.elim hq
  |brk=>exact False.elim hq
  |cont=>exact False.elim hq
theorem sN (F:bh X.prog X.w X.K X.mg X.base (lA X.prog X.w) k f fd ps sp) (hr:cx k X.A) (hg:Gl X x) (hm:X.mg x=some (.ref f)) (hk:E4 X.K (.ref f)=true) (hb:Binds X.K fd ps ds) (hd:bn dvs ds) (hx:mO X E)
  (ha:PA X (e::es) t) (hdb:(x==("__debug__" :Str))=false:=by decide) (he:starEach (e::es) X.env=(false,eval e X.env)::starEach es X.env:=by rfl) (hpl:(backTo pos (starEach es X.env)).any (·.1)=false:=by rfl):
  PE X (.Call (.Name x p) (e::es) [] pos) (sM sp dvs E t):=by
 intro pins s σ H Q I h;refine wpAny_Call_Name_kw (eZ I hg hm ?_ hdb);refine PySem.W.callWith_K (h₀:=X.base) I.ok.mod.kin hk (b7 (ha pos pins s σ H _ I h) fun us s1 ⟨vs,H1,I1,r,q⟩=>⟨I1.kIn,?_⟩) he hpl
 exact vc F hr hb hd hx I1 r q
end
theorem i8.toX {X:Cx} {E':GK} {st:List Stmt} {t:TS} (h:i8 (X.wish E') st t) (k:∀e s,E' e s->X.xe e s):i8 X st t:=fun pins s σ H D I hw=>
 wpAny_mono (h pins s σ H D (I.wish _) hw) (fun _ _ q=>q.unwish) fun e s z=>k e s z
section
variable {P:Program} {w:World} {K:D3} {mg:GL} {base:Heap}
theorem sO {N:GO} {qual:Str} {scope:Scope} {f:Addr} {cd:Value} {A:Around} {outer:List Env} {s:Shared} {H:Hp} {E:XK} {e:Value} {s':Shared}
  (h:XS (iS (lA P w) P w K mg base N qual scope f cd A outer s H E) (fun _=>E) e s'):(iS (lA P w) P w K mg base N qual scope f cd A outer s H E).xe e s':=by
 obtain ⟨σ,H0,s0,I,a,H',cls,dx,st,rfl,c,hE⟩:=h;show wpAny (model P w) (A.deeper (envOfC qual scope s.heap.objs.size f cd)) (leaving (envOfC qual scope s.heap.objs.size f cd) (.ref a)) (fun _ s''=>lA P w outer H s E (.ref a) s'') (fun e' s''=>lA P w outer H s E e' s'') s'
 unfold leaving;apply wpAny_bind;refine c.note (L:=s.heap.objs.size) I.ok.frames rfl I.stack I.stkFree fun s1 c1=>?_
 refine c1.flight I.stack I.stkFree fun s2 c2=>?_
 have J:=I.call' c2.os c2.un c2.hok c2.bare (fun b z=>absurd z (by simp))
 refine ⟨a,H',cls,dx,_,rfl,⟨J.os,c2.bare,J.base,c2.hok,c2.xo.mono fun b q=>⟨?_,q.2⟩⟩,hE⟩
 cases r:s.heap.get? b with
 |none=>rfl
 |some o=>
  obtain ⟨o',r'⟩:=I.base.there b o r (fun z=>absurd (show b∈([]:GP) from z) (by simp))
  rw[q.1] at r';cases r'
theorem w6 {k:Nat} {f:Addr} {name qual:Str} {params:Arguments} {body:List Stmt} {scope:Scope} {dV kV doc pm cdv ct oc:Value} {an od:GR}
  {osl:GN} {N ps:GO} {sp:Sp} (lk:K.lookup f=some ⟨oc,od,.func (E3 name qual params body scope dV kV doc pm an cdv ct),osl⟩) (hcd:PySem.W.codeIn K cdv qual=true) (S:aC N ps scope)
  (len:∀vs H Q E,sp vs H Q E->vs.length=ps.length)
  (hbody:∀(A:Around) (outer:List Env) (s:Shared) (H:Hp) (vs:List V) (Q:VK) (E:XK),cx k (A.deeper (envOfC qual scope s.heap.objs.size f cdv))->sp vs H Q E->
   ∃t,i8 ((iS (lA P w) P w K mg base N qual scope f cdv A outer s H E).wish (XS (iS (lA P w) P w K mg base N qual scope f cdv A outer s H E) fun _=>E)) body t/\t {nx:=fun _ H'=>Q .non H',rt:=Q} (start N vs) H):
  bh P w K mg base (lA P w) (k+1) f (E3 name qual params body scope dV kV doc pm an cdv ct) ps sp:=by
 refine we lk hcd S len fun A outer s H vs Q E hr hsp=>?_
 obtain ⟨t,h,q⟩:=hbody A outer s H vs Q E hr hsp;exact ⟨t,h.toX fun e s' z=>sO z,q⟩
theorem bh.noraise {k:Nat} {f:Addr} {fd:FuncData} {ps:GO} {sp sp0:Sp} (F:bh P w K mg base (lA P w) k f fd ps sp) (h:∀vs H Q E,sp0 vs H Q E->sp vs H Q E0):bh P w K mg base bi k f fd ps sp0:=
 ⟨fun vs H Q E q=>F.len vs H Q E0 (h _ _ _ _ q),fun A outer s H args us vs Q E hr he hb hv hs=>codeAny_mono (F.run A outer s H args us vs Q E0 hr he hb hv (h _ _ _ _ hs)) fun r s' hq=>by
  cases r with
  |error e=>obtain ⟨_,_,_,_,_,_,_,z⟩:=hq;exact z.elim
  |ok fl=>cases fl<;>exact hq⟩
end
abbrev Cx.tried (X:Cx) (pins:GM):Cx:={X with pn:=X.pn++pins}
abbrev Cx.suite (X:Cx) (pins:GM) (a:Addr):Cx:={X with A:=X.A.mark (some (.ref a)),calm:=false,pn:=X.pn++pins,xe:=fun _ _=>False}
def vd (n:Bool) (a:Addr) (cls:Value) (dx:GR):HO:= .ext fun h=>∃ox vs,h.get? a=some ox/\ox.cls=cls/\ox.dict=dx/\ox.data= .fields vs/\vs[2]?=some .none/\(n=true->1<vs.size/\vs[1]?=some .none)
abbrev w8:=vd false
theorem ve {P:Program} {w:World} {H:Hp} {h:Heap} {n:Bool} {a:Addr} {cls:Value} {dx:GR} {ox:Obj} {vs:Array Value} (h1:h.get? a=some ox) (h2:ox.cls=cls) (h3:ox.dict=dx) (h4:ox.data= .fields vs) (h6:vs[2]?=some .none) (h5:n=true->1<vs.size/\vs[1]?=some .none):cn P w H h a (vd n a cls dx):=
 ⟨⟨ox,vs,h1,h2,h3,h4,h6,h5⟩,⟨ox,h1⟩,fun _ _ ⟨oy,ws,q,r⟩ kp=>⟨oy,ws,kp _ q,r⟩⟩
abbrev TH:=Ends->St->Value->GR->Hp->Addr->Prop
def PH (X:Cx) (hs:List ExceptHandler) (th:TH):Prop:=
 ∀(pins:GM) (σ:St) (H0:Hp) (s0:Shared) (D:Ends) (a:Addr) (H':Hp) (cls v:Value) (dx:GR) (s':Shared),aP X pins σ H0 s0->gR X.prog X.w X.stack H0 s0 a H' cls dx (.fl v) s'->th D σ cls dx H' a->
  wpAny (model X.prog X.w) X.A (handleBy (.ref a) X.env hs) (SP X pins D) X.xe s'
section
variable {X:Cx} {pins:GM} {σ:St} {H H':Hp} {s s':Shared}
theorem aP.tried (I:aP X pins σ H s):aP (X.tried pins) [] σ H s:=
 ⟨⟨I.ok.mod,I.ok.kind,I.ok.glob,I.ok.blt,I.ok.above,I.ok.inj,I.ok.has,I.ok.cab,I.ok.hd,I.ok.frames,I.ok.stk,I.ok.exf,I.ok.bs,I.ok.bsz,I.ok.noex,I.ok.exfs,I.ok.funs,I.ok.frf⟩,
  I.os,I.bare,I.base,I.loc,I.cell,I.free,I.freeC,fun p hp=>I.pin p (by simpa using hp),I.hok,I.len⟩
theorem aP.untried (I:aP (X.tried pins) [] σ H s):aP X pins σ H s:=
 ⟨⟨I.ok.mod,I.ok.kind,I.ok.glob,I.ok.blt,I.ok.above,I.ok.inj,I.ok.has,I.ok.cab,I.ok.hd,I.ok.frames,I.ok.stk,I.ok.exf,I.ok.bs,I.ok.bsz,I.ok.noex,I.ok.exfs,I.ok.funs,I.ok.frf⟩,
  I.os,I.bare,I.base,I.loc,I.cell,I.free,I.freeC,fun p hp=>I.pin p (by simpa using hp),I.hok,I.len⟩
theorem aP.insuite (I:aP X pins σ H s) (a:Addr):aP (X.suite pins a) [] σ H s:=
 ⟨⟨I.ok.mod,I.ok.kind,I.ok.glob,I.ok.blt,I.ok.above,I.ok.inj,I.ok.has,I.ok.cab,fun z=>(Bool.noConfusion z),I.ok.frames,I.ok.stk,I.ok.exf,I.ok.bs,I.ok.bsz,I.ok.noex,I.ok.exfs,I.ok.funs,I.ok.frf⟩,
  I.os,I.bare,I.base,I.loc,I.cell,I.free,I.freeC,fun p hp=>I.pin p (by simpa using hp),I.hok,I.len⟩
theorem aP.outsuite {a:Addr} (ok:X.Ok) (I:aP (X.suite pins a) [] σ H s):aP X pins σ H s:=
 ⟨ok,I.os,I.bare,I.base,I.loc,I.cell,I.free,I.freeC,fun p hp=>I.pin p (by simpa using hp),I.hok,I.len⟩
theorem sP {fs:GP} {h0 h:Heap} {a:Addr} {o:HO} (u:Un fs [] H H' h0 h) (n0:h0.get? a=none) (na:H' a=none):Un fs [] H (aO H' a o) h0 h where
 keep:=u.keep
 slot:=u.slot
 free:=fun b ob q n hx=>by
  have:b≠a:=fun z=>by rw[z,n0] at q;cases q
  rw[aB this];exact u.free b ob q n hx
 there:=u.there
 tups:=fun b xs e=>by
  have q:=u.tups b xs e;rw[aB (aQ q na)];exact q
 frzs:=fun b o' w' e=>by
  have q:=u.frzs b o' w' e;rw[aB (aQ q na)];exact q
 tbls:=fun b ps e=>by
  obtain ⟨mo,q⟩:=u.tbls b ps e;exact ⟨mo,by rw[aB (aQ q na)];exact q⟩
theorem qX {P:Program} {w:World} {h:Heap} {a:Addr} {o:HO} (k:gC P w H h) (na:H a=none) (new:cn P w (aO H a o) h a o):gC P w (aO H a o) h:=fun b u e=>by
 by_cases hb:b=a
 ·subst hb;rw[af] at e;cases e;exact new
 ·rw[aB hb] at e;exact (k b u e).stay (fun c v _ q=>q) (fun c q=>by rw[aB (aQ q na)];exact q) fun c xs q=>by rw[aB (aQ q na)];exact q
theorem gR.caught {a:Addr} {cls:Value} {dx:GR} {st:wj} (I:aP X pins σ H s) (c:gR X.prog X.w X.stack H s a H' cls dx st s'):aP X pins σ (aO H' a (w8 a cls dx)) s':=by
 obtain ⟨⟨oe,vs,he,hc,hd,hda,hz,_⟩,n0,na⟩:=c.xo;refine I.call' c.os (sP c.un n0 na) (qX c.hok na (ve he hc hd hda hz.2 fun z=>nomatch z)) c.bare fun b z=>absurd z (by simp)
end
section
variable {X:Cx} {body:List Stmt} {h₀:ExceptHandler} {hs:List ExceptHandler} {pos:Pos} {th:TH}
def BY (tb:(St->XK)->TS) (th:TH):TS:=fun D σ H=>tb (fun σ' cls dx H'=>∀a,H' a=none->th D σ' cls dx H' a) D σ H
theorem SP.untried {pins:GM} {E:GK} {D:Ends} {f:Flow} {s':Shared} (h:SP ((X.tried pins).wish E) [] D f s'):SP X pins D f s':=by
 cases f with
 |next=>obtain ⟨σ',H',I,q⟩:=h;exact ⟨σ',H',I.unwish.untried,q⟩
 |brk=>obtain ⟨σ',H',I,q⟩:=h;exact ⟨σ',H',I.unwish.untried,q⟩
 |cont=>obtain ⟨σ',H',I,q⟩:=h;exact ⟨σ',H',I.unwish.untried,q⟩
 |ret u=>obtain ⟨v,σ',H',I,r,q⟩:=h;exact ⟨v,σ',H',I.unwish.untried,r,q⟩
theorem xc {tb:(St->XK)->TS} (hstk:X.stack=X.env::X.outer) (hfm:X.env.frame=some X.env.locals)
  (hb:∀(pins:GM) (E:St->XK),i8 ((X.tried pins).wish (XS (X.tried pins) E)) body (tb E)) (hh:PH X (h₀::hs) th):PS X (.Try body (h₀::hs) [] [] pos) (BY tb th):=by
 intro pins s σ H D I h;refine wpAny_Try_except ?_;refine wpAny_mono (hb pins _ [] s σ H D (I.tried.wish _) h) (fun f s1 q=>?_) fun e s1 hx=>?_
 ·have q:=q.untried;cases f with
  |next=>exact wpAny_execs_nil q
  |brk=>exact q
  |cont=>exact q
  |ret u=>exact q
 ·obtain ⟨σ',H0,s0,I0,a,H',cls,dx,st,rfl,c,hE⟩:=hx;have c':gR X.prog X.w (X.env::X.outer) H0 s0 a H' cls dx st s1:=hstk▸c;have J:=I0.untried;have fr:X.A.frames=some (X.env::X.outer):=by rw[<-hstk];exact J.ok.frames
  have st1:s0.heap.FunFrames X.base (X.env::X.outer):=by rw[<-hstk];exact J.stack
  have sf:∀b∈i7 (X.env::X.outer),H0 b=none:=by rw[<-hstk];exact J.stkFree
  refine c'.note fr hfm st1 sf fun s2 c2=>?_
  refine c2.flight st1 sf fun s3 c3=>?_
  exact hh pins σ' H0 s0 D a H' cls _ dx s3 J (hstk▸c3) (hE a c3.xo.fr.2)
theorem xf:PH X [] (fun _ _ _ _ _ _=>False):=fun _ _ _ _ _ _ _ _ _ _ _ _ _ h=>h.elim
end
structure XT (K:D3) (C:Addr):Prop where
 ty:PySem.W.typeIn K (.ref C)=some (.type "type")
 cl:(PySem.W.clsIn K C).isSome=true
 ex:PySem.W.subIn K (.ref C) (.type "BaseException")=some true
theorem lB {K:D3} {M:Model} {h:Heap} {C:Addr} (X:K.In h) (e:(PySem.W.clsIn K C).isSome=true):PySem.W.Looks M h (isType (.ref C)) true:=by
 unfold PySem.W.clsIn at e
 split at e
 ·rename_i ho;intro A' Q' E' s' k q;unfold isType loadHead;exact wpAny_bind (wpAny_loadPart (k _ _ (X _ _ ho)) (wpAny_pure q))
 ·cases e
structure XG (K:D3) (C:Addr):Prop where
 ga:Dm K (.ref C) "__getattribute__" =some (some (.builtin "BaseException.__getattribute__"))
 gt:Dm K (.ref C) "__getattr__" =some none
 be:PySem.W.mroIn K C (.type "BaseException")=some true
section
variable {prog:Program} {w:World} {A:Around} {E:GK} {K:D3}
theorem oM {h:Heap} {g:Array GenState} {d:Drawn} {t:Nat} {os:OsState} {e C C':Addr} {oe:Obj} {b:Bool} {Q:Bool->Shared->Prop} (KX:K.In h) (he:h.get? e=some oe) (hc:oe.cls= .ref C) (T:XT K C')
  (hsub:PySem.W.subIn K (.ref C) (.ref C')=some b) (hq:Q b ⟨h,g,d,t,os⟩):wpAny (model prog w) A (excMatches (.ref e) (.ref C')) Q E ⟨h,g,d,t,os⟩:=by
 have l1:=PySem.W.looks_typeIn (M:=model prog w) KX T.ty;have l2:=PySem.W.looks_subIn (M:=model prog w) KX T.ex;have l3:=PySem.W.looks_subIn (M:=model prog w) KX hsub;have l4:=lB (M:=model prog w) KX T.cl;have l5:PySem.W.Looks (model prog w) h (isInstance (.ref C') (.type "tuple")) false:=l1.andThen (PySem.W.Looks.of_pure tc_notTuple);have l6:PySem.W.Looks (model prog w) h (isExcClass (.ref C')) true:=by
  unfold isExcClass;refine l4.andThen ?_;exact l2
 unfold excMatches
 repeat (first|with_reducible refine wpAny_bind (l5.at ?_)|with_reducible refine wpAny_bind (l6.at ?_)|with_reducible refine wpAny_bind (l3.at ?_)|(with_reducible refine wpAny_loadPart_at he ?_;rw[hc])|wp_step)
 cases b<;>(wp_walk;exact hq)
end
def BZ (K:D3) (C':Addr) (t:TS) (r:TH):TH:=fun D σ cls dx H a=>∃C b,cls= .ref C/\PySem.W.subIn K (.ref C) (.ref C')=some b/\
 if b=true then t D σ (aO H a (w8 a cls dx)) else r D σ cls dx H a
section
variable {X:Cx} {x n:Str} {np pos:Pos} {b0:Stmt} {suite:List Stmt} {rest:List ExceptHandler} {i:Nat} {C':Addr} {t:TS} {th:TH}
theorem SP.outsuite {pins:GM} {a:Addr} {D:Ends} {f:Flow} {s:Shared} (ok:X.Ok) (h:SP (X.suite pins a) [] D f s):SP X pins D f s:=by
 cases f with
 |next=>obtain ⟨σ',H',I,q⟩:=h;exact ⟨σ',H',I.outsuite ok,q⟩
 |brk=>obtain ⟨σ',H',I,q⟩:=h;exact ⟨σ',H',I.outsuite ok,q⟩
 |cont=>obtain ⟨σ',H',I,q⟩:=h;exact ⟨σ',H',I.outsuite ok,q⟩
 |ret u=>obtain ⟨v,σ',H',I,r,q⟩:=h;exact ⟨v,σ',H',I.outsuite ok,r,q⟩
theorem zR (T:XT X.K C') (hg:Gl X x) (hm:X.mg x=some (.ref C'))
  (hs:∀(pins:GM) (a:Addr),i8 (X.suite pins a) (b0::suite) t) (hrest:PH X rest th) (hd:(x==("__debug__" :Str))=false:=by decide):
  PH X (.ExceptHandler (some (.Name x np)) none (b0::suite) pos::rest) (BZ X.K C' t th):=by
 intro pins σ H0 s0 D a H' cls v dx s' I c h;obtain ⟨C,b,rfl,hsub,h⟩:=h;have J:aP X pins σ H' s':=I.call' c.os c.un c.hok c.bare (fun b z=>absurd z (by simp))
 obtain ⟨oe,vs,he,hc,_,_,_⟩:=c.xo.ex;refine wpAny_handleBy_cons (codeAny_handlers_test (eZ (X:=X.suite pins a) (J.insuite a) hg hm ?_ hd)) (by intro q;cases q)
 have KX:=J.kIn;obtain ⟨hh,g,d,tk,os⟩:=s';refine oM KX he hc T hsub ?_;cases b with
 |false=>exact hrest pins σ H0 s0 D a H' _ v dx _ I c h
 |true=>
  refine codeAny_handlers_suite ?_;refine c.flight I.stack I.stkFree fun s2 c2=>?_
  have J2:=(c2.caught I).insuite a;refine wpAny_mono (hs pins a [] s2 _ _ _ J2 h) (fun f s4 q=>?_) fun _ _ z=>z.elim
  exact q.outsuite I.ok
end
def B0:GQ:= [.type "ValueError",.type "Exception",.type "BaseException",.type "object"]
theorem xg {K:D3} {h:Heap} {C:Addr} {bmB:GQ} {nw:String} (X:K.In h) (q:PySem.W.excIn K C bmB nw=true):
  ∃bm N nm qn bs hdct sn sub ab col dd k0 k1 k2 k3 k5 mN,h.get? C=some (excClassObj nm qn C N bs bm hdct sn sub ab col dd k0 k1 k2 k3 k5 nw)/\h.Ns N mN/\mN "__init__" =none/\OwnTail h bmB bm:=by
 unfold PySem.W.excIn at q
 split at q
 ·rename_i dd cd sl ho
  split at q
  ·rename_i C' bm k0 k1 k2 k3 n k5 hm hs;simp only[Bool.and_eq_true,beq_iff_eq,Bool.not_eq_true'] at q;obtain ⟨⟨⟨⟨⟨e1,e2⟩,hdel⟩,ht⟩,hok⟩,hni⟩:=q;subst e1 e2;obtain ⟨nm,bs,mro,ns,qn,hd,sn,sub,ab,col,del⟩:=cd;dsimp only at hm hdel hok hni;subst hm hdel;obtain ⟨l⟩:=sl;have hl:l= [k0,k1,k2,k3,some (.builtin n),k5]:=hs;subst hl;exact ⟨bm,ns,nm,qn,bs,hd,sn,sub,ab,col,dd,k0,k1,k2,k3,k5,_,X _ _ ho,.of_isNs (PySem.W.isNs_of_in X hok),PySem.W.nsMap_none_of_in X hok hni,PySem.W.tail_of_in X ht⟩
  ·cases q
 ·cases q
def xh (C:Addr) (E:St->XK) (t:TA):TS:=fun _ σ H=>t σ H fun vs H1=>vs.length<=sizeLine/\E σ (.ref C) none H1
section
variable {X:Cx} {x:Str} {np cpos pos:Pos} {e₀:Expr} {rest:List Expr} {C:Addr} {t:TA} {E:St->XK}
theorem vf {pins:GM} {σ:St} {H:Hp} {s:Shared} {h':Heap} {e:Addr} {us:GQ} (I:aP X pins σ H s) (mk:Heap.MadeExcOf s.heap h' e (.ref C) us):gR X.prog X.w X.stack H s e H (.ref C) none .new {s with heap:=h'}:=by
 obtain ⟨t,ht,_,_⟩:=mk.there;exact ⟨rfl,I.bare,Un.kept mk.keeps,I.hok.kept mk.keeps,⟨⟨_,_,ht,rfl,rfl,rfl,⟨by show 1<6;decide,rfl⟩,rfl⟩,mk.new,I.hok.none_of mk.new⟩⟩
theorem mP (q:PySem.W.excIn X.K C B0 "ValueError.__new__" =true) (hg:Gl X x) (hm:X.mg x=some (.ref C)) (hc:X.calm=true) (hp:mO X E) (ha:PA X (e₀::rest) t) (hd:(x==("__debug__" :Str))=false:=by decide)
  (he:starEach (e₀::rest) X.env=(false,eval e₀ X.env)::starEach rest X.env:=by rfl) (hpl:(backTo cpos (starEach rest X.env)).any (·.1)=false:=by rfl):
  PS X (.Raise (some (.Call (.Name x np) (e₀::rest) [] cpos)) none pos) (xh C E t):=by
 intro pins s σ H D I h;obtain ⟨bm,N,nm,qn,bs,hdct,sn,sub,ab,col,dd,k0,k1,k2,k3,k5,mN,hC,hN,hni,TL⟩:=xg I.ok.mod.kin q;have F:=PySem.F.excBase_ValueError;have W:=ha cpos pins s σ H _ I h;refine wpAny_Raise_call_subT (C:=C) (nm:=nm) (q:=qn) (N:=N) (bs:=bs) (bm:=bm) (hdct:=hdct) (sn:=sn) (sub:=sub) (ab:=ab) (col:=col) (dd:=dd) (k0:=k0) (k1:=k1) (k2:=k2) (k3:=k3) (k5:=k5) (mN:=mN)
  F (TL.hasType F.hasBase) (I.ok.hd hc) (by rw[he];exact hpl) hni (eZ I hg hm ⟨rfl,?_⟩ hd)
 rw[he] at W⊢;refine Calls.evalArgs_plain (b7 W fun us s2 ⟨vs,H1,I1,r,hl,z⟩=>⟨rfl,by rw[<-r.length];exact hl,I1.bk _ _ hC,hN.keeps I1.bk,TL.keeps I1.bk,fun h' e mk=>?_⟩)
 exact hp pins σ H1 s2 _ _ I1 ⟨e,H1,.ref C,none,.new,rfl,vf I1 mk,z⟩
end
structure XI (K:D3) (C:Addr):Prop where
 gg:XG K C
 cl:(PySem.W.clsIn K C).isSome=true
 at_:Dm K (.ref C) "__class__" =some (some (.builtin "object.__class__"))
 gt:PySem.W.specialIn K (.builtin "object.__class__") "__get__" =some (some (.builtin "getset_descriptor.__get__"))
 tk:PySem.W.takesIn K (.builtin "object.__class__")=some true
 ob:PySem.W.mroIn K C (.type "object")=some true
abbrev Cx.block (X:Cx) (scope:Scope) (cl:List (Str×Addr)) (C:Addr) (N:GO) (own:Str) (fp:GP) (s:Shared) (H:Hp):Cx:=
 {X with env:=compEnvC scope cl C X.env,N:=N,s₀:=s,H₀:=H,outer:=X.stack,stack:=X.stack,ex:=fp,fn:=fun y=>y==own,pn:= [],xe:=fun _ _=>False}
structure lC (X:Cx) (scope:Scope) (cl:List (Str×Addr)) (own:Str) (ys:GO) (js:List Nat):Prop where
 clos:closureFor scope X.env=pure cl
 nocell:(scope.names.all fun p=> !(p.2== .cell))=true
 kind:scope.kind= .function
 loc:(scope.names.all fun p=> !(p.2== .local)||scope.names.lookup p.1==some .local)=true
 ownL:scope.names.lookup own=some .local
 sub:∀p∈cl,X.env.cells.lookup p.1=some p.2
 has:((relabel scope X.env).names.all fun p=> !(p.2== .cell||p.2== .free)||(cl.lookup p.1).isSome)=true
 noown:cl.lookup own=none
 nd:(own::ys).Nodup
 at_:∀(i:Nat) (y:Str),ys[i]?=some y->∃j:Nat,js[i]?=some j/\X.N[j]?=some y/\(X.env.scope.names.lookup y=some .cell∨X.env.scope.names.lookup y=some .free)/\((relabel scope X.env).names.lookup y=some .cell∨(relabel scope X.env).names.lookup y=some .free)
 len:js.length=ys.length
def cw (js:List Nat) (σ:St):St:=js.map fun j=>(σ[j]?).getD none
def mQ (js:List Nat) (te:TE) (σ:St) (Q:VK):It->Hp->Prop:=fun J H1=>∀p,H1 p=none->∃W:Nat->Nat->List V->Hp->Prop,(∃m,W 0 m [] (aO H1 p (.lst [])))/\
 ∀i m ys H2,W i m ys H2->H2 p=some (.lst ys)/\((J.stop i H2/\Q (.ref p) H2)∨(J.go i H2/\ys.length<sizeLine/\∀x H3,J.yld i H2 x H3->te (some x::cw js σ) H3 fun y H4=>H4 p=some (.lst ys)/\∃m',m'<m/\W (i+1) m' (ys++ [y]) (aO H4 p (.lst (ys++ [y])))))
def wn (wi:TI) (js:List Nat) (te:TE):TE:=fun σ H Q=>wi σ H (mQ js te σ Q)
theorem lookup_all {α:Type} {f:Str×α->Bool} {x:Str} {a:α}:∀{l:List (Str×α)},l.all f=true->l.lookup x=some a->f (x,a)=true:=by
 intro l h e;exact EI.mp h _ (Dw e)
section
variable {prog:Program} {w:World} {A:Around} {R:Result->Shared->Prop} {s:Shared}
theorem gS {elt target iter:Expr} {scope:Scope} {pos:Pos} {it acc:Value} {env:Env} (I:Nat->Shared->Prop)
  (turn:∀n s,I n s->wpAny (model prog w) A (pyNext it) (fun r s1=>match r with
   |none=>R (.ok .next) s1
   |some v=>wpAny (model prog w) A (letOwnedTupleGo target it v) (fun _ s2=>wpAny (model prog w) A (assign target env v) (fun _ s3=>wpAny (model prog w) A (eval elt env) (fun x s4=>
     wpAny (model prog w) A (call (.builtin "list.append") [acc,x]) (fun _ s5=>∃m,m<n/\I m s5) (fun _ _=>False) s4) (fun _ _=>False) s3) (fun _ _=>False) s2) (fun _ _=>False) s1) (fun _ _=>False) s)
  (n:Nat) (h:I n s):codeAny (model prog w) A (.compLoop (.ListComp elt [⟨target,iter,[],0⟩] scope pos) 0 it acc env) R s:=by
 apply codeAny_loop rfl I ?_ n h;intro n s hI;show wpAny _ _ ((compTurn (.ListComp elt [⟨target,iter,[],0⟩] scope pos) 0 it acc env).onRaise _) _ _ s;apply wpAny_noted;rw[compTurn_list1];apply wpAny_bind;apply wpAny_standAt;apply wpAny_bind;refine wpAny_mono (turn n s hI) (fun r s1 h1=>?_) fun _ _ z=>z.elim
 cases r with
 |none=>exact wpAny_pure h1
 |some v=>
  apply wpAny_bind;refine wpAny_mono h1 (fun _ s2 h2=>?_) fun _ _ z=>z.elim
  apply wpAny_bind;refine wpAny_mono h2 (fun _ s3 h3=>?_) fun _ _ z=>z.elim
  apply wpAny_bind;apply wpAny_bind;refine wpAny_mono h3 (fun x s4 h4=>?_) fun _ _ z=>z.elim
  apply wpAny_bind;refine wpAny_mono h4 (fun _ s5 h5=>?_) fun _ _ z=>z.elim
  exact wpAny_pure (wpAny_pure ⟨rfl,h5⟩)
end
section
variable {X:Cx} {scope:Scope} {cl:List (Str×Addr)} {own:Str} {ys:GO} {js:List Nat} {fp:GP} {pins:GM} {σ:St} {H:Hp} {s s4:Shared}
theorem iL {h1:Heap} (ok:lC X scope cl own ys js) (I:aP X pins σ H s) (hf:∀b∈fp,fH X pins H b) (hlt:∀b∈fp,b<s.heap.objs.size) (hns:h1.Ns s.heap.objs.size (fun _=>none))
  (hk:∀b o,s.heap.get? b=some o->h1.get? b=some o) (tk:Nat):
  aP (X.block scope cl s.heap.objs.size (own::ys) own fp s H) [] (none::cw js σ) H {s with heap:=h1,toks:=tk}:=by
 have sub:∀y c,cl.lookup y=some c->X.env.cells.lookup y=some c:=fun y c e=>ok.sub (y,c) (Dw e)
 refine ⟨⟨I.ok.mod,ok.kind,I.ok.glob,I.ok.blt,D9 _,fun x y c e1 e2=>I.ok.inj x y c (sub x c e1) (sub y c e2),fun x hx=>?_,fun x c e1 e2=>?_,I.ok.hd,I.ok.frames,.inl rfl,fun b hb=>⟨DW (hlt b hb),fun x c e=>(hf b hb).2.2.2.2.1 x c (sub x c e)⟩,
  I.bs,DU I.ok.bsz I.sz,fun b o e hb=>?_,fun b hb z=>?_,I.stack,I.stkFree⟩,rfl,I.bare,Un.kept hk,⟨_,hns,fun i y v e1 e2 e3=>?_⟩,fun y c e=>?_,I.hok.fresh (D9 _),fun y c e=>I.freeC y c (sub y c e),fun p hp=>absurd (show p∈([]:GM) from hp) (by simp),I.hok.kept hk,?_⟩
 ·have hx':(relabel scope X.env).names.lookup x=some .cell∨(relabel scope X.env).names.lookup x=some .free:=hx;rcases hx' with z|z
  ·have q:=lookup_all ok.has z;simp only[beq_self_eq_true,Bool.true_or,Bool.not_true,Bool.false_or] at q;exact EC.mp q
  ·have q:=lookup_all ok.has z;simp only[beq_self_eq_true,Bool.or_true,Bool.not_true,Bool.false_or] at q;exact EC.mp q
 ·have e1':(x==own)=true:=e1;have e:x=own:=beq_iff_eq.mp e1';have e2':cl.lookup x=some c:=e2;rw[e,ok.noown] at e2';cases e2'
 ·rcases (hf b hb).2.2.2.1 with z|z
  ·exact I.ok.noex b o e z
  ·exact absurd (DT (Heap.lt_size (I.ok.bs b o e).1) z) (Nat.lt_irrefl _)
 ·rcases D2.mp (I.stkSub b z) with q|q
  ·exact (hf b hb).2.1 q
  ·exact (hf b hb).2.2.1 q
 ·cases i with
  |zero=>cases e2
  |succ i=>
   have e1':ys[i]?=some y:=e1;obtain ⟨j,hj,hN,hX,hc⟩:=ok.at_ i y e1';have e2':(cw js σ)[i]?=some (some v):=e2;unfold cw at e2';rw[DA,hj] at e2';have hs:σ[j]?=some (some v):=by
    cases q:σ[j]? with
    |none=>rw[Option.map_some,q] at e2';cases e2'
    |some o=>rw[Option.map_some,q] at e2';exact e2'
   obtain ⟨m,hn,hl⟩:=I.loc;obtain ⟨u,r,l⟩:=hl j y v hN hs (hX.elim (fun z=> .inr (.inl z)) fun z=> .inr (.inr z))
   refine ⟨u,r,.inr ⟨hc,?_⟩⟩;rcases l with ⟨k,_⟩|⟨k,c,hcl,hcell⟩
   ·have k':X.env.scope.names.lookup y=some .local:=k;rcases hX with z|z<;>(rw[z] at k';cases k')
   ·have ex:∃c',cl.lookup y=some c':=by
     rcases hc with z|z
     ·have q:=lookup_all ok.has z;simp only[beq_self_eq_true,Bool.true_or,Bool.not_true,Bool.false_or] at q;exact EC.mp q
     ·have q:=lookup_all ok.has z;simp only[beq_self_eq_true,Bool.or_true,Bool.not_true,Bool.false_or] at q;exact EC.mp q
    obtain ⟨c',hc'⟩:=ex;have e:=sub y c' hc';rw[hcl] at e;cases e;obtain ⟨oc,hoc,hd⟩:=hcell;exact ⟨c,hc',oc,hk _ _ hoc,hd⟩
 ·obtain ⟨v,oc,hoc,hd⟩:=I.cell y c (sub y c e);exact ⟨v,oc,hk _ _ hoc,hd⟩
 ·show (none::cw js σ).length=(own::ys).length;simp[cw,ok.len]
theorem ke {H':Hp} {h':Heap} {σ':St} (I:aP X pins σ H s) (hf:∀b∈fp,fH X pins H b) (J:aP (X.block scope cl s.heap.objs.size (own::ys) own fp s H) [] σ' H' s4) (hs:Heap.SameBut s.heap.objs.size s4.heap h'):
  aP X pins σ H' {s4 with heap:=h'}:=by
 have low:∀b o,s.heap.get? b=some o->b≠s.heap.objs.size:=fun b o e=>DW (Heap.lt_size e)
 have B:=J.base;have u:Un (i7 X.stack) fp H H' s.heap h':={
  keep:=fun b o q n hb hx=>(hs.2 b (low b o q)).trans (B.keep b o q n hb hx)
  slot:=fun b o q n hb hx=>by
   obtain ⟨sl,e⟩:=B.slot b o q n hb hx;exact ⟨sl,(hs.2 b (low b o q)).trans e⟩
  free:=B.free
  there:=fun b o q hx=>by
   obtain ⟨o',e⟩:=B.there b o q hx;exact ⟨o',(hs.2 b (low b o q)).trans e⟩
  tups:=B.tups
  frzs:=B.frzs
  tbls:=B.tbls}
 have hn:H' s.heap.objs.size=none:=J.free;have hk:gC X.prog X.w H' h':=fun a o e=>(J.hok a o e).stay (fun b v hb q=>(hs.2 b (by
  intro z;rcases hb with z'|z'
  ·rw[<-z',z,hn] at e;cases e
  ·rw[z,hn] at z';cases z')).trans q) (fun _ q=>q) fun _ _ q=>q
 exact I.call' (s':={s4 with heap:=h'}) (ch:=fp) J.os u hk J.bare fun b hb=>⟨(hf b hb).2.2.2.1,(hf b hb).2.1,(hf b hb).2.2.2.2.1,(hf b hb).2.2.2.2.2⟩
end
section
variable {X:Cx} {scope:Scope} {cl:List (Str×Addr)} {own:Str} {ys:GO} {js:List Nat} {elt iter:Expr} {px pos:Pos} {wi:TI} {te:TE}
theorem fW (hc:X.calm=true) (ok:lC X scope cl own ys js) (hi:PI X (.Name own px) iter wi)
  (he:∀(C:Addr) (fp:GP) (s:Shared) (H:Hp),PE (X.block scope cl C (own::ys) own fp s H) elt te)
  (hs:∀x,foldedSetIterable iter X.env x=pure x:=by intro _;rfl):PE X (.ListComp elt [⟨.Name own px,iter,[],0⟩] scope pos) (wn wi js te):=by
 intro pins s σ H Q I h;rw[eval_ListComp];have ncell:∀y∈scope.names,y.2≠ .cell:=fun y hy z=>by
  have q:=EI.mp ok.nocell y hy;rw[z] at q;simp at q
 have nloc:∀y∈scope.names,y.2= .local->scope.names.lookup y.1=some .local:=fun y hy z=>by
  have q:=EI.mp ok.loc y hy;rw[z] at q
  simpa using q
 refine wpAny_comprehension_free (use:=none) rfl hs ok.clos ok.kind nloc (b7 (hi pins s σ H _ I h) fun v s1 h1=>b7 h1 fun itv s2 h2=>?_)
 obtain ⟨it,fp,tn,J,H2,rfl,I2,T,st2,f2,q2⟩:=h2;obtain ⟨W,⟨m0,w0⟩,turn⟩:=q2 s2.heap.objs.size (I2.hok.fresh (D9 _));refine wpAny_newObj_type (wpAny_newFunctionEnv ncell (by intro y hy;simp at hy) (fun h1 hns hsb=>?_) ok.kind)
 have I3:=I2.laid (a:=s2.heap.objs.size) (o:= .lst []) (h':=s2.heap.push {cls:= .type "list",dict:=none,data:= .seq ([]:GQ).toArray}) (t':=s2.toks) (fun b u q=>Heap.get?_push_of_some _ q) (D9 _)
  ⟨E1 _,[],0,.nil,Heap.get?_push_size _ rfl⟩
 have fpo:∀b∈fp,b<s2.heap.objs.size:=fun b hb=>by
  obtain ⟨o,e,_⟩:=T.obj 0 _ st2 b hb;exact Heap.lt_size e
 have f3:∀b∈fp,fH X pins (aO H2 s2.heap.objs.size (.lst [])) b:=fun b hb=>⟨by rw[aB (DW (fpo b hb))];exact (f2 b hb).1,(f2 b hb).2⟩
 generalize hs3:({s2 with heap:=s2.heap.push {cls:= .type "list",dict:=none,data:= .seq ([]:GQ).toArray},toks:=s2.toks}:Shared)=s3 at I3
 have e3:s3.heap=s2.heap.push {cls:= .type "list",dict:=none,data:= .seq ([]:GQ).toArray}:=by rw[<-hs3]
 have lt3:∀b∈fp,b<s3.heap.objs.size:=fun b hb=>by rw[e3,Heap.size_push];exact Nat.lt_succ_of_lt (fpo b hb)
 dsimp only at hns hsb⊢;rw[<-e3] at hns hsb;have hk:∀b o,s3.heap.get? b=some o->h1.get? b=some o:=fun b o e=>hsb.extBut b o (DW (Heap.lt_size e)) (Heap.get?_push_of_some _ e)
 have J0:=iL (h1:=h1) ok I3 f3 lt3 hns hk (s2.toks+0);have t0:tn 0 h1:=T.keep 0 _ _ st2 fun b hb o e=>hk b o (by rw[e3];exact Heap.get?_push_of_some _ e)
 have fpB:∀{H':Hp},(∀b∈fp,H' b=none)->∀b∈fp,fH (X.block scope cl s3.heap.objs.size (own::ys) own fp s3 (aO H2 s2.heap.objs.size (.lst []))) [] H' b:=fun {H'} hn b hb=>
  ⟨hn b hb,DW (lt3 b hb),fun z=>(D2.mp (I3.stkSub b z)).elim (f3 b hb).2.1 (f3 b hb).2.2.1,.inl hb,fun x c e=>(f3 b hb).2.2.2.2.1 x c (ok.sub (x,c) (Dw e)),fun p hp=>absurd (show p∈([]:GM) from hp) (by simp)⟩
 have loop:codeAny (model X.prog X.w) X.A (.compLoop (.ListComp elt [⟨.Name own px,iter,[],0⟩] scope pos) 0 (.ref it) (.ref s2.heap.objs.size) (compEnvC scope cl s3.heap.objs.size X.env))
   (compPost (model X.prog X.w) X.A X.xe none (EP X pins σ Q) (.ref s2.heap.objs.size) s3.heap.objs.size) {s3 with heap:=h1,toks:=s2.toks+0}:=by
  refine gS (fun n s'=>∃i zs o0 H',aP (X.block scope cl s3.heap.objs.size (own::ys) own fp s3 (aO H2 s2.heap.objs.size (.lst []))) [] (o0::cw js σ) H' s'/\tn i s'.heap/\(∀b∈fp,H' b=none)/\W i n zs H') ?_ m0
   ⟨0,[],none,_,J0,t0,fun b hb=>(f3 b hb).1,w0⟩
  rintro n s5 ⟨i,zs,o0,H5,I5,t5,n5,w5⟩;obtain ⟨hD,hw⟩:=turn i n zs H5 w5;rcases hw with ⟨stop,qn⟩|⟨go,hz,step⟩
  ·refine b7 (T.done (X.block scope cl s3.heap.objs.size (own::ys) own fp s3 (aO H2 s2.heap.objs.size (.lst []))) rfl rfl rfl hc i [] s5 _ H5 (fun _ _=>False) I5 (fpB n5) t5 stop) fun r s6 ⟨hr,I6⟩=>?_
   subst hr;obtain ⟨m,hn,_⟩:=id I6.loc;exact ⟨m,hn,fun h' hs'=>⟨V.ref s2.heap.objs.size,H5,ke I3 f3 I6 hs',rfl,qn⟩⟩
  ·refine b7 (T.item (X.block scope cl s3.heap.objs.size (own::ys) own fp s3 (aO H2 s2.heap.objs.size (.lst []))) rfl rfl rfl hc i [] s5 _ H5 (fun _ _=>False) I5 (fpB n5) t5 go) fun r s6 ⟨u,hr,h6⟩=>?_
   subst hr;refine b7 h6 fun _ s7 ⟨x,H7,I7,r7,y7,t7,n7⟩=>?_
   have I7':=I7.pinned (fpB n7) (T.obj _ _ t7);have hst:=step x H7 y7;have own':(relabel scope X.env).names.lookup own=some .local:=lookup_relabel_local ok.ownL;refine b7 (kZ (X:=X.block scope cl s3.heap.objs.size (own::ys) own fp s3 (aO H2 s2.heap.objs.size (.lst []))) (i:=0) (x:=own) (pos:=px) ok.nd rfl (.inl own') (.inr own') _ s7 _ H7 x u (fun σ' H'=>σ'=some x::cw js σ/\H'=H7) I7' r7 ⟨rfl,rfl⟩) fun _ s8 ⟨σ8,H8,I8,e8,eH8⟩=>?_
   subst e8 eH8;refine b7 (he _ _ _ _ _ s8 _ H8 _ I8 hst) fun yv s9 ⟨y,H9,I9,r9,hD9,m',hm,w9⟩=>?_
   refine b7 (a8 _ s9 _ H9 (.ref s2.heap.objs.size) [y] (.ref s2.heap.objs.size) [yv] (fun _ H'=>H'=aO H9 s2.heap.objs.size (.lst (zs++ [y]))) I9 rfl (.cons r9 .nil) ⟨_,zs,y,rfl,rfl,hD9,hz,rfl⟩) fun _ s10 ⟨_,H10,I10,_,e10⟩=>?_
   subst e10;refine ⟨m',hm,i+1,zs++ [y],some x,_,I10.unpinned,T.keep _ _ _ t7 fun b hb o e=>(I10.pin (b,o) (DH _ (DH _ (dy hb e)))).1,fun b hb=>?_,w9⟩
   obtain ⟨o,e,d⟩:=T.obj _ _ t7 b hb;exact (I10.pin (b,o) (DH _ (DH _ (dy hb e)))).2.1
 subst hs3;exact codeAny_compStart_list loop (T.self _ 0 _ _ _ t0 loop)
end
open PySem.Builtin PySem.Builtin.ObjectAttr
theorem jN:entryFor table "proto.unchain" =some Builtin.«proto.unchain» :=entryFor_of_fast (by kernel_rfl)
def oN (hd:GS) (H:Hp):Prop:=∀v,hd=some v->∃a n cls dx,v= .ref a/\H a=some (vd n a cls dx)
theorem oN.no {H:Hp}:oN none H:=fun _ z=>nomatch z
section
variable {prog:Program} {w:World} {A:Around} {E:GK} {s:Shared}
theorem oO {it hx:Addr} {ox:Obj} {vs:Array Value} {x left step:Int} {Q:GS->Shared->Prop} (hh:A.handled=some (.ref hx)) (ho:s.heap.get? hx=some ox) (hd:ox.data= .fields vs) (h2:vs[2]?=some .none)
  (hit:IsRangeIter s.heap it x left step) (hleft:left<=0) (hQ:∀h',Heap.ExtBut it s.heap h'->Q none {s with heap:=h'}):wpAny (model prog w) A (pyNext (.ref it)) Q E s:=by
 have hT:s.TypeIs (.ref it) "range_iterator" :=⟨_,hit,rfl⟩;unfold pyNext;refine wpAny_bind (wpAny_attempt (wpAny_callSpecial?_slot (name:=Str.ofString "__next__") hT F.slot_range_iterator_next
  (wpAny_call_entry F.slot_range_iterator_next hT F.entry_range_iterator_next ?_ (F.args_range_iterator_next_1 _))))
 show wpAny _ _ (field (.ref it) 0>>=_) _ _ s;refine wpAny_bind (wpAny_field hit rfl (x:=rawInt x) rfl ?_);show wpAny _ _ (field (.ref it) 1>>=_) _ _ s;refine wpAny_bind (wpAny_field hit rfl (x:=rawInt left) rfl ?_);show wpAny _ _ (field (.ref it) 2>>=_) _ _ s;refine wpAny_bind (wpAny_field hit rfl (x:=rawInt step) rfl ?_);show wpAny _ _ (if left<=0 then _ else _) _ _ s
 rw[if_pos hleft];refine wpAny_bind (wpAny_rule ?_);refine wpAny_bind ?_;show wpAny _ _ (newExc (.type "StopIteration") []>>=_) _ _ _;refine wpAny_bind ?_;simp only[newExc,newTuple];refine wpAny_bind (wpAny_newObj_type ?_ (by size_fits))
 refine wpAny_bind (m:=firstArgMember _ _) (wpAny_of_eq (a:=Value.none) (by first|rfl|(simp only[firstArgMember];rfl)) ?_)
 refine wpAny_newObj_type ?_ (by size_fits)
 simp only[raiseNew];refine wpAny_bind (wpAny_handled ?_);rw[show A.in1.handled=some (.ref hx) from hh]
 have g0:s.heap.get? (s.heap.push {cls:= .type "tuple",dict:=none,data:= .seq ([]:GQ).toArray}).objs.size=none:=Heap.get?_none_of_le (by rw[Heap.size_push];omega)
 have ne:hx≠(s.heap.push {cls:= .type "tuple",dict:=none,data:= .seq ([]:GQ).toArray}).objs.size:=fun z=>by
  rw[z,g0] at ho;cases ho
 dsimp only;rw[if_pos (bne_iff_ne.mpr fun z=>ne (Value.ref.inj z))]
 refine wpAny_bind (wpAny_holding (wpAny_runValue (codeAny_builtin jN ?_)));show wpAny _ _ (field (.ref hx) 2>>=_) _ _ _;refine wpAny_bind (wpAny_field (Heap.get?_push_of_some _ (Heap.get?_push_of_some _ ho)) hd h2 ?_);rw[if_pos (by rfl)]
 refine wpAny_bind (wpAny_pure (wpAny_pure ?_));refine wpAny_bind (m:=updateField _ 2 _) (wpAny_setField (Heap.get?_push_size _ rfl) rfl (by show 2<6;decide) ?_)
 refine wpAny_throw ?_;refine wpAny_bind (wpAny_isInstance (T:= "StopIteration") (b:=true) ⟨_,Heap.get?_update_self _ (Heap.get?_push_size _ rfl) rfl,rfl⟩ isSubtype_stop ?_);refine wpAny_pure (hQ _ fun b o hb e=>?_)
 rw[Heap.get?_update_other _ _ (by
  intro z;rw[z] at g0;rw[g0] at e;cases e)]
 exact Heap.get?_push_of_some _ (Heap.get?_push_of_some _ e)
end
structure wp (hd:GS) (P:Program) (w:World) (K:D3) (tg:Expr) (J:It) (fp:GP) (it:Addr) (tn:Nat->Heap->Prop):Prop where
 mem:it∈fp
 obj:∀i h,tn i h->∀b∈fp,∃o,h.get? b=some o/\∀v,o.data≠ .cell v
 keep:∀i h h',tn i h->(∀b∈fp,∀o,h.get? b=some o->h'.get? b=some o)->tn i h'
 item:∀(X:Cx),X.prog=P->X.w=w->X.K=K->X.A.handled=hd->∀(i:Nat) (pins:GM) (s:Shared) (σ:St) (H:Hp) (E:GK),aP X pins σ H s->(∀b∈fp,fH X pins H b)->tn i s.heap->J.go i H->
  wpAny (model P w) X.A (pyNext (.ref it)) (fun r s1=>∃u,r=some u/\
   wpAny (model P w) X.A (letOwnedTupleGo tg (.ref it) u) (fun _ s2=>∃x H',aP X pins σ H' s2/\RelV x u/\J.yld i H x H'/\tn (i+1) s2.heap/\∀b∈fp,H' b=none) E s1) E s
 done:∀(X:Cx),X.prog=P->X.w=w->X.K=K->X.A.handled=hd->∀(i:Nat) (pins:GM) (s:Shared) (σ:St) (H:Hp) (E:GK),aP X pins σ H s->(∀b∈fp,fH X pins H b)->tn i s.heap->J.stop i H->
  wpAny (model P w) X.A (pyNext (.ref it)) (fun r s1=>r=none/\aP X pins σ H s1) E s
 self:∀(A:Around) (i:Nat) (s:Shared) (Q:GK) (E:GK),tn i s.heap->Q (.ref it) s->wpAny (model P w) A (pyIter (.ref it)) Q E s
def zS (hd:GS) (X:Cx) (pins:GM) (σ:St) (tg:Expr) (R:It->Hp->Prop) (itv:Value) (s2:Shared):Prop:=
 ∃(it:Addr) (fp:GP) (tn:Nat->Heap->Prop) (J:It) (H':Hp),itv= .ref it/\aP X pins σ H' s2/\wp hd X.prog X.w X.K tg J fp it tn/\tn 0 s2.heap/\(∀b∈fp,fH X pins H' b)/\R J H'
def CH (hd:GS) (X:Cx) (tg iter:Expr) (wi:TI):Prop:=
 ∀(pins:GM) (s:Shared) (σ:St) (H:Hp) (R:It->Hp->Prop),aP X pins σ H s->wi σ H R->
  wpAny (model X.prog X.w) X.A (eval iter X.env) (fun v s1=>wpAny (model X.prog X.w) X.A (pyIter v) (zS hd X pins σ tg R) X.xe s1) X.xe s
def vg (hd:GS) (lo:Int) (n:Nat):It:=⟨fun i _=>i<n,fun i H x H'=>H'=H/\x= .int (lo+i),fun i H=>n<=i/\oN hd H⟩
theorem mR {hd:GS} {P:Program} {w:World} {K:D3} {tg:Expr} (it:Addr) (lo:Int) (n:Nat):wp hd P w K tg (vg hd lo n) [it] it (fun i h=>IsRangeIter h it (lo+(i:Nat)*1) ((n:Int)-(i:Nat)) 1) where
 mem:=by simp
 obj:=fun i h st b hb=>by
  have e:b=it:=by simpa using hb
  subst e;exact ⟨_,st,fun v z=>by
   have z':Data.fields _=Data.cell v:=z;cases z'⟩
 keep:=fun i h h' st k=>k it (by simp) _ st
 item:=by
  intro X hP hw hK hA i pins s σ H E I hf st hg;subst hP hw hK;obtain ⟨f0,f1,f2,f3,f4,f5⟩:=hf it (by simp)
  have hg':i<n:=hg;refine wpAny_pyNext_range_item st (by omega) fun h' st' sb=>?_
  have I1:aP X pins σ H {s with heap:=h',toks:=s.toks+1}:=I.turned (fun b o hb e=>(sb.2 b hb).trans e) f0 f1 f3 f4 f5
  have st2:IsRangeIter h' it (lo+((i+1:Nat):Int)*1) ((n:Int)-((i+1:Nat):Int)) 1:=by
   have e1:lo+((i+1:Nat):Int)*1=lo+(i:Int)*1+1:=by push_cast;omega
   have e2:(n:Int)-((i+1:Nat):Int)=(n:Int)-(i:Int)-1:=by push_cast;omega
   rw[e1,e2];exact st'
  refine ⟨_,rfl,pN (s:={s with heap:=h',toks:=s.toks+1}) (n:= "range_iterator") st2 rfl rfl (by decide) ⟨.int (lo+i),H,I1,⟨s.toks,?_⟩,⟨rfl,rfl⟩,st2,fun b hb=>(hf b hb).1⟩⟩
  rw[Int.mul_one]
 done:=by
  intro X hP hw hK hA i pins s σ H E I hf st hg;subst hP hw hK;obtain ⟨f0,f1,f2,f3,f4,f5⟩:=hf it (by simp)
  obtain ⟨hl,hk⟩:=hg;cases hd with
  |none=>exact wpAny_pyNext_range_end hA st (by omega) fun h' eb=>⟨rfl,I.turned (t':=s.toks) (fun b o hb e=>eb b o hb e) f0 f1 f3 f4 f5⟩
  |some v=>
   obtain ⟨a,m,cls,dx,rfl,e⟩:=hk v rfl;obtain ⟨⟨ox,vs,h1,h2,h3,h4,h6,h5⟩,_⟩:=(show cn X.prog X.w H s.heap a (vd m a cls dx) from I.hok a _ e)
   exact oO hA h1 h4 h6 st (by omega) fun h' eb=>⟨rfl,I.turned (t':=s.toks) (fun b o hb e=>eb b o hb e) f0 f1 f3 f4 f5⟩
 self:=fun _ _ _ _ _ st h=>wpAny_pyIter_rangeiter st h
def zT (hd:GS) (ta:TA):TI:=fun σ H R=>ta σ H fun vs H1=>∃j:Int,vs= [.int j]/\ -(2^62)<=j/\j<2^62/\R (vg hd 0 j.toNat) H1
section
variable {X:Cx} {tg:Expr} {hd:GS}
theorem qY {pins:GM} {σ:St} {H:Hp} {s:Shared} {R:It->Hp->Prop} {E:GK} {lo hi:Int} {t u v:Tok} {tk:Nat} (I:aP X pins σ H s) (h1: -(2^62)<=lo) (h2:lo<2^62) (h3: -(2^62)<=hi) (h4:hi<2^62)
  (q:R (vg hd lo (hi-lo).toNat) H):wpAny (model X.prog X.w) X.A (pyIter (.ref s.heap.objs.size)) (zS hd X pins σ tg R) E {s with heap:=s.heap.push {cls:= .type "range",data:= .fields #[.int lo t,.int hi u,.int 1 v]},toks:=tk}:=by
 refine wpAny_pyIter_range (IsRange.new ..) (small_one h1 h2 h3 h4) ?_;have I1:aP X pins σ H {s with heap:=s.heap.push {cls:= .type "range",data:= .fields #[.int lo t,.int hi u,.int 1 v]},toks:=tk}:=I.kept fun b o e=>Heap.get?_push_of_some _ e
 refine ⟨(s.heap.push {cls:= .type "range",data:= .fields #[.int lo t,.int hi u,.int 1 v]}).objs.size,[(s.heap.push {cls:= .type "range",data:= .fields #[.int lo t,.int hi u,.int 1 v]}).objs.size],_,_,H,rfl,
  I1.kept (t':=tk) fun b o e=>Heap.get?_push_of_some _ e,mR _ lo (hi-lo).toNat,?_,fun b hb=>?_,q⟩
 ·have e1:lo+((0:Nat):Int)*1=lo:=by simp
  have e2:(((hi-lo).toNat:Nat):Int)-((0:Nat):Int)=Builtin.Range.rangeSize lo hi 1:=by rw[rangeSize_one];split<;>omega
  show IsRangeIter _ _ (lo+((0:Nat):Int)*1) ((((hi-lo).toNat:Nat):Int)-((0:Nat):Int)) 1;rw[e1,e2];exact Heap.get?_push_size _ rfl
 ·have e:b=(s.heap.push {cls:= .type "range",data:= .fields #[.int lo t,.int hi u,.int 1 v]}).objs.size:=by simpa using hb
  subst e;exact I1.fpOk (D9 _) (I1.hok.fresh (D9 _))
theorem qZ {a:Expr} {ta:TA} {p pos:Pos} (hg:Gl X "range") (hm:X.mg "range" =none) (ha:PA X [a] ta) (hs:starEach [a] X.env= [(false,eval a X.env)]:=by rfl):CH hd X tg (.Call (.Name "range" p) [a] [] pos) (zT hd ta):=by
 intro pins s σ H R I h;refine Call_ (fF I hg hm boot_range (EE (b7 (ha pos pins s σ H _ I h) fun us s1 ⟨vs,H1,I1,r1,q1⟩=>?_) hs rfl))
 obtain ⟨j,e,q1,q2,q⟩:=q1;subst e;cases r1 with
 |cons r rr=>
  cases rr;obtain ⟨t,rfl⟩:=r;exact call_range_1 (qY I1 (by omega) (by omega) q1 q2 (by simpa using q))
end
section
variable {X:Cx} {scope:Scope} {cl:List (Str×Addr)} {own:Str} {ys:GO} {js:List Nat} {elt iter:Expr} {px pos:Pos} {wi:TI} {te:TE} {hd:GS}
theorem sQ (hA:X.A.handled=hd) (ok:lC X scope cl own ys js) (hi:CH hd X (.Name own px) iter wi)
  (he:∀(C:Addr) (fp:GP) (s:Shared) (H:Hp),PE (X.block scope cl C (own::ys) own fp s H) elt te)
  (hs:∀x,foldedSetIterable iter X.env x=pure x:=by intro _;rfl):PE X (.ListComp elt [⟨.Name own px,iter,[],0⟩] scope pos) (wn wi js te):=by
 intro pins s σ H Q I h;rw[eval_ListComp];have ncell:∀y∈scope.names,y.2≠ .cell:=fun y hy z=>by
  have q:=EI.mp ok.nocell y hy;rw[z] at q;simp at q
 have nloc:∀y∈scope.names,y.2= .local->scope.names.lookup y.1=some .local:=fun y hy z=>by
  have q:=EI.mp ok.loc y hy;rw[z] at q
  simpa using q
 refine wpAny_comprehension_free (use:=none) rfl hs ok.clos ok.kind nloc (b7 (hi pins s σ H _ I h) fun v s1 h1=>b7 h1 fun itv s2 h2=>?_)
 obtain ⟨it,fp,tn,J,H2,rfl,I2,T,st2,f2,q2⟩:=h2;obtain ⟨W,⟨m0,w0⟩,turn⟩:=q2 s2.heap.objs.size (I2.hok.fresh (D9 _));refine wpAny_newObj_type (wpAny_newFunctionEnv ncell (by intro y hy;simp at hy) (fun h1 hns hsb=>?_) ok.kind)
 have I3:=I2.laid (a:=s2.heap.objs.size) (o:= .lst []) (h':=s2.heap.push {cls:= .type "list",dict:=none,data:= .seq ([]:GQ).toArray}) (t':=s2.toks) (fun b u q=>Heap.get?_push_of_some _ q) (D9 _)
  ⟨E1 _,[],0,.nil,Heap.get?_push_size _ rfl⟩
 have fpo:∀b∈fp,b<s2.heap.objs.size:=fun b hb=>by
  obtain ⟨o,e,_⟩:=T.obj 0 _ st2 b hb;exact Heap.lt_size e
 have f3:∀b∈fp,fH X pins (aO H2 s2.heap.objs.size (.lst [])) b:=fun b hb=>⟨by rw[aB (DW (fpo b hb))];exact (f2 b hb).1,(f2 b hb).2⟩
 generalize hs3:({s2 with heap:=s2.heap.push {cls:= .type "list",dict:=none,data:= .seq ([]:GQ).toArray},toks:=s2.toks}:Shared)=s3 at I3
 have e3:s3.heap=s2.heap.push {cls:= .type "list",dict:=none,data:= .seq ([]:GQ).toArray}:=by rw[<-hs3]
 have lt3:∀b∈fp,b<s3.heap.objs.size:=fun b hb=>by rw[e3,Heap.size_push];exact Nat.lt_succ_of_lt (fpo b hb)
 dsimp only at hns hsb⊢;rw[<-e3] at hns hsb;have hk:∀b o,s3.heap.get? b=some o->h1.get? b=some o:=fun b o e=>hsb.extBut b o (DW (Heap.lt_size e)) (Heap.get?_push_of_some _ e)
 have J0:=iL (h1:=h1) ok I3 f3 lt3 hns hk (s2.toks+0);have t0:tn 0 h1:=T.keep 0 _ _ st2 fun b hb o e=>hk b o (by rw[e3];exact Heap.get?_push_of_some _ e)
 have fpB:∀{H':Hp},(∀b∈fp,H' b=none)->∀b∈fp,fH (X.block scope cl s3.heap.objs.size (own::ys) own fp s3 (aO H2 s2.heap.objs.size (.lst []))) [] H' b:=fun {H'} hn b hb=>
  ⟨hn b hb,DW (lt3 b hb),fun z=>(D2.mp (I3.stkSub b z)).elim (f3 b hb).2.1 (f3 b hb).2.2.1,.inl hb,fun x c e=>(f3 b hb).2.2.2.2.1 x c (ok.sub (x,c) (Dw e)),fun p hp=>absurd (show p∈([]:GM) from hp) (by simp)⟩
 have loop:codeAny (model X.prog X.w) X.A (.compLoop (.ListComp elt [⟨.Name own px,iter,[],0⟩] scope pos) 0 (.ref it) (.ref s2.heap.objs.size) (compEnvC scope cl s3.heap.objs.size X.env))
   (compPost (model X.prog X.w) X.A X.xe none (EP X pins σ Q) (.ref s2.heap.objs.size) s3.heap.objs.size) {s3 with heap:=h1,toks:=s2.toks+0}:=by
  refine gS (fun n s'=>∃i zs o0 H',aP (X.block scope cl s3.heap.objs.size (own::ys) own fp s3 (aO H2 s2.heap.objs.size (.lst []))) [] (o0::cw js σ) H' s'/\tn i s'.heap/\(∀b∈fp,H' b=none)/\W i n zs H') ?_ m0
   ⟨0,[],none,_,J0,t0,fun b hb=>(f3 b hb).1,w0⟩
  rintro n s5 ⟨i,zs,o0,H5,I5,t5,n5,w5⟩;obtain ⟨hD,hw⟩:=turn i n zs H5 w5;rcases hw with ⟨stop,qn⟩|⟨go,hz,step⟩
  ·refine b7 (T.done (X.block scope cl s3.heap.objs.size (own::ys) own fp s3 (aO H2 s2.heap.objs.size (.lst []))) rfl rfl rfl hA i [] s5 _ H5 (fun _ _=>False) I5 (fpB n5) t5 stop) fun r s6 ⟨hr,I6⟩=>?_
   subst hr;obtain ⟨m,hn,_⟩:=id I6.loc;exact ⟨m,hn,fun h' hs'=>⟨V.ref s2.heap.objs.size,H5,ke I3 f3 I6 hs',rfl,qn⟩⟩
  ·refine b7 (T.item (X.block scope cl s3.heap.objs.size (own::ys) own fp s3 (aO H2 s2.heap.objs.size (.lst []))) rfl rfl rfl hA i [] s5 _ H5 (fun _ _=>False) I5 (fpB n5) t5 go) fun r s6 ⟨u,hr,h6⟩=>?_
   subst hr;refine b7 h6 fun _ s7 ⟨x,H7,I7,r7,y7,t7,n7⟩=>?_
   have I7':=I7.pinned (fpB n7) (T.obj _ _ t7);have hst:=step x H7 y7;have own':(relabel scope X.env).names.lookup own=some .local:=lookup_relabel_local ok.ownL;refine b7 (kZ (X:=X.block scope cl s3.heap.objs.size (own::ys) own fp s3 (aO H2 s2.heap.objs.size (.lst []))) (i:=0) (x:=own) (pos:=px) ok.nd rfl (.inl own') (.inr own') _ s7 _ H7 x u (fun σ' H'=>σ'=some x::cw js σ/\H'=H7) I7' r7 ⟨rfl,rfl⟩) fun _ s8 ⟨σ8,H8,I8,e8,eH8⟩=>?_
   subst e8 eH8;refine b7 (he _ _ _ _ _ s8 _ H8 _ I8 hst) fun yv s9 ⟨y,H9,I9,r9,hD9,m',hm,w9⟩=>?_
   refine b7 (a8 _ s9 _ H9 (.ref s2.heap.objs.size) [y] (.ref s2.heap.objs.size) [yv] (fun _ H'=>H'=aO H9 s2.heap.objs.size (.lst (zs++ [y]))) I9 rfl (.cons r9 .nil) ⟨_,zs,y,rfl,rfl,hD9,hz,rfl⟩) fun _ s10 ⟨_,H10,I10,_,e10⟩=>?_
   subst e10;refine ⟨m',hm,i+1,zs++ [y],some x,_,I10.unpinned,T.keep _ _ _ t7 fun b hb o e=>(I10.pin (b,o) (DH _ (DH _ (dy hb e)))).1,fun b hb=>?_,w9⟩
   obtain ⟨o,e,d⟩:=T.obj _ _ t7 b hb;exact (I10.pin (b,o) (DH _ (DH _ (dy hb e)))).2.1
 subst hs3;exact codeAny_compStart_list loop (T.self _ 0 _ _ _ t0 loop)
end
end L2
namespace Sw
open PySem L2 XH
structure Dx (P:Program) (w:World) (K:D3) (mg:GL) (base:Heap) (CX:oC) (k:Nat) (x:Str) (ps:GO) (dvs:List V) (sp:Sp) where
 f:Addr
 fd:FuncData
 ok:bh P w K mg base CX k f fd ps sp
 m:mg x=some (.ref f)
 q:E4 K (.ref f)=true
 b:Binds K fd ps []
 bd:∃ds,Binds K fd ps ds/\bn dvs ds
def Dx.calm {P:Program} {w:World} {K:D3} {mg:GL} {base:Heap} {k:Nat} {x:Str} {ps:GO} {dvs:List V} {sp sp0:Sp} (D:Dx P w K mg base (lA P w) k x ps dvs sp) (h:∀vs H Q E,sp0 vs H Q E->sp vs H Q E0):Dx P w K mg base bi k x ps dvs sp0:=
 ⟨D.f,D.fd,D.ok.noraise h,D.m,D.q,D.b,D.bd⟩
section
variable {X:Cx} {k j:Nat} {x:Str} {ps:GO} {sp:Sp} {p pos:Pos} {e:Expr} {es:List Expr} {t:TA} {dvs:List V} {E:St->XK}
theorem xi (D:Dx X.prog X.w X.K X.mg X.base bi k x ps dvs sp) (hr:cx j X.A) (hk:k<=j) (hg:Gl X x) (ha:PA X (e::es) t) (hdb:(x==("__debug__" :Str))=false:=by decide)
  (he:starEach (e::es) X.env=(false,eval e X.env)::starEach es X.env:=by rfl) (hpl:(backTo pos (starEach es X.env)).any (·.1)=false:=by rfl):
  PE X (.Call (.Name x p) (e::es) [] pos) (mD sp [] E0 t):=
 uO D.ok (hr.mono hk) hg D.m D.q D.b .nil mH ha hdb he hpl
theorem xj (D:Dx X.prog X.w X.K X.mg X.base (lA X.prog X.w) k x ps dvs sp) (hr:cx j X.A) (hk:k<=j) (hg:Gl X x) (hx:mO X E) (ha:PA X (e::es) t) (hdb:(x==("__debug__" :Str))=false:=by decide)
  (he:starEach (e::es) X.env=(false,eval e X.env)::starEach es X.env:=by rfl) (hpl:(backTo pos (starEach es X.env)).any (·.1)=false:=by rfl):
  PE X (.Call (.Name x p) (e::es) [] pos) (sM sp [] E t):=
 sN D.ok (hr.mono hk) hg D.m D.q D.b .nil hx ha hdb he hpl
end
theorem bv.okX {P:Program} {w:World} {K:D3} {mg:GL} {base:Heap} {x qual:Str} {st:Stmt} {dV:Value} {f:Addr} {fd:FuncData} {N ps:GO} {k:Nat} {sp:Sp} (F:bv K x qual st dV f fd) (S:aC N ps (aw st)) (len:∀vs H Q E,sp vs H Q E->vs.length=ps.length)
  (hbody:∀(cdv:Value) (A:Around) (outer:List Env) (s:Shared) (H:Hp) (vs:List V) (Q:VK) (E:XK),cx k (A.deeper (PyProof.Rows.envOfC qual (aw st) s.heap.objs.size f cdv))->sp vs H Q E->
   ∃t,i8 ((iS (lA P w) P w K mg base N qual (aw st) f cdv A outer s H E).wish (XS (iS (lA P w) P w K mg base N qual (aw st) f cdv A outer s H E) fun _=>E)) (dm st) t/\t {nx:=fun _ H'=>Q .non H',rt:=Q} (start N vs) H):bh P w K mg base (lA P w) (k+1) f fd ps sp:=by
 obtain ⟨oc,od,kV,doc,pm,an,cdv,ct,osl,rfl,lk,hcd⟩:=F.ex;exact w6 lk hcd S len fun A outer s H vs Q E hr hsp=>hbody cdv A outer s H vs Q E hr hsp
end Sw
namespace L2
open PySem PySem.Spec PyProof.Rows XH
theorem bZ {X:Cx} {K:D3} (hK:X.K=K):dH X (.builtin "isinstance") (fun xs H Q=>∃x t T b,xs= [x,.ty T]/\gE K H x t/\DJ K t (.type T)=some b/\Q (.bl b) H):=by
 subst hK;intro pins s σ H xs us Q I r h;obtain ⟨x,t,T,b,rfl,ty,e,q⟩:=h;obtain ⟨u,w',rfl,e1,e2⟩:=vals2 r;cases e2;exact jT I e1 ty e fun tk=>⟨.bl b,H,I.tok tk,rfl,q⟩
end L2
namespace Sw
open PySem L2 XH
end Sw
namespace L2
open PySem PySem.Spec PyProof.Rows XH
def zm:V->Prop
 | .bl _=>True
 | .int _=>True
 | .str _=>True
 | .non=>True
 |_=>False
theorem mS {A:Around} {s:Shared} {v:V} {u w:Value} (h:zm v) (r1:RelV v u) (r2:RelV v w):SeqAt.EqAt A s u w true:=by
 cases v with
 |bl b=>
  cases r1;cases r2;have z:=SeqAt.EqAt.bool_bool (A:=A) (s:=s) b b;rw[beq_self_eq_true] at z;exact z
 |int i=>
  obtain ⟨t,rfl⟩:=r1;obtain ⟨t',rfl⟩:=r2;have z:=SeqAt.EqAt.int_int (A:=A) (s:=s) i t i t';rw[beq_self_eq_true] at z;exact z
 |str i=>
  obtain ⟨t,rfl⟩:=r1;obtain ⟨t',rfl⟩:=r2;have z:=SeqAt.EqAt.str_str (A:=A) (s:=s) i t i t';rw[beq_self_eq_true] at z;exact z
 |non=>
  cases r1;cases r2;exact SeqAt.EqAt.same _
 |_=>exact absurd h (fun z=>z)
theorem kf {A:Around} {s:Shared}:∀{zs:List V} {us ws:GQ},(∀z∈zs,zm z)->bn zs us->bn zs ws->∀j (h1:j<us.length) (h2:j<ws.length),SeqAt.EqAt A s us[j] ws[j] true
 |_,_,_,_,.nil,.nil,j,h1,_=>absurd h1 (by simp)
 |_,_,_,hs,.cons r1 _,.cons r2 _,0,_,_=>mS (hs _ (Dc)) r1 r2
 |_,_,_,hs,.cons _ t1,.cons _ t2,j+1,h1,h2=>kf (fun z hz=>hs z (D7 _ hz)) t1 t2 j (by simpa using h1) (by simpa using h2)
theorem sR {X:Cx} (hu:X.A.units<cLine):gA X (compareOp .NotEq) (fun x y H Q=>∃a b zs,x= .ref a/\y= .ref b/\aE X.K H a zs/\aE X.K H b zs/\(∀z∈zs,zm z)/\Q (.bl false) H):=by
 intro pins s σ H x y v u Q I rx ry h;obtain ⟨a,b,zs,rfl,rfl,h1,h2,hs,hq⟩:=h;cases rx;cases ry;obtain ⟨i1,r1,p1,_⟩:=I.list h1;obtain ⟨i2,r2,p2,_⟩:=I.list h2;refine SeqAt.RcNeAt.lists (e:=fun _=>true) p1.isList p2.isList (by simp[<-r1.length,<-r2.length]) hu (fun j g1 g2=>?_) _ _ _ _ ⟨.bl false,H,I,by show Value.bool _=Value.bool _;simp,hq⟩
 exact kf (A:=X.A.in1) (s:=s) hs r1 r2 j (by simpa using g1) (by simpa using g2)
end L2
namespace Sw
open PySem L2 XH PyProof.Rows
theorem xm {hd:GS} {H H':Hp} (h:oN hd H) (g:aH H H'):oN hd H':=fun v e=>by
 obtain ⟨a,n,cls,dx,e1,e2⟩:=h v e;exact ⟨a,n,cls,dx,e1,g _ _ e2⟩
theorem fJ {H H':Hp} {p:Addr} (g:aH H H') (h:H p=none) (o:HO):aH H (aO H' p o):=fun b u q=>by
 rw[aB (aQ q h)];exact g b u q
theorem vh {hd:GS} {n:Nat} {js:List Nat} {te:TE} {σ:L2.St} {H1:Hp} {Q:VK} (P:Nat->V->Prop) (hok:oN hd H1) (hn:n<=sizeLine)
  (step:∀i,i<n->∀H3,aH H1 H3->∀Q':VK,(∀y H4,P i y->aH H3 H4->Q' y H4)->te (some (.int (0+(i:Int)))::cw js σ) H3 Q')
  (fin:∀p ys H',H1 p=none->ys.length=n->(∀i y,ys[i]?=some y->P i y)->aH H1 H'->H' p=some (.lst ys)->Q (.ref p) H'):
  mQ js te σ Q (vg hd 0 n) H1:=by
 intro p hp;refine ⟨fun i m ys H2=>i<=n/\m=n-i/\ys.length=i/\(∀j y,ys[j]?=some y->P j y)/\aH H1 H2/\H2 p=some (.lst ys),⟨n,E1 _,rfl,rfl,fun j y e=>by simp at e,aq hp _,af⟩,?_⟩
 rintro i m ys H2 ⟨hi,rfl,hl,hP,g,e⟩;refine ⟨e,?_⟩
 by_cases hin:i<n
 ·refine .inr ⟨hin,by omega,fun x H3 hy=>?_⟩
  obtain ⟨rfl,rfl⟩:=hy;refine step i hin H3 g _ fun y H4 py g4=>⟨g4 _ _ e,n-(i+1),by omega,hin,rfl,by simp[hl],fun j z ez=>?_,fJ (g.trans g4) hp _,af⟩
  by_cases hj:j<ys.length
  ·rw[Do hj] at ez;exact hP j z ez
  ·rw[E6 (by omega)] at ez
   have h0:j-ys.length=0:=by
    rcases Nat.eq_zero_or_pos (j-ys.length) with q|q
    ·exact q
    ·rw[List.getElem?_eq_none (by simp;omega)] at ez;cases ez
   rw[h0] at ez;have hji:j=i:=by omega
   subst hji;cases ez;exact py
 ·have e2:i=n:=by omega
  subst e2;exact .inl ⟨⟨D9 _,xm hok g⟩,fin p ys H2 hp hl hP g e⟩
def lD (X:Cx) (scope:Scope) (ys:GO) (js:List Nat):Prop:=∀(i:Nat) (y:Str),ys[i]?=some y->∃j:Nat,js[i]?=some j/\X.N[j]?=some y/\(X.env.scope.names.lookup y=some .cell∨X.env.scope.names.lookup y=some .free)/\((relabel scope X.env).names.lookup y=some .cell∨(relabel scope X.env).names.lookup y=some .free)
theorem xn {X:Cx} {scope:Scope}:lD X scope [] []:=fun i y h=>by simp at h
theorem Bv {X:Cx} {scope:Scope} {ys:GO} {js:List Nat} {y:Str} {j:Nat} (t:lD X scope ys js) (h1:X.N[j]?=some y:=by rfl) (h2:X.env.scope.names.lookup y=some .cell∨X.env.scope.names.lookup y=some .free:=by first|exact Or.inl rfl|exact Or.inr rfl)
  (h3:(relabel scope X.env).names.lookup y=some .cell∨(relabel scope X.env).names.lookup y=some .free:=by first|exact Or.inl rfl|exact Or.inr rfl):lD X scope (y::ys) (j::js):=fun i z h=>by
 cases i with
 |zero=>
  cases h;exact ⟨j,rfl,h1,h2,h3⟩
 |succ i=>exact t i z h
inductive q8 (X:Cx):List (Str×Addr)->Prop where
 |nil:q8 X []
 |cons {y:Str} {c:Addr} {cl:List (Str×Addr)} (h:X.env.cells.lookup y=some c) (t:q8 X cl):q8 X ((y,c)::cl)
theorem q8.all {X:Cx} {cl:List (Str×Addr)} (h:q8 X cl):∀p∈cl,X.env.cells.lookup p.1=some p.2:=by
 induction h with
 |nil=>intro p hp;simp at hp
 |cons h _ ih=>
  intro p hp;rcases D2.mp hp with e|e
  ·rw[e];exact h
  ·exact ih p e
theorem xq {X:Cx} {scope:Scope} {cl:List (Str×Addr)} {own:Str} {ys:GO} {js:List Nat} (a:lD X scope ys js) (s:q8 X cl) (nd:(own::ys).Nodup) (len:js.length=ys.length) (clos:closureFor scope X.env=pure cl) (nocell:(scope.names.all fun p=> !(p.2== .cell))=true) (kind:scope.kind= .function)
  (loc:(scope.names.all fun p=> !(p.2== .local)||scope.names.lookup p.1==some .local)=true) (ownL:scope.names.lookup own=some .local) (has:((relabel scope X.env).names.all fun p=> !(p.2== .cell||p.2== .free)||(cl.lookup p.1).isSome)=true) (noown:cl.lookup own=none):lC X scope cl own ys js:=
 ⟨clos,nocell,kind,loc,ownL,s.all,has,noown,nd,a,len⟩
structure mT (P:Program) (w:World) (K:D3) (mg:GL) (base:Heap) (CX:oC) (k:Nat) (f:Addr) (ps:GO) (dvs:List V) (sp:Sp) where
 fd:FuncData
 ok:bh P w K mg base CX k f fd ps sp
 b:Binds K fd ps []
 bd:∃ds,Binds K fd ps ds/\bn dvs ds
def xr (K:D3) (m:Str) (f:Addr) (sp:Sp) (dvs:List V) (ta:TE) (t:TA):TE:=fun σ H Q=>ta σ H fun x H1=>∃a C dx fs,x= .ref a/\H1 a=some (.ins C dx fs)/\jL K C/\mC K C m f/\fs.lookup m=none/\
 t σ H1 fun vs H2=>sp (x::(vs++dvs)) H2 Q E0
structure xv (K:D3) (C:Addr) (m:Str) (f:Addr):Prop where
 sp:PySem.W.specialIn K (.ref C) "__getattribute__" =some (some (.builtin "type.__getattribute__"))
 rd:PySem.W.readsIn K C (.type "type")=true
 fc:PySem.W.findCls K (.ref C) (.type "type") m=some (.val (.ref f))
 kp:E4 K (.ref f)=true
section
variable {X:Cx} {k j:Nat} {f C:Addr} {ps:GO} {sp:Sp} {dvs:List V} {x m:Str} {p pos apos:Pos} {e o:Expr} {es:List Expr} {ta tb:TE} {t:TA}
theorem xw (M:Mk X.K C f) (D:mT X.prog X.w X.K X.mg X.base bi k f ps dvs sp) (hr:cx j X.A) (hk:k+1<=j) (hg:Gl X x) (hm:X.mg x=some (.ref C)) (ha:PA X (e::es) t) (hdb:(x==("__debug__" :Str))=false:=by decide)
  (he:starEach (e::es) X.env=(false,eval e X.env)::starEach es X.env:=by rfl) (hpl:(backTo pos (starEach es X.env)).any (·.1)=false:=by rfl):PE X (.Call (.Name x p) (e::es) [] pos) (sh C sp [] E0 t):=
 pR M D.ok (hr.mono hk) hg hm D.b .nil mH ha hdb he hpl
theorem lE (M:Mk X.K C f) (D:mT X.prog X.w X.K X.mg X.base bi k f ps dvs sp) (hr:cx j X.A) (hk:k+1<=j) (hg:Gl X x) (hm:X.mg x=some (.ref C)) (ha:PA X (e::es) t) (hdb:(x==("__debug__" :Str))=false:=by decide)
  (he:starEach (e::es) X.env=(false,eval e X.env)::starEach es X.env:=by rfl) (hpl:(backTo pos (starEach es X.env)).any (·.1)=false:=by rfl):PE X (.Call (.Name x p) (e::es) [] pos) (sh C sp dvs E0 t):=by
 obtain ⟨ds,hb,hv⟩:=D.bd;exact pR M D.ok (hr.mono hk) hg hm hb hv mH ha hdb he hpl
theorem iB {pl:Sem Bool} (he:PE X o ta) (D:mT X.prog X.w X.K X.mg X.base bi k f ps dvs sp) (hr:cx j X.A) (hk:k<=j)
  (ht:eval (.Call (.Attribute o m apos) [] [] pos) X.env=(do
   let ov<-eval o X.env
   standAt apos.atName
   let (f,first)<-holding [ov] (getMethod ov m pl)
   callWith pos f first (backTo pos (starEach [] X.env)) (backToKw pos (keywordEach [] X.env))):=by rfl):
  PE X (.Call (.Attribute o m apos) [] [] pos) (xr X.K m f sp [] ta uN):=by
 intro pins s σ H Q I h;refine PySem.W.methodCall_KW (pl:=pl) (b7 (he pins s σ H _ I h) fun u s1 ⟨x,H1,I1,rx,a,C,dx,fs,ex,ea,c,hm,l,q⟩=>?_) ht
 subst ex;obtain rfl:u=Value.ref a:=rx;refine ow I1 ea c hm l ?_;exact PySem.W.callWith_K0 (first:= [.ref a]) I1.kIn hm.kp (oF (us:= [.ref a]) (vs:= [.ref a]) D.ok (hr.mono hk) D.b .nil mH I1 (.cons rfl .nil) q)
theorem zU {pl:Sem Bool} (M:xv X.K C m f) (D:mT X.prog X.w X.K X.mg X.base bi k f ps dvs sp) (hr:cx j X.A) (hk:k<=j) (hg:Gl X x) (hm:X.mg x=some (.ref C)) (ha:PA X (e::es) t) (hdb:(x==("__debug__" :Str))=false:=by decide)
  (hst:starEach (e::es) X.env=(false,eval e X.env)::starEach es X.env:=by rfl) (hpl:(backTo pos (starEach es X.env)).any (·.1)=false:=by rfl)
  (ht:eval (.Call (.Attribute (.Name x p) m apos) (e::es) [] pos) X.env=(do
   let ov<-eval (.Name x p) X.env
   standAt apos.atName
   let (f,first)<-holding [ov] (getMethod ov m pl)
   callWith pos f first (backTo pos (starEach (e::es) X.env)) (backToKw pos (keywordEach [] X.env))):=by rfl):
  PE X (.Call (.Attribute (.Name x p) m apos) (e::es) [] pos) (mD sp [] E0 t):=by
 intro pins s σ H Q I h;refine PySem.W.methodCall_KW (pl:=pl) (eZ I hg hm ?_ hdb) ht;refine PySem.W.method_cls I.kIn M.sp (PySem.W.cls_value I.kIn M.rd M.fc rfl ?_);have I1:=I.tok (s.toks+1);refine PySem.W.callWith_K (first:= []) (h₀:=X.base) I.ok.mod.kin M.kp (b7 (ha pos pins _ σ H _ I1 h) fun us s2 ⟨vs,H2,I2,r,q2⟩=>⟨I2.kIn,?_⟩) hst hpl
 exact oF D.ok (hr.mono hk) D.b .nil mH I2 r q2
theorem fX {e:Expr} (h1:PE X e ta) (h2:PE X e tb):PE X e (fun σ H Q=>ta σ H Q∨tb σ H Q):=fun pins s σ H Q I h=>h.elim (h1 pins s σ H Q I) (h2 pins s σ H Q I)
end
end Sw
namespace L2
open PySem PySem.Spec PyProof.Rows
section
variable {X:Cx} {pins:GM} {σ:St} {H:Hp} {s:Shared} {h':Heap}
theorem aP.turnedNew {ch:GP} {T:Addr} {o:HO} {t':Nat} (I:aP X pins σ H s) (hf:∀b∈ch,fH X pins H b) (k:∀b u,b∉ch->s.heap.get? b=some u->h'.get? b=some u) (hp:s.heap.objs.size<=T) (new:cn X.prog X.w (aO H T o) h' T o):
  aP X pins σ (aO H T o) {s with heap:=h',toks:=t'}:=by
 have nT:H T=none:=I.hok.fresh hp;have ne:∀b u,H b=some u->b≠T:=fun b u e z=>by rw[z,nT] at e;cases e
 have nch:∀b u,H b=some u->b∉ch:=fun b u e z=>by rw[(hf b z).1] at e;cases e
 have up:∀b u,H b=some u->aO H T o b=some u:=fun b u e=>by rw[aB (ne b u e)];exact e
 refine I.step (g':=s.gens) (d':=s.drawn) (ch:=ch) (fun b hb=>?_) (fun b u _ _ hc e _=>k b u hc e) (fun b u _ _ hc e _=>⟨u.slots,k b u hc e⟩) (fun b u _ e n=>?_)
  (fun b u hc e=>⟨u,k b u hc e⟩) (fun b xs e=>up b _ e) (fun b u v e=>up b _ e) (fun b ps e=>⟨#[],by rw[up b _ e];simp⟩) (fun m hm=>?_) (fun b u e=>?_) I.bare
 ·obtain ⟨f0,f1,f2,f3,f4,f5⟩:=hf b hb;exact ⟨f3,f1,f4,f5⟩
 ·have:b≠T:=DW (DT (Heap.lt_size e) hp);rw[aB this];exact n
 ·obtain ⟨u,es,ep,ho,r⟩:=hm;exact ⟨u,es,ep,k _ u (fun z=>(hf _ z).2.1 rfl) ho,r⟩
 ·by_cases c:b=T
  ·subst c;rw[af] at e;cases e;exact new
  ·rw[aB c] at e;refine (I.hok b u e).stay (fun c' v hc q=>k c' v ?_ q) (fun _ q=>up _ _ q) fun _ _ q=>up _ _ q
   rcases hc with z|z
   ·rw[z];exact nch b u e
   ·exact nch c' _ z
theorem aP.turnedAll {ch:GP} {t':Nat} (I:aP X pins σ H s) (hf:∀b∈ch,fH X pins H b) (k:∀b u,b∉ch->s.heap.get? b=some u->h'.get? b=some u):aP X pins σ H {s with heap:=h',toks:=t'}:=by
 have nch:∀b u,H b=some u->b∉ch:=fun b u e z=>by rw[(hf b z).1] at e;cases e
 refine I.step (g':=s.gens) (d':=s.drawn) (ch:=ch) (fun b hb=>?_) (fun b u _ _ hc e _=>k b u hc e) (fun b u _ _ hc e _=>⟨u.slots,k b u hc e⟩) (fun b u _ e n=>n)
  (fun b u hc e=>⟨u,k b u hc e⟩) (fun b xs e=>e) (fun b u v e=>e) (fun b ps e=>⟨#[],by rw[e];simp⟩) (fun m hm=>?_) (fun b u e=>?_) I.bare
 ·obtain ⟨f0,f1,f2,f3,f4,f5⟩:=hf b hb;exact ⟨f3,f1,f4,f5⟩
 ·obtain ⟨u,es,ep,ho,r⟩:=hm;exact ⟨u,es,ep,k _ u (fun z=>(hf _ z).2.1 rfl) ho,r⟩
 ·refine (I.hok b u e).stay (fun c' v hc q=>k c' v ?_ q) (fun _ q=>q) fun _ _ q=>q
  rcases hc with z|z
  ·rw[z];exact nch b u e
  ·exact nch c' _ z
end
def zV (K:D3) (l:Addr):It:=
 ⟨fun i H=>∃xs x,aE K H l xs/\xs[i]?=some x,fun i H v H'=>∃(T:Addr) (x:V),v= .ref T/\H T=none/\(∀xs,aE K H l xs->xs[i]?=some x)/\H'=aO H T (.tup [.int i,x]),fun i H=>∃xs,aE K H l xs/\xs.length<=i⟩
theorem q9 {P:Program} {w:World} {K:D3} {elts:List Expr} {k:Nat} {pos:Pos} (l e it:Addr) (ne:e≠it):Turn P w K (.Tuple elts k pos) (zV K l) [e,it] e (fun i h=>(∃old,IsEnum h e it i old)/\h.IsListIter it l i) where
 mem:=by simp
 obj:=fun i h st b hb=>by
  obtain ⟨⟨old,he⟩,o,e1,c,d⟩:=st;rcases D2.mp hb with z|z
  ·subst z;exact ⟨_,he,fun v z=>by cases z⟩
  ·rw[D8.mp z];exact ⟨o,e1,fun v z=>by rw[d] at z;cases z⟩
 keep:=fun i h h' st k=>⟨let ⟨old,he⟩:=st.1;⟨old,k e (by simp) _ he⟩,st.2.at fun o q=>k it (by simp) o q⟩
 item:=by
  intro X hP hw hK hc i pins s σ H E I hf st hg;subst hP hw hK;obtain ⟨xs,x,hq,hx⟩:=hg;obtain ⟨its,rv,p,hz⟩:=I.list hq;obtain ⟨u,hu,ru⟩:=rv.get hx;obtain ⟨⟨old,he⟩,hit⟩:=st;refine wpAny_pyNext_enum_item he hit p.isList (x:=u) (by simpa using hu) ne fun h1 ho hit' hT hsz hk=>?_
  refine ⟨_,rfl,wpAny_letOwnedTupleGo_enum (s:={s with heap:=h1,toks:=s.toks+1}) ho fun h2 he2 hs2=>?_⟩
  have nT:H s.heap.objs.size=none:=I.hok.fresh (D9 _);have el:e<s.heap.objs.size:=Heap.lt_size he;have il:it<s.heap.objs.size:=by obtain ⟨_,q,_⟩:=hit;exact Heap.lt_size q
  have hT2:h2.get? s.heap.objs.size=some {cls:= .type "tuple",data:= .seq #[.int i s.toks,u]}:=(hs2.2 _ (EG el)).trans hT;have kp:∀b o,b∉ [e,it]->s.heap.get? b=some o->h2.get? b=some o:=fun b o hb q=>by
   simp at hb;exact (hs2.2 b hb.1).trans (hk b o hb.1 hb.2 q)
  refine ⟨.ref s.heap.objs.size,aO H s.heap.objs.size (.tup [.int i,x]),I.turnedNew (t':=s.toks+1) (ch:= [e,it]) hf kp (D9 _) ⟨by show 2<=sizeLine;decide,[.int i s.toks,u],.cons ⟨_,rfl⟩ (.cons ru .nil),⟨_,hT2,rfl,0,rfl⟩⟩,rfl,
   ⟨_,x,rfl,nT,fun ys hy=>by rw[I.list_inj hy hq];exact hx,rfl⟩,⟨⟨u,?_⟩,?_⟩,fun b hb=>?_⟩
  ·simpa using he2
  ·exact hit'.at fun o q=>(hs2.2 it (Ne.symm ne)).trans q
  ·have bl:b≠s.heap.objs.size:=by
    rcases D2.mp hb with z|z
    ·rw[z];exact DW el
    ·rw[D8.mp z];exact DW il
   rw[aB bl];exact (hf b hb).1
 done:=by
  intro X hP hw hK hc i pins s σ H E I hf st hg;subst hP hw hK;obtain ⟨xs,hq,hx⟩:=hg;obtain ⟨its,rv,p,hz⟩:=I.list hq;obtain ⟨⟨old,he⟩,hit⟩:=st;have hl:=rv.length;exact wpAny_pyNext_enum_end (I.ok.hd hc) he hit p.isList (by simp;omega) fun h' eb=>⟨rfl,I.turnedAll (t':=s.toks) (ch:= [e,it]) hf fun b o hb q=>eb b o (fun z=>hb (by simp[z])) q⟩
 self:=fun _ _ _ _ _ st h=>let ⟨_,he⟩:=st.1;wpAny_pyIter_enum he h
def zW (K:D3) (ta:TA):TI:=fun σ H R=>ta σ H fun vs H1=>∃l:Addr,vs= [.ref l]/\(∃xs,aE K H1 l xs)/\R (zV K l) H1
theorem boot_enumerate:bootBuiltins "enumerate" =some (.type "enumerate"):=by kernel_rfl
theorem vm {X:Cx} {a:Expr} {ta:TA} {elts:List Expr} {k:Nat} {tp p pos:Pos} (hg:Gl X "enumerate") (hm:X.mg "enumerate" =none) (ha:PA X [a] ta) (hs:starEach [a] X.env= [(false,eval a X.env)]:=by rfl):PI X (.Tuple elts k tp) (.Call (.Name "enumerate" p) [a] [] pos) (zW X.K ta):=by
 intro pins s σ H R I h;refine Call_ (fF I hg hm boot_enumerate (EE (b7 (ha pos pins s σ H _ I h) fun us s1 ⟨vs,H1,I1,r1,q1⟩=>?_) hs rfl))
 obtain ⟨l,e,⟨xs,hq⟩,q⟩:=q1;subst e;cases r1 with
 |cons r rr=>
  cases rr;cases r;obtain ⟨its,rv,p1,hz⟩:=I1.list hq;refine call_enumerate_list p1.isList fun h' he hit hsz hk=>?_
  refine wpAny_pyIter_enum (s:={s1 with heap:=h'}) he ?_
  have I2:aP X pins σ H1 {s1 with heap:=h'}:=I1.kept (t':=s1.toks) hk
  refine ⟨s1.heap.objs.size+1,[s1.heap.objs.size+1,s1.heap.objs.size],_,_,H1,rfl,I2,q9 l _ _ (Nat.succ_ne_self _),⟨⟨_,by simpa using he⟩,hit⟩,fun b hb=>?_,q⟩
  have bl:s1.heap.objs.size<=b:=by
   rcases D2.mp hb with z|z
   ·rw[z];exact Nat.le_succ _
   ·rw[D8.mp z];exact D9 _
  exact I1.fpOk bl (I1.hok.fresh bl)
theorem sS {K:D3} {a:Addr} {xs:List V} {g:TG} {tb:TS} {D:Ends} {σ:St} {H:Hp} (Pv:Nat->St->Hp->Prop) (h0:Pv 0 σ H) (hl:∀i σ H,i<=xs.length->Pv i σ H->aE K H a xs)
  (hs:∀i x σ H (T:Addr),xs[i]?=some x->Pv i σ H->H T=none->g (.ref T) σ (aO H T (.tup [.int i,x])) fun σ2 H2=>tb {D with nx:=Pv (i+1),ct:=Pv (i+1),bk:=D.nx} σ2 H2) (hd:∀σ H,Pv xs.length σ H->D.nx σ H):
  ∃W:Nat->Nat->St->Hp->Prop,(∃m,W 0 m σ H)/\∀i m σ H,W i m σ H->
   ((zV K a).stop i H/\D.nx σ H)∨((zV K a).go i H/\∃N:St->Hp->Prop,(∀σ' H',N σ' H'->∃m',m'<m/\W (i+1) m' σ' H')/\∀x H',(zV K a).yld i H x H'->g x σ H' fun σ2 H2=>tb {D with nx:=N,ct:=N,bk:=D.nx} σ2 H2):=by
 refine ⟨fun i m σ H=>m=xs.length-i/\i<=xs.length/\Pv i σ H,⟨xs.length,by simp,E1 _,h0⟩,?_⟩
 rintro i m σ H ⟨rfl,hi,p⟩;have q:=hl i σ H hi p
 by_cases hlt:i<xs.length
 ·refine .inr ⟨⟨xs,xs[i],q,by simp[hlt]⟩,Pv (i+1),fun σ' H' p'=>⟨xs.length-(i+1),by omega,rfl,hlt,p'⟩,fun x H' y=>?_⟩
  obtain ⟨T,z,rfl,nT,hz,rfl⟩:=y;exact hs i z σ H T (hz xs q) p nT
 ·have e:i=xs.length:=by omega
  subst e;exact .inl ⟨⟨xs,q,D9 _⟩,hd σ H p⟩
theorem gU {h:Heap} {l b:Addr} {its:Array Value} {o:Obj} {n:String} (hl:h.IsList l its) (e:h.get? b=some o) (c:o.cls= .type n) (ne:n≠ "list"):l≠b:=fun z=>by
 obtain ⟨o',e',c',_⟩:=hl;rw[z,e] at e';cases e';rw[c] at c';injection c' with c'
 exact ne c'
theorem xx (n:Nat): [n+4,n+2,n+3,n,n+1].Nodup:=by
 simp
theorem boot_zip:bootBuiltins "zip" =some (.type "zip"):=by kernel_rfl
open XH
def zX (x:Str):It:=⟨fun i _=>i<x.cps.size,fun i H v H'=>H'=H/\∃c,x.cps[i]?=some c/\v= .str ⟨#[c]⟩,fun i _=>i=x.cps.size⟩
theorem sT {P:Program} {w:World} {K:D3} {tg:Expr} {ty:String} (hty:ty= "str_ascii_iterator" ∨ty= "str_iterator") (it:Addr) (x:Str) (t:Tok):Turn P w K tg (zX x) [it] it (fun i h=>h.IsStrIter it ty x t i) where
 mem:=by simp
 obj:=fun i h st b hb=>by
  have e:b=it:=by simpa using hb
  subst e;obtain ⟨o,e,c,d⟩:=st;exact ⟨o,e,fun v z=>by rw[d] at z;cases z⟩
 keep:=fun i h h' st k=>by
  obtain ⟨o,e,c,d⟩:=st;exact ⟨o,k it (by simp) o e,c,d⟩
 item:=by
  intro X hP hw hK hc i pins s σ H E I hf st hg;subst hP hw hK;obtain ⟨f0,f1,f2,f3,f4,f5⟩:=hf it (by simp)
  have W:Walks X.prog X.w X.A it [it] [it] x.cps.size (SignAt x) (fun i h=>h.IsStrIter it ty x t i):=by
   rcases hty with rfl|rfl
   ·exact Walks.strAscii (I.ok.hd hc) it x t
   ·exact Walks.strWide (I.ok.hd hc) it x t
  refine W.item i s _ _ hg st fun v h' tk hv st' kk=>?_
  obtain ⟨c,u,hc',rfl⟩:=hv;have I1:aP X pins σ H {s with heap:=h',toks:=tk}:=I.turned (fun b o hb e=>kk b o (by simpa using hb) e) f0 f1 f3 f4 f5
  obtain ⟨o,e,c1,d1⟩:=id st';refine ⟨_,rfl,pN (s:={s with heap:=h',toks:=tk}) (n:=ty) e c1 d1 (by rcases hty with rfl|rfl<;>decide) ⟨.str ⟨#[c]⟩,H,I1,⟨u,rfl⟩,⟨rfl,c,hc',rfl⟩,st',fun b hb=>(hf b hb).1⟩⟩
 done:=by
  intro X hP hw hK hc i pins s σ H E I hf st hg;subst hP hw hK;obtain ⟨f0,f1,f2,f3,f4,f5⟩:=hf it (by simp)
  have W:Walks X.prog X.w X.A it [it] [it] x.cps.size (SignAt x) (fun i h=>h.IsStrIter it ty x t i):=by
   rcases hty with rfl|rfl
   ·exact Walks.strAscii (I.ok.hd hc) it x t
   ·exact Walks.strWide (I.ok.hd hc) it x t
  have hg':i=x.cps.size:=hg;subst hg';exact W.done s _ _ st fun h' tk kk=>⟨rfl,I.turned (fun b o hb e=>kk b o (by simpa using hb) e) f0 f1 f3 f4 f5⟩
 self:=fun _ _ _ _ _ st h=>by
  rcases hty with rfl|rfl
  ·exact wpAny_pyIter_striter_ascii st h
  ·exact wpAny_pyIter_striter_wide st h
def B1 (tl:TE):TI:=fun σ H R=>tl σ H fun x H1=>∃z,x= .str z/\R (zX z) H1
variable {X:Cx} {tg:Expr}
theorem sU {l:Expr} {tl:TE} (hl:PE X l tl):PI X tg l (B1 tl):=by
 intro pins s σ H R I h;refine b7 (hl pins s σ H _ I h) fun v s1 ⟨x,H1,I1,r1,q1⟩=>?_
 obtain ⟨z,rfl,q⟩:=q1;obtain ⟨t,rfl⟩:=r1;have fin:∀{ty:String} {o:Obj},(ty= "str_ascii_iterator" ∨ty= "str_iterator")->(s1.heap.push o).IsStrIter s1.heap.objs.size ty z t 0->BO X pins σ tg R (.ref s1.heap.objs.size) {s1 with heap:=s1.heap.push o}:=fun {ty o} hty st=>by
  refine ⟨s1.heap.objs.size,[s1.heap.objs.size],_,_,H1,rfl,I1.kept (t':=s1.toks) fun b o e=>Heap.get?_push_of_some _ e,sT hty _ z t,st,fun b hb=>?_,q⟩
  have e:b=s1.heap.objs.size:=by simpa using hb
  subst e;exact I1.fpOk (D9 _) (I1.hok.fresh (D9 _))
 cases ha:z.cps.all (· <128)
 ·exact wpAny_pyIter_wide ha (fin (.inr rfl) ⟨_,Heap.get?_push_size _ rfl,rfl,rfl⟩)
 ·exact wpAny_pyIter_ascii ha (fin (.inl rfl) ⟨_,Heap.get?_push_size _ rfl,rfl,rfl⟩)
theorem pY {z:Str} {g:TG} {tb:TS} {D:Ends} {σ:St} {H:Hp} (Pv:Nat->St->Hp->Prop) (h0:Pv 0 σ H)
  (hs:∀i c σ H,z.cps[i]?=some c->Pv i σ H->g (.str ⟨#[c]⟩) σ H fun σ2 H2=>tb {D with nx:=Pv (i+1),ct:=Pv (i+1),bk:=D.nx} σ2 H2) (hd:∀σ H,Pv z.cps.size σ H->D.nx σ H):
  ∃W:Nat->Nat->St->Hp->Prop,(∃m,W 0 m σ H)/\∀i m σ H,W i m σ H->
   ((zX z).stop i H/\D.nx σ H)∨((zX z).go i H/\∃N:St->Hp->Prop,(∀σ' H',N σ' H'->∃m',m'<m/\W (i+1) m' σ' H')/\∀x H',(zX z).yld i H x H'->g x σ H' fun σ2 H2=>tb {D with nx:=N,ct:=N,bk:=D.nx} σ2 H2):=by
 refine ⟨fun i m σ H=>m=z.cps.size-i/\i<=z.cps.size/\Pv i σ H,⟨z.cps.size,by simp,E1 _,h0⟩,?_⟩
 rintro i m σ H ⟨rfl,hi,p⟩
 by_cases hlt:i<z.cps.size
 ·refine .inr ⟨hlt,Pv (i+1),fun σ' H' p'=>⟨z.cps.size-(i+1),by omega,rfl,hlt,p'⟩,fun x H' y=>?_⟩
  obtain ⟨e,c,hc,rfl⟩:=y;subst e;exact hs i c σ _ hc p
 ·have e:i=z.cps.size:=by omega
  subst e;exact .inl ⟨rfl,hd σ H p⟩
def gB (x:Str) (lo hi:Option Int):Str:=⟨((x.cps.toList.drop (HT.c6 x.length 0 lo)).take (HT.c6 x.length x.length hi-HT.c6 x.length 0 lo)).toArray⟩
theorem zY (lo hi:Option Int) (n:Nat):Builtin.Str.strSliceIndices lo hi 1 n=(EA (HT.c6 n n hi-HT.c6 n 0 lo)).map (HT.c6 n 0 lo+ ·):=by
 have h1:(match lo with|none=>(0:Int)|some i=>max 0 (min (if i<0 then i+(n:Int) else i) n))=((HT.c6 n 0 lo:Nat):Int):=by
  cases lo with
  |none=>simp[HT.c6]
  |some i=>
   simp only[HT.c6]
   by_cases h:i<0
   ·simp only[h,if_true]<;>omega
   ·simp only[h,if_false]<;>omega
 have h2:(match hi with|none=>(n:Int)|some i=>max 0 (min (if i<0 then i+(n:Int) else i) n))=((HT.c6 n n hi:Nat):Int):=by
  cases hi with
  |none=>simp[HT.c6]
  |some i=>
   simp only[HT.c6]
   by_cases h:i<0
   ·simp only[h,if_true]<;>omega
   ·simp only[h,if_false]<;>omega
 rw[<-sliceRange_one,<-h1,<-h2];cases lo<;>cases hi<;>rfl
theorem mU (x:Str) (l u:Option (Int×Tok)):(⟨((slicePicked x l u none).filterMap (x.cps[·]?)).toArray⟩:Str)=gB x (l.map (·.1)) (u.map (·.1)):=by
 show (⟨((Builtin.Str.strSliceIndices (l.map (·.1)) (u.map (·.1)) 1 x.length).filterMap (x.cps[·]?)).toArray⟩:Str)=_;rw[zY,pick_run]
 rfl
theorem fK (x:Str) (lo hi:Option Int):(gB x lo hi).length<=x.length:=by
 show ((x.cps.toList.drop _).take _).toArray.size<=x.cps.size;rw[DK,DX,Ds];simp only[EX];omega
theorem oP (x:Str) (l u:Option (Int×Tok)) (h:(slicePicked x l u none).length=x.length):gB x (l.map (·.1)) (u.map (·.1))=x:=by
 have h':(Builtin.Str.strSliceIndices (l.map (·.1)) (u.map (·.1)) 1 x.length).length=x.length:=h;rw[zY,D4,List.length_range] at h';have hs:HT.c6 x.length x.length (u.map (·.1))<=x.length∨x.length<HT.c6 x.length x.length (u.map (·.1)):=by omega
 have hu:HT.c6 x.length x.length (u.map (·.1))<=x.length:=by
  cases u with
  |none=>exact D9 _
  |some p=>
   show (if p.1<0 then (p.1+(x.length:Int)).toNat else min p.1.toNat x.length)<=x.length
   by_cases hp:p.1<0
   ·rw[if_pos hp];omega
   ·rw[if_neg hp];omega
 unfold gB
 by_cases hx:x.length=0
 ·have e:x.cps.toList= []:=by
   have:x.cps.toList.length=0:=by rw[EX];exact hx
   exact List.eq_nil_of_length_eq_zero this
  rw[e,List.drop_nil,List.take_nil];obtain ⟨c⟩:=x;have e':c= #[]:=Array.toList_inj.mp (by simpa using e)
  rw[e']
 ·have h0:HT.c6 x.length 0 (l.map (·.1))=0:=by omega
  rw[h0,List.drop_zero,EN (by rw[EX];show x.length<=_;omega)]
theorem part_of {v:Value} {o:Option Int} (p:IsPart v o):∃l:Option (Int×Tok),partValue l=v/\l.map (·.1)=o:=by
 cases p with
 |none=>exact ⟨none,rfl,rfl⟩
 |int i t=>exact ⟨some (i,t),rfl,rfl⟩
theorem oQ {X:Cx}:BU X (fun x lo hi H Q=>∃z,x= .str z/\z.length<=sizeLine/\Q (.str (gB z lo hi)) H):=by
 intro pins s σ H x v vl vu lo hi sl Q I rx hs pl pu h;obtain ⟨z,rfl,hz,q⟩:=h;obtain ⟨t,rfl⟩:=rx;obtain ⟨l,rfl,rfl⟩:=part_of pl;obtain ⟨u,rfl,rfl⟩:=part_of pu;refine ⟨"str",_,slot_str_getitem.lookup,typeIs_str s z t,?_⟩;refine wpAny_getItem_str_slice (l:=l) (u:=u) (st:=none) hs rfl ?_;unfold sliceMade
 by_cases hw:(slicePicked z l u none).length=z.length
 ·rw[if_pos (by simp[hw])]
  refine ⟨.str (gB z (l.map (·.1)) (u.map (·.1))),H,I,⟨t,by rw[oP z l u hw]⟩,q⟩
 ·rw[if_neg (by simp[hw])]
  rw[mU];exact ⟨DU (fK _ _ _) hz,.str (gB z (l.map (·.1)) (u.map (·.1))),H,I.tok _,⟨_,rfl⟩,q⟩
open Builtin.Str in
def pZ (z y:Str):List V:=match occurrences z y 0 z.length 1 with
 |i::_=> [.str (strSub z 0 i),.str y,.str (strSub z (i+y.length) z.length)]
 | []=> [.str z,.str Str.empty,.str Str.empty]
theorem gW {X:Cx}:Bt X "str.partition" (fun x vs H Q=>∃z y,x= .str z/\vs= [.str y]/\y.length≠0/\z.length<=sizeLine/\∀p,H p=none->Q (.ref p) (aO H p (.tup (pZ z y)))):=by
 intro pins s σ H x vs v us Q I rx rv h;obtain ⟨z,y,rfl,rfl,hy,hz,q⟩:=h;obtain ⟨t,rfl⟩:=rx;cases rv with
 |cons r rr=>
  cases rr;obtain ⟨u,rfl⟩:=r;refine call_meets F.slot_str_partition (typeIs_str s z t) F.entry_str_partition (F.args_str_partition_2 _ _) (meets_str_partition z y t u (by simpa using hy) hz) ?_
  have q':=q s.heap.objs.size (I.hok.fresh (D9 _));unfold pZ at q';cases ho:Builtin.Str.occurrences z y 0 z.length 1 with
  |nil=>
   rw[ho] at q';refine ⟨.ref s.heap.objs.size,_,I.laid (t':=s.toks+1) (fun b ob e=>Heap.get?_push_of_some _ e) (D9 _) ?_,rfl,q'⟩
   exact ⟨by show 3<=sizeLine;decide,_,.cons ⟨_,rfl⟩ (.cons ⟨_,rfl⟩ (.cons ⟨_,rfl⟩ .nil)),_,Heap.get?_push_size _ rfl,rfl,0,rfl⟩
  |cons i r=>
   rw[ho] at q';refine ⟨.ref s.heap.objs.size,_,I.laid (t':=s.toks+1+1) (fun b ob e=>Heap.get?_push_of_some _ e) (D9 _) ?_,rfl,q'⟩
   exact ⟨by show 3<=sizeLine;decide,_,.cons ⟨_,rfl⟩ (.cons ⟨_,rfl⟩ (.cons ⟨_,rfl⟩ .nil)),_,Heap.get?_push_size _ rfl,rfl,0,rfl⟩
end L2
namespace Sw
open PySem PySem.NumText
def dg (n:Nat):List Nat:=(Nat.toDigits 10 n).map Char.toNat
theorem oR (n:Nat):digitsVal (dg n)=n:=PySem.W.KIN.val_back n
theorem eA {n:Nat} (h:n<10):dg n= [48+n]:=by
 unfold dg;rw[Nat.toDigits_of_lt_base h]
 revert h
 revert n
 decide
theorem lF {n:Nat} (h:10<=n):dg n=dg (n/10)++ [48+n % 10]:=by
 have hm:n % 10<10:=Nat.mod_lt _ (by decide)
 rw[<-eA hm];unfold dg;rw[<-DQ,Nat.toDigits_append_toDigits (by decide) (by omega) hm,Nat.div_add_mod]
theorem eB (n:Nat):AllDigits (dg n):=by
 induction n using Nat.strongRecOn with
 |_ n ih=>
  by_cases h:n<10
  ·rw[eA h];intro c hc;simp at hc;omega
  ·rw[lF (by omega)]
   intro c hc;rcases DC.mp hc with z|z
   ·exact ih (n/10) (by omega) c z
   ·simp at z;omega
theorem p6 (n:Nat):dg n≠ []:=by
 by_cases h:n<10
 ·rw[eA h];simp
 ·rw[lF (by omega)];simp
theorem p7 (n:Nat):(dg n).head?=some 48->n=0:=by
 induction n using Nat.strongRecOn with
 |_ n ih=>
  intro e
  by_cases h:n<10
  ·rw[eA h] at e;simp at e;exact e
  ·rw[lF (by omega),List.head?_append] at e
   cases q:(dg (n/10)).head? with
   |none=>exact absurd (List.head?_eq_none_iff.mp q) (p6 _)
   |some c=>
    rw[q] at e;simp at e;subst e;have:=ih (n/10) (by omega) q
    omega
theorem lG:dg 0= [48]:=eA (by decide)
theorem sV:dg 1= [49]:=eA (by decide)
theorem cV {n:Nat}:∀{k:Nat},n<10^(k+1)->(dg n).length<=k+1:=by
 induction n using Nat.strongRecOn with
 |_ n ih=>
  intro k hk
  by_cases h:n<10
  ·rw[eA h];simp
  ·rw[lF (by omega),DB]
   cases k with
   |zero=>omega
   |succ k=>
    have h1:n/10<10^(k+1):=by
     rw[Nat.pow_succ 10 (k+1)] at hk;generalize 10^(k+1)=m at*;omega
    have:=ih (n/10) (by omega) h1
    simp;omega
theorem zZ {l:List Nat} (h:AllDigits l) (ne:l≠ []) (hd:l.head?≠some 48∨l= [48]):dg (digitsVal l)=l:=by
 rcases hd with hd|hd
 ·cases l with
  |nil=>exact absurd rfl ne
  |cons c r=>
   have hc:=h.head;have c9:49<=c:=by
    simp at hd;omega
   unfold dg;rw[toDigits_digitsVal r.length (c::r) rfl h (.inr ⟨c,r,rfl,c9⟩),EV];refine (EZ fun x hx=>?_).trans (List.map_id _)
   have hx':=h x hx;have:∀y,y<58->(Char.ofNat y).toNat=y:=by decide
   exact this x (by omega)
 ·subst hd;exact lG
theorem fL {n c:Nat} (h:c<48):c∉dg n:=fun z=>by have:=(eB n c z).1;omega
def vn (l:List Nat):Prop:=1<=l.length/\l.length<=30/\(l.head?≠some 48∨l= [48])/\AllDigits l
open Classical in
noncomputable def de (l:List Nat):Option Nat:=if vn l then some (digitsVal l) else none
theorem jd {l:List Nat} {n:Nat} (h:de l=some n):l=dg n/\(dg n).length<=30:=by
 unfold de at h
 split at h
 ·rename_i f;obtain ⟨h1,h2,h3,h4⟩:=f;have e:dg (digitsVal l)=l:=zZ h4 (fun z=>by rw[z] at h1;simp at h1) h3
  cases h;rw[e];exact ⟨rfl,h2⟩
 ·cases h
theorem eD {n:Nat} (h:(dg n).length<=30):de (dg n)=some n:=by
 unfold de;rw[if_pos,oR];refine ⟨?_,h,?_,eB n⟩
 ·have:=p6 n;cases q:dg n with
  |nil=>exact absurd q this
  |cons=>simp
 ·by_cases z:(dg n).head?=some 48
  ·exact .inr (by rw[p7 n z];exact lG)
  ·exact .inl z
theorem eQ {n:Nat} (h:30<(dg n).length):de (dg n)=none:=by
 unfold de;rw[if_neg];rintro ⟨_,h2,_⟩;omega
theorem oS {l:List Nat} (h:vn l):de l=some (digitsVal l):=if_pos h
theorem fY {l:List Nat} (h:¬vn l):de l=none:=if_neg h
theorem iC {l:List Nat} {n:Nat} (h:de l=some n):n<10^30:=by
 obtain ⟨e,hl⟩:=jd h;rw[<-oR n];have gen:∀(l:List Nat) (a:Nat),AllDigits l->l.foldl (fun acc c=>acc*10+(c-48)) a<(a+1)*10^l.length:=by
  intro l
  induction l with
  |nil=>intro a _;simp
  |cons c l ih=>
   intro a h;have h1:=ih (a*10+(c-48)) h.tail;have h2:=h.head;rw[List.foldl_cons,DD,Nat.pow_succ];refine DT h1 ?_;rw[Nat.mul_comm (10^l.length) 10,<-Nat.mul_assoc];exact Nat.mul_le_mul_right _ (by omega)
 have g:=gen _ 0 (eB n);rw[Nat.zero_add,Nat.one_mul] at g;exact DT g (Nat.pow_le_pow_right (by decide) hl)
def cr (c:Nat) (l:List Nat):List Nat×List Nat:=(l.takeWhile (· !=c),(l.dropWhile (· !=c)).tail)
theorem dU {c:Nat} {a b:List Nat} (h:c∉a):cr c (a++c::b)=(a,b):=by
 unfold cr;have p:∀x∈a,(x !=c)=true:=fun x hx=>by
  rw[bne_iff_ne];exact fun z=>h (z▸hx)
 rw[List.takeWhile_append_of_pos p,List.dropWhile_append_of_pos p];simp
theorem qa {c:Nat}:∀{l:List Nat},c∈l->l=(cr c l).1++c::(cr c l).2/\c∉(cr c l).1:=by
 intro l h;obtain ⟨a,b,e⟩:=List.append_of_mem h
 induction l generalizing a b with
 |nil=>simp at h
 |cons x l ih=>
  by_cases z:x=c
  ·subst z;have:=dU (c:=x) (a:= []) (b:=l) (by simp)
   simp only[Ec] at this;rw[this];simp
  ·have hl:c∈l:=by
    rcases D2.mp h with q|q
    ·exact absurd q.symm z
    ·exact q
   obtain ⟨a',b',e'⟩:=List.append_of_mem hl;obtain ⟨i1,i2⟩:=ih hl a' b' e';have ex:cr c (x::l)=(x::(cr c l).1,(cr c l).2):=by
    unfold cr;rw[List.takeWhile_cons_of_pos (by simpa using z),List.dropWhile_cons_of_pos (by simpa using z)]
   rw[ex];refine ⟨?_,?_⟩
   ·show x::l=x::((cr c l).1++c::(cr c l).2);rw[<-i1]
   ·show c∉x::(cr c l).1;intro q;rcases D2.mp q with q|q
    ·exact z q.symm
    ·exact i2 q
noncomputable def cB (a b:List Nat):Option (Nat×Nat):=match de a,de b with
 |some n,some m=>if m=0 then none else some (n,m)
 |_,_=>none
noncomputable def c7 (l:List Nat):Option (Nat×Nat):=if 47∈l then cB (cr 47 l).1 (cr 47 l).2 else cB l [49]
noncomputable def lH (x y:Option (Nat×Nat)):Option (Nat×Nat):=match x,y with
 |some (n,m),some (n',m')=>some (n*m'+n'*m,m*m')
 |_,_=>none
noncomputable def dz (l:List Nat):Option (Nat×Nat):=if 43∈l then lH (c7 (cr 43 l).1) (c7 (cr 43 l).2) else c7 l
def cO (p q:Nat):List Nat:=if p % q=0 then dg (p/q) else if p/q=0 then dg (p % q)++47::dg q else dg (p/q)++43::(dg (p % q)++47::dg q)
structure Reads (l:List Nat) (p q:Nat):Prop where
 pos:0<q
 low:ED p q=1
 ex:∃n m,dz l=some (n,m)/\p*m=n*q
 wr:cO p q=l
noncomputable def Bw (a:Nat) (r:List Nat):Option (Nat×Nat):=match de (cr 47 r).1,de (cr 47 r).2 with
 |some t,some b=>if t=0∨b<=t∨ED b t≠1 then none else some (a*b+t,b)
 |_,_=>none
noncomputable def vo (l:List Nat):Option (Nat×Nat):=if 43∈l then
    (match de (cr 43 l).1 with
     |some a=>if a=0 then none else if 47∈(cr 43 l).2 then Bw a (cr 43 l).2 else none
     |none=>none)
  else if 47∈l then Bw 0 l else (de l).map fun n=>(n,1)
theorem sW (n:Nat):c7 (dg n)=(de (dg n)).map fun n=>(n,1):=by
 unfold c7;rw[if_neg (fL (by decide))]
 unfold cB;have e:de [49]=some 1:=by rw[<-sV];exact eD (by rw[sV];decide)
 rw[e];cases de (dg n)<;>simp
theorem qb (t b:Nat):c7 (dg t++47::dg b)=cB (dg t) (dg b):=by
 unfold c7;rw[if_pos (by simp),dU (fL (by decide))]
theorem lI (n:Nat):dz (dg n)=(de (dg n)).map fun n=>(n,1):=by
 unfold dz;rw[if_neg (fL (by decide)),sW]
theorem fZ (t b:Nat):43∉dg t++47::dg b:=by
 intro z;rcases DC.mp z with q|q
 ·exact fL (by decide) q
 ·rcases D2.mp q with q|q
  ·cases q
  ·exact fL (by decide) q
theorem je (t b:Nat):dz (dg t++47::dg b)=cB (dg t) (dg b):=by
 unfold dz;rw[if_neg (fZ t b),qb]
theorem iD (w t b:Nat):dz (dg w++43::(dg t++47::dg b))=lH ((de (dg w)).map fun n=>(n,1)) (cB (dg t) (dg b)):=by
 unfold dz;rw[if_pos (by simp),dU (fL (by decide)),sW,qb]
theorem qc {t b:Nat} (ht:(dg t).length<=30) (hb:(dg b).length<=30) (b0:b≠0):cB (dg t) (dg b)=some (t,b):=by
 unfold cB;rw[eD ht,eD hb];simp[b0]
theorem eR {t b:Nat} (h:30<(dg t).length∨30<(dg b).length):cB (dg t) (dg b)=none:=by
 unfold cB;rcases h with h|h
 ·rw[eQ h]
 ·rw[eQ h];cases de (dg t)<;>rfl
theorem kg {t b n m:Nat} (h:cB (dg t) (dg b)=some (n,m)):(dg t).length<=30/\(dg b).length<=30:=by
 by_cases h1:30<(dg t).length
 ·rw[eR (.inl h1)] at h;cases h
 ·by_cases h2:30<(dg b).length
  ·rw[eR (.inr h2)] at h;cases h
  ·omega
theorem wq {a t b:Nat} (ht:(dg t).length<=30) (hb:(dg b).length<=30) (t0:t≠0) (hlt:t<b) (g:ED b t=1):Bw a (dg t++47::dg b)=some (a*b+t,b):=by
 unfold Bw;rw[dU (fL (by decide)),eD ht,eD hb]
 simp only;rw[if_neg];rintro (z|z|z)
 ·exact t0 z
 ·omega
 ·exact z g
theorem kh {l:List Nat} {p q:Nat} (h:Reads l p q):vo l=some (p,q):=by
 obtain ⟨q0,g,⟨n,m,hl,hv⟩,w⟩:=h;unfold cO at w
 split at w
 ·rename_i z;have q1:q=1:=by
   have d:q∣p:=Nat.dvd_of_mod_eq_zero z;have:ED p q=q:=Nat.gcd_eq_right d;omega
  subst q1;rw[Nat.div_one] at w;subst w;rw[lI] at hl;have hp:(dg p).length<=30:=by
   apply Nat.le_of_not_lt;intro y;rw[eQ y] at hl;cases hl
  unfold vo;rw[if_neg (fL (by decide)),if_neg (fL (by decide)),eD hp]
  rfl
 ·rename_i z
  split at w
  ·rename_i z2;have hlt:p<q:=(Nat.div_eq_zero_iff_lt q0).mp z2;rw[Nat.mod_eq_of_lt hlt] at w z;subst w;rw[je] at hl;obtain ⟨h1,h2⟩:=kg hl;unfold vo;rw[if_neg (fZ p q),if_pos (by simp),wq h1 h2 z hlt (by rw[Nat.gcd_comm];exact g)]
   simp
  ·rename_i z2;subst w;rw[iD] at hl;have hw:(dg (p/q)).length<=30:=by
    apply Nat.le_of_not_lt;intro y;rw[eQ y] at hl;cases hl
   have hp:∃a b,cB (dg (p % q)) (dg q)=some (a,b):=by
    cases y:cB (dg (p % q)) (dg q) with
    |none=>rw[y] at hl;rw[eD hw] at hl;cases hl
    |some ab=>exact ⟨ab.1,ab.2,rfl⟩
   obtain ⟨a,b,hp⟩:=hp;obtain ⟨h1,h2⟩:=kg hp;have hlt:p % q<q:=Nat.mod_lt _ q0;unfold vo;rw[if_pos (by simp),dU (fL (by decide)),eD hw]
   simp only;rw[if_neg z2,if_pos (by simp),wq h1 h2 z hlt (by rw[Nat.gcd_comm,<-Nat.gcd_rec,Nat.gcd_comm]<;>exact g),Nat.mul_comm,Nat.div_add_mod]
end Sw
namespace L2
open PySem PySem.Spec PyProof.Rows XH
section
variable {X:Cx} {a b e o:Expr} {es:List Expr} {t te to:TE} {ta:TA} {pos apos cpos:Pos} {x y:Str}
def B2 (t:TE):TE:=fun σ H Q=>t σ H fun x H1=>(∃i,x= .int i/\i.natAbs.log2<1920/\Q (.str (toString i)) H1)∨∃z,x= .str z/\z.length<=sizeLine/\Q (.str z) H1
theorem iE (h:PE X e t):PE X (.FormattedValue e (-1) none pos) (B2 t):=by
 intro pins s σ H Q I q;refine FormattedValue_plain (b7 (h pins s σ H _ I q) fun v s1 ⟨x,H1,I1,r1,q1⟩=>?_)
 rcases q1 with ⟨i,rfl,hi,q⟩|⟨z,rfl,hz,q⟩
 ·obtain ⟨t,rfl⟩:=r1;exact formatField_int_small hi ⟨.str _,H1,I1.tok _,⟨_,rfl⟩,q⟩
 ·obtain ⟨t,rfl⟩:=r1;exact formatField_str (fun t' tk=>⟨.str z,H1,I1.tok _,⟨_,rfl⟩,q⟩) hz
def PJ (X:Cx) (es:List Expr) (t:Str->TE):Prop:=∀(out:Str) (pins:GM) (s:Shared) (σ:St) (H:Hp) (Q:VK),aP X pins σ H s->t out σ H Q->
 wpAny (model X.prog X.w) X.A (joinParts out (evalEach es X.env)) (EP X pins σ Q) X.xe s
def B3:Str->TE:=fun out σ H Q=>out.length<=sizeLine/\Q (.str out) H
theorem oU:PJ X [] B3:=fun out pins s σ H Q I h=>joinParts_nil ⟨.str out,H,I.tok _,⟨_,rfl⟩,h.2⟩ h.1
def Aa (te:TE) (tr:Str->TE):Str->TE:=fun out σ H Q=>te σ H fun x H1=>∃y,x= .str y/\(out++y).length<=sizeLine/\tr (out++y) σ H1 Q
theorem dD {tr:Str->TE} (he:PE X e te) (hr:PJ X es tr):PJ X (e::es) (Aa te tr):=by
 intro out pins s σ H Q I h;refine joinParts_cons (b7 (he pins s σ H _ I h) fun v s1 ⟨x,H1,I1,r1,y,e,hz,q⟩=>?_)
 subst e;obtain ⟨t,rfl⟩:=r1;exact ⟨hz,hr _ pins s1 σ H1 Q I1 q⟩
def Ab (t:Str->TE):TE:=t Str.empty
theorem lJ {t:Str->TE} (h:PJ X (a::b::es) t):PE X (.JoinedStr (a::b::es) pos) (Ab t):=fun pins s σ H Q I q=>JoinedStr_many (h Str.empty pins s σ H Q I q)
theorem lK:dH X (.type "int") (fun xs H Q=>∃z n,xs= [.str z]/\intText? z=some n/\z.length<=640/\Q (.int n) H):=by
 intro pins s σ H xs us Q I r h;obtain ⟨z,n,rfl,hn,hl,q⟩:=h;obtain ⟨u,rfl,t,rfl⟩:=vals1 r;exact PySem.W.KIN.call_text hn hl ⟨.int n,H,I.tok _,⟨_,rfl⟩,q⟩
theorem mV {z:Str} {p:Pos} (hg:Gl X x) (h:∃t,X.mg x=some (.str z t)) (hd:(x==("__debug__" :Str))=false:=by decide):PE X (.Name x p) (tC (.str z)):=by
 obtain ⟨t,h⟩:=h;exact cf hg h ⟨t,rfl⟩ hd
theorem eS {i:Int} {p:Pos} (hg:Gl X x) (h:∃t,X.mg x=some (.int i t)) (hd:(x==("__debug__" :Str))=false:=by decide):PE X (.Name x p) (tC (.int i)):=by
 obtain ⟨t,h⟩:=h;exact cf hg h ⟨t,rfl⟩ hd
theorem ko:∀(l:GO) (n:Nat),bn (l.map V.str) (strsFrom n l)
 | [],_=> .nil
 |x::l,n=> .cons ⟨_,rfl⟩ (ko l (n+1))
theorem jf:Bt X "str.split" (fun x vs H Q=>∃z c,x= .str z/\vs= [.str ⟨#[c]⟩]/\z.length+2<=sizeLine/\∀p,H p=none->Q (.ref p) (aO H p (.lst ((Txt.split z ⟨#[c]⟩).map V.str)))):=by
 intro pins s σ H x vs v us Q I rx rv h;obtain ⟨z,c,rfl,rfl,hz,q⟩:=h;obtain ⟨t,rfl⟩:=rx;obtain ⟨u,rfl,t',rfl⟩:=vals1 rv;have q':=q s.heap.objs.size (I.hok.fresh (D9 _));have hn:(Builtin.Str.occurrences z ⟨#[c]⟩ 0 z.length (z.length+1)).length<=z.length+1:=StrLaws.occ_length_le _ _ _ _ _;unfold Txt.split at q';cases h1:(decide (z.length<(⟨#[c]⟩:Str).length)||decide (Builtin.Str.strKind z<Builtin.Str.strKind ⟨#[c]⟩)) with
 |true=>
  rw[h1] at q';refine call_meets F.slot_str_split (typeIs_str s z t) F.entry_str_split (F.args_str_split_2 _ _) (meets_str_split_cannot_occur z ⟨#[c]⟩ t t' h1) ?_;exact ⟨.ref s.heap.objs.size,_,I.laid (o:= .lst [.str z]) (t':=s.toks) (fun b ob e=>Heap.get?_push_of_some _ e) (D9 _) ⟨by show 1<=sizeLine;decide,[.str z t],0,.cons ⟨_,rfl⟩ .nil,Heap.get?_push_size _ rfl⟩,rfl,q'⟩
 |false=>
  rw[h1] at q';cases hf:(Builtin.Str.occurrences z ⟨#[c]⟩ 0 z.length (z.length+1)).isEmpty with
  |true=>
   rw[hf] at q';refine call_meets F.slot_str_split (typeIs_str s z t) F.entry_str_split (F.args_str_split_2 _ _) (meets_str_split_not_found z ⟨#[c]⟩ t t' h1 rfl hf) ?_;exact ⟨.ref s.heap.objs.size,_,I.laid (o:= .lst [.str z]) (t':=s.toks) (fun b ob e=>Heap.get?_push_of_some _ e) (D9 _) ⟨by show 1<=sizeLine;decide,[.str z t],0,.cons ⟨_,rfl⟩ .nil,Heap.get?_push_size _ rfl⟩,rfl,q'⟩
  |false=>
   rw[hf] at q';have hp:(Builtin.Str.partsBetween z (Builtin.Str.occurrences z ⟨#[c]⟩ 0 z.length (z.length+1)) (⟨#[c]⟩:Str).length).length<=sizeLine:=by
    unfold Builtin.Str.partsBetween;simp only[D4,List.length_zip,DD,DB,List.length_nil];omega
   refine call_meets F.slot_str_split (typeIs_str s z t) F.entry_str_split (F.args_str_split_2 _ _) (meets_str_split_sep z ⟨#[c]⟩ t t' h1 rfl hf (by omega) hp) ?_
   exact ⟨.ref s.heap.objs.size,_,I.laid (o:= .lst ((Builtin.Str.partsBetween z (Builtin.Str.occurrences z ⟨#[c]⟩ 0 z.length (z.length+1)) (⟨#[c]⟩:Str).length).map V.str)) (fun b ob e=>Heap.get?_push_of_some _ e) (D9 _) ⟨by rw[D4];exact hp,_,0,ko _ _,Heap.get?_push_size _ rfl⟩,rfl,q'⟩
end
end L2
namespace So
open PySem PyProof.Rows
end So
namespace Sw
open PySem L2 XH PySem.NumText
def sL (z:Str):List Nat:=z.cps.toList
def bG (l:List Nat):Str:=⟨l.toArray⟩
theorem bx (l:List Nat):sL (bG l)=l:=by simp[sL,bG]
theorem sX (z:Str):bG (sL z)=z:=by simp[sL,bG]
theorem fM {x y:Str} (h:sL x=sL y):x=y:=by rw[<-sX x,<-sX y,h]
theorem cX (z:Str):(sL z).length=z.length:=by simp[sL,Str.length]
theorem b8 (l:List Nat):(bG l).length=l.length:=by rw[<-cX,bx]
theorem mW:Str.empty=bG []:=rfl
theorem bQ (x y:Str):sL (x++y)=sL x++sL y:=by
 show (x.cps++y.cps).toList=_;rw[Array.toList_append]
 rfl
theorem bV (a b:List Nat):bG a++bG b=bG (a++b):=fM (by rw[bQ,bx,bx,bx])
theorem gX (n:Nat):Str.ofString (toString ((n:Nat):Int))=bG (dg n):=fM (by rw[bx];exact PySem.W.KIN.signs_num n)
theorem oV (c:Nat):(⟨#[c]⟩:Str)=bG [c]:=rfl
theorem cP:(Str.ofString "/")=bG [47]:=by decide
theorem fh:(Str.ofString "+")=bG [43]:=by decide
theorem mX (z:Str) (c:Nat):pZ z (bG [c])=if c∈sL z then [.str (bG (cr c (sL z)).1),.str (bG [c]),.str (bG (cr c (sL z)).2)] else [.str z,.str Str.empty,.str Str.empty]:=by
 unfold pZ;rcases StrLaws.occ_head z (bG [c]) 1 (D9 _) with ⟨h0,hn⟩|⟨i,r,h0,ha,hn⟩
 ·rw[h0,if_neg];intro hc;obtain ⟨i,hi⟩:=DR.mp hc;exact hn i ((StrLaws.subAt_one z c i).mpr hi)
 ·have hi:(sL z)[i]?=some c:=(StrLaws.subAt_one z c i).mp ha;have hlt:i<(sL z).length:=(DM.mp hi).1;have hc:c∈sL z:=D5 hi;have hno:c∉(sL z).take i:=by
   intro q;obtain ⟨k,hk⟩:=DR.mp q;have kl:k<i:=by
    have:=(DM.mp hk).1;rw[DX] at this;omega
   rw[List.getElem?_take_of_lt kl] at hk;exact hn k kl ((StrLaws.subAt_one z c k).mpr hk)
  have e:sL z=(sL z).take i++c::(sL z).drop (i+1):=by
   have:=(DM.mp hi).2;rw[<-this,List.getElem_cons_drop hlt,ER]
  have ec:cr c (sL z)=((sL z).take i,(sL z).drop (i+1)):=by
   conv=>lhs;rw[e]
   exact dU hno
  rw[h0,if_pos hc,ec];have e1:Builtin.Str.strSub z 0 i=bG ((sL z).take i):=fM (by
   rw[bx];show (Builtin.Str.strSub z 0 i).cps.toList=_;rw[StrLaws.strSub_toList,List.drop_zero,Nat.sub_zero]
   rfl)
  have e2:Builtin.Str.strSub z (i+(bG [c]).length) z.length=bG ((sL z).drop (i+1)):=fM (by
   rw[bx];show (Builtin.Str.strSub z (i+1) z.length).cps.toList=_;rw[StrLaws.strSub_toList,EN]
   ·rfl
   ·rw[Ds];exact D9 _)
  show [V.str (Builtin.Str.strSub z 0 i),V.str (bG [c]),V.str (Builtin.Str.strSub z (i+(bG [c]).length) z.length)]=_;rw[e1,e2]
theorem iF (z:Str) (c:Nat):(!(Builtin.Str.occurrences z (bG [c]) 0 z.length 1).isEmpty)=decide (c∈sL z):=StrLaws.found_one z c
theorem jg (s x y:Str) (r:GO):Str.join s (x::y::r)=x++s++Str.join s (y::r):=rfl
theorem mY (c:Nat):∀(xs ys:GO),xs≠ []->ys≠ []->(∀x∈xs,c∉sL x)->(∀y∈ys,c∉sL y)->Str.join (bG [c]) xs=Str.join (bG [c]) ys->xs=ys
 | [],_,h,_,_,_,_=>absurd rfl h
 |_,[],_,h,_,_,_=>absurd rfl h
 | [x],[y],_,_,_,_,e=>by
  have e':x=y:=e;rw[e']
 | [x],y::z::r,_,_,hx,_,e=>by
  exfalso;have e':x=y++bG [c]++Str.join (bG [c]) (z::r):=e;refine hx x (by simp) ?_
  rw[e',bQ,bQ,bx];simp
 |x::z::r,[y],_,_,_,hy,e=>by
  exfalso;have e':x++bG [c]++Str.join (bG [c]) (z::r)=y:=e;refine hy y (by simp) ?_
  rw[<-e',bQ,bQ,bx];simp
 |x::x'::r,y::y'::r',_,_,hx,hy,e=>by
  rw[jg,jg] at e;have e1:=congrArg sL e;rw[bQ,bQ,bQ,bQ,bx,Da,Da] at e1;have e2:=congrArg (cr c) e1;simp only[EM,Ec] at e2;rw[dU (hx x (by simp)),dU (hy y (by simp))] at e2
  injection e2 with e3 e4
  have ih:=mY c (x'::r) (y'::r') (by simp) (by simp) (fun z hz=>hx z (by simp at hz⊢;exact .inr hz)) (fun z hz=>hy z (by simp at hz⊢;exact .inr hz)) (fM e4)
  rw[fM e3,ih]
theorem mZ (x:Str) (c:Nat):Txt.split x (bG [c])≠ []:=by
 unfold Txt.split
 split
 ·simp
 ·split
  ·simp
  ·rw[StrLaws.partsBetween_eq];obtain ⟨p,r,e⟩:=StrLaws.partsFrom_ne x (bG [c]).length 0 (Builtin.Str.occurrences x (bG [c]) 0 x.length (x.length+1));rw[e];simp
theorem eU {c:Nat} {ws:GO} (ne:ws≠ []) (free:∀w∈ws,c∉sL w):Txt.split (Str.join (bG [c]) ws) (bG [c])=ws:=
 mY c _ _ (mZ _ c) ne (StrLaws.split_free _ c) free (StrLaws.join_split _ _)
theorem oW {c:Nat} {w:Str} (h:c∉sL w):Txt.split w (bG [c])= [w]:=eU (ws:= [w]) (by simp) (by simpa using h)
theorem lL {c:Nat} {ws:GO} (z:Str) (ne:ws≠ []) (free:∀w∈ws,c∉sL w):Txt.replace (Str.join (bG [c]) ws) (bG [c]) z=Str.join z ws:=by
 show Txt.replace (Str.join (bG [c]) ws) ⟨#[c]⟩ z=_;rw[StrLaws.replace_one];show Str.join z (Txt.split _ (bG [c]))=_;rw[eU ne free]
theorem f6 {c:Nat} {w:Str} (z:Str) (h:c∉sL w):Txt.replace w (bG [c]) z=w:=lL (ws:= [w]) z (by simp) (by simpa using h)
def xz:Str:= "0123456789"
theorem qd (c:Nat):(!(Builtin.Str.occurrences xz (bG [c]) 0 xz.length 1).isEmpty)=decide (48<=c/\c<=57):=by
 rw[iF];have e:sL xz= [48,49,50,51,52,53,54,55,56,57]:=by decide
 rw[e,decide_eq_decide];simp;omega
def oX:Sp:=fun vs H Q _=>∃z:Str,vs= [.str z]/\z.length<=1000000/\(de (sL z)=none->Q .non H)/\∀n:Nat,de (sL z)=some n->Q (.int n) H
def sY:Sp:=fun vs H Q _=>∃z:Str,vs= [.str z]/\z.length<=900000/\(c7 (sL z)=none->∀H',aH H H'->Q .non H')/\∀(n m:Nat) (p q:Int),c7 (sL z)=some (n,m)->m≠0->n<10^30->m<10^30->Fr p q n m->Pair H Q p q
def qe:Sp:=fun vs H Q _=>∃z:Str,vs= [.str z]/\z.length<=800000/\(dz (sL z)=none->∀H',aH H H'->Q .non H')/\
 ∀(n m:Nat) (p q:Int),dz (sL z)=some (n,m)->Bu p q->p*m=n*q->m≠0->Bd 400 p->Bd 400 q->Pair H Q p q
def qf (K:D3):Sp:=fun vs H Q _=>∃(t:Addr) (p q:Nat),vs= [.ref t]/\iU K 1900 H t p q/\Q (.str (bG (cO p q))) H
def oY (c:Addr):Sp:=fun vs H Q E=>∃z:Str,vs= [.str z]/\z.length<=800000/\(∀p q:Nat,Reads (sL z) p q->Pair H Q p q)/\((∀p q,¬Reads (sL z) p q)->∀H',aH H H'->E (.ref c) none H')
def qg:Sp:=fun vs H Q _=>∃z:Str,vs= [.str z]/\z.length<=800000/\∃p q:Nat,Reads (sL z) p q/\Pair H Q p q
theorem iG {l:List Nat} {p q p' q':Nat} (h:Reads l p q) (h':Reads l p' q'):p=p'/\q=q':=by
 have e:=(kh h).symm.trans (kh h');cases e;exact ⟨rfl,rfl⟩
theorem sZ {c:Addr}:∀vs H Q E,qg vs H Q E->oY c vs H Q E0:=by
 rintro vs H Q E ⟨z,e,hz,p,q,r,k⟩;refine ⟨z,e,hz,fun p' q' r'=>?_,fun n=>absurd r (n p q)⟩
 obtain ⟨rfl,rfl⟩:=iG r r';exact k
theorem int_text {z:Str} (h:vn (sL z)):intText? z=some ((digitsVal (sL z):Nat):Int):=by
 refine intText_digits h.2.2.2 (fun e=>?_) ?_
 ·have:=h.1;rw[show sL z= [] from e] at this
  simp at this
 ·have:=h.2.1;rw[cX] at this;omega
theorem tj {a b:Str} {A B:Prop} (h1:a≠b->A) (h2:a=b->B):if (!decide (V.str a=V.str b))=true then A else B:=by
 by_cases e:a=b
 ·exact nF (by rw[e]) (h2 e)
 ·exact nT (fun z=>by cases z;exact e rfl) (h1 e)
theorem xA {a b:Str} {A B:Prop} (h1:a=b->A) (h2:a≠b->B):if decide (V.str a=V.str b)=true then A else B:=by
 by_cases e:a=b
 ·exact dT (by rw[e]) (h1 e)
 ·exact dF (fun z=>by cases z;exact e rfl) (h2 e)
theorem By {b:Bool} {A B:Prop} (h1:b=false->A) (h2:b=true->B):if (!b)=true then A else B:=by
 cases b with
 |false=>exact lq (h1 rfl)
 |true=>exact cq (h2 rfl)
theorem iY:(Str.ofString "0")=bG [48]:=by decide
theorem lg {n:Nat} (h:n<2^1900):(n:Int).natAbs.log2<1920:=by
 rw[Int.natAbs_natCast]
 by_cases z:n=0
 ·subst z;decide
 ·exact DO ((Nat.log2_lt z).mpr h) (by decide)
theorem cg {n:Nat} (h:n<2^1900):(dg n).length<=600:=cV (k:=599) (DT h (by decide))
theorem jh (p q:Nat):(p:Int).fdiv q=((p/q:Nat):Int):=by
 rw[E8 _ (Int.natCast_nonneg q)]
 rfl
theorem vp (p q:Nat):(p:Int)-((p/q:Nat):Int)*(q:Int)=((p % q:Nat):Int):=by
 have h:=Nat.div_add_mod p q;have e:(((p/q:Nat):Int)*(q:Int))=((q*(p/q):Nat):Int):=by rw[Nat.mul_comm,E9]
 rw[e];omega
theorem wu {n:Nat} {k:Nat} (h:n<2^k):Bd k (n:Int):=by
 show (n:Int).natAbs<2^k;rw[Int.natAbs_natCast];exact h
theorem Ac {n k:Nat} (h:Bd k (n:Int)):n<2^k:=by
 have h:(n:Int).natAbs<2^k:=h;rw[Int.natAbs_natCast] at h;exact h
theorem f7 {n:Nat} (h:n<10^30):Bd 100 (n:Int):=wu (DO h (by decide))
structure Am (p q:Nat) (ns:List Nat):Prop where
 pos:0<q
 low:ED p q=1
 bp:p<2^1900
 bq:q<2^1900
 ne:ns≠ []
 spl:Txt.split (Txt.replace (bG (cO p q)) (bG [43]) (bG [47])) (bG [47])=ns.map fun n=>bG (dg n)
 len:(cO p q).length<=2000
 rl:(Txt.replace (bG (cO p q)) (bG [43]) (bG [47])).length<=2000
 few:ns.length<=3
 bd:∀n∈ns,n<2^1900
 ok:(∀n∈ns,(dg n).length<=30)->Reads (cO p q) p q
 no:∀n∈ns,30<(dg n).length->∀p' q',¬Reads (cO p q) p' q'
theorem fN {c n:Nat} (h:c<48):c∉sL (bG (dg n)):=by rw[bx];exact fL h
theorem jj (w:Nat):cO w 1=dg w:=by
 unfold cO;rw[Nat.mod_one,if_pos rfl,Nat.div_one]
theorem gF {t b:Nat} (t0:t≠0) (lt:t<b):cO t b=dg t++47::dg b:=by
 unfold cO;rw[Nat.mod_eq_of_lt lt,if_neg t0,Nat.div_eq_of_lt lt,if_pos rfl]
theorem fi {w t b:Nat} (w0:w≠0) (t0:t≠0) (lt:t<b):cO (w*b+t) b=dg w++43::(dg t++47::dg b):=by
 have hd:(w*b+t)/b=w:=by
  rw[Nat.mul_comm,Nat.mul_add_div (by omega),Nat.div_eq_of_lt lt]
  rfl
 have hm:(w*b+t) % b=t:=by rw[Nat.mul_comm,Nat.mul_add_mod,Nat.mod_eq_of_lt lt]
 unfold cO;rw[hm,hd,if_neg t0,if_neg w0]
theorem qh (w:Nat) {t b:Nat} (g:ED b t=1):ED (w*b+t) b=1:=by
 rw[Nat.gcd_comm,Nat.gcd_rec];have hm:(w*b+t) % b=t % b:=by rw[Nat.mul_comm,Nat.mul_add_mod]
 rw[hm,<-Nat.gcd_rec];exact g
theorem B4 {w:Nat} (h:w<2^1900):Am w 1 [w] where
 pos:=by decide
 low:=Nat.gcd_one_right _
 bp:=h
 bq:=by decide
 ne:=by simp
 spl:=by rw[jj,f6 _ (fN (by decide)),oW (fN (by decide))];rfl
 len:=by rw[jj];have:=cg h;omega
 rl:=by rw[jj,f6 _ (fN (by decide)),b8];have:=cg h;omega
 few:=by simp
 bd:=by intro n hn;simp at hn;rw[hn];exact h
 ok:=fun k=>⟨by decide,Nat.gcd_one_right _,⟨w,1,by rw[jj,lI,eD (k w (by simp))];rfl,rfl⟩,rfl⟩
 no:=fun n hn l p' q' r=>by
  have e:n=w:=by simpa using hn
  subst e;obtain ⟨a,b,e,_⟩:=r.ex;rw[jj,lI,eQ l] at e;cases e
theorem Ad {t b:Nat} (t0:t≠0) (lt:t<b) (g:ED b t=1) (h:b<2^1900):Am t b [t,b] where
 pos:=by omega
 low:=by rw[Nat.gcd_comm];exact g
 bp:=DO lt h
 bq:=h
 ne:=by simp
 spl:=by
  rw[gF t0 lt,f6 _ (by rw[bx];exact fZ t b)]
  have e:bG (dg t++47::dg b)=Str.join (bG [47]) [bG (dg t),bG (dg b)]:=by
   show _=bG (dg t)++bG [47]++bG (dg b);rw[bV,bV,Da]
   rfl
  rw[e,eU (by simp)]
  ·rfl
  ·intro w hw;simp at hw;rcases hw with rfl|rfl
   ·exact fN (by decide)
   ·exact fN (by decide)
 len:=by
  rw[gF t0 lt,DB,DD];have:=cg h;have:=cg (DO lt h);omega
 rl:=by
  rw[gF t0 lt,f6 _ (by rw[bx];exact fZ t b),b8,DB,DD]
  have:=cg h;have:=cg (DO lt h);omega
 few:=by simp
 bd:=by
  intro n hn;simp at hn;rcases hn with rfl|rfl
  ·exact DO lt h
  ·exact h
 ok:=fun k=>⟨by omega,by rw[Nat.gcd_comm];exact g,⟨t,b,by rw[gF t0 lt,je,qc (k t (by simp)) (k b (by simp)) (by omega)],rfl⟩,rfl⟩
 no:=fun n hn l p' q' r=>by
  obtain ⟨a,c,e,_⟩:=r.ex;rw[gF t0 lt,je,eR (by
   simp at hn;rcases hn with rfl|rfl
   ·exact .inl l
   ·exact .inr l)] at e
  cases e
theorem xB {w t b:Nat} (w0:w≠0) (t0:t≠0) (lt:t<b) (g:ED b t=1) (h:b<2^1900) (hp:w*b+t<2^1900):Am (w*b+t) b [w,t,b] where
 pos:=by omega
 low:=qh w g
 bp:=hp
 bq:=h
 ne:=by simp
 spl:=by
  have e:bG (dg w++43::(dg t++47::dg b))=Str.join (bG [43]) [bG (dg w),bG (dg t++47::dg b)]:=by
   show _=bG (dg w)++bG [43]++bG (dg t++47::dg b);rw[bV,bV,Da]
   rfl
  rw[fi w0 t0 lt,e,lL _ (by simp)]
  ·have e2:Str.join (bG [47]) [bG (dg w),bG (dg t++47::dg b)]=Str.join (bG [47]) [bG (dg w),bG (dg t),bG (dg b)]:=by
    show bG (dg w)++bG [47]++bG (dg t++47::dg b)=bG (dg w)++bG [47]++(bG (dg t)++bG [47]++bG (dg b));simp only[bV];simp
   rw[e2,eU (by simp)]
   ·rfl
   ·intro x hx;simp at hx;rcases hx with rfl|rfl|rfl
    ·exact fN (by decide)
    ·exact fN (by decide)
    ·exact fN (by decide)
  ·intro x hx;simp at hx;rcases hx with rfl|rfl
   ·exact fN (by decide)
   ·rw[bx];exact fZ t b
 len:=by
  rw[fi w0 t0 lt,DB,DD,DB,DD];have:=cg h;have:=cg (DO lt h);have hw:w<2^1900:=Dt (DU (Nat.le_mul_of_pos_right w (by omega)) (Nat.le_add_right _ t)) hp
  have:=cg hw;omega
 rl:=by
  have e:bG (dg w++43::(dg t++47::dg b))=Str.join (bG [43]) [bG (dg w),bG (dg t++47::dg b)]:=by
   show _=bG (dg w)++bG [43]++bG (dg t++47::dg b);rw[bV,bV,Da]
   rfl
  have hw:w<2^1900:=Dt (DU (Nat.le_mul_of_pos_right w (by omega)) (Nat.le_add_right _ t)) hp
  have:=cg h;have:=cg (DO lt h);have:=cg hw;rw[fi w0 t0 lt,e,lL _ (by simp)]
  ·show (bG (dg w)++bG [47]++bG (dg t++47::dg b)).length<=2000;rw[bV,bV,b8];simp;omega
  ·intro x hx;simp at hx;rcases hx with rfl|rfl
   ·exact fN (by decide)
   ·rw[bx];exact fZ t b
 few:=by simp
 bd:=by
  intro n hn;simp at hn;have hw:w<2^1900:=Dt (DU (Nat.le_mul_of_pos_right w (by omega)) (Nat.le_add_right _ t)) hp
  rcases hn with rfl|rfl|rfl
  ·exact hw
  ·exact DO lt h
  ·exact h
 ok:=fun k=>⟨by omega,qh w g,⟨w*b+t*1,1*b,by rw[fi w0 t0 lt,iD,eD (k w (by simp)),qc (k t (by simp)) (k b (by simp)) (by omega)];rfl,by rw[Nat.one_mul,Nat.mul_one]⟩,rfl⟩
 no:=fun n hn l p' q' r=>by
  obtain ⟨a,c,e,_⟩:=r.ex;rw[fi w0 t0 lt,iD] at e;simp at hn;rcases hn with rfl|rfl|rfl
  ·rw[eQ l] at e;cases e
  ·rw[eR (.inl l)] at e;cases z:de (dg w) with
   |none=>rw[z] at e;cases e
   |some=>rw[z] at e;cases e
  ·rw[eR (.inr l)] at e;cases z:de (dg w) with
   |none=>rw[z] at e;cases e
   |some=>rw[z] at e;cases e
theorem tm {x y:Int} (h:0<x) (h2:x<y) (h3:y<10^120):0<bB y x/\Bd 400 (bB y x)/\∃t b:Nat,x.fdiv (bB y x)=t/\y.fdiv (bB y x)=b/\t≠0/\t<b/\ED b t=1/\b<10^120:=by
 have g0:bB y x≠0:=fun z=>by have:=(fe z).2;omega
 have gp:0<bB y x:=by have:=ly y x;omega
 have c:=sC g0;obtain ⟨k,hk⟩:=d0 y x;obtain ⟨m,hm⟩:=dZ y x;have e1:x.fdiv (bB y x)=k:=by
  rw[E8 _ (Int.le_of_lt gp)]
  conv=>lhs;arg 1;rw[hk]
  exact Ed k g0
 have e2:y.fdiv (bB y x)=m:=by
  rw[E8 _ (Int.le_of_lt gp)]
  conv=>lhs;arg 1;rw[hm]
  exact Ed m g0
 have kp:0<k:=Int.pos_of_mul_pos_right (by rw[<-hk];exact h) gp
 have km:k<m:=by
  have:bB y x*k<bB y x*m:=by rw[<-hk,<-hm];exact h2
  exact Int.lt_of_mul_lt_mul_left this (Int.le_of_lt gp)
 have my:m<=y:=by
  have h1:1*m<=bB y x*m:=Int.mul_le_mul_of_nonneg_right (by omega) (by omega)
  rw[<-hm] at h1;omega
 have gy:bB y x<=y:=Int.le_of_dvd (by omega) (dZ y x)
 refine ⟨gp,?_,k.toNat,m.toNat,by rw[e1];omega,by rw[e2];omega,by omega,by omega,?_,by omega⟩
 ·show (bB y x).natAbs<2^400;have:(10:Int)^120<=2^400:=by decide
  omega
 ·rw[e1,e2] at c;have:bB m k=((ED m.natAbs k.natAbs:Nat):Int):=rfl;rw[this] at c;have em:m.natAbs=m.toNat:=by omega
  have ek:k.natAbs=k.toNat:=by omega
  rw[em,ek] at c;omega
end Sw
namespace L2
open PySem PySem.Spec PyProof.Rows XH
end L2
namespace Sw
open PySem L2
end Sw
namespace L2
open PySem PySem.Spec PyProof.Rows XH
theorem tq {X:Cx} (hu:X.A.units<cLine):gA X (compareOp .Eq) (fun x y H Q=>∃a b zs,x= .ref a/\y= .ref b/\aE X.K H a zs/\aE X.K H b []/\Q (.bl zs.isEmpty) H):=by
 intro pins s σ H x y v u Q I rx ry h;obtain ⟨a,b,zs,rfl,rfl,h1,h2,hq⟩:=h;cases rx;cases ry;obtain ⟨i1,r1,p1,_⟩:=I.list h1;obtain ⟨i2,r2,p2,_⟩:=I.list h2;cases r2;cases zs with
 |nil=>
  cases r1;refine SeqAt.eq_listAt (e:=fun _=>true) p1.isList p2.isList rfl hu (fun j g1 g2=>absurd g1 (by simp)) ?_
  exact ⟨.bl true,H,I,by show Value.bool _=Value.bool _;simp,hq⟩
 |cons z zs=>
  cases r1 with
  |cons r rr=>
   refine SeqAt.eq_list_lengthsAt p1.isList p2.isList (by simp) hu ?_
   exact ⟨.bl false,H,I,rfl,hq⟩
end L2
namespace Sw
open PySem L2 PyProof.Rows
end Sw
namespace L2
open PySem PySem.Spec PyProof.Rows XH Sw So
theorem gY:∀{us:GQ} {ks:GO},StrsAre us ks->bn (ks.map V.str) us
 |_,_,.nil=> .nil
 |_,_,.cons y t h=> .cons ⟨t,rfl⟩ (gY h)
end L2
namespace So
open PySem PySem.Spec PyProof.Rows
def vq (x y:Str):Prop:=¬(y.cps.toList<x.cps.toList)
theorem ra {x y z:Str} (h1:vq x y) (h2:vq y z):vq x z:=fun h=>by
 unfold vq at h1 h2;exact h1 (List.lt_of_le_of_lt (List.not_lt.mp h2) h)
theorem tu {x y:Str} (h1:vq x y) (h2:vq y x):x=y:=by
 have e:=List.le_antisymm (List.not_lt.mp h1) (List.not_lt.mp h2);cases x;cases y
 congr 1
 exact Array.toList_inj.mp e
theorem kq:∀(r:GO) (x:Str),risingS x r=true->(x::r).Pairwise vq
 | [],x,_=>by simp
 |y::r,x,h=>by
  unfold risingS at h;have h':ltCps y.cps.toList x.cps.toList=false/\risingS y r=true:=by
   simpa [Bool.and_eq_true] using h
  have ih:=kq r y h'.2;have xy:vq x y:=by
   have:=h'.1;rw[ltCps_eq] at this;exact of_decide_eq_false this
  refine List.pairwise_cons.mpr ⟨fun z hz=>?_,ih⟩
  rcases D2.mp hz with e|e
  ·rw[e];exact xy
  ·exact ra xy ((List.pairwise_cons.mp ih).1 z e)
theorem kt {l:GO} (h:sortedS l=true):l.Pairwise vq:=by
 cases l with
 |nil=>simp
 |cons x r=>exact kq r x h
theorem m3 {l m:GO} (h1:sortedS l=true) (h2:sortedS m=true) (p:l.Perm m):l=m:=
 List.Perm.eq_of_pairwise (fun a b _ _ ha hb=>tu ha hb) (kt h1) (kt h2) p
end So
namespace L2
open PySem PySem.Spec PyProof.Rows XH Sw So
theorem m4 {prog:Program} {w:World} {A:Around} {E:GK} {s:Shared} {r:Addr} {its:GQ} {n:Nat} {R:GQ->Shared->Prop} (hr:s.heap.get? r=some (seqObj "list" its.toArray n)) (hn:its.length<=sizeLine)
  (h:∀h':Heap,s.heap.objs.size<h'.objs.size->(∀b o,s.heap.get? b=some o->h'.get? b=some o)->R its {s with heap:=h'}):wpAny (model prog w) A (collect (.ref r)) R E s:=by
 unfold collect;refine wpAny_bind (wpAny_runValue (codeAny_builtin entry_proto_collect' ?_));rw[Around.under_plainId PySem.F.plain_proto_collect _];show wpAny _ A.in1 (newList []>>=fun l=>again (.builtin "list.__iadd__" ⟨[l,.ref r],[]⟩)) _ _ s
 refine wpAny_bind (wpAny_newObj_type (wpAny_pure ⟨plainId_quiet PySem.F.plain_list_iadd _,codeAny_builtin entry_list_iadd' ?_⟩));rw[Around.under_plainId PySem.F.plain_list_iadd _];have fresh:(s.heap.push {cls:= .type "list",data:= .seq ([]:GQ).toArray}).get? s.heap.objs.size=some {cls:= .type "list",data:= .seq #[]}:=Heap.get?_push_size _ rfl;show wpAny _ A.in1 (Builtin.List.listExtendWith (.ref s.heap.objs.size) (.ref r) (.ref s.heap.objs.size)) _ _ _;have key:=wpAny_extend_seq (A:=A) (s:={s with heap:=s.heap.push {cls:= .type "list",data:= .seq ([]:GQ).toArray}}) (prog:=prog) (w:=w)
  (R:=fun (q:Result) (s':Shared)=>q= .ok (.ret (.ref s.heap.objs.size))/\s'={s with heap:=(s.heap.push {cls:= .type "list",data:= .seq ([]:GQ).toArray}).update s.heap.objs.size (Obj.mapSeq (· ++its.toArray))})
  s.heap.objs.size r (.ref s.heap.objs.size) 0 (.inl rfl) fresh (Heap.get?_push_of_some _ hr) rfl rfl ⟨rfl,rfl⟩ (by simpa using hn)
 have at_:=Heap.get?_update_self (Obj.mapSeq (· ++its.toArray)) fresh rfl;have fin:R its {s with heap:=(s.heap.push {cls:= .type "list",data:= .seq ([]:GQ).toArray}).update s.heap.objs.size (Obj.mapSeq (· ++its.toArray))}:=by
  refine h _ (by rw[Heap.size_update,Heap.size_push];exact Nat.lt_succ_self _) fun b o e=>?_
  exact (Heap.get?_update_other _ _ (EG (Heap.lt_size e))).trans (Heap.get?_push_of_some _ e)
 have ei:((#[]:Array Value)++its.toArray).toList=its:=by simp
 have fin':R ((#[]:Array Value)++its.toArray).toList {s with heap:=(s.heap.push {cls:= .type "list",data:= .seq ([]:GQ).toArray}).update s.heap.objs.size (Obj.mapSeq (· ++its.toArray))}:=by rw[ei];exact fin
 refine wpAny_mono key (fun f s' x=>?_) fun e s' x=>?_
 ·cases f with
  |done f=>
   obtain ⟨e,rfl⟩:=x;cases e;show wpAny _ A (load s.heap.objs.size>>=_) _ _ _;exact wpAny_bind (wpAny_load at_ (wpAny_pure fin'))
  |again c₁=>
   refine ⟨x.1,codeAny_mono x.2 fun q s₂ y=>?_⟩
   obtain ⟨rfl,rfl⟩:=y;show wpAny _ A (load s.heap.objs.size>>=_) _ _ _;exact wpAny_bind (wpAny_load at_ (wpAny_pure fin'))
 ·exact absurd x.1 (by simp)
end L2
namespace Hm
open PySem PySem.SeqAt PySem.MeetsSeq
end Hm
namespace L2
open PySem PySem.Spec PyProof.Rows XH Sw So Hm
variable {X:Cx}
theorem jk:∀{ws:GO} {us:GQ},bn (ws.map V.str) us->StrsAre us ws
 | [],_,h=>by cases h;exact .nil
 |w::ws,_,h=>by
  cases h with
  |cons r rr=>
   obtain ⟨t,rfl⟩:=r;exact .cons _ _ (jk rr)
theorem gZ:Bt X "str.join" (fun x vs H Q=>∃z a ws,x= .str z/\vs= [.ref a]/\aE X.K H a (ws.map V.str)/\z.length<=16/\(ws.map (fun x=>x.length)).sum+ws.length<=1048576/\Q (.str (Txt.join z ws)) H):=by
 intro pins s σ H x vs v us Q I rx rv h;obtain ⟨z,a,ws,rfl,rfl,hS,hz,hl,q⟩:=h;obtain ⟨t,rfl⟩:=rx;obtain ⟨u,rfl,ru⟩:=vals1 rv;cases ru;obtain ⟨its,r,p,_⟩:=I.list hS;exact join_listW p.isList (by simpa using jk r) hz hl fun t' k=>⟨.str _,H,I.tok _,⟨_,rfl⟩,q⟩
theorem m6 {K:D3} {a:Addr} {xs:List V} {js:List Nat} {te:TE} {σ:L2.St} {H1:Hp} {Q:VK} (P:V->V->Prop) (hS:aE K H1 a xs) (hz:xs.length<=sizeLine)
  (step:∀x∈xs,∀H3,aH H1 H3->∀Q':VK,(∀y H4,P x y->aH H3 H4->Q' y H4)->te (some x::cw js σ) H3 Q')
  (fin:∀(p:Addr) (ys:List V) (H':Hp),H1 p=none->ys.length=xs.length->(∀(i:Nat) (x y:V),xs[i]?=some x->ys[i]?=some y->P x y)->aH H1 H'->H' p=some (.lst ys)->Q (.ref p) H'):mQ js te σ Q (wR K a) H1:=by
 intro p hp;refine ⟨fun i m ys H2=>i<=xs.length/\m=xs.length-i/\ys.length=i/\(∀(i:Nat) (x y:V),xs[i]?=some x->ys[i]?=some y->P x y)/\aH H1 H2/\H2 p=some (.lst ys),⟨xs.length,E1 _,rfl,rfl,fun j x y _ e=>by simp at e,Sw.aq hp _,af⟩,?_⟩
 rintro i m ys H2 ⟨hi,rfl,hl,hP,g,e⟩;refine ⟨e,?_⟩;have S2:=g.seq hS
 by_cases hin:i<xs.length
 ·refine .inr ⟨⟨xs,xs[i],S2,D1 hin⟩,by omega,fun x H3 hy=>?_⟩
  obtain ⟨rfl,hx⟩:=hy;have ex:=hx xs S2;refine step x (D5 ex) H3 g _ fun y H4 py g4=>⟨g4 _ _ e,xs.length-(i+1),by omega,hin,rfl,by simp[hl],fun j x' y' e1 e2=>?_,Sw.fJ (g.trans g4) hp _,af⟩
  by_cases hj:j<ys.length
  ·rw[Do hj] at e2;exact hP j x' y' e1 e2
  ·have ej:j=i:=by
    have:=(DM.mp e2).1;simp at this;omega
   subst ej;rw[E6 (by omega),hl] at e2
   simp at e2;subst e2;rw[ex] at e1;cases e1;exact py
 ·have e2:i=xs.length:=by omega
  subst e2;exact .inl ⟨⟨xs,S2,D9 _⟩,fin p ys H2 hp hl hP g e⟩
end L2
namespace Sw
open PySem L2 XH PySem.NumText
theorem jm (sep:Str) (ws:GO):(Txt.join sep ws).length=(ws.map (fun x=>x.length)).sum+(ws.length-1)*sep.length:=PySem.size_glued sep ws
def qi:Sp:=fun vs H Q _=>∃z:Str,vs= [.str z]/\z.length<=1000/\(Str.empty∈Txt.split z (bG [32])->∀H',aH H H'->Q .non H')/\(Str.empty∉Txt.split z (bG [32])->∀(l:Addr) (H':Hp),aH H H'->H' l=some (.lst ((Txt.split z (bG [32])).map V.str))->Q (.ref l) H')
def jn:Sp:=fun vs H Q _=>∃c m:Int,vs= [.int c,.int m]/\0<=m/\m<=50/\∀(l:Addr) (H':Hp) (xs:List Int),aH H H'->H' l=some (.lst (xs.map V.int))->(xs.length:Int)=m->(∀x∈xs,0<=x/\x<2^31)->Q (.ref l) H'
def qk:Sp:=fun vs H Q _=>∃(z:Str) (lo hi:Int),vs= [.str z,.int lo,.int hi]/\z.length<=1000000/\(de (sL z)=none->Q .non H)/\∀n:Nat,de (sL z)=some n->Q (if (n:Int)<lo∨hi<(n:Int) then .non else .int n) H
theorem vv (x:Str) (gs:GO):zk (.str x) (gs.map V.str)=decide (x∈gs):=by
 unfold zk;rw[Bool.eq_iff_iff];simp[uS]
theorem ku (gs:GO):(gs.map V.str).all gN=true:=by
 rw[EI];intro x hx;obtain ⟨g,_,rfl⟩:=DI.mp hx
 rfl
theorem zn {x:Str} {gs:GO} {A B:Prop} (h1:x∈gs->A) (h2:x∉gs->B):if (if false=true then !zk (.str x) (gs.map V.str) else zk (.str x) (gs.map V.str))=true then A else B:=by
 rw[if_neg (by decide:¬false=true),vv]
 exact d2 h1 h2
theorem C1 {xs:List V} {n:Nat} (h:xs.length=n+1):uQ xs.length (-1)=some n:=by
 unfold uQ;rw[h]
 first
  |(rw[if_neg (by decide),if_pos (by omega)];congr 1;omega)
  |(simp;omega)
theorem atT {xs:List V} {v:V} (h:xs.getLast?=some v):ir xs (-1)=some v:=by
 rw[List.getLast?_eq_getElem?] at h;have l:=(DM.mp h).1;unfold ir;rw[C1 (n:=xs.length-1) (by omega)]
 exact h
theorem tw {xs:List V} (h:1<=xs.length):dN xs (some 1) none=xs.drop 1:=by
 have e1:HT.c6 xs.length 0 (some 1)=1:=by
  unfold HT.c6;simp;omega
 have e2:HT.c6 xs.length xs.length none=xs.length:=rfl;unfold dN;rw[e1,e2,EN (by rw[Ds];omega)]
structure Bz (X:Cx) (es:List Expr) (t:TA):Prop where
 h:PA X es t
theorem vw {X:Cx}:Bz X [] uN:=⟨ae⟩
theorem cU {X:Cx} {z:Str} {p:Pos} {j} {es:List Expr} {t:TA} (h:Bz X es t):Bz X (.Constant (.str z) j p::es) (jU (tC (.str z)) t):=⟨aa ax h.h⟩
structure Ae (X:Cx) (b:List Stmt) (t:TS):Prop where
 h:i8 X b t
theorem tz {X:Cx} {es:List Expr} {t:TA} {pos pos' p2:Pos} {i:Nat} {x:Str} {rest:List Stmt} {u:TS} (hN:X.N.Nodup) (hi:X.N[i]?=some x) (hx:Loc X.env.scope x) (h:Bz X es t) (hr:i8 X rest u)
  (hs:swapsWith (.List es pos) (some (.Name x pos')) p2.line X.env=pure false:=by rfl) (hf:X.fn x=true∨X.env.scope.names.lookup x=some .local:=by first|exact .inl rfl|exact .inr rfl|assumption):
  Ae X (.Assign [.Name x pos'] (.List es pos) p2::rest) (mq (rY (zJ t) (aR i)) u):=⟨ac (k7 hN hi hx (aZ h.h) hs hf) hr⟩
theorem xC {X:Cx} {c:Expr} {a b:List Stmt} {tc:TT} {t u:TS} {pos:Pos} (hc:PT X c tc) (ha:Ae X a t) (hb:i8 X b u):PS X (.If c a b pos) (zw tc t u):=aJ hc ha.h hb
end Sw
namespace L2
open PySem PySem.Spec PyProof.Rows XH Sw So Hm
theorem tD {X:Cx} (hu:X.A.units<cLine):gA X (compareOp .NotEq) (fun x y H Q=>∃a b zs,x= .ref a/\y= .ref b/\aE X.K H a zs/\aE X.K H b []/\Q (.bl (!zs.isEmpty)) H):=by
 intro pins s σ H x y v u Q I rx ry h;obtain ⟨a,b,zs,rfl,rfl,h1,h2,hq⟩:=h;cases rx;cases ry;obtain ⟨i1,r1,p1,_⟩:=I.list h1;obtain ⟨i2,r2,p2,_⟩:=I.list h2;cases r2;cases zs with
 |nil=>
  cases r1;refine SeqAt.RcNeAt.lists (e:=fun _=>true) p1.isList p2.isList rfl hu (fun j g1 g2=>absurd g1 (by simp)) _ _ _ _ ?_
  exact ⟨.bl false,H,I,by show Value.bool _=Value.bool _;simp,hq⟩
 |cons z zs=>
  cases r1 with
  |cons r rr=>
   refine SeqAt.RcNeAt.lists_lengths p1.isList p2.isList (by simp) hu _ _ _ _ ?_
   exact ⟨.bl true,H,I,rfl,hq⟩
theorem tE {xs:List V} {c:Nat} (h:c<=xs.length):dN xs none (some (c:Int))=xs.take c:=by
 have e1:HT.c6 xs.length 0 none=0:=rfl;have e2:HT.c6 xs.length xs.length (some (c:Int))=c:=by
  show (if (c:Int)<0 then ((c:Int)+(xs.length:Int)).toNat else min (c:Int).toNat xs.length)=c
  rw[if_neg (by omega)]
  omega
 unfold dN;rw[e1,e2,List.drop_zero,Nat.sub_zero]
theorem tF {xs:List V} {c:Nat} (h:c<=xs.length):dN xs (some (c:Int)) none=xs.drop c:=by
 have e1:HT.c6 xs.length 0 (some (c:Int))=c:=by
  show (if (c:Int)<0 then ((c:Int)+(xs.length:Int)).toNat else min (c:Int).toNat xs.length)=c
  rw[if_neg (by omega)]
  omega
 have e2:HT.c6 xs.length xs.length none=xs.length:=rfl;unfold dN;rw[e1,e2,EN (by rw[Ds];omega)]
end L2
namespace Sw
open PySem L2 XH Hm
end Sw
namespace L2
open PySem PySem.Spec PyProof.Rows XH Sw Hm
end L2
namespace Sw
open PySem L2 XH Hm
end Sw
namespace L2
open PySem PySem.Spec PyProof.Rows XH
theorem hJ {X:Cx} {K:D3} (h:X.K=K):zL X (zM K):=by
 subst h;exact aY
end L2
namespace Sw
open PySem L2 XH Hm
end Sw
namespace L2
open PySem PySem.Spec PyProof.Rows XH
end L2
namespace Sw
open PySem L2 XH
end Sw
namespace L2
open PySem PySem.Spec PyProof.Rows XH
end L2
namespace Sw
open PySem L2 XH
end Sw
namespace L2
open PySem PySem.Spec PyProof.Rows
end L2
namespace Sw
open PySem L2 XH
end Sw
namespace L2
open PySem PySem.Spec PyProof.Rows
end L2
namespace Sw
open PySem L2 XH
def gD (nm l m u s:V):List (Str×V):=aM "second" s (aM "uses" u (aM "most" m (aM "least" l (aM "name" nm []))))
def warmF (nm l m u s f:V):List (Str×V):=aM "fill" f (gD nm l m u s)
theorem tG {nm l m u s:V} {g:Str} (h:g≠ "second" /\g≠ "uses" /\g≠ "most" /\g≠ "least" /\g≠ "name"):(gD nm l m u s).lookup g=none:=by
 unfold gD;rw[bE,if_neg h.1,bE,if_neg h.2.1,bE,if_neg h.2.2.1,bE,if_neg h.2.2.2.1,bE,if_neg h.2.2.2.2]
 rfl
theorem oZ {nm l m u s f:V}:(warmF nm l m u s f).lookup ("fill" :Str)=some f:=by
 unfold warmF;rw[bE,if_pos rfl]
theorem f8 {nm l m u s:V}:(gD nm l m u s).length<=5:=by
 unfold gD;have h1:=aX "name" nm [];have h2:=aX "least" l (aM "name" nm []);have h3:=aX "most" m (aM "least" l (aM "name" nm []));have h4:=aX "uses" u (aM "most" m (aM "least" l (aM "name" nm [])));have h5:=aX "second" s (aM "uses" u (aM "most" m (aM "least" l (aM "name" nm []))));simp at h1;omega
def Kept (H H':Hp) (a:Addr):Prop:=∀b o,H b=some o->b≠a->H' b=some o
theorem Kept.refl (H:Hp) (a:Addr):Kept H H a:=fun _ _ h _=>h
theorem Kept.put {H H':Hp} {a:Addr} (k:Kept H H' a) (o:HO):Kept H (aO H' a o) a:=fun b u h n=>by rw[aB n];exact k b u h n
theorem Kept.new {H H':Hp} {a p:Addr} (k:Kept H H' a) (hp:H' p=none) (o:HO):Kept H (aO H' p o) a:=fun b u h n=>by
 have e:=k b u h n;rw[aB (aQ e hp)];exact e
theorem f9 {H H':Hp} {x dx C:Addr} (nx:H x=none) (nd:H dx=none) (k:Kept (aO (aO H dx (.own x)) x (.ins C dx [])) H' x):aH H H':=fun b o h=>by
 have n1:=aQ h nx;exact k b o (by rw[aB n1,aB (aQ h nd)];exact h) n1
structure fD (K:D3) (C:Addr):Prop where
 cl:jL K C
 name:aF K C "name"
 least:aF K C "least"
 most:aF K C "most"
 uses:aF K C "uses"
 second:aF K C "second"
def tH:Sp:=fun vs H Q _=>∃a b:Int,vs= [.int a,.int b]/\0<=a/\0<=b/\Q (.int (bB a b)) H
end Sw
namespace L2
open PySem PySem.Spec PyProof.Rows XH
def gG (R:V->V->Prop):List V->List V->Prop
 | [],[]=>True
 |x::xs,y::ys=>R x y/\gG R xs ys
 |_,_=>False
theorem gG.len {R:V->V->Prop}:∀{xs ys:List V},gG R xs ys->xs.length=ys.length
 | [],[],_=>rfl
 |_::_,_::_,h=>by simp[gG.len h.2]
 | [],_::_,h=>h.elim
 |_::_,[],h=>h.elim
def rc (K:D3) (H:Hp):Nat->V->V->Prop
 |0,x,y=>x=y/\zm x
 |n+1,x,y=>rc K H n x y∨∃a b xs ys,x= .ref a/\y= .ref b/\((bX K H a xs/\bX K H b ys)∨(aE K H a xs/\aE K H b ys))/\gG (rc K H n) xs ys
theorem gb {A:Around} {s:Shared} {R:V->V->Prop} (hR:∀x y u w,R x y->RelV x u->RelV y w->SeqAt.EqAt A s u w true):∀{xs ys:List V} {us ws:GQ},gG R xs ys->bn xs us->bn ys ws->∀j (h1:j<us.length) (h2:j<ws.length),SeqAt.EqAt A s us[j] ws[j] true
 | [],[],_,_,_,.nil,.nil,j,h1,_=>absurd h1 (by simp)
 |_::_,_::_,_,_,h,.cons r1 _,.cons r2 _,0,_,_=>hR _ _ _ _ h.1 r1 r2
 |_::_,_::_,_,_,h,.cons _ t1,.cons _ t2,j+1,h1,h2=>gb hR h.2 t1 t2 j (by simpa using h1) (by simpa using h2)
theorem jo {X:Cx} {pins:GM} {σ:St} {H:Hp} {s:Shared} (I:aP X pins σ H s):∀(n:Nat) (A:Around) (x y:V) (u w:Value),A.units+n<cLine->rc X.K H n x y->RelV x u->RelV y w->SeqAt.EqAt A s u w true
 |0,A,x,y,u,w,_,h,r1,r2=>by
  obtain ⟨rfl,hs⟩:=h;exact mS hs r1 r2
 |n+1,A,x,y,u,w,hu,h,r1,r2=>by
  rcases h with h|⟨a,b,xs,ys,rfl,rfl,hq,hA⟩
  ·exact jo I n A x y u w (by omega) h r1 r2
  cases r1;cases r2
  by_cases e:a=b
  ·subst e;exact SeqAt.EqAt.same _
  refine SeqAt.EqAt.of_refs e ?_;have ih:=fun x y u w=>jo I n A.in1 x y u w (by show A.units+1+n<_;omega)
  rcases hq with ⟨h1,h2⟩|⟨h1,h2⟩
  ·obtain ⟨i1,v1,p1,_⟩:=I.tuple h1;obtain ⟨i2,v2,p2,_⟩:=I.tuple h2;have k:=SeqAt.RcAt.tuples (A:=A) (e:=fun _=>true) p1 p2 (by omega) fun j g1 g2=>gb (A:=A.in1) (s:=s) ih hA v1 v2 j (by simpa using g1) (by simpa using g2)
   have e1:∀m,((EA m).all fun _=>true)=true:=fun m=>by simp
   rw[e1] at k
   simpa [<-v1.length,<-v2.length,hA.len] using k
  ·obtain ⟨i1,v1,p1,_⟩:=I.list h1;obtain ⟨i2,v2,p2,_⟩:=I.list h2;have k:=SeqAt.RcAt.lists (A:=A) (e:=fun _=>true) p1.isList p2.isList (by simp[<-v1.length,<-v2.length,hA.len]) (by omega) fun j g1 g2=>gb (A:=A.in1) (s:=s) ih hA v1 v2 j (by simpa using g1) (by simpa using g2)
   have e1:∀m,((EA m).all fun _=>true)=true:=fun m=>by simp
   rw[e1] at k;exact k
end L2
namespace Sw
open PySem L2 XH
def lM (nm p t s l:V):List (Str×V):=aM "links" l (aM "steps" s (aM "takes" t (aM "plates" p (aM "name" nm []))))
structure B5 (K:D3) (C:Addr):Prop where
 cl:jL K C
 name:aF K C "name"
 plates:aF K C "plates"
 takes:aF K C "takes"
 steps:aF K C "steps"
 links:aF K C "links"
end Sw
namespace L2
open PySem PySem.Spec PyProof.Rows XH Sw So
theorem vx {X:Cx} (n:Nat) (hu:X.A.units+(n+1)<cLine):gA X (compareOp .Eq) (fun x y H Q=>∃a b xs ys,x= .ref a/\y= .ref b/\bX X.K H a xs/\bX X.K H b ys/\gG (rc X.K H n) xs ys/\Q (.bl true) H):=by
 intro pins s σ H x y v u Q I rx ry h;obtain ⟨a,b,xs,ys,rfl,rfl,h1,h2,hA,hq⟩:=h;cases rx;cases ry;obtain ⟨i1,v1,p1,_⟩:=I.tuple h1;obtain ⟨i2,v2,p2,_⟩:=I.tuple h2;refine SeqAt.eq_tupleAt (e:=fun _=>true) p1 p2 (by omega) (fun j g1 g2=>?_) ?_
 ·exact gb (A:=X.A.in1) (s:=s) (fun x y u w=>jo I n X.A.in1 x y u w (by show X.A.units+1+n<_;omega)) hA v1 v2 j (by simpa using g1) (by simpa using g2)
 ·exact ⟨.bl true,H,I,by show Value.bool _=Value.bool _;simp[<-v1.length,<-v2.length,hA.len],hq⟩
theorem vy {X:Cx} (n:Nat) (hu:X.A.units+(n+1)<cLine):gA X (compareOp .NotEq) (fun x y H Q=>∃a b xs ys,x= .ref a/\y= .ref b/\bX X.K H a xs/\bX X.K H b ys/\gG (rc X.K H n) xs ys/\Q (.bl false) H):=by
 intro pins s σ H x y v u Q I rx ry h;obtain ⟨a,b,xs,ys,rfl,rfl,h1,h2,hA,hq⟩:=h;cases rx;cases ry;obtain ⟨i1,v1,p1,_⟩:=I.tuple h1;obtain ⟨i2,v2,p2,_⟩:=I.tuple h2;refine SeqAt.RcNeAt.tuples (e:=fun _=>true) p1 p2 (by omega) (fun j g1 g2=>?_) _ _ _ _ ⟨.bl false,H,I,by show Value.bool _=Value.bool _;simp[<-v1.length,<-v2.length,hA.len],hq⟩
 exact gb (A:=X.A.in1) (s:=s) (fun x y u w=>jo I n X.A.in1 x y u w (by show X.A.units+1+n<_;omega)) hA v1 v2 j (by simpa using g1) (by simpa using g2)
end L2
namespace Sw
open PySem L2 XH Hm
end Sw
namespace L2
open PySem PySem.Spec PyProof.Rows XH Sw Hm
end L2
namespace Sw
open PySem L2 XH Hm
theorem tI {α:Type} {xs:List α} {i:Nat} {v d:α} (h:xs[i]?=some v):xs.getD i d=v:=by rw[E7,h];rfl
theorem fm {a n:Int} (h:0<n):0<=a.fmod n/\a.fmod n<n:=⟨DP a h,Df a h⟩
theorem lN {R:V->V->Prop}:∀{xs ys:List V},xs.length=ys.length->(∀(i:Nat) (x y:V),xs[i]?=some x->ys[i]?=some y->R x y)->gG R xs ys
 | [],[],_,_=>trivial
 |x::xs,y::ys,hl,h=>⟨h 0 x y rfl rfl,lN (by simpa using hl) fun i a b e1 e2=>h (i+1) a b (by simpa using e1) (by simpa using e2)⟩
 | [],_::_,hl,_=>by simp at hl
 |_::_,[],hl,_=>by simp at hl
end Sw
namespace L2
open PySem PySem.Spec PyProof.Rows XH Sw Hm
end L2
namespace Sw
open PySem L2 XH Hm
end Sw
namespace L2
open PySem PySem.Spec PyProof.Rows XH Sw Hm
theorem iH {xs:List V} {c:Nat}:dN xs (some (c:Int)) none=xs.drop c:=by
 by_cases h:c<=xs.length
 ·exact tF h
 ·rw[List.drop_eq_nil_of_le (by omega)]
  apply List.eq_nil_of_length_eq_zero;unfold dN;rw[DX,Ds];have:HT.c6 xs.length 0 (some (c:Int))=xs.length:=by
   show (if (c:Int)<0 then ((c:Int)+(xs.length:Int)).toNat else min (c:Int).toNat xs.length)=xs.length
   rw[if_neg (by omega)]
   omega
  rw[this];omega
end L2
namespace Sw
open PySem L2 XH Hm
end Sw
namespace L2
open PySem PySem.Spec PyProof.Rows XH Sw Hm
end L2
namespace Sw
open PySem L2 XH Hm
theorem bT {α:Type} {P:List α->Prop} (h:∀a,P [a]):∀us:List α,us.length=1->P us
 | [a],_=>h a
theorem cI {α:Type} {P:List α->Prop} (h:∀a b,P [a,b]):∀us:List α,us.length=2->P us
 | [a,b],_=>h a b
theorem dO {α:Type} {P:List α->Prop} (h:∀a b c,P [a,b,c]):∀us:List α,us.length=3->P us
 | [a,b,c],_=>h a b c
theorem lO {α:Type} {P:List α->Prop} (h:∀a b c d,P [a,b,c,d]):∀us:List α,us.length=4->P us
 | [a,b,c,d],_=>h a b c d
theorem xD {α:Type} {P:List α->Prop} (h:∀a b c d e f,P [a,b,c,d,e,f]):∀us:List α,us.length=6->P us
 | [a,b,c,d,e,f],_=>h a b c d e f
abbrev FnAt (K:D3) (f:Addr) (n q:Str) (st:Stmt) (dV:Value):Prop:=∃(oc:Value) (od:GR) (kV dc pm:Value) (an:GR) (cd ct:Value) (sl:GN),K.lookup f=some ⟨oc,od,.func (E3 n q (dS st) (dm st) (aw st) dV kV dc pm an cd ct),sl⟩/\PySem.W.codeIn K cd q=true/\E4 K (.ref f)=true
abbrev bJ (K:D3) (f:Addr) (x:Str) (st:Stmt) (dV:Value):Prop:=DN K mainGlobals x=some (some (.ref f))/\FnAt K f x x st dV
abbrev tJ (K:D3) (c f:Addr) (m q:Str) (st:Stmt) (dV:Value):Prop:=Dm K (.ref c) m=some (some (.ref f))/\FnAt K f m q st dV
abbrev Af (n q:Str) (st:Stmt) (dV:Value) (ps:GO):Prop:=∀(kV doc pm:Value) (an:GR) (cdv ct:Value) (us:GQ),us.length=ps.length->bindArgs (E3 n q (dS st) (dm st) (aw st) dV kV doc pm an cdv ct) ⟨us,[]⟩=pure (ps.zip us)
theorem df {N P:GO} {sc:Scope} (h:N.Nodup/\(∀x∈P,sc.names.lookup x=some .local∨sc.names.lookup x=some .cell)/\∀y∈sc.names,y.2≠ .free) (h1:sc.kind= .function:=by rfl) (h2:sc.isCoroutine=false:=by rfl) (h3:sc.isGenerator=false:=by rfl) (h4:N.take P.length=P:=by rfl):aC N P sc:=⟨h1,h2,h3,h.1,h4,h.2.1,h.2.2⟩
section
variable {P:Program} {w:World} {K:D3} {mg:GL} {base h:Heap} {CX:oC} {k:Nat} {f c:Addr} {x m q:Str} {st:Stmt} {ps:GO} {sp:Sp}
theorem FnAt.ex {n q:Str} {dV:Value} (a:FnAt K f n q st dV):∃fd,bv K n q st dV f fd/\E4 K (.ref f)=true:=by
 obtain ⟨_,_,_,_,_,_,_,_,_,l,c,k⟩:=a;exact ⟨_,gQ (st:=st) l c k,k⟩
structure Bx (P:Program) (w:World) (base:Heap):Prop
noncomputable def dI (_:Bx P w base) (X:K.In h) (G:h.Ns mainGlobals mg) (a:bJ K f x st .none) (b:Af x x st .none ps) (ok:∀{fd:FuncData},bv K x x st .none f fd->bh P w K mg base CX k f fd ps sp):Dx P w K mg base CX k x ps [] sp:=
 have e:=a.2.ex
 ⟨f,e.choose,ok e.choose_spec.1,DY X G a.1,e.choose_spec.2,e.choose_spec.1.binds0 b,[],e.choose_spec.1.binds0 b,.nil⟩
noncomputable def BA (_:Bx P w base) (a:tJ K c f m q st .none) (b:Af m q st .none ps) (ok:∀{fd:FuncData},bv K m q st .none f fd->bh P w K mg base CX k f fd ps sp):mT P w K mg base CX k f ps [] sp:=
 have e:=a.2.ex
 ⟨e.choose,ok e.choose_spec.1,e.choose_spec.1.binds0 b,[],e.choose_spec.1.binds0 b,.nil⟩
end
end Sw
namespace L2
open PySem PySem.Spec PyProof.Rows XH
open Sw So
end L2
namespace Sw
open PySem L2 XH Hm
def B6:HO->Bool
 | .lst _=>true
 | .tup _=>true
 |_=>false
abbrev RA (α:Type):=(Addr->Prop)->Hp->V->α->Prop
def An:Addr->Prop:=fun _=>True
class Mv {α:Type} (R:RA α):Prop where
 mv:∀{P P':Addr->Prop} {H H':Hp} {v:V} {x:α},(∀a o,P a->B6 o=true->H a=some o->P' a/\H' a=some o)->R P H v x->R P' H' v x
theorem xE {α:Type} {R:RA α} [Mv R] {P:Addr->Prop} {H H':Hp} {v:V} {x:α} (h:R P H v x) (g:aH H H'):R P H' v x:=Mv.mv (fun a o p _ e=>⟨p,g a o e⟩) h
theorem C2 {α:Type} {R:RA α} [Mv R] {P P':Addr->Prop} {H:Hp} {v:V} {x:α} (h:R P H v x) (g:∀a,P a->P' a):R P' H v x:=Mv.mv (fun a o p _ e=>⟨g a p,e⟩) h
theorem C3 {α:Type} {R:RA α} [Mv R] {P:Addr->Prop} {H:Hp} {v:V} {x:α} {l:Addr} (h:R P H v x) (n:¬P l) (o:HO):R P (aO H l o) v x:=Mv.mv (fun a u p _ e=>⟨p,by
  have:a≠l:=fun z=>n (by rw[<-z];exact p)
  rw[aB this];exact e⟩) h
def A2 {α:Type} (R:V->α->Prop) (vs:List V) (xs:List α):Prop:=vs.length=xs.length/\∀(i:Nat) (v:V) (x:α),vs[i]?=some v->xs[i]?=some x->R v x
theorem A2.imp {α:Type} {R S:V->α->Prop} {vs:List V} {xs:List α} (h:A2 R vs xs) (f:∀v x,R v x->S v x):A2 S vs xs:=⟨h.1,fun i v x e1 e2=>f v x (h.2 i v x e1 e2)⟩
theorem A2.get {α:Type} {R:V->α->Prop} {vs:List V} {xs:List α} (h:A2 R vs xs) {i:Nat} {x:α} (e:xs[i]?=some x):∃v,vs[i]?=some v/\R v x:=by
 have il:i<vs.length:=by rw[h.1];exact (DM.mp e).1
 exact ⟨_,D1 il,h.2 i _ x (D1 il) e⟩
theorem A2.at_ {α:Type} {R:V->α->Prop} {vs:List V} {xs:List α} (h:A2 R vs xs) {i:Nat} {v:V} (e:vs[i]?=some v):∃x,xs[i]?=some x/\R v x:=by
 have il:i<xs.length:=by rw[<-h.1];exact (DM.mp e).1
 exact ⟨_,D1 il,h.2 i v _ e (D1 il)⟩
theorem A2.nil {α:Type} {R:V->α->Prop}:A2 R [] ([]:List α):=⟨rfl,fun i a x e=>by simp at e⟩
theorem A2.append {α:Type} {R:V->α->Prop} {as bs:List V} {xs ys:List α} (h:A2 R as xs) (k:A2 R bs ys):A2 R (as++bs) (xs++ys):=by
 refine ⟨by simp[h.1,k.1],fun i a x e1 e2=>?_⟩
 by_cases c:i<as.length
 ·rw[Do c] at e1;rw[Do (by rw[<-h.1];exact c)] at e2
  exact h.2 i a x e1 e2
 ·rw[E6 (by omega)] at e1
  rw[E6 (by rw[<-h.1];omega),<-h.1] at e2
  exact k.2 _ a x e1 e2
theorem A2.one {α:Type} {R:V->α->Prop} {v:V} {x:α} (h:R v x):A2 R [v] [x]:=⟨rfl,fun i a y e1 e2=>by
 cases i with
 |zero=>simp at e1 e2;subst e1 e2;exact h
 |succ n=>simp at e1⟩
theorem A2.snoc {α:Type} {R:V->α->Prop} {vs:List V} {xs:List α} (h:A2 R vs xs) {v:V} {x:α} (r:R v x):A2 R (vs++ [v]) (xs++ [x]):=h.append (.one r)
def iZ {α:Type} (R:RA α) (P:Addr->Prop) (H:Hp) (l:Addr) (xs:List α):Prop:=∃vs,H l=some (.lst vs)/\A2 (R P H) vs xs
def eH {α:Type} (f:α->List V):RA α:=fun P H v x=>∃t,v= .ref t/\P t/\H t=some (.tup (f x))
instance {α:Type} {f:α->List V}:Mv (eH f) where
 mv:=fun {P P' H H' v x} g h=>by
  obtain ⟨t,rfl,p,e⟩:=h;obtain ⟨p',e'⟩:=g t _ p rfl e;exact ⟨t,rfl,p',e'⟩
def re {α:Type} (f:α->V):RA α:=fun _ _ v x=>v=f x
instance {α:Type} {f:α->V}:Mv (re f) where
 mv:=fun _ h=>h
theorem A2.val {α:Type} {f:α->V} {P:Addr->Prop} {H:Hp} {vs:List V} {xs:List α} (h:A2 (re f P H) vs xs):vs=xs.map f:=by
 apply List.ext_getElem (by rw[D4];exact h.1)
 intro i h1 h2;rw[List.getElem_map];exact h.2 i _ _ (D1 h1) (D1 (by rw[D4] at h2;exact h2))
theorem iZ.same {α:Type} {R:RA α} [Mv R] {P:Addr->Prop} {H H':Hp} {l:Addr} {xs:List α} (h:iZ R P H l xs) (g:aH H H'):iZ R P H' l xs:=let ⟨vs,e,r⟩:=h;⟨vs,g _ _ e,r.imp fun _ _ q=>xE q g⟩
end Sw
namespace L2
open PySem PySem.Spec PyProof.Rows XH Sw Hm
theorem xF {J:It} {β:Type} {n:Nat} {js:List Nat} {te:TE} {σ:L2.St} {H1:Hp} {Q:VK} (R:RA β) [Mv R] (Z:Addr->Prop) (f:Nat->β) (hz:n<=sizeLine) (hZ:∀a,Z a->H1 a≠none)
  (hgo:∀i H2,aH H1 H2->i<n->J.go i H2) (hst:∀H2,aH H1 H2->J.stop n H2)
  (step:∀i,i<n->∀H2 x H3,aH H1 H2->J.yld i H2 x H3->H3=H2/\∀Q':VK,(∀y H5,aH H2 H5->R (fun a=>H2 a=none∨Z a) H5 y (f i)->Q' y H5)->te (some x::cw js σ) H2 Q')
  (fin:∀p H',H1 p=none->aH H1 H'->iZ R (fun a=>a≠p/\(H1 a=none∨Z a)) H' p ((EA n).map f)->Q (.ref p) H'):mQ js te σ Q J H1:=by
 intro p hp;refine ⟨fun i m ys H2=>i<=n/\m=n-i/\aH H1 H2/\H2 p=some (.lst ys)/\A2 (R (fun a=>a≠p/\(H1 a=none∨Z a)) H2) ys ((EA i).map f),⟨n,E1 _,rfl,Sw.aq hp _,af,A2.nil⟩,?_⟩
 rintro i m ys H2 ⟨hi,rfl,g,e,r⟩;refine ⟨e,?_⟩
 by_cases hin:i<n
 ·refine .inr ⟨hgo i H2 g hin,?_,fun x H3 hy=>?_⟩
  ·have:=r.1;rw[D4,List.length_range] at this;omega
  obtain ⟨rfl,h2⟩:=step i hin H2 x H3 g hy;refine h2 _ fun y H5 g5 ry=>⟨g5 _ _ e,n-(i+1),by omega,hin,rfl,Sw.fJ (g.trans g5) hp _,af,?_⟩
  rw[List.range_succ,DQ];have np:¬(p≠p/\(H1 p=none∨Z p)):=fun z=>z.1 rfl
  refine ((r.imp fun v b q=>xE q g5).snoc (C2 ry fun a ha=>?_)).imp fun v b q=>C3 q np _
  rcases ha with h|h
  ·exact ⟨(fun z=>by rw[z,e] at h;cases h),.inl (g.free h)⟩
  ·exact ⟨fun z=>hZ a h (z▸hp),.inr h⟩
 ·have e2:i=n:=by omega
  subst e2;exact .inl ⟨hst H2 g,fin p H2 hp g ⟨ys,e,r⟩⟩
section
variable {K:D3} {β:Type} {a:Addr} {xs:List V} {n:Nat} {js:List Nat} {tc:TT} {te:TE} {σ:L2.St} {H1:Hp} {Q:VK}
theorem i0 (R:RA β) [Mv R] (Z:Addr->Prop) (f:Nat->β) (hS:aE K H1 a xs) (hz:xs.length<=sizeLine) (hZ:∀a,Z a->H1 a≠none)
  (s2:∀i x,xs[i]?=some x->∀H2,aH H1 H2->∀Q':VK,(∀y H5,aH H2 H5->R (fun a=>H2 a=none∨Z a) H5 y (f i)->Q' y H5)->te (some x::cw js σ) H2 Q')
  (fin:∀p H',H1 p=none->aH H1 H'->iZ R (fun a=>a≠p/\(H1 a=none∨Z a)) H' p ((EA xs.length).map f)->Q (.ref p) H'):mQ js te σ Q (wR K a) H1:=by
 refine xF R Z f hz hZ (fun i H2 g hi=>⟨xs,xs[i],g.seq hS,D1 hi⟩) (fun H2 g=>⟨xs,g.seq hS,D9 _⟩) (fun i hi H2 x H3 g hy=>?_) fin
 obtain ⟨rfl,hx⟩:=hy;exact ⟨rfl,s2 i x (hx xs (g.seq hS)) _ g⟩
end
end L2
namespace Sw
open PySem L2 XH Hm
def jp (xs:List V):Prop:=∀x∈xs,zm x
theorem jq {K:D3} {H:Hp} {xs:List V} (h:jp xs):gG (rc K H 0) xs xs:=lN rfl fun i x y h1 h2=>by
 rw[h1] at h2;cases h2;exact ⟨rfl,h x (D5 h1)⟩
theorem ql {α:Type} {f:α->List V} {K:D3} {P P':Addr->Prop} {H:Hp} {v w:V} {x:α} (hs:jp (f x)) (h:eH f P H v x) (k:eH f P' H w x):rc K H 1 v w:=by
 obtain ⟨t,rfl,_,e⟩:=h;obtain ⟨t',rfl,_,e'⟩:=k;exact .inr ⟨t,t',_,_,rfl,rfl,.inl ⟨bX.of e,bX.of e'⟩,jq hs⟩
theorem o9 {α:Type} {R:RA α} {K:D3} {P P':Addr->Prop} {H:Hp} {n:Nat} {vs ws:List V} {xs:List α} (f:∀v w x,x∈xs->R P H v x->R P' H w x->rc K H n v w) (h:A2 (R P H) vs xs) (k:A2 (R P' H) ws xs):gG (rc K H n) vs ws:=
 lN (h.1.trans k.1.symm) fun i v w e1 e2=>by
  obtain ⟨x,hx,q⟩:=h.at_ e1;exact f v w x (D5 hx) q (k.2 i w x e2 hx)
open PySem.NumText
def xG:Str:= "abcdefghijklmnopqrstuvwxyz"
def Nm (z:Str):Prop:=1<=(sL z).length/\(sL z).length<=12/\∀c∈sL z,97<=c/\c<=122
theorem qm (c:Nat):(!(Builtin.Str.occurrences xG (bG [c]) 0 xG.length 1).isEmpty)=decide (97<=c/\c<=122):=by
 rw[iF];have e:sL xG=(EA 26).map (97+ ·):=by decide
 rw[e];apply decide_eq_decide.mpr;constructor
 ·intro h;obtain ⟨i,hi,rfl⟩:=DI.mp h;have:=List.mem_range.mp hi;omega
 ·intro h;exact DI.mpr ⟨c-97,List.mem_range.mpr (by omega),by omega⟩
def m7 (K:D3):Sp:=fun vs H Q _=>∃x:V,vs= [x]/\((∃z:Str,x= .str z/\z.length<=1000000/\(Nm z->Q (.bl true) H)/\(¬Nm z->Q (.bl false) H))∨∃ty,gE K H x ty/\DJ K ty (.type "str")=some false/\Q (.bl false) H)
end Sw
namespace L2
open PySem PySem.Spec PyProof.Rows XH Sw
end L2
namespace Sw
open PySem L2 XH Hm
theorem tK {α:Type} (xs:List α) (d:α):(EA xs.length).map (fun i=>xs.getD i d)=xs:=by
 apply List.ext_getElem
 ·rw[D4,List.length_range]
 ·intro i h1 h2;rw[List.getElem_map,List.getElem_range,tI (D1 h2)]
open PyProof.Rows So
structure wv (fs:List (Str×V)) (nm l m u s:V):Prop where
 name:fs.lookup ("name" :Str)=some nm
 least:fs.lookup ("least" :Str)=some l
 most:fs.lookup ("most" :Str)=some m
 uses:fs.lookup ("uses" :Str)=some u
 second:fs.lookup ("second" :Str)=some s
 word:fs.lookup ("word" :Str)=none
 span:fs.lookup ("span" :Str)=none
 grown:fs.lookup ("grown" :Str)=none
 way:fs.lookup ("grown_way" :Str)=none
theorem jr {nm l m u s:V}:wv (gD nm l m u s) nm l m u s:=by
 constructor
 all_goals
  first
   |exact tG (by decide+kernel)
   |(unfold gD;simp only[bE];(repeat rw[if_neg (by decide+kernel)]);simp)
theorem tL {nm l m u s f:V}:wv (warmF nm l m u s f) nm l m u s:=by
 have h:=jr (nm:=nm) (l:=l) (m:=m) (u:=u) (s:=s);have k:∀{g:Str},g≠ "fill" ->(warmF nm l m u s f).lookup g=(gD nm l m u s).lookup g:=fun {g} hg=>by
  unfold warmF;rw[bE,if_neg hg]
 exact ⟨(k (by decide+kernel)).trans h.name,(k (by decide+kernel)).trans h.least,(k (by decide+kernel)).trans h.most,(k (by decide+kernel)).trans h.uses,(k (by decide+kernel)).trans h.second,(k (by decide+kernel)).trans h.word,(k (by decide+kernel)).trans h.span,(k (by decide+kernel)).trans h.grown,(k (by decide+kernel)).trans h.way⟩
abbrev Ag:=Option (Int×Int×GP)
def wx (H:Hp) (s:V):Ag->Prop
 |none=>s= .non
 |some (x,y,vs)=>∃t l2,s= .ref t/\H t=some (.tup [.int x,.int y,.ref l2])/\H l2=some (.lst (vs.map V.ref))
def tM (H0 H:Hp) (s:V):Ag->Prop
 |none=>s= .non
 |some (x,y,vs)=>∃t l2,s= .ref t/\H t=some (.tup [.int x,.int y,.ref l2])/\H l2=some (.lst (vs.map V.ref))/\H0 t=none/\H0 l2=none
def wy (H:Hp) (u:V) (us:GP):Prop:=(u= .non/\us= [])∨∃l,u= .ref l/\H l=some (.lst (us.map V.ref))
def i3 (K:D3):Sp:=fun vs H Q _=>∃(a C dx:Addr) (nm:Str) (l m:Int) (uv sv:V) (us:GP) (c:Ag),vs= [.ref a,.str nm,.int l,.int m,uv,sv]/\H a=some (.ins C dx [])/\fD K C/\wy H uv us/\wx H sv c/\
 ∀(u:Addr) (s:V) (H':Hp),Kept H H' a->u≠a->H u=none->H' u=some (.lst (us.map V.ref))->tM H H' s c->H' a=some (.ins C dx (gD (.str nm) (.int l) (.int m) (.ref u) s))->Q .non H'
def lP (K:D3):Sp:=fun vs H Q _=>∃(a C dx:Addr) (nm:Str) (l m:Int) (fl uv sv:V) (us:GP) (c:Ag),vs= [.ref a,.str nm,.int l,.int m,fl,uv,sv]/\H a=some (.ins C dx [])/\fD K C/\aF K C "fill" /\wy H uv us/\wx H sv c/\
 ∀(u:Addr) (s:V) (H':Hp),Kept H H' a->u≠a->H u=none->H' u=some (.lst (us.map V.ref))->tM H H' s c->H' a=some (.ins C dx (warmF (.str nm) (.int l) (.int m) (.ref u) s fl))->Q .non H'
def fj (w:Str):Sp:=fun vs H Q _=>∃x,vs= [x]/\Q (.str w) H
theorem tM.self {H0 H:Hp} {a C dx:Addr} {fs:List (Str×V)} {o:HO} {s:V} (ea:H a=some (.ins C dx fs)):∀{c:Ag},tM H0 H s c->tM H0 (aO H a o) s c
 |none,h=>h
 |some (_,_,_),⟨t,l2,h1,h2,h3,h4,h5⟩=>⟨t,l2,h1,by rw[aB (fun z=>by rw[z,ea] at h2;cases h2)];exact h2,by rw[aB (fun z=>by rw[z,ea] at h3;cases h3)];exact h3,h4,h5⟩
end Sw
namespace L2
open PySem PySem.Spec PyProof.Rows XH Sw
theorem dY {X:Cx} {K:D3} (hK:X.K=K):dH X (.builtin "isinstance") (fun xs H Q=>∃x t D b,xs= [x,.ref D]/\gE K H x t/\DJ K t (.ref D)=some b/\Q (.bl b) H):=by
 subst hK;intro pins s σ H xs us Q I r h;obtain ⟨x,t,D,b,rfl,ty,e,q⟩:=h;cases r with
 |cons r1 rr=>
  cases rr with
  |cons r2 rr=>
   cases rr;cases r2;exact jT I r1 ty e fun tk=>⟨.bl b,H,I.tok _,rfl,q⟩
end L2
namespace Sw
open PySem L2 XH PyProof.Rows
structure uC (K:D3) (C:Addr):Prop where
 ha:Dm K (.ref C) "__class__" =some (some (.builtin "object.__class__"))
 hn:PySem.W.specialIn K (.builtin "object.__class__") "__get__" =some (some (.builtin "getset_descriptor.__get__"))
 htk:PySem.W.takesIn K (.builtin "object.__class__")=some true
 hm:PySem.W.mroIn K C (.type "object")=some true
theorem hU {H:Hp} {x dx C:Addr} (nx:H x=none) (nd:H dx=none):aH H (aO (aO H dx (.own x)) x (.ins C dx [])):=fun b o h=>by
 rw[aB (aQ h nx),aB (aQ h nd)];exact h
theorem lQ {z:Str} {n:Int} (h0:0<=n) (h:n<=(z.length:Int)):((gB z none (some n)).length:Int)=n:=by
 show ((((z.cps.toList.drop _).take _).toArray.size:Nat):Int)=n;rw[DK,DX,Ds];have e0:HT.c6 z.length 0 none=0:=rfl;have e1:HT.c6 z.length z.length (some n)=min n.toNat z.length:=by
  unfold HT.c6;simp;omega
 rw[e0,e1];have:z.cps.toList.length=z.length:=cX z;omega
theorem nh {α:Type} {n:Nat} {g:Nat->α} (h:∀i j,i<n->j<n->g i=g j->i=j):((EA n).map g).Nodup:=by
 refine List.pairwise_map.mpr (List.Pairwise.imp_of_mem (fun {a b} ha hb hne e=>hne ?_) List.nodup_range)
 exact h a b (List.mem_range.mp ha) (List.mem_range.mp hb) e
theorem tN:∀i:_root_.Fin 12,∀j:_root_.Fin 12,(12-(5*(0+((i.val:Nat):Int))).fmod 12:Int)=12-(5*(0+((j.val:Nat):Int))).fmod 12->i=j:=by decide
def ni:Str:= "abcdefghijklmnopqrstuvwxyz"
theorem xH:∀i:Nat,i<26->ni.cps.toList[i]?=some (97+i):=by decide
theorem qo {v:Int} (h0:0<=v) (h:v<26):ir ni.cps.toList v=some (97+v.toNat):=by
 have:=xH v.toNat (by omega)
 have e:v=((v.toNat:Nat):Int):=by omega
 rw[e];exact aD this
theorem tO {ys:List V} {n:Nat} {g:Nat->Str} (hl:ys.length=n) (h:∀(i:Nat) (y:V),ys[i]?=some y->y= .str (g i)):ys=((EA n).map g).map V.str:=by
 apply List.ext_getElem?;intro i;cases e:ys[i]? with
 |none=>
  have:=List.getElem?_eq_none_iff.mp e;rw[List.getElem?_eq_none (by simp;omega)]
 |some y=>
  have il:=(DM.mp e).1;rw[h i y e,DA,DA,List.getElem?_range (by omega)]
  rfl
end Sw
namespace L2
open PySem PySem.Spec PyProof.Rows XH Sw
theorem vz {X:Cx} {e:Expr} {ta:TE} {f:Str} {pos:Pos} {K:D3} (hK:X.K=K) (he:PE X e ta) (hb:attributeBase e f X.env (eval e X.env)=eval e X.env):PE X (.Attribute e f pos) (zI K ta f):=by
 subst hK;exact aL he hb
end L2
namespace Sw
open PySem L2 XH PyProof.Rows
def Lt (z:Str):Prop:=∀c∈sL z,97<=c/\c<=122
theorem Lt.app {x y:Str} (h:Lt x) (k:Lt y):Lt (x++y):=fun c hc=>by
 rw[bQ] at hc;rcases DC.mp hc with q|q
 ·exact h c q
 ·exact k c q
theorem Lt.cut {x:Str} (h:Lt x) (lo hi:Option Int):Lt (gB x lo hi):=fun c hc=>by
 have hc':c∈((sL x).drop (HT.c6 x.length 0 lo)).take (HT.c6 x.length x.length hi-HT.c6 x.length 0 lo):=by simpa [sL,gB] using hc
 exact h c (List.mem_of_mem_drop (List.mem_of_mem_take hc'))
theorem Lt.nil:Lt "" :=fun c hc=>by
 have:c∈([]:List Nat):=hc;simp at this
theorem Lt.one {c:Nat} (h:97<=c/\c<=122):Lt ⟨#[c]⟩:=fun d hd=>by
 have:d∈ [c]:=hd;rw[D8.mp this];exact h
theorem vA {x:Str} {i:Int} (h:0<=i):(gB x none (some i)).length=min i.toNat x.length:=by
 have e1:HT.c6 x.length 0 none=0:=rfl;have e2:HT.c6 x.length x.length (some i)=min i.toNat x.length:=by
  unfold HT.c6;simp;omega
 show ((x.cps.toList.drop _).take _).toArray.size=_;rw[e1,e2,DK,DX,Ds];have:x.cps.toList.length=x.length:=by simp[Str.length]
 omega
theorem Lt.nm {z:Str} (h:Lt z) (h1:1<=z.length) (h2:z.length<=12):Nm z:=⟨by rw[cX];exact h1,by rw[cX];exact h2,h⟩
end Sw
namespace L2
open PySem PySem.Spec PyProof.Rows XH Sw
end L2
namespace Sw
open PySem L2 XH Hm PySem.NumText
end Sw
namespace L2
open PySem PySem.Spec PyProof.Rows XH Sw
end L2
namespace Sw
open PySem L2 XH Hm
end Sw
namespace L2
open PySem PySem.Spec PyProof.Rows XH Sw Hm
theorem ph {X:Cx} (n:Nat) (hu:X.A.units+(n+1)<cLine):gA X (compareOp .NotEq) (fun x y H Q=>∃a b xs ys,x= .ref a/\y= .ref b/\aE X.K H a xs/\aE X.K H b ys/\gG (rc X.K H n) xs ys/\Q (.bl false) H):=by
 intro pins s σ H x y v u Q I rx ry h;obtain ⟨a,b,xs,ys,rfl,rfl,h1,h2,hA,hq⟩:=h;cases rx;cases ry;obtain ⟨i1,v1,p1,_⟩:=I.list h1;obtain ⟨i2,v2,p2,_⟩:=I.list h2;refine SeqAt.RcNeAt.lists (e:=fun _=>true) p1.isList p2.isList (by simp[<-v1.length,<-v2.length,hA.len]) (by omega) (fun j g1 g2=>?_) _ _ _ _ ⟨.bl false,H,I,by show Value.bool _=Value.bool _;simp,hq⟩
 exact gb (A:=X.A.in1) (s:=s) (fun x y u w=>jo I n X.A.in1 x y u w (by show X.A.units+1+n<_;omega)) hA v1 v2 j (by simpa using g1) (by simpa using g2)
end L2
namespace Sw
open PySem L2 XH Hm
end Sw
namespace L2
open PySem PySem.Spec PyProof.Rows XH Sw
end L2
namespace Sw
open PySem L2 XH Hm
open PySem.NumText
theorem Lt.join:∀{ws:GO},(∀w∈ws,Lt w)->Lt (Str.join Str.empty ws)
 | [],_=>Lt.nil
 | [x],h=>h x (by simp)
 |x::y::r,h=>by
  have ih:=Lt.join (ws:=y::r) fun w hw=>h w (D7 _ hw)
  show Lt (x++Str.empty++Str.join Str.empty (y::r));exact ((h x (by simp)).app Lt.nil).app ih
theorem Lt.tjoin {ws:GO} (h:∀w∈ws,Lt w):Lt (Txt.join "" ws):=by
 have:Txt.join "" ws=Str.join Str.empty ws:=StrLaws.glued_eq_join _ ws;rw[this];exact Lt.join h
end Sw
namespace L2
open PySem
end L2
namespace Sw
open PySem L2 XH Hm PySem.NumText
end Sw
namespace L2
open PySem
end L2
namespace Sw
open PySem L2 XH Hm PySem.NumText
end Sw
namespace L2
open PySem
end L2
namespace Sw
open PySem L2 XH Hm PySem.NumText
end Sw
namespace L2
open PySem PySem.Spec PyProof.Rows XH
end L2
namespace Sw
open PySem L2 XH Hm PySem.NumText
end Sw
namespace L2
open PySem PySem.Spec PyProof.Rows XH Sw Hm
end L2
namespace Sw
open PySem L2 XH Hm PySem.NumText
end Sw
namespace L2
open PySem PySem.Spec PyProof.Rows XH Sw Hm
end L2
namespace Sw
open PySem L2 XH Hm PySem.NumText
end Sw
namespace L2
open PySem PySem.Spec PyProof.Rows XH Sw Hm
end L2
namespace Sw
open PySem L2 XH Hm PySem.NumText
end Sw
namespace L2
open PySem PySem.Spec PyProof.Rows XH Sw
theorem rf {X:Cx}:dH X (.type "str") (fun xs H Q=>(∃i,xs= [.int i]/\i.natAbs.log2<1920/\Q (.str (toString i)) H)∨∃z,xs= [.str z]/\Q (.str z) H):=by
 intro pins s σ H xs us Q I r h;rcases h with h|⟨z,rfl,q⟩
 ·exact aG pins s σ H xs us Q I r h
 ·obtain ⟨u,rfl,t,rfl⟩:=vals1 r;exact PySem.P.str_of_str ⟨.str z,H,I,⟨_,rfl⟩,q⟩
def lR:Value->Bool
 | .none=>true
 |_=>false
theorem kv {a b:Str} {p q:Prop} (h1:a=b->p) (h2:a≠b->q):if decide (V.str a=V.str b)=true then p else q:=by
 by_cases e:a=b
 ·subst e;rw[if_pos (by simp)];exact h1 rfl
 ·rw[if_neg (by simp[e])];exact h2 e
end L2
namespace Sw
open PySem L2 XH Hm PySem.NumText
def bw (n:Nat):Str:=bG (dg n)
def vN (n:Nat):V:= .int (n:Int)
def jO:Str:=bG [32]
def md:Str:=bG [10]
def xI (l:List Nat):Bool:=decide (1<=l.length)&&decide (l.length<=30)&&(decide (l.head?≠some 48)||decide (l= [48]))&&l.all fun c=>decide (48<=c/\c<=57)
def xJ (z:Str):Bool:=decide (1<=(sL z).length)&&decide ((sL z).length<=12)&&(sL z).all fun c=>decide (97<=c/\c<=122)
theorem gd (z:Str):xJ z=true↔Nm z:=by
 unfold xJ Nm;simp[and_assoc]
def nj (K:D3) (a:Addr) (xs:GO):Prop:=∃(o:Obj) (its:Array Value) (n:Nat),K.lookup a=some o/\o.cls= .type "tuple" /\o.data= .seq its n/\its.size<=sizeLine/\bn (xs.map V.str) its.toList
theorem nj.sq {K:D3} {a:Addr} {xs:GO} (h:nj K a xs) (H:Hp):bX K H a (xs.map V.str):= .inr h
theorem br {n:Nat} (h:n<=999999999):(bw n).length<=9:=by
 have:=cV (n:=n) (k:=8) (by omega)
 rw[<-cX,bw,bx];exact this
theorem cJ {n:Nat} (h:n<=999999999):(n:Int).natAbs.log2<1920:=lg (Dt h (by decide))
theorem gf {m:Nat}:∀{ws:GO},(∀w∈ws,w.length<=m)->(ws.map fun x=>x.length).sum<=m*ws.length
 | [],_=>D9 _
 |w::ws,h=>by
  have h1:=h w Dc;have h2:=gf (ws:=ws) fun x hx=>h x (D7 _ hx)
  rw[Dd,List.sum_cons,DD,Nat.mul_add];omega
theorem map_getD {α β:Type} (f:α->β) (xs:List α) (d:α):(EA xs.length).map (fun i=>f (xs.getD i d))=xs.map f:=by
 conv=>rhs;rw[<-tK xs d,EV]
 rfl
def B7 (ws:GO):Prop:=ws.length<=100000/\∀w∈ws,w.length<=10000
theorem jt (l:List Nat):xI l=true↔vn l:=by
 unfold xI vn AllDigits;simp[and_assoc]
theorem vB {z:Str} {c:Nat} (h:z.length<=10000):B7 (Txt.split z (bG [c])):=by
 have j:=congrArg Str.length (StrLaws.join_split z (bG [c]));rw[<-StrLaws.glued_eq_join,PySem.size_glued,b8] at j;have one:∀{ws:GO} {w:Str},w∈ws->w.length<=(ws.map fun x=>x.length).sum:=fun {ws w} hw=>by
  induction ws with
  |nil=>cases hw
  |cons x ws ih=>
   rw[Dd,List.sum_cons];rcases D2.mp hw with rfl|hw
   ·omega
   ·have:=ih hw;omega
 refine ⟨?_,fun w hw=>?_⟩
 ·simp at j;omega
 ·have:=one hw;omega
abbrev bN:=Str×Nat×Nat
abbrev dh:=Nat×Nat
structure SV where
 w:Str
 n:Str
 lo:Nat
 hi:Nat
 fill:Option dh
 uses:List bN
 sec:Option (Nat×Nat×List bN)
abbrev ky:=Str×Nat×Nat×Nat
structure Md where
 takes:List (Str×dh)
 steps:List SV
 links:List ky
def i4 (a:dh):Str:=bG (cO a.1 a.2)
def dr:Option dh->GO
 |none=> []
 |some a=> [i4 a]
def cD (w n:Str) (u:bN):GO:= [w,n,u.1,bw u.2.1,bw u.2.2]
def gH (s:SV):GO:= [s.w,s.n,bw s.lo,bw s.hi]++dr s.fill
def eE (n:Str) (lo hi:Nat):GO:= ["or",n,bw lo,bw hi]
def cK (w a b:Str) (t:Nat):GO:= [w,a,b]++if w= "within" then [bw t] else []
def jB (ws:GO):Str:=Txt.join jO ws
def du (n:Str):Option (Nat×Nat×List bN)->GO
 |none=> []
 |some (lo,hi,us)=>jB (eE n lo hi)::us.map fun u=>jB (cD "orwith" n u)
def aT (s:SV):GO:=jB (gH s)::(s.uses.map fun u=>jB (cD "with" s.n u))++du s.n s.sec
def hV (ss:List SV) (i:Nat):Str:=(ss.map fun s=>s.n).getD i ""
def cQ (ss:List SV) (k:ky):Str:=jB (cK k.1 (hV ss k.2.1) (hV ss k.2.2.1) k.2.2.2)
def cS (x:Str×dh):Str:=jB ["take",x.1,i4 x.2]
def bj (n:Str) (p:Nat):Str:=jB ["dish",n,bw p]
def i6 (n:Str) (p:Nat) (M:Md):GO:=bj n p::M.takes.map cS++(M.steps.map aT).flatten++M.links.map (cQ M.steps)
def gI (n:Str) (p:Nat) (M:Md):Str:=Txt.join md (i6 n p M)
structure pi (a:dh):Prop where
 pos:0<a.1
 rd:Reads (cO a.1 a.2) a.1 a.2
 bp:a.1<10^40
 bq:a.2<1000
 len:(cO a.1 a.2).length<=40
def jP (zs:GO) (us:List bN):Prop:=us.length<=12/\∀(i:Nat) (u:bN),us[i]?=some u->zs[(5*i+3) % 12]?=some u.1/\1<=u.2.1/\u.2.1<=8/\u.2.2<=1000
def ju (lo hi:Nat):Prop:=1<=lo/\lo<=hi/\hi<=100000
def uD (w:Str):Prop:=w= "cut" ∨w= "rest" ∨w= "warm"
def zo (w:Str):Prop:=w= "after" ∨w= "within" ∨w= "apart"
def ny (w:Str):Option dh->Prop
 |none=>w≠ "warm"
 |some a=>w= "warm" /\pi a
structure Ah (zs:GO) (i:Nat) (s:SV):Prop where
 nm:zs[7*i % 12]?=some s.n
 wd:uD s.w
 le:ju s.lo s.hi
 fl:ny s.w s.fill
 us:jP zs s.uses
 sec:∀x,s.sec=some x->ju x.1 x.2.1/\jP zs x.2.2
structure zp (n:Nat) (k:ky):Prop where
 w:zo k.1
 a:k.2.1<n
 b:k.2.2.1<n
 ab:k.2.1≠k.2.2.1
 t:k.2.2.2<=100000
 t0:k.1≠ "within" ->k.2.2.2=0
structure gh (zs:GO) (room:Nat) (M:Md):Prop where
 t12:M.takes.length<=12
 ts:∀(i:Nat) (x:Str×dh),M.takes[i]?=some x->zs[(5*i+1) % 12]?=some x.1/\pi x.2
 sr:M.steps.length<=room
 ss:∀(i:Nat) (s:SV),M.steps[i]?=some s->Ah zs i s
 k24:M.links.length<=24
 ks:∀k∈M.links,zp M.steps.length k
structure Zs (zs:GO):Prop where
 len:zs.length=12
 nd:zs.Nodup
 nm:∀z∈zs,Nm z
inductive qp where
 |twice
 |nostep
 |full
inductive Rr where
 |take (g:Str) (a:dh)
 |step (w n:Str) (lo hi:Nat) (f:Option dh)
 |sec (n:Str) (lo hi:Nat)
 |use (o:Bool) (n:Str) (u:bN)
 |link (w a b:Str) (t:Nat)
def iV:Rr->GO
 | .take g a=> ["take",g,i4 a]
 | .step w n lo hi f=> [w,n,bw lo,bw hi]++dr f
 | .sec n lo hi=>eE n lo hi
 | .use o n u=>cD (if o=true then "orwith" else "with") n u
 | .link w a b t=>cK w a b t
def eG (r:Rr):Str:=jB (iV r)
def eM:Rr->Prop
 | .take g a=>Nm g/\pi a
 | .step w n lo hi f=>uD w/\Nm n/\ju lo hi/\ny w f
 | .sec n lo hi=>Nm n/\ju lo hi
 | .use _ n u=>Nm n/\Nm u.1/\1<=u.2.1/\u.2.1<=8/\u.2.2<=1000
 | .link w a b t=>zo w/\Nm a/\Nm b/\a≠b/\t<=100000/\(w≠ "within" ->t=0)
def place (M:Md) (n:Str):Option Nat:=M.steps.findIdx? fun s=>decide (s.n=n)
def fk (M:Md) (n:Str) (f:SV->Except qp SV):Except qp Md:=match place M n with
 |none=> .error .nostep
 |some i=>match M.steps[i]? with
  |none=> .error .nostep
  |some s=>match f s with
   | .error e=> .error e
   | .ok s'=> .ok {M with steps:=M.steps.set i s'}
def nA (us:List bN) (u:bN):Except qp (List bN):=if u.1∈us.map (fun x=>x.1) then .error .twice else if us.length=12 then .error .full else .ok (us++ [u])
def cY (M:Md):Rr->Except qp Md
 | .take g a=>if g∈M.takes.map (fun x=>x.1) then .error .twice else if M.takes.length=12 then .error .full else .ok {M with takes:=M.takes++ [(g,a)]}
 | .step w n lo hi f=>if n∈M.steps.map (fun s=>s.n) then .error .twice else if M.steps.length=12 then .error .full else .ok {M with steps:=M.steps++ [⟨w,n,lo,hi,f,[],none⟩]}
 | .sec n lo hi=>fk M n fun s=>match s.sec with
  |some _=> .error .twice
  |none=> .ok {s with sec:=some (lo,hi,[])}
 | .use false n u=>fk M n fun s=>match nA s.uses u with
  | .error e=> .error e
  | .ok us=> .ok {s with uses:=us}
 | .use true n u=>fk M n fun s=>match s.sec with
  |none=> .error .nostep
  |some (lo,hi,us)=>match nA us u with
   | .error e=> .error e
   | .ok us=> .ok {s with sec:=some (lo,hi,us)}
 | .link w a b t=>match place M a with
  |none=> .error .nostep
  |some i=>match place M b with
   |none=> .error .nostep
   |some j=>if M.links.length=24 then .error .full else .ok {M with links:=M.links++ [(w,i,j,t)]}
def B8 (M:Md) (z:Str) (M':Md):Prop:=(z= "" /\M'=M)∨∃r,z=eG r/\eM r/\cY M r= .ok M'
theorem Zs.inj {zs:GO} (h:Zs zs) {i j:Nat} {z:Str} (hi:zs[i]?=some z) (hj:zs[j]?=some z):i=j:=by
 have il:=(DM.mp hi).1;exact (List.getElem?_inj il h.nd).mp (hi.trans hj.symm)
theorem Zs.at_ {zs:GO} (h:Zs zs) {i:Nat} (hi:i<12):∃z,zs[i]?=some z/\Nm z:=by
 have il:i<zs.length:=by rw[h.len];exact hi
 exact ⟨_,D1 il,h.nm _ (EB il)⟩
theorem Zs.mem {zs:GO} (h:Zs zs) {i:Nat} {z:Str} (e:zs[i]?=some z):Nm z:=h.nm z (D5 e)
theorem pj {α:Type} {xs:List α} {f:α->Str} {z:Str} (h:∀(i:Nat) (x:α),xs[i]?=some x->f x≠z):z∉xs.map f:=fun m=>by
 obtain ⟨x,hx,e⟩:=DI.mp m;obtain ⟨i,hi⟩:=DR.mp hx;exact h i x hi e
theorem aU {α:Type} {xs:List α} {i:Nat} {x:α} (h:xs[i]?=some x):i<xs.length:=(DM.mp h).1
variable {zs:GO} {room:Nat} {M:Md}
theorem C4 (h:gh zs room M) (z:Zs zs) {g:Str} {a:dh} (hg:zs[(5*M.takes.length+1) % 12]?=some g) (l:M.takes.length<12):cY M (.take g a)= .ok {M with takes:=M.takes++ [(g,a)]}:=by
 show (if g∈M.takes.map (fun x=>x.1) then Except.error qp.twice else if M.takes.length=12 then .error .full else .ok _)=_
 rw[if_neg (pj fun i x hx e=>?_),if_neg (by omega)]
 have k:=z.inj (h.ts i x hx).1 (e▸hg);have:=aU hx;omega
theorem C5 (h:gh zs room M) (r12:room<=12) (z:Zs zs) {w n:Str} {lo hi:Nat} {f:Option dh} (hg:zs[7*M.steps.length % 12]?=some n) (l:M.steps.length<room):cY M (.step w n lo hi f)= .ok {M with steps:=M.steps++ [⟨w,n,lo,hi,f,[],none⟩]}:=by
 show (if n∈M.steps.map (fun s=>s.n) then Except.error qp.twice else if M.steps.length=12 then .error .full else .ok _)=_
 rw[if_neg (pj fun i x hx e=>?_),if_neg (by omega)]
 have k:=z.inj (h.ss i x hx).nm (e▸hg);have:=aU hx;omega
theorem fO (h:gh zs room M) (r12:room<=12) (z:Zs zs) {i:Nat} {s:SV} (hs:M.steps[i]?=some s):place M s.n=some i:=by
 unfold place;rw[EK];have il:=aU hs;refine ⟨il,?_,fun j hj=>?_⟩
 ·rw[D1 il] at hs;rw[DS hs];simp
 ·have jl:j<M.steps.length:=by omega
  have hj':=D1 jl;have k:=(h.ss j _ hj').nm;have k2:=(h.ss i _ hs).nm;simp only[decide_eq_true_eq];intro e;rw[e] at k;have:=z.inj k k2;have:=h.sr;omega
theorem lS {M':Md} {n:Str} {i:Nat} {s s':SV} {f:SV->Except qp SV} (hp:place M n=some i) (hs:M.steps[i]?=some s) (hf:f s= .ok s'):fk M n f= .ok {M with steps:=M.steps.set i s'}:=by
 unfold fk;simp only[hp,hs,hf]
theorem vC (h:gh zs room M) (r12:room<=12) (z:Zs zs) {i lo hi:Nat} {s:SV} (hs:M.steps[i]?=some s) (e:s.sec=none):cY M (.sec s.n lo hi)= .ok {M with steps:=M.steps.set i {s with sec:=some (lo,hi,[])}}:=
 lS (M':=M) (fO h r12 z hs) hs (by rw[e])
theorem qr (z:Zs zs) {us:List bN} {u:bN} (h:jP zs us) (hg:zs[(5*us.length+3) % 12]?=some u.1) (l:us.length≠12):nA us u= .ok (us++ [u]):=by
 unfold nA;rw[if_neg (pj fun i x hx e=>?_),if_neg l]
 have k:=z.inj (h.2 i x hx).1 (e▸hg);have:=aU hx;have:=h.1;omega
theorem C6 (h:gh zs room M) (r12:room<=12) (z:Zs zs) {i:Nat} {s:SV} {u:bN} (hs:M.steps[i]?=some s) (hg:zs[(5*s.uses.length+3) % 12]?=some u.1) (l:s.uses.length≠12):cY M (.use false s.n u)= .ok {M with steps:=M.steps.set i {s with uses:=s.uses++ [u]}}:=
 lS (M':=M) (fO h r12 z hs) hs (by rw[qr z (h.ss i s hs).us hg l])
theorem vD (h:gh zs room M) (r12:room<=12) (z:Zs zs) {i lo hi:Nat} {s:SV} {us:List bN} {u:bN} (hs:M.steps[i]?=some s) (e:s.sec=some (lo,hi,us)) (hg:zs[(5*us.length+3) % 12]?=some u.1) (l:us.length≠12):cY M (.use true s.n u)= .ok {M with steps:=M.steps.set i {s with sec:=some (lo,hi,us++ [u])}}:=
 lS (M':=M) (fO h r12 z hs) hs (by simp only[e,qr z ((h.ss i s hs).sec _ e).2 hg l])
theorem C7 (h:gh zs room M) (r12:room<=12) (z:Zs zs) {i j t:Nat} {s s':SV} {w:Str} (hs:M.steps[i]?=some s) (hs':M.steps[j]?=some s') (l:M.links.length≠24):cY M (.link w s.n s'.n t)= .ok {M with links:=M.links++ [(w,i,j,t)]}:=by
 unfold cY;simp only[fO h r12 z hs,fO h r12 z hs'];rw[if_neg l]
theorem hW {α:Type} {xs:List α} {y x:α} {i:Nat} (h:(xs++ [y])[i]?=some x):xs[i]?=some x∨(i=xs.length/\x=y):=by
 by_cases c:i<xs.length
 ·rw[Do c] at h;exact .inl h
 ·have:=aU h;simp at this;have e:i=xs.length:=by omega
  subst e;simp at h;exact .inr ⟨rfl,h.symm⟩
theorem gh.take (h:gh zs room M) {g:Str} {a:dh} (hg:zs[(5*M.takes.length+1) % 12]?=some g) (l:M.takes.length<12) (ha:pi a):gh zs room {M with takes:=M.takes++ [(g,a)]}:=
 {h with
  t12:=by simp;omega
  ts:=fun i x hx=>by
   rcases hW hx with hx|⟨rfl,rfl⟩
   ·exact h.ts i x hx
   ·exact ⟨hg,ha⟩}
theorem gh.step (h:gh zs room M) {s:SV} (l:M.steps.length<room) (hs:Ah zs M.steps.length s):gh zs room {M with steps:=M.steps++ [s]}:=
 {h with
  sr:=by simp;omega
  ss:=fun i x hx=>by
   rcases hW hx with hx|⟨rfl,rfl⟩
   ·exact h.ss i x hx
   ·exact hs
  ks:=fun k hk=>by
   have l:=h.ks k hk;exact ⟨l.w,by have:=l.a;simp;omega,by have:=l.b;simp;omega,l.ab,l.t,l.t0⟩}
theorem gh.set (h:gh zs room M) {i:Nat} {s':SV} (hs:Ah zs i s'):gh zs room {M with steps:=M.steps.set i s'}:=
 {h with
  sr:=by simp;exact h.sr
  ss:=fun j x hx=>by
   rw[ES] at hx
   split at hx
   ·rename_i e;subst e
    split at hx
    ·cases hx;exact hs
    ·cases hx
   ·exact h.ss j x hx
  ks:=fun k hk=>by
   have l:=h.ks k hk;exact ⟨l.w,by have:=l.a;simp;omega,by have:=l.b;simp;omega,l.ab,l.t,l.t0⟩}
theorem gh.link (h:gh zs room M) {k:ky} (l:M.links.length<24) (hk:zp M.steps.length k):gh zs room {M with links:=M.links++ [k]}:=
 {h with
  k24:=by simp;omega
  ks:=fun x hx=>by
   rcases DC.mp hx with hx|hx
   ·exact h.ks x hx
   ·rw[D8.mp hx];exact hk}
theorem jP.snoc {us:List bN} {u:bN} (h:jP zs us) (l:us.length≠12) (hg:zs[(5*us.length+3) % 12]?=some u.1) (h1:1<=u.2.1/\u.2.1<=8/\u.2.2<=1000):jP zs (us++ [u]):=by
 have:=h.1;refine ⟨by simp;omega,fun i x hx=>?_⟩
 rcases hW hx with hx|⟨rfl,rfl⟩
 ·exact h.2 i x hx
 ·exact ⟨hg,h1⟩
theorem gh.nil (zs:GO) (room:Nat):gh zs room ⟨[],[],[]⟩:=⟨by simp,fun i x h=>by simp at h,by simp,fun i x h=>by simp at h,by simp,fun k h=>by simp at h⟩
theorem bH (a b:Str) (r:GO):jB (a::b::r)=a++jO++jB (b::r):=by
 show Builtin.Str.glued jO (a::b::r)=a++jO++Builtin.Str.glued jO (b::r);rw[StrLaws.glued_eq_join,StrLaws.glued_eq_join]
 rfl
theorem c8 (a b c:Str):a++b++c=a++(b++c):=fM (by rw[bQ,bQ,bQ,bQ,Da])
theorem xK (ws:GO) (ne:ws≠ []) (x:Str):jB (ws++ [x])=jB ws++jO++x:=by
 induction ws with
 |nil=>exact absurd rfl ne
 |cons a ws ih=>
  cases ws with
  |nil=>rfl
  |cons b r=>
   rw[EM,EM,bH,bH,<-EM,ih (by simp)]
   simp only[c8]
theorem xL (a:Str):jB [a]=a:=rfl
theorem tP (ws:GO) {m:Nat} (h:∀w∈ws,w.length<=m):(jB ws).length<=(m+1)*ws.length:=by
 have:=gf h;unfold jB;rw[jm,show jO.length=1 from rfl,Nat.add_mul]
 omega
theorem dW {a:dh} (h:pi a):(i4 a).length<=40:=by unfold i4;rw[b8];exact h.len
theorem Nm.len {z:Str} (h:Nm z):z.length<=12:=by have:=h.2.1;rwa [cX] at this
structure Sk where
 a:Addr
 u:Addr
 sec:Option (Addr×Addr)
def cZ:Option (Addr×Addr)->GP
 |none=> []
 |some (b,v)=> [b,v]
def Sk.own (k:Sk):GP:=k.a::k.u::cZ k.sec
def qt (u:bN):List V:= [.str u.1,vN u.2.1,vN u.2.2]
def vE (a:dh):List V:= [vN a.1,vN a.2]
def rg (k:ky):List V:= [.str k.1,vN k.2.1,vN k.2.2.1,vN k.2.2.2]
def eK:RA (Str×dh):=fun P H v x=>∃t b,v= .ref t/\P t/\P b/\H t=some (.tup [.str x.1,.ref b])/\H b=some (.tup (vE x.2))
instance:Mv eK where
 mv:=fun {P P' H H' v x} g h=>by
  obtain ⟨t,b,rfl,pt,pb,e1,e2⟩:=h;exact ⟨t,b,rfl,(g t _ pt rfl e1).1,(g b _ pb rfl e2).1,(g t _ pt rfl e1).2,(g b _ pb rfl e2).2⟩
def qu (H:Hp) (v:V):Option dh->Prop
 |none=>v= .non
 |some a=>∃t,v= .ref t/\H t=some (.tup (vE a))
def tQ (lo hi:Nat):HO:= .lst [vN lo,vN hi]
abbrev Uz (H:Hp) (u:Addr) (us:List bN):Prop:=iZ (eH qt) An H u us
def tR (H:Hp) (v:V):Option (Addr×Addr)->Option (Nat×Nat×List bN)->Prop
 |none,none=>v= .non
 |some (b,u),some (lo,hi,us)=>∃l,v= .ref b/\H b=some (.lst [.ref l,.ref u])/\H l=some (tQ lo hi)/\Uz H u us
 |_,_=>False
def SL (H:Hp) (k:Sk) (s:SV):Prop:=∃(l:Addr) (f v:V),H k.a=some (.lst [.str s.w,.str s.n,.ref l,f,.ref k.u,v])/\H l=some (tQ s.lo s.hi)/\qu H f s.fill/\Uz H k.u s.uses/\tR H v k.sec s.sec
def cy (m lt ls lk:Addr) (ks:List Sk):GP:=m::lt::ls::lk::(ks.map Sk.own).flatten
structure ML (G H:Hp) (m lt ls lk:Addr) (ks:List Sk) (M:Md):Prop where
 fr:aH G H
 nw:∀a∈cy m lt ls lk ks,G a=none
 nd:(cy m lt ls lk ks).Nodup
 em:H m=some (.lst [.ref lt,.ref ls,.ref lk])
 et:iZ eK An H lt M.takes
 es:H ls=some (.lst (ks.map fun x=> .ref x.a))
 len:ks.length=M.steps.length
 ss:∀(i:Nat) (k:Sk) (s:SV),ks[i]?=some k->M.steps[i]?=some s->SL H k s
 ek:iZ (eH rg) An H lk M.links
def Kp (F:GP) (H H':Hp):Prop:=∀b o,H b=some o->b∉F->H' b=some o
def Fq (F:GP) (H:Hp):Prop:=∀b∈F,∀o,H b=some o->∃vs,o= .lst vs/\∀i j:Int,vs≠ [.int i,.int j]
theorem Kp.put {F:GP} {H H1:Hp} {x:Addr} (h:Kp F H H1) (hx:x∈F) (o:HO):Kp F H (aO H1 x o):=fun b u e n=>by
 have nb:b≠x:=fun z=>n (by rw[z];exact hx)
 rw[aB nb];exact h b u e n
theorem Kp.refl (F:GP) (H:Hp):Kp F H H:=fun _ _ e _=>e
theorem Kp.tup {F:GP} {H H':Hp} (h:Kp F H H') (q:Fq F H) {t:Addr} {xs:List V} (e:H t=some (.tup xs)):H' t=some (.tup xs):=h _ _ e fun m=>by
 obtain ⟨vs,z,_⟩:=q t m _ e;cases z
theorem Kp.lens {F:GP} {H H':Hp} (h:Kp F H H') (q:Fq F H) {t:Addr} {lo hi:Nat} (e:H t=some (tQ lo hi)):H' t=some (tQ lo hi):=h _ _ e fun m=>by
 obtain ⟨vs,z,n⟩:=q t m _ e;cases z;exact n _ _ rfl
theorem Kp.rtup {α:Type} {f:α->List V} {F:GP} {H H':Hp} (h:Kp F H H') (q:Fq F H) {l:Addr} {xs:List α} (e:iZ (eH f) An H l xs) (n:l∉F):iZ (eH f) An H' l xs:=by
 obtain ⟨vs,e,r⟩:=e;exact ⟨vs,h _ _ e n,r.imp fun v x ⟨t,e1,e2,e3⟩=>⟨t,e1,e2,h.tup q e3⟩⟩
theorem Kp.rtake {F:GP} {H H':Hp} (h:Kp F H H') (q:Fq F H) {l:Addr} {xs:List (Str×dh)} (e:iZ eK An H l xs) (n:l∉F):iZ eK An H' l xs:=by
 obtain ⟨vs,e,r⟩:=e;exact ⟨vs,h _ _ e n,r.imp fun v x ⟨t,b,e1,e2,e3,e4,e5⟩=>⟨t,b,e1,e2,e3,h.tup q e4,h.tup q e5⟩⟩
theorem Kp.fill {F:GP} {H H':Hp} (h:Kp F H H') (q:Fq F H) {v:V} {o:Option dh} (e:qu H v o):qu H' v o:=by
 cases o with
 |none=>exact e
 |some a=>obtain ⟨t,e1,e2⟩:=e;exact ⟨t,e1,h.tup q e2⟩
theorem Kp.secL {F:GP} {H H':Hp} (h:Kp F H H') (q:Fq F H) {v:V} {o:Option (Addr×Addr)} {x:Option (Nat×Nat×List bN)} (e:tR H v o x) (n:∀b∈cZ o,b∉F):tR H' v o x:=by
 match o,x,e with
 |none,none,e=>exact e
 |some (b,u),some (lo,hi,us),⟨l,e1,e2,e3,e4⟩=>exact ⟨l,e1,h _ _ e2 (n b (by simp[cZ])),h.lens q e3,h.rtup q e4 (n u (by simp[cZ]))⟩
theorem Kp.sl {F:GP} {H H':Hp} (h:Kp F H H') (q:Fq F H) {k:Sk} {s:SV} (e:SL H k s) (n:∀b∈k.own,b∉F):SL H' k s:=by
 obtain ⟨l,f,v,e1,e2,e3,e4,e5⟩:=e;exact ⟨l,f,v,h _ _ e1 (n k.a (by simp[Sk.own])),h.lens q e2,h.fill q e3,h.rtup q e4 (n k.u (by simp[Sk.own])),h.secL q e5 fun b hb=>n b (by simp[Sk.own,hb])⟩
theorem lU {vs:List V} (h:∀v∈vs,∃a,v= .ref a) (i j:Int):vs≠ [.int i,.int j]:=fun e=>by
 obtain ⟨a,z⟩:=h (.int i) (by rw[e];simp)
 cases z
theorem iZ.refs {α:Type} {f:α->List V} {P:Addr->Prop} {H:Hp} {l:Addr} {xs:List α} (h:iZ (eH f) P H l xs):∃vs,H l=some (.lst vs)/\∀i j:Int,vs≠ [.int i,.int j]:=by
 obtain ⟨vs,e,r⟩:=h;refine ⟨vs,e,lU fun v hv=>?_⟩
 obtain ⟨i,hi⟩:=DR.mp hv;obtain ⟨x,_,t,e,_⟩:=r.at_ hi;exact ⟨t,e⟩
theorem rh {P:Addr->Prop} {H:Hp} {l:Addr} {xs:List (Str×dh)} (h:iZ eK P H l xs):∃vs,H l=some (.lst vs)/\∀i j:Int,vs≠ [.int i,.int j]:=by
 obtain ⟨vs,e,r⟩:=h;refine ⟨vs,e,lU fun v hv=>?_⟩
 obtain ⟨i,hi⟩:=DR.mp hv;obtain ⟨x,_,t,_,e,_⟩:=r.at_ hi;exact ⟨t,e⟩
theorem gJ {H:Hp} {x:Addr} (h:∃vs,H x=some (.lst vs)/\∀i j:Int,vs≠ [.int i,.int j]):Fq [x] H:=fun b hb o e=>by
 rw[D8.mp hb] at e;obtain ⟨vs,e2,n⟩:=h;rw[e2] at e;cases e;exact ⟨vs,rfl,n⟩
theorem SL.fq {H:Hp} {k:Sk} {s:SV} (h:SL H k s):Fq k.own H:=fun b hb o e=>by
 obtain ⟨l,f,v,e1,e2,e3,e4,e5⟩:=h;unfold Sk.own at hb;rcases D2.mp hb with rfl|hb
 ·rw[e1] at e;cases e;exact ⟨_,rfl,fun i j z=>by simp at z⟩
 rcases D2.mp hb with rfl|hb
 ·exact gJ e4.refs _ (D8.mpr rfl) o e
 generalize k.sec=o1,s.sec=o2 at hb e5
 match o1,o2,e5 with
 |none,none,e=>simp[cZ] at hb
 |some (b',u),some (lo,hi,us),⟨l',f1,f2,f3,f4⟩=>
  simp only[cZ,D2,D6,or_false] at hb;rcases hb with rfl|rfl
  ·rw[f2] at e;cases e;exact ⟨_,rfl,fun i j z=>by simp at z⟩
  ·exact gJ f4.refs _ (D8.mpr rfl) o e
theorem SL.all {H:Hp} {k:Sk} {s:SV} (h:SL H k s):∀b∈k.own,H b≠none:=fun b hb z=>by
 obtain ⟨l,f,v,e1,e2,e3,⟨vs,e4,_⟩,e5⟩:=h;unfold Sk.own at hb;rcases D2.mp hb with rfl|hb
 ·rw[e1] at z;cases z
 rcases D2.mp hb with rfl|hb
 ·rw[e4] at z;cases z
 generalize k.sec=o1,s.sec=o2 at hb e5
 match o1,o2,e5 with
 |none,none,e=>simp[cZ] at hb
 |some (b',u),some (lo,hi,us),⟨l',f1,f2,f3,⟨_,f4,_⟩⟩=>
  simp only[cZ,D2,D6,or_false] at hb;rcases hb with rfl|rfl
  ·rw[f2] at z;cases z
  ·rw[f4] at z;cases z
theorem lV {H H':Hp} (g:aH H H'):Kp [] H H':=fun b o e _=>g _ _ e
theorem SL.same {H H':Hp} {k:Sk} {s:SV} (h:SL H k s) (g:aH H H'):SL H' k s:=(lV g).sl (fun b hb=>nomatch hb) h fun b _ z=>nomatch z
section
variable {G H H':Hp} {m lt ls lk:Addr} {ks:List Sk}
theorem ML.same (h:ML G H m lt ls lk ks M) (g:aH H H'):ML G H' m lt ls lk ks M:=
 {h with
  fr:=h.fr.trans g
  em:=g _ _ h.em
  et:=h.et.same g
  es:=g _ _ h.es
  ss:=fun i k s e1 e2=>(h.ss i k s e1 e2).same g
  ek:=h.ek.same g}
theorem lW {k:Sk} {b:Addr} (hk:k∈ks) (hb:b∈k.own):b∈cy m lt ls lk ks:=by
 unfold cy;refine D7 _ (D7 _ (D7 _ (D7 _ ?_)));exact Dv.mpr ⟨_,DI.mpr ⟨k,hk,rfl⟩,hb⟩
theorem ML.all (h:ML G H m lt ls lk ks M):∀b∈cy m lt ls lk ks,H b≠none:=fun b hb z=>by
 unfold cy at hb;rcases D2.mp hb with rfl|hb
 ·rw[h.em] at z;cases z
 rcases D2.mp hb with rfl|hb
 ·obtain ⟨vs,e,_⟩:=h.et;rw[e] at z;cases z
 rcases D2.mp hb with rfl|hb
 ·rw[h.es] at z;cases z
 rcases D2.mp hb with rfl|hb
 ·obtain ⟨vs,e,_⟩:=h.ek;rw[e] at z;cases z
 obtain ⟨o,ho,hb⟩:=Dv.mp hb;obtain ⟨k,hk,rfl⟩:=DI.mp ho;obtain ⟨i,hi⟩:=DR.mp hk;have il:i<M.steps.length:=by rw[<-h.len];exact aU hi
 exact (h.ss i k _ hi (D1 il)).all b hb z
noncomputable def less (H:Hp) (F:GP):Hp:=fun a=>by classical exact if a∈F then none else H a
theorem iI (H:Hp) (F:GP):aH (less H F) H:=fun b o e=>by
 unfold less at e
 split at e
 ·cases e
 ·exact e
theorem fu {H:Hp} {F:GP} {a:Addr} (n:a∉F):less H F a=H a:=if_neg n
theorem ML.top (h:ML G H m lt ls lk ks M):ML (less H (cy m lt ls lk ks)) H m lt ls lk ks M:=
 {h with
  fr:=iI _ _
  nw:=fun a ha=>if_pos ha}
theorem ML.low (h:ML G H m lt ls lk ks M) {G':Hp} (g:aH G' G):ML G' H m lt ls lk ks M:=
 {h with
  fr:=g.trans h.fr
  nw:=fun a ha=>g.free (h.nw a ha)}
theorem ML.step_ne (h:ML G H m lt ls lk ks M) {k:Sk} {b x:Addr} (hk:k∈ks) (hb:b∈k.own) (hx:x=m∨x=lt∨x=ls∨x=lk):b≠x:=fun e=>by
 subst e;have nd:=h.nd;unfold cy at nd;have mem:b∈(ks.map Sk.own).flatten:=Dv.mpr ⟨_,DI.mpr ⟨k,hk,rfl⟩,hb⟩;simp only[De,D2,not_or] at nd;rcases hx with rfl|rfl|rfl|rfl
 ·exact nd.1.2.2.2 mem
 ·exact nd.2.1.2.2 mem
 ·exact nd.2.2.1.2 mem
 ·exact nd.2.2.2.1 mem
theorem ML.ne (h:ML G H m lt ls lk ks M):m≠lt/\m≠ls/\m≠lk/\lt≠ls/\lt≠lk/\ls≠lk:=by
 have nd:=h.nd;unfold cy at nd;simp only[De,D2,not_or] at nd;exact ⟨nd.1.1,nd.1.2.1,nd.1.2.2.1,nd.2.1.1,nd.2.1.2.1,nd.2.2.1.1⟩
theorem eF {x:Addr} (g:aH G H) (nx:G x=none) (o:HO):aH G (aO H x o):=fun b u e=>by rw[aB (aQ e nx)];exact g _ _ e
theorem ML.take (h:ML G H m lt ls lk ks M) {vs:List V} {v:V} {x:Str×dh} (e:H lt=some (.lst vs)) (hv:eK An H v x):ML G (aO H lt (.lst (vs++ [v]))) m lt ls lk ks {M with takes:=M.takes++ [x]}:=by
 obtain ⟨n1,n2,n3,n4,n5,n6⟩:=h.ne;have q:=gJ (rh h.et);have kp:=(Kp.refl [lt] H).put (x:=lt) (by simp) (.lst (vs++ [v]))
 refine {h with fr:=eF h.fr (h.nw lt (by simp[cy])) _,em:=kp _ _ h.em (by simpa using n1),et:=?_,es:=kp _ _ h.es (by simpa using n4.symm),ss:=fun i k s e1 e2=>kp.sl q (h.ss i k s e1 e2) fun b hb=>by simpa using h.step_ne (D5 e1) hb (.inr (.inl rfl)),ek:=kp.rtup q h.ek (by simpa using n5.symm)}
 obtain ⟨us,e',r⟩:=h.et;rw[e] at e';cases e';exact ⟨_,af,(r.snoc hv).imp fun v x ⟨t,b,e1,e2,e3,e4,e5⟩=>⟨t,b,e1,e2,e3,kp.tup q e4,kp.tup q e5⟩⟩
theorem ML.link (h:ML G H m lt ls lk ks M) {vs:List V} {v:V} {x:ky} (e:H lk=some (.lst vs)) (hv:eH rg An H v x):ML G (aO H lk (.lst (vs++ [v]))) m lt ls lk ks {M with links:=M.links++ [x]}:=by
 obtain ⟨n1,n2,n3,n4,n5,n6⟩:=h.ne;have q:=gJ h.ek.refs;have kp:=(Kp.refl [lk] H).put (x:=lk) (by simp) (.lst (vs++ [v]))
 refine {h with fr:=eF h.fr (h.nw lk (by simp[cy])) _,em:=kp _ _ h.em (by simpa using n3),et:=kp.rtake q h.et (by simpa using n5),es:=kp _ _ h.es (by simpa using n6),ss:=fun i k s e1 e2=>kp.sl q (h.ss i k s e1 e2) fun b hb=>by simpa using h.step_ne (D5 e1) hb (.inr (.inr (.inr rfl))),ek:=?_}
 obtain ⟨us,e',r⟩:=h.ek;rw[e] at e';cases e';exact ⟨_,af,(r.snoc hv).imp fun v x ⟨t,e1,e2,e3⟩=>⟨t,e1,e2,kp.tup q e3⟩⟩
theorem ML.step {H0:Hp} (h:ML G H0 m lt ls lk ks M) (g:aH H0 H) {k:Sk} {s:SV} (hs:SL H k s) (nk:∀a∈k.own,H0 a=none) (nd:k.own.Nodup):ML G (aO H ls (.lst ((ks.map fun x=>V.ref x.a)++ [.ref k.a]))) m lt ls lk (ks++ [k]) {M with steps:=M.steps++ [s]}:=by
 have all:=h.all;have h1:=h.same g;obtain ⟨n1,n2,n3,n4,n5,n6⟩:=h.ne;have q:Fq [ls] H:=gJ ⟨_,h1.es,lU fun v hv=>by
  obtain ⟨k,_,rfl⟩:=DI.mp hv;exact ⟨_,rfl⟩⟩
 have kp:=(Kp.refl [ls] H).put (x:=ls) (by simp) (.lst ((ks.map fun x=>V.ref x.a)++ [.ref k.a]))
 have eo:cy m lt ls lk (ks++ [k])=cy m lt ls lk ks++k.own:=by simp[cy]
 have dj:∀a∈k.own,a∉cy m lt ls lk ks:=fun a ha hm=>all a hm (nk a ha)
 refine {fr:=eF h1.fr (h.nw ls (by simp[cy])) _,nw:=?_,nd:=?_,em:=kp _ _ h1.em (by simpa using n2),et:=kp.rtake q h1.et (by simpa using n4),es:=by rw[af,DQ];rfl,len:=by simp[h.len],ss:=?_,ek:=kp.rtup q h1.ek (by simpa using n6.symm)}
 ·rw[eo];intro a ha;rcases DC.mp ha with ha|ha
  ·exact h.nw a ha
  ·exact h.fr.free (nk a ha)
 ·rw[eo,Dq];exact ⟨h.nd,nd,fun a ha b hb e=>dj b hb (e▸ha)⟩
 ·intro i k' s' e1 e2;rcases hW e1 with e1|⟨ei,rfl⟩
  ·have il:i<M.steps.length:=by rw[<-h.len];exact aU e1
   have e2':M.steps[i]?=some s':=by
    rw[<-e2];exact (Do il).symm
   exact kp.sl q (h1.ss i k' s' e1 e2') fun b hb=>by simpa using h.step_ne (D5 e1) hb (.inr (.inr (.inl rfl)))
  ·have e2':s=s':=by
    rw[ei,h.len] at e2;simp at e2;exact e2
   subst e2';exact kp.sl q hs fun b hb z=>dj b hb (by rw[D8.mp z];simp[cy])
theorem ML.set (h:ML G H m lt ls lk ks M) {i:Nat} {k k':Sk} {s s':SV} (e1:ks[i]?=some k) (e2:M.steps[i]?=some s) (kp:Kp k.own H H') (hs:SL H' k' s') (ea:k'.a=k.a) (nk:∀a∈k'.own,a∈k.own∨H a=none) (nd:k'.own.Nodup):ML G H' m lt ls lk (ks.set i k') {M with steps:=M.steps.set i s'}:=by
 have all:=h.all;have q:=(h.ss i k s e1 e2).fq;have mk:=D5 e1;have il:=aU e1;have n4:∀x,(x=m∨x=lt∨x=ls∨x=lk)->x∉k.own:=fun x hx z=>h.step_ne mk z hx rfl
 have ndf:=h.nd;have spl:ks=ks.take i++k::ks.drop (i+1):=by
  rw[D1 il] at e1;rw[<-DS e1,<-EY il,ER]
 have spl':ks.set i k'=ks.take i++k'::ks.drop (i+1):=by rw[List.set_eq_take_append_cons_drop,if_pos il]
 have own1:cy m lt ls lk ks=(m::lt::ls::lk::((ks.take i).map Sk.own).flatten)++(k.own++((ks.drop (i+1)).map Sk.own).flatten):=by
  unfold cy
  conv=>lhs;rw[spl]
  simp
 have own2:cy m lt ls lk (ks.set i k')=(m::lt::ls::lk::((ks.take i).map Sk.own).flatten)++(k'.own++((ks.drop (i+1)).map Sk.own).flatten):=by
  unfold cy;rw[spl'];simp
 rw[own1,Dq,Dq] at ndf;obtain ⟨d1,⟨d2,d3,d4⟩,d5⟩:=ndf;have inO:∀a,a∈(m::lt::ls::lk::((ks.take i).map Sk.own).flatten)∨a∈((ks.drop (i+1)).map Sk.own).flatten->H a≠none/\a∉k.own:=fun a ha=>by
  refine ⟨all a (by rw[own1];rcases ha with ha|ha;exact Dz _ ha;exact DH _ (DH _ ha)),fun z=>?_⟩
  rcases ha with ha|ha
  ·exact d5 a ha a (Dz _ z) rfl
  ·exact d4 a z a ha rfl
 refine {fr:=?_,nw:=?_,nd:=?_,em:=kp _ _ h.em (n4 _ (.inl rfl)),et:=kp.rtake q h.et (n4 _ (.inr (.inl rfl))),es:=?_,len:=by simp[h.len],ss:=?_,ek:=kp.rtup q h.ek (n4 _ (.inr (.inr (.inr rfl))))}
 ·exact fun b o e=>kp _ _ (h.fr _ _ e) fun z=>by
   have:=h.nw b (lW mk z);rw[this] at e;cases e
 ·rw[own2];intro a ha;rcases DC.mp ha with ha|ha
  ·exact h.nw a (by rw[own1];exact Dz _ ha)
  rcases DC.mp ha with ha|ha
  ·rcases nk a ha with hk|hn
   ·exact h.nw a (lW mk hk)
   ·exact h.fr.free hn
  ·exact h.nw a (by rw[own1];exact DH _ (DH _ ha))
 ·rw[own2,Dq,Dq];refine ⟨d1,⟨nd,d3,fun a ha b hb e=>?_⟩,fun a ha b hb e=>?_⟩
  ·have:=inO b (.inr hb);rcases nk a ha with hk|hn
   ·exact this.2 (e▸hk)
   ·exact this.1 (e▸hn)
  ·have:=inO a (.inl ha);rcases DC.mp hb with hb|hb
   ·rcases nk b hb with hk|hn
    ·exact this.2 (e▸hk)
    ·exact this.1 (e▸hn)
   ·exact d5 a ha b (DH _ hb) e
 ·rw[kp _ _ h.es (n4 _ (.inr (.inr (.inl rfl))))]
  congr 2
  apply List.ext_getElem?;intro j;rw[DA,DA,ES]
  by_cases c:i=j
  ·subst c;rw[if_pos rfl,if_pos il,e1];simp[ea]
  ·rw[if_neg c]
 ·intro j kj sj f1 f2;have f2':(M.steps.set i s')[j]?=some sj:=f2;rw[ES] at f1 f2'
  by_cases c:i=j
  ·subst c;rw[if_pos rfl] at f1 f2';rw[if_pos il] at f1;rw[if_pos (by rw[<-h.len];exact il)] at f2'
   cases f1;cases f2';exact hs
  ·rw[if_neg c] at f1 f2';refine kp.sl q (h.ss j kj sj f1 f2') fun b hb z=>?_
   have mj:kj∈ks.take i∨kj∈ks.drop (i+1):=by
    by_cases lt:j<i
    ·exact .inl (D5 (i:=j) (by rw[List.getElem?_take,if_pos lt];exact f1))
    ·exact .inr (D5 (i:=j-(i+1)) (by rw[List.getElem?_drop,show i+1+(j-(i+1))=j by omega];exact f1))
   rcases mj with mj|mj
   ·exact (inO b (.inl (by
     refine D7 _ (D7 _ (D7 _ (D7 _ ?_)));exact Dv.mpr ⟨_,DI.mpr ⟨kj,mj,rfl⟩,hb⟩))).2 z
   ·exact (inO b (.inr (Dv.mpr ⟨_,DI.mpr ⟨kj,mj,rfl⟩,hb⟩))).2 z
end
end Sw
namespace L2
open PySem PySem.Spec PyProof.Rows XH Sw
end L2
namespace Sw
open PySem L2 XH Hm PySem.NumText
def vF (H:Hp) (v:V):Option (Nat×Nat×List bN)->Prop
 |none=>v= .non
 |some (lo,hi,us)=>∃t l,v= .ref t/\H t=some (.tup [vN lo,vN hi,.ref l])/\Uz H l us
def ic (H:Hp) (ff:List (Str×V)):Option dh->Prop
 |none=>True
 |some a=>∃t,ff.lookup ("fill" :Str)=some (.ref t)/\H t=some (.tup (vE a))
def iM (cC cR cW:Addr) (w:Str) (C:Addr):Prop:=(w= "cut" /\C=cC)∨(w= "rest" /\C=cR)∨(w= "warm" /\C=cW)
def xM (cC cR cW:Addr) (H:Hp) (x:Addr) (s:SV):Prop:=∃(C dx u:Addr) (sv:V) (ff:List (Str×V)),H x=some (.ins C dx ff)/\iM cC cR cW s.w C/\wv ff (.str s.n) (vN s.lo) (vN s.hi) (.ref u) sv/\ic H ff s.fill/\Uz H u s.uses/\vF H sv s.sec
theorem vF.same {H H':Hp} (g:aH H H') {v:V}:∀{o:Option (Nat×Nat×List bN)},vF H v o->vF H' v o
 |none,h=>h
 |some (_,_,_),⟨t,l,e1,e2,e3⟩=>⟨t,l,e1,g _ _ e2,e3.same g⟩
theorem ic.same {H H':Hp} (g:aH H H') {ff:List (Str×V)}:∀{o:Option dh},ic H ff o->ic H' ff o
 |none,h=>h
 |some _,⟨t,e1,e2⟩=>⟨t,e1,g _ _ e2⟩
theorem xM.same {cC cR cW:Addr} {H H':Hp} {x:Addr} {s:SV} (h:xM cC cR cW H x s) (g:aH H H'):xM cC cR cW H' x s:=by
 obtain ⟨C,dx,u,sv,ff,e1,e2,e3,e4,e5,e6⟩:=h;exact ⟨C,dx,u,sv,ff,g _ _ e1,e2,e3,e4.same g,e5.same g,e6.same g⟩
abbrev B9 (cC cR cW:Addr) (H:Hp) (v:V) (s:SV):Prop:=∃x,v= .ref x/\xM cC cR cW H x s
def Ai (cC cR cW:Addr) (H:Hp) (l:Addr) (ss:List SV):Prop:=∃vs,H l=some (.lst vs)/\A2 (B9 cC cR cW H) vs ss
theorem A2.steps {cC cR cW:Addr} {H H':Hp} (g:aH H H') {vs:List V} {ss:List SV} (r:A2 (B9 cC cR cW H) vs ss):A2 (B9 cC cR cW H') vs ss:=r.imp fun v s ⟨x,e,k⟩=>⟨x,e,k.same g⟩
theorem Ai.same {cC cR cW:Addr} {H H':Hp} {l:Addr} {ss:List SV} (h:Ai cC cR cW H l ss) (g:aH H H'):Ai cC cR cW H' l ss:=by
 obtain ⟨vs,e,r⟩:=h;exact ⟨vs,g _ _ e,r.steps g⟩
structure wz (cRec:Addr) (H:Hp) (r:Addr) (n:Str) (p:Nat) (lt ls lk:Addr):Prop where
 ex:∃dx,H r=some (.ins cRec dx (lM (.str n) (vN p) (.ref lt) (.ref ls) (.ref lk)))
theorem wz.same {cRec:Addr} {H H':Hp} {r:Addr} {n:Str} {p:Nat} {lt ls lk:Addr} (h:wz cRec H r n p lt ls lk) (g:aH H H'):wz cRec H' r n p lt ls lk:=by
 obtain ⟨dx,e⟩:=h.ex;exact ⟨dx,g _ _ e⟩
theorem bI {nm p t s l:V}:(lM nm p t s l).lookup ("name" :Str)=some nm/\(lM nm p t s l).lookup ("plates" :Str)=some p/\(lM nm p t s l).lookup ("takes" :Str)=some t/\(lM nm p t s l).lookup ("steps" :Str)=some s/\(lM nm p t s l).lookup ("links" :Str)=some l:=by
 unfold lM;refine ⟨?_,?_,?_,?_,?_⟩
 all_goals
  simp only[bE]
  (repeat rw[if_neg (by decide+kernel)])
  simp
structure vG (cC cR cW cRec:Addr) (H:Hp) (r:Addr) (n:Str) (p:Nat) (M:Md):Prop where
 ex:∃lt ls lk,wz cRec H r n p lt ls lk/\iZ eK An H lt M.takes/\Ai cC cR cW H ls M.steps/\iZ (eH rg) An H lk M.links
theorem vG.same {cC cR cW cRec:Addr} {H H':Hp} {r:Addr} {n:Str} {p:Nat} {M:Md} (h:vG cC cR cW cRec H r n p M) (g:aH H H'):vG cC cR cW cRec H' r n p M:=by
 obtain ⟨lt,ls,lk,e1,e2,e3,e4⟩:=h.ex;exact ⟨lt,ls,lk,e1.same g,e2.same g,e3.same g,e4.same g⟩
def xN (us:List bN):Prop:=us.length<=12/\∀u∈us,Nm u.1/\1<=u.2.1/\u.2.1<=8/\u.2.2<=1000
structure wA (s:SV):Prop where
 nm:Nm s.n
 wd:uD s.w
 le:ju s.lo s.hi
 fl:ny s.w s.fill
 us:xN s.uses
 sec:∀x,s.sec=some x->ju x.1 x.2.1/\xN x.2.2
structure zq (M:Md):Prop where
 t12:M.takes.length<=12
 ts:∀x∈M.takes,Nm x.1/\pi x.2
 s12:M.steps.length<=12
 ss:∀s∈M.steps,wA s
 k24:M.links.length<=24
 ks:∀k∈M.links,zp M.steps.length k
theorem jP.bd {zs:GO} (z:Zs zs) {us:List bN} (h:jP zs us):xN us:=⟨h.1,fun u hu=>by
 obtain ⟨i,hi⟩:=DR.mp hu;obtain ⟨h1,h2⟩:=h.2 i u hi;exact ⟨z.mem h1,h2⟩⟩
theorem Ah.bd {zs:GO} (z:Zs zs) {i:Nat} {s:SV} (h:Ah zs i s):wA s:=⟨z.mem h.nm,h.wd,h.le,h.fl,h.us.bd z,fun x hx=>⟨(h.sec x hx).1,(h.sec x hx).2.bd z⟩⟩
theorem gh.bd {zs:GO} (z:Zs zs) {room:Nat} (r12:room<=12) {M:Md} (h:gh zs room M):zq M where
 t12:=h.t12
 ts:=fun x hx=>by
  obtain ⟨i,hi⟩:=DR.mp hx;exact ⟨z.mem (h.ts i x hi).1,(h.ts i x hi).2⟩
 s12:=by have:=h.sr;omega
 ss:=fun s hs=>by
  obtain ⟨i,hi⟩:=DR.mp hs;exact (h.ss i s hi).bd z
 k24:=h.k24
 ks:=h.ks
inductive Th where
 |t (z:Str)
 |n (k:Nat)
def Cc:Th->V
 | .t z=> .str z
 | .n k=>vN k
def uE:Th->Str
 | .t z=>z
 | .n k=>bw k
def jQ:Th->Prop
 | .t z=>z.length<=60
 | .n k=>k<=999999999
theorem vH {x:Th} (h:jQ x):(uE x).length<=60:=by
 cases x with
 |t z=>exact h
 |n k=>have:=br h;show (bw k).length<=60;omega
def ie:Sp:=fun vs H Q _=>∃(l:Addr) (ts:List Th),vs= [.ref l]/\H l=some (.lst (ts.map Cc))/\ts.length<=20/\(∀x∈ts,jQ x)/\∀H',aH H H'->Q (.str (jB (ts.map uE))) H'
def gn:Sp:=fun vs H Q _=>∃(w n:Str) (u:Addr) (us:List bN),vs= [.str w,.str n,.ref u]/\Uz H u us/\xN us/\w.length<=12/\n.length<=12/\∀(l:Addr) (H':Hp),aH H H'->H l=none->H' l=some (.lst ((us.map fun u=>jB (cD w n u)).map V.str))->Q (.ref l) H'
def jv (cC cR cW:Addr):Sp:=fun vs H Q _=>∃(x:Addr) (s:SV),vs= [.ref x]/\xM cC cR cW H x s/\wA s/\∀(l:Addr) (H':Hp),aH H H'->H l=none->H' l=some (.lst ((aT s).map V.str))->Q (.ref l) H'
def kz (cC cR cW:Addr):Sp:=fun vs H Q _=>∃(t ls:Addr) (k:ky) (ss:List SV),vs= [.ref t,.ref ls]/\H t=some (.tup (rg k))/\Ai cC cR cW H ls ss/\(∀s∈ss,Nm s.n)/\zp ss.length k/\∀H',aH H H'->Q (.str (cQ ss k)) H'
def kA (cC cR cW cRec:Addr):Sp:=fun vs H Q _=>∃(r:Addr) (n:Str) (p:Nat) (M:Md),vs= [.ref r]/\vG cC cR cW cRec H r n p M/\zq M/\Nm n/\p<=1000/\∀H',aH H H'->Q (.str (gI n p M)) H'
def tS (K:D3):Sp:=fun vs H Q _=>∃(a C dx lt ls lk:Addr) (nm p:V) (xt xs xk:List V),vs= [.ref a,nm,p,.ref lt,.ref ls,.ref lk]/\H a=some (.ins C dx [])/\B5 K C/\H lt=some (.lst xt)/\H ls=some (.lst xs)/\H lk=some (.lst xk)/\
 ∀(t s u:Addr) (H':Hp),t≠a->s≠a->u≠a->H t=none->H s=none->H u=none-> [t,s,u].Nodup->Kept H H' a->H' t=some (.lst xt)->H' s=some (.lst xs)->H' u=some (.lst xk)->H' a=some (.ins C dx (lM nm p (.ref t) (.ref s) (.ref u)))->Q .non H'
def nB:Sp:=fun vs H Q _=>∃c:Int,vs= [.int c]/\∀(l:Addr) (zs:GO) (H':Hp),aH H H'->H' l=some (.lst (zs.map V.str))->Zs zs->Q (.ref l) H'
def pk:Sp:=fun vs H Q _=>∃a b:Int,vs= [.int a,.int b]/\0<=a/\0<=b/\∀(lo hi:Nat) (l:Addr) (H':Hp),aH H H'->H l=none->H' l=some (tQ lo hi)->ju lo hi->Q (.ref l) H'
def pp:Sp:=fun vs H Q _=>∃a b:Int,vs= [.int a,.int b]/\0<=a/\a<2^31/\0<=b/\∀(am:dh) (t ta:Addr) (H':Hp),aH H H'->H' t=some (.tup [.ref ta,.str (i4 am)])->H' ta=some (.tup (vE am))->pi am->Q (.ref t) H'
def tT (H:Hp) (l:Addr):Prop:=∃xs:List Int,H l=some (.lst (xs.map V.int))/\xs.length=6/\∀x∈xs,0<=x/\x<2^31
theorem tT.same {H H':Hp} {l:Addr} (h:tT H l) (g:aH H H'):tT H' l:=by
 obtain ⟨xs,e,r⟩:=h;exact ⟨xs,g _ _ e,r⟩
theorem tT.at_ {H:Hp} {l:Addr} (h:tT H l):∃xs:List V,H l=some (.lst xs)/\∀j:Nat,j<6->∃v:Int,ir xs (j:Int)=some (.int v)/\0<=v/\v<2^31:=by
 obtain ⟨xs,e,h6,b⟩:=h;refine ⟨_,e,fun j hj=>?_⟩
 have il:j<xs.length:=by omega
 exact ⟨xs[j],aD (by rw[DA,D1 il];rfl),b _ (EB il)⟩
def vI (zs:GO) (room:Nat) (G:Hp) (m lt ls lk:Addr) (M:Md) (Q:VK):Prop:=∀(z:Str) (ks':List Sk) (M':Md) (H':Hp),ML G H' m lt ls lk ks' M'->gh zs room M'->B8 M z M'->Q (.str z) H'
def qw:Sp:=fun vs H Q _=>∃(G:Hp) (m lt ls lk ln lx:Addr) (ks:List Sk) (M:Md) (zs:GO) (room:Nat),vs= [.ref m,.ref ln,.ref lx]/\ML G H m lt ls lk ks M/\gh zs room M/\H ln=some (.lst (zs.map V.str))/\Zs zs/\tT H lx/\vI zs room G m lt ls lk M Q
def lX:Sp:=fun vs H Q _=>∃(G:Hp) (m lt ls lk ln lx:Addr) (ks:List Sk) (M:Md) (zs:GO) (room:Nat),vs= [.ref m,.ref ln,.ref lx,vN room]/\room<=12/\ML G H m lt ls lk ks M/\gh zs room M/\H ln=some (.lst (zs.map V.str))/\Zs zs/\tT H lx/\vI zs room G m lt ls lk M Q
def qx:Sp:=fun vs H Q _=>∃(G:Hp) (m lt ls lk lx:Addr) (ks:List Sk) (M:Md) (zs:GO) (room:Nat),vs= [.ref m,.ref lx]/\room<=12/\ML G H m lt ls lk ks M/\gh zs room M/\Zs zs/\tT H lx/\vI zs room G m lt ls lk M Q
def tU:Sp:=fun vs H Q _=>∃(G:Hp) (m lt ls lk ln:Addr) (c:Int) (ks:List Sk) (M:Md) (zs:GO) (room:Nat),vs= [.ref m,.ref ln,.int c,vN room]/\room<=12/\ML G H m lt ls lk ks M/\gh zs room M/\H ln=some (.lst (zs.map V.str))/\Zs zs/\vI zs room G m lt ls lk M Q
def Aj (H:Hp) (k:Sk) (s:SV) (Q:VK) (ok:SV->Str->Prop):Prop:=(∀H',aH H H'->Q (.str "") H')/\∀(z:Str) (k':Sk) (s':SV) (H':Hp),Kp k.own H H'->SL H' k' s'->k'.a=k.a->(∀a∈k'.own,a∈k.own∨H a=none)->k'.own.Nodup->ok s' z->Q (.str z) H'
def kB:Sp:=fun vs H Q _=>∃(k:Sk) (s:SV) (lx:Addr),vs= [.ref k.a,.ref lx]/\SL H k s/\k.own.Nodup/\s.n.length<=12/\tT H lx/\Aj H k s Q fun s' z=>∃lo hi,s.sec=none/\ju lo hi/\s'={s with sec:=some (lo,hi,[])}/\z=jB (eE s.n lo hi)
def tV:Sp:=fun vs H Q _=>∃(k:Sk) (s:SV) (o:Bool) (ln lx:Addr) (zs:GO),vs= [.ref k.a,.str (if o=true then "orwith" else "with"),.ref ln,.ref lx]/\SL H k s/\k.own.Nodup/\s.n.length<=12/\H ln=some (.lst (zs.map V.str))/\Zs zs/\s.uses.length<=12/\(∀x,s.sec=some x->x.2.2.length<=12)/\tT H lx/\Aj H k s Q fun s' z=>∃u:bN,z=jB (cD (if o=true then "orwith" else "with") s.n u)/\1<=u.2.1/\u.2.1<=8/\u.2.2<=1000/\
 if o=true then ∃lo hi us,s.sec=some (lo,hi,us)/\us.length≠12/\zs[(5*us.length+3) % 12]?=some u.1/\s'={s with sec:=some (lo,hi,us++ [u])} else s.uses.length≠12/\zs[(5*s.uses.length+3) % 12]?=some u.1/\s'={s with uses:=s.uses++ [u]}
def pq:Sp:=fun vs H Q _=>∃(t:Addr) (a:dh),vs= [.ref t]/\H t=some (.tup (vE a))/\pi a/\Q (.str (i4 a)) H
def iN:Sp:=fun vs H Q _=>∃(k:Sk) (s:SV),vs= [.ref k.a]/\SL H k s/\wA s/\∀(l:Addr) (H':Hp),aH H H'->H l=none->H' l=some (.lst ((aT s).map V.str))->Q (.ref l) H'
def kC:Sp:=fun vs H Q _=>∃(G:Hp) (h:Str) (m lt ls lk:Addr) (ks:List Sk) (M:Md),vs= [.str h,.ref m]/\ML G H m lt ls lk ks M/\zq M/\∀(l:Addr) (H':Hp),aH H H'->H l=none->H' l=some (.lst ((h::M.takes.map cS++(M.steps.map aT).flatten++M.links.map (cQ M.steps)).map V.str))->Q (.ref l) H'
theorem dE {ws:GO} (h:∀w∈ws,w.length<=60) (k:ws.length<=6):(jB ws).length<=400:=by
 have:=tP ws h;have:(60+1)*ws.length<=61*6:=Nat.mul_le_mul_left 61 k;omega
theorem jw {w n:Str} {u:bN} (hw:w.length<=12) (hn:n.length<=12) (hu:Nm u.1/\1<=u.2.1/\u.2.1<=8/\u.2.2<=1000):(jB (cD w n u)).length<=400:=by
 have h1:=hu.1.len;have h2:=br (n:=u.2.1) (by omega)
 have h3:=br (n:=u.2.2) (by omega)
 refine dE (fun z hz=>?_) (by simp[cD])
 simp only[cD,D2,D6,or_false] at hz;rcases hz with rfl|rfl|rfl|rfl|rfl<;>omega
theorem pw {n:Str} {lo hi:Nat} (hn:n.length<=12) (h:ju lo hi):(jB (eE n lo hi)).length<=400:=by
 obtain ⟨k1,k2,k3⟩:=h;have h2:=br (n:=lo) (by omega)
 have h3:=br (n:=hi) (by omega)
 have h4:(Str.ofString "or").length=2:=by decide
 refine dE (fun z hz=>?_) (by simp[eE])
 simp only[eE,D2,D6,or_false] at hz;rcases hz with rfl|rfl|rfl|rfl<;>omega
theorem uD.len {w:Str} (h:uD w):w.length<=12:=by rcases h with rfl|rfl|rfl<;>decide
theorem zo.len {w:Str} (h:zo w):w.length<=12:=by rcases h with rfl|rfl|rfl<;>decide
theorem rj {w:Str} {f:Option dh} (h:ny w f):(∀z∈dr f,z.length<=60)/\(dr f).length<=1:=by
 cases f with
 |none=>simp[dr]
 |some a=>
  have:=dW h.2;refine ⟨fun z hz=>?_,by simp[dr]⟩
  simp only[dr,D8] at hz;rw[hz];omega
theorem iO {s:SV} (h:wA s):(jB (gH s)).length<=400:=by
 obtain ⟨k1,k2,k3⟩:=h.le;have h0:=h.wd.len;have h1:=h.nm.len;have h2:=br (n:=s.lo) (by omega)
 have h3:=br (n:=s.hi) (by omega)
 have h4:=rj h.fl;refine dE (fun z hz=>?_) (by simp[gH];omega)
 rcases DC.mp hz with hz|hz
 ·simp only[D2,D6,or_false] at hz;rcases hz with rfl|rfl|rfl|rfl<;>omega
 ·exact h4.1 z hz
theorem fv {s:SV} (h:wA s):(∀z∈aT s,z.length<=400)/\(aT s).length<=26:=by
 have hn:=h.nm.len;have hu:=h.us.1;have hs:(∀z∈du s.n s.sec,z.length<=400)/\(du s.n s.sec).length<=13:=by
  cases e:s.sec with
  |none=>simp[du]
  |some x=>
   obtain ⟨lo,hi,us⟩:=x;obtain ⟨h1,h2⟩:=h.sec _ e;have:=h2.1;refine ⟨fun z hz=>?_,by simp[du];omega⟩
   rcases D2.mp hz with rfl|hz
   ·exact pw hn h1
   ·obtain ⟨u,hu,rfl⟩:=DI.mp hz;exact jw (by decide) hn (h2.2 u hu)
 refine ⟨fun z hz=>?_,by simp[aT];omega⟩
 rcases DC.mp hz with hz|hz
 ·rcases D2.mp hz with rfl|hz
  ·exact iO h
  ·obtain ⟨u,hu,rfl⟩:=DI.mp hz;exact jw (by decide) hn (h.us.2 u hu)
 ·exact hs.1 z hz
theorem rn {x:Str×dh} (h:Nm x.1/\pi x.2):(cS x).length<=400:=by
 have h1:=h.1.len;have h2:=dW h.2;have h4:(Str.ofString "take").length=4:=by decide
 refine dE (fun z hz=>?_) (by show 3<=6;decide)
 simp only[D2,D6,or_false] at hz;rcases hz with rfl|rfl|rfl<;>omega
theorem kD {n:Str} {p:Nat} (h:Nm n) (hp:p<=1000):(bj n p).length<=400:=by
 have h1:=h.len;have h2:=br (n:=p) (by omega)
 have h4:(Str.ofString "dish").length=4:=by decide
 refine dE (fun z hz=>?_) (by show 3<=6;decide)
 simp only[D2,D6,or_false] at hz;rcases hz with rfl|rfl|rfl<;>omega
theorem bP {ss:List SV} {i:Nat} {s:SV} (h:ss[i]?=some s):hV ss i=s.n:=by
 unfold hV;rw[E7,DA,h]
 rfl
theorem rq {ss:List SV} {k:ky} (hs:∀s∈ss,Nm s.n) (h:zp ss.length k):(cQ ss k).length<=400:=by
 have e1:=D1 h.a;have e2:=D1 h.b;have h1:=(hs _ (EB h.a)).len;have h2:=(hs _ (EB h.b)).len;have h3:=h.w.len;have h4:=br (n:=k.2.2.2) (by have:=h.t;omega)
 unfold cQ;rw[bP e1,bP e2];refine dE (fun z hz=>?_) (by unfold cK;split<;>simp)
 unfold cK at hz;rcases DC.mp hz with hz|hz
 ·simp only[D2,D6,or_false] at hz;rcases hz with rfl|rfl|rfl<;>omega
 ·split at hz
  ·rw[D8.mp hz];omega
  ·simp at hz
theorem gu {ss:List SV} (h:∀s∈ss,wA s):(∀z∈(ss.map aT).flatten,z.length<=400)/\((ss.map aT).flatten).length<=26*ss.length:=by
 induction ss with
 |nil=>simp
 |cons s ss ih=>
  obtain ⟨i1,i2⟩:=ih fun s hs=>h s (D7 _ hs)
  obtain ⟨s1,s2⟩:=fv (h s Dc);refine ⟨fun z hz=>?_,?_⟩
  ·rw[Dd,List.flatten_cons] at hz;rcases DC.mp hz with hz|hz
   ·exact s1 z hz
   ·exact i1 z hz
  ·rw[Dd,List.flatten_cons,DB,DD];omega
theorem iP {h0:Str} {M:Md} (b:zq M) (hh:h0.length<=400):(∀z∈h0::M.takes.map cS++(M.steps.map aT).flatten++M.links.map (cQ M.steps),z.length<=400)/\(h0::M.takes.map cS++(M.steps.map aT).flatten++M.links.map (cQ M.steps)).length<=400:=by
 have t12:=b.t12;have s12:=b.s12;have k24:=b.k24;obtain ⟨f1,f2⟩:=gu b.ss;refine ⟨fun z hz=>?_,by rw[DB,DB,DD,D4,D4];omega⟩
 rcases DC.mp hz with hz|hz
 ·rcases DC.mp hz with hz|hz
  ·rcases D2.mp hz with rfl|hz
   ·exact hh
   ·obtain ⟨x,hx,rfl⟩:=DI.mp hz;exact rn (b.ts x hx)
  ·exact f1 z hz
 ·obtain ⟨k,hk,rfl⟩:=DI.mp hz;exact rq (fun s hs=>(b.ss s hs).nm) (b.ks k hk)
theorem nC {h0:Str} {M:Md} (b:zq M) (hh:h0.length<=400):((h0::M.takes.map cS++(M.steps.map aT).flatten++M.links.map (cQ M.steps)).map fun x=>x.length).sum+(h0::M.takes.map cS++(M.steps.map aT).flatten++M.links.map (cQ M.steps)).length<=1048576:=by
 obtain ⟨h1,h2⟩:=iP b hh;have:=gf h1;have:400*(h0::M.takes.map cS++(M.steps.map aT).flatten++M.links.map (cQ M.steps)).length<=400*400:=Nat.mul_le_mul_left 400 h2;omega
theorem C8 {α:Type} {xs:List α} {i:Nat} {x:α} (h:xs[i]?=some x):xs.take (i+1)=xs.take i++ [x]:=by rw[List.take_succ,h];rfl
theorem zr {α β:Type} {f:α->β} {xs:List α} {i:Nat} {x:α} (h:xs[i]?=some x):(xs.take (i+1)).map f=(xs.take i).map f++ [f x]:=by rw[C8 h,DQ];rfl
theorem CI {xs:List SV} {i:Nat} {x:SV} (h:xs[i]?=some x):((xs.take (i+1)).map aT).flatten=((xs.take i).map aT).flatten++aT x:=by rw[zr h,List.flatten_append];simp
theorem nD (a b:GO):a.map V.str++b.map V.str=(a++b).map V.str:=(DQ ..).symm
theorem kE (a:GO) (z:Str):a.map V.str++ [V.str z]=(a++ [z]).map V.str:=by rw[DQ];rfl
theorem tW {x:Str} {i j:Int} (h:0<=i) (k:0<=j):(gB x (some i) (some j)).length=min j.toNat x.length-min i.toNat x.length:=by
 have e1:HT.c6 x.length 0 (some i)=min i.toNat x.length:=by
  unfold HT.c6;simp;omega
 have e2:HT.c6 x.length x.length (some j)=min j.toNat x.length:=by
  unfold HT.c6;simp;omega
 show ((x.cps.toList.drop _).take _).toArray.size=_;rw[e1,e2,DK,DX,Ds];have:x.cps.toList.length=x.length:=by simp[Str.length]
 omega
theorem kF:∀{ys:List V},(∀y∈ys,∃z:Str,y= .str z/\z.length=1/\Lt z)->∃ws:GO,ys=ws.map V.str/\(ws.map (fun x=>x.length)).sum=ws.length/\∀w∈ws,Lt w
 | [],_=>⟨[],rfl,rfl,fun w hw=>nomatch hw⟩
 |y::ys,h=>by
  obtain ⟨z,rfl,hz,lz⟩:=h y (by simp)
  obtain ⟨ws,rfl,hw,lw⟩:=kF (ys:=ys) fun y hy=>h y (D7 _ hy)
  refine ⟨z::ws,rfl,?_,fun w hw'=>?_⟩
  ·simp only[Dd,List.sum_cons,DD];omega
  ·rcases D2.mp hw' with rfl|hw'
   ·exact lz
   ·exact lw w hw'
def dA:GO:= ["dish","take","cut","rest","warm","or","with","orwith","after","within","apart","dishes"]
theorem gv:Zs dA:=⟨by decide,by decide+kernel,fun z hz=>(gd z).mp ((show ∀z∈dA,xJ z=true by decide+kernel) z hz)⟩
theorem Zs.turn {zs:GO} (h:Zs zs) (i:Nat):Zs (zs.drop i++zs.take i):=by
 have p:(zs.drop i++zs.take i).Perm zs:=List.perm_append_comm.trans (by rw[ER])
 exact ⟨p.length_eq.trans h.len,p.nodup_iff.mpr h.nd,fun z hz=>h.nm z (p.mem_iff.mp hz)⟩
theorem tX {a n:Int} (k:0<n):∃j:Nat,a.fmod n=(j:Int)/\(j:Int)<n:=by
 have h1:=DP a k;have h2:=Df a k;exact ⟨(a.fmod n).toNat,by omega,by omega⟩
theorem ca (n:Nat):Str.ofString (toString ((n:Nat):Int))=bw n:=gX n
theorem Ak {w:Nat} (h:0<w) (l:w<10^30):pi (w,1)/\i4 (w,1)=bw w:=by
 have dl:=cV (n:=w) (k:=29) l;refine ⟨⟨h,(B4 (DO l (by decide+kernel))).ok fun n hn=>?_,DO l (by decide+kernel),(by show 1<1000;decide),?_⟩,?_⟩
 ·rw[D8.mp hn];exact dl
 ·show (cO w 1).length<=40;rw[jj];omega
 ·show bG (cO w 1)=_;rw[jj];rfl
theorem xO {t b:Nat} (t0:t≠0) (lt:t<b) (g:ED b t=1) (hb:b<1000):pi (t,b)/\i4 (t,b)=bw t++ "/" ++bw b:=by
 have d1:=cV (n:=t) (k:=2) (by omega)
 have d2:=cV (n:=b) (k:=2) (by omega)
 refine ⟨⟨by show 0<t;omega,(Ad t0 lt g (DO hb (by decide+kernel))).ok fun n hn=>?_,DO (DO lt hb) (by decide+kernel),hb,?_⟩,?_⟩
 ·simp only[D2,D6,or_false] at hn;rcases hn with rfl|rfl<;>omega
 ·show (cO t b).length<=40;rw[gF t0 lt,DB,DD];omega
 ·show bG (cO t b)=_;rw[gF t0 lt];show _=bG (dg t)++Str.ofString "/" ++bG (dg b);rw[cP,bV,bV,Da]
  rfl
theorem vJ {w t b:Nat} (w0:w≠0) (lw:w<10^30) (t0:t≠0) (lt:t<b) (g:ED b t=1) (hb:b<1000):pi (w*b+t,b)/\i4 (w*b+t,b)=bw w++ "+" ++bw t++ "/" ++bw b:=by
 have dw:=cV (n:=w) (k:=29) lw;have d1:=cV (n:=t) (k:=2) (by omega)
 have d2:=cV (n:=b) (k:=2) (by omega)
 have hp:w*b+t<10^40:=by
  have:w*b<=10^30*1000:=Nat.mul_le_mul (Nat.le_of_lt lw) (Nat.le_of_lt hb);have e:10^30*1000+1000<10^40:=by decide+kernel
  omega
 refine ⟨⟨by show 0<w*b+t;omega,(xB w0 t0 lt g (DO hb (by decide+kernel)) (DO hp (by decide+kernel))).ok fun n hn=>?_,hp,hb,?_⟩,?_⟩
 ·simp only[D2,D6,or_false] at hn;rcases hn with rfl|rfl|rfl<;>omega
 ·show (cO (w*b+t) b).length<=40;rw[fi w0 t0 lt,DB,DD,DB,DD];omega
 ·show bG (cO (w*b+t) b)=_;rw[fi w0 t0 lt];show _=bG (dg w)++Str.ofString "+" ++bG (dg t)++Str.ofString "/" ++bG (dg b);rw[cP,fh,bV,bV,bV,bV]
  congr 1
  simp
theorem vK {x y:Nat} (h:0<x) (h2:x<y) (h3:y<1000):∃t b c:Nat,bB (y:Int) x=(c:Int)/\0<c/\(x:Int).fdiv c=(t:Int)/\(y:Int).fdiv c=(b:Int)/\t≠0/\t<b/\ED b t=1/\b<1000/\c<1000:=by
 have big:(1000:Int)<10^120:=by decide+kernel
 obtain ⟨g0,_,t,b,e1,e2,t0,lt,g,_⟩:=tm (x:=(x:Int)) (y:=(y:Int)) (by omega) (by omega) (by omega)
 have hc:bB (y:Int) x=((ED y x:Nat):Int):=by
  unfold bB;simp
 have cl:ED y x<=x:=Nat.gcd_le_right _ h;have bl:b<=y:=by
  rw[fdiv_nat' hc] at e2;have:((y/ED y x:Nat):Int)=b:=e2;have:=Nat.div_le_self y (ED y x);omega
 refine ⟨t,b,ED y x,hc,by omega,by rw[<-hc];exact e1,by rw[<-hc];exact e2,t0,lt,g,by omega,by omega⟩
where fdiv_nat' {y:Nat} {g:Int} {c:Nat} (hc:g=(c:Int)):(y:Int).fdiv g=((y/c:Nat):Int):=by rw[hc];exact jh y c
end Sw
namespace L2
open PySem PySem.Spec PyProof.Rows XH
def Cd (K:D3) (n:Nat) (t:uH):TG:=fun v σ H Q=>∃a xs,v= .ref a/\aE K H a xs/\xs.length=n/\t xs σ H Q
theorem tY {X:Cx} {pos:Pos} {es:List Expr} {k:Nat} {t:uH} {n:Nat} (hc:X.calm=true) (h:zx X es t)
  (hn:(assignEach es X.env).length=n:=by rfl) (hst:(assignEach es X.env).findIdx? (·.1)=none:=by rfl):PG X (.Tuple es k pos) (Cd X.K n t):=by
 intro pins s σ H v u Q I r hw;obtain ⟨a,xs,e1,hq,hl,hw⟩:=hw;subst e1;cases r;obtain ⟨its,rv,ht,hz⟩:=I.list hq;rw[assign_Tuple];refine wpAny_bind (wpAny_standAt ?_);unfold unpack;rw[show (assignEach es X.env).length=its.toArray.size by simp[hn,<-hl,rv.length],hst]
 refine wpAny_bind (wpAny_holding (PySem.W.kun_itemsOf (I.ok.hd hc) ht.isList fun h' hx=>?_))
 have I1:aP X pins σ H {s with heap:=h'}:=I.kept (t':=s.toks) fun b o e=>hx b o (DW (Heap.lt_size e)) e
 exact h pins _ σ H xs _ Q I1 (by simpa using rv) hw
end L2
namespace Sw
open PySem L2 XH Hm PySem.NumText
theorem nE:Str.ofString " " =jO:=by decide
theorem nG (g x:Str):Str.ofString "take " ++g++Str.ofString " " ++x=jB ["take",g,x]:=by
 rw[nE,show Str.ofString "take " =Str.ofString "take" ++jO from by decide,bH,bH,xL]
 simp only[c8]
theorem Al (w n x y:Str):w++Str.ofString " " ++n++Str.ofString " " ++x++Str.ofString " " ++y=jB [w,n,x,y]:=by
 rw[nE,bH,bH,bH,xL];simp only[c8]
theorem tZ (n x y:Str):Str.ofString "or " ++n++Str.ofString " " ++x++Str.ofString " " ++y=jB ["or",n,x,y]:=by
 rw[nE,show Str.ofString "or " =Str.ofString "or" ++jO from by decide,bH,bH,bH,xL]
 simp only[c8]
theorem t6 (n x:Str):Str.ofString "dish " ++n++Str.ofString " " ++x=jB ["dish",n,x]:=by
 rw[nE,show Str.ofString "dish " =Str.ofString "dish" ++jO from by decide,bH,bH,xL]
 simp only[c8]
theorem vL (w n t x y:Str):w++Str.ofString " " ++n++Str.ofString " " ++t++(Str.ofString " " ++x++Str.ofString " " ++y)=jB [w,n,t,x,y]:=by
 rw[nE,bH,bH,bH,bH,xL];simp only[c8]
theorem Ce (w n t x y:Str):w++Str.ofString " " ++n++Str.ofString " " ++t++Str.ofString " " ++x++Str.ofString " " ++y=jB [w,n,t,x,y]:=by
 rw[nE,bH,bH,bH,bH,xL];simp only[c8]
theorem Ao (w n x:Str):w++Str.ofString " " ++n++Str.ofString " " ++x=jB [w,n,x]:=by
 rw[nE,bH,bH,xL];simp only[c8]
theorem ig {ws:GO} (ne:ws≠ []) (x:Str):jB ws++Str.ofString " " ++x=jB (ws++ [x]):=by rw[xK ws ne,nE]
theorem vM {F:GP} {H H':Hp} (g:aH H H'):Kp F H H':=fun b o e _=>g _ _ e
theorem t8 (a n:Nat):((a:Nat):Int).fmod (n:Int)=((a % n:Nat):Int):=(Int.ofNat_fmod a n).symm
theorem xP (a:Int) (b:Nat) (h:a=(b:Int)):a.fmod 12=((b % 12:Nat):Int):=by rw[h];exact t8 b 12
theorem qy {zs:GO} {i:Nat} {z:Str} (h:zs[i]?=some z):ir (zs.map V.str) (i:Int)=some (.str z):=aD (by rw[DA,h];rfl)
theorem xQ {H2:Hp} {m lt ls lk:Addr} (nlt:H2 lt=none) (nls:aO H2 lt (.lst []) ls=none) (nlk:aO (aO H2 lt (.lst [])) ls (.lst []) lk=none) (nm:aO (aO (aO H2 lt (.lst [])) ls (.lst [])) lk (.lst []) m=none):
  ML H2 (aO (aO (aO (aO H2 lt (.lst [])) ls (.lst [])) lk (.lst [])) m (.lst [.ref lt,.ref ls,.ref lk])) m lt ls lk [] ⟨[],[],[]⟩:=by
 have k1:=aq nlt (.lst []);have k2:=aq nls (.lst []);have k3:=aq nlk (.lst []);have k4:=aq nm (.lst [.ref lt,.ref ls,.ref lk]);have k34:=k3.trans k4;have k24:=k2.trans k34;have k12:=k1.trans k2;have k13:=k12.trans k3;have f1:aO H2 lt (.lst []) lt=some (.lst []):=af;have f2:aO (aO H2 lt (.lst [])) ls (.lst []) ls=some (.lst []):=af;have f3:aO (aO (aO H2 lt (.lst [])) ls (.lst [])) lk (.lst []) lk=some (.lst []):=af;have d1:lt≠ls:=aQ f1 nls;have d2:lt≠lk:=aQ (k2 _ _ f1) nlk;have d3:ls≠lk:=aQ f2 nlk;have d4:lt≠m:=aQ ((k2.trans k3) _ _ f1) nm;have d5:ls≠m:=aQ (k3 _ _ f2) nm;have d6:lk≠m:=aQ f3 nm;constructor
 case fr=>exact k1.trans k24
 case nw=>
  intro x hx;simp only[cy,Du,EW,D2,D6,or_false] at hx;rcases hx with rfl|rfl|rfl|rfl
  ·exact k13.free nm
  ·exact nlt
  ·exact k1.free nls
  ·exact k12.free nlk
 case nd=>simp[cy,d1,d2,d3,d4.symm,d5.symm,d6.symm]
 case em=>exact af
 case et=>exact ⟨[],k24 _ _ f1,A2.nil⟩
 case es=>exact k34 _ _ f2
 case len=>rfl
 case ss=>intro i k s h;simp at h
 case ek=>exact ⟨[],k4 _ _ f3,A2.nil⟩
end Sw
namespace L2
open PySem PySem.Spec PyProof.Rows XH Sw
def lY (K:D3) (a:Addr) (xs:List V):Prop:=∃(o:Obj) (its:Array Value) (n:Nat),K.lookup a=some o/\o.cls= .type "tuple" /\o.data= .seq its n/\its.size<=sizeLine/\bn xs its.toList
theorem lY.sq {K:D3} {a:Addr} {xs:List V} (h:lY K a xs) (H:Hp):bX K H a xs:= .inr h
inductive rz (w:World) (K:D3):List DictEntry->List (Str×List V)->Prop where
 |nil:rz w K [] []
 |cons {k:Str} {tk:Tok} {t:Addr} {xs:List V} {es:List DictEntry} {fs:List (Str×List V)}:lY K t xs->rz w K es fs->rz w K (⟨hashStr w k,.str k tk,.ref t⟩::es) ((k,xs)::fs)
def nH (w:World) (K:D3) (a:Addr) (fs:List (Str×List V)):Prop:=(a==sysModules)=false/\∃(o:Obj) (es:Array DictEntry) (ep:Nat),K.lookup a=some o/\o.ExactDict/\o.data= .dict es ep/\rz w K es.toList fs
section
variable {X:Cx} {pins:GM} {σ:St} {H:Hp} {s:Shared} {a:Addr}
theorem rz.pairs {P:Program} {w:World} {K:D3} {es:List DictEntry} {fs:List (Str×List V)} (h:rz w K es fs):∃vs:List (Key×Value),Pairs (dP P w) es vs/\vs.map (·.1)=fs.map (fun p=>Sum.inr p.1)/\(∀e∈es,∃k,(dP P w).is k e.key=true/\e.hash=(dP P w).hash k)/\
  ∀(k:Str) (xs:List V),fs.lookup k=some xs->∃t,valueAt vs (Sum.inr k)=some (.ref t)/\lY K t xs:=by
 induction h with
 |nil=>exact ⟨[],.nil,rfl,(fun e he=>nomatch he),fun k xs h=>by cases h⟩
 | @cons k tk t xs es fs tv h ih=>
  obtain ⟨vs,p,e1,e2,e3⟩:=ih;refine ⟨(.inr k,.ref t)::vs,.cons (pT (k:= .inr k) ⟨_,rfl⟩) rfl p,by simp[e1],fun e he=>?_,fun j ys hj=>?_⟩
  ·rcases D2.mp he with rfl|he
   ·exact ⟨.inr k,pT (k:= .inr k) ⟨_,rfl⟩,rfl⟩
   ·exact e2 e he
  ·rw[List.lookup_cons] at hj
   by_cases c:j=k
   ·subst c;simp at hj;subst hj;exact ⟨t,by simp[valueAt],tv⟩
   ·rw[show (j==k)=false by simpa using c] at hj
    obtain ⟨t',h1,h2⟩:=e3 j ys hj;refine ⟨t',?_,h2⟩;unfold valueAt at h1⊢;rw[List.find?_cons_of_neg (by simp;exact fun z=>c z.symm)]
    exact h1
theorem nH.of {fs:List (Str×List V)} (I:aP X pins σ H s) (h:nH X.w X.K a fs) (nd:(fs.map fun p=>p.1).Nodup):(a==sysModules)=false/\∃vs:List (Key×Value),s.heap.DictOf (dP X.prog X.w) a vs/\(∀(k:Str) (xs:List V),fs.lookup k=some xs->∃t,valueAt vs (Sum.inr k)=some (.ref t)/\lY X.K t xs)/\∀k:Str,(valueAt vs (Sum.inr k)).isSome=(fs.lookup k).isSome:=by
 obtain ⟨h0,o,es,ep,hk,hx,hd,he⟩:=h;obtain ⟨vs,p,e1,e2,e3⟩:=he.pairs (P:=X.prog);refine ⟨h0,vs,⟨o,es,ep,I.kIn a o hk,hx,hd,fun e he=>e2 e (by simpa using he),p,?_⟩,e3,fun k=>?_⟩
 ·rw[e1,show (fs.map fun p=>(Sum.inr p.1:Key))=(fs.map fun p=>p.1).map Sum.inr by rw[EV];rfl]
  exact List.pairwise_map.mpr (nd.imp fun h z=>h (Sum.inr.inj z))
 ·cases h:fs.lookup k with
  |some xs=>
   obtain ⟨t,h1,_⟩:=e3 k xs h;rw[h1]
   rfl
  |none=>
   have nf:∀q∈vs,q.1≠Sum.inr k:=fun q hq z=>by
    have m:(Sum.inr k:Key)∈vs.map (·.1):=DI.mpr ⟨q,hq,z⟩;rw[e1] at m;obtain ⟨p,hp,e⟩:=DI.mp m;have e:=Sum.inr.inj e;have hn:=List.lookup_eq_none_iff.mp h p hp;rw[e] at hn;simp at hn
   unfold valueAt;rw[List.find?_eq_none.mpr fun q hq=>by simpa using nf q hq]
   rfl
def xR (w:World) (K:D3) (td ty:TE):TE:=fun σ H Q=>td σ H fun x H1=>ty σ H1 fun y H2=>∃(a:Addr) (fs:List (Str×List V)) (k:Str) (xs:List V),x= .ref a/\y= .str k/\nH w K a fs/\(fs.map fun p=>p.1).Nodup/\fs.lookup k=some xs/\∀t,lY K t xs->Q (.ref t) H2
theorem nI {K:D3} {w:World} {o i:Expr} {pos:Pos} {td ty:TE} (hK:X.K=K) (hw:X.w=w) (ho:PE X o td) (hi:PE X i ty) (hs:zO i):PE X (.Subscript o i pos) (xR w K td ty):=by
 subst hK hw;intro pins s σ H Q I h;refine uW PySem.F.slot_dict_getitem.lookup hs (b7 (ho pins s σ H _ I h) fun u s1 ⟨x,H1,I1,rx,q1⟩=>b7 (hi pins s1 σ H1 _ I1 q1) fun iv s2 ⟨y,H2,I2,ry,a,fs,k,xs,ex,ey,hd,nd,hl,q2⟩=>?_)
 subst ex ey;obtain rfl:u=Value.ref a:=rx;obtain ⟨h0,vs,dd,e3,e4⟩:=hd.of I2 nd;obtain ⟨t,h1,h2⟩:=e3 k xs hl;exact ⟨dd.typeIs,wpAny_getItem_of (pT (k:= .inr k) ry) dd.mapOf h1 ⟨.ref t,H2,I2.tok _,rfl,q2 t h2⟩⟩
theorem nJ {K:D3} {w:World} (hK:X.K=K) (hw:X.w=w):gA X (compareOp .NotIn) (fun x y H Q=>∃(a:Addr) (fs:List (Str×List V)) (k:Str),x= .str k/\y= .ref a/\nH w K a fs/\(fs.map fun p=>p.1).Nodup/\Q (.bl (!(fs.lookup k).isSome)) H):=by
 subst hK hw;intro pins s σ H x y v u Q I rx ry h;obtain ⟨a,fs,k,rfl,rfl,hd,nd,q⟩:=h;cases ry;obtain ⟨h0,vs,dd,e3,e4⟩:=hd.of I nd;refine wpAny_notIn_of (pT (k:= .inr k) rx) h0 dd.mapOf ?_;refine ⟨.bl _,H,I.tok _,rfl,?_⟩;rw[<-e4] at q;exact q
end
end L2
namespace Sw
open PySem L2 XH Hm PySem.NumText
structure So where
 x:Addr
 u:Addr
 sec:GR
def So.own (k:So):GP:=k.x::k.u::k.sec.toList
def xS (H:Hp) (v:V):GR->Option (Nat×Nat×List bN)->Prop
 |none,none=>v= .non
 |some l,some (lo,hi,us)=>∃t,v= .ref t/\H t=some (.tup [vN lo,vN hi,.ref l])/\Uz H l us
 |_,_=>False
section
variable (cC cR cW:Addr)
def SM (H:Hp) (k:So) (s:SV):Prop:=∃(C dx:Addr) (sv:V) (ff:List (Str×V)),H k.x=some (.ins C dx ff)/\iM cC cR cW s.w C/\wv ff (.str s.n) (vN s.lo) (vN s.hi) (.ref k.u) sv/\ff.length<=10/\ic H ff s.fill/\Uz H k.u s.uses/\xS H sv k.sec s.sec
def cc (r lt ls lk:Addr) (ks:List So):GP:=r::lt::ls::lk::(ks.map So.own).flatten
structure RM (cRec:Addr) (G H:Hp) (r:Addr) (n:Str) (p:Nat) (lt ls lk:Addr) (ks:List So) (M:Md):Prop where
 fr:aH G H
 nw:∀a∈cc r lt ls lk ks,G a=none
 nd:(cc r lt ls lk ks).Nodup
 er:wz cRec H r n p lt ls lk
 et:iZ eK An H lt M.takes
 es:H ls=some (.lst (ks.map fun k=> .ref k.x))
 len:ks.length=M.steps.length
 ss:∀(i:Nat) (k:So) (s:SV),ks[i]?=some k->M.steps[i]?=some s->SM cC cR cW H k s
 ek:iZ (eH rg) An H lk M.links
end
def qz (F:GP) (H:Hp):Prop:=∀b∈F,∀xs,H b≠some (.tup xs)
variable {F:GP} {H H':Hp} {cC cR cW:Addr}
theorem Kp.tupM (h:Kp F H H') (q:qz F H) {t:Addr} {xs:List V} (e:H t=some (.tup xs)):H' t=some (.tup xs):=h _ _ e fun m=>q t m xs e
theorem Kp.rtupM {α:Type} {f:α->List V} (h:Kp F H H') (q:qz F H) {l:Addr} {xs:List α} (e:iZ (eH f) An H l xs) (n:l∉F):iZ (eH f) An H' l xs:=by
 obtain ⟨vs,e,r⟩:=e;exact ⟨vs,h _ _ e n,r.imp fun v x ⟨t,e1,e2,e3⟩=>⟨t,e1,e2,h.tupM q e3⟩⟩
theorem Kp.rtakeM (h:Kp F H H') (q:qz F H) {l:Addr} {xs:List (Str×dh)} (e:iZ eK An H l xs) (n:l∉F):iZ eK An H' l xs:=by
 obtain ⟨vs,e,r⟩:=e;exact ⟨vs,h _ _ e n,r.imp fun v x ⟨t,b,e1,e2,e3,e4,e5⟩=>⟨t,b,e1,e2,e3,h.tupM q e4,h.tupM q e5⟩⟩
theorem Kp.fillM (h:Kp F H H') (q:qz F H) {ff:List (Str×V)} {o:Option dh} (e:ic H ff o):ic H' ff o:=by
 cases o with
 |none=>exact e
 |some a=>obtain ⟨t,e1,e2⟩:=e;exact ⟨t,e1,h.tupM q e2⟩
theorem Kp.secM (h:Kp F H H') (q:qz F H) {v:V} {o:GR} {x:Option (Nat×Nat×List bN)} (e:xS H v o x) (n:∀b∈o.toList,b∉F):xS H' v o x:=by
 match o,x,e with
 |none,none,e=>exact e
 |some l,some (lo,hi,us),⟨t,e1,e2,e3⟩=>exact ⟨t,e1,h.tupM q e2,h.rtupM q e3 (n l (by simp))⟩
theorem Kp.sm (h:Kp F H H') (q:qz F H) {k:So} {s:SV} (e:SM cC cR cW H k s) (n:∀b∈k.own,b∉F):SM cC cR cW H' k s:=by
 obtain ⟨C,dx,sv,ff,e1,e2,e3,e4,e5,e6,e7⟩:=e;exact ⟨C,dx,sv,ff,h _ _ e1 (n k.x (by simp[So.own])),e2,e3,e4,h.fillM q e5,h.rtupM q e6 (n k.u (by simp[So.own])),h.secM q e7 fun b hb=>n b (by simp only[So.own,D2];exact .inr (.inr hb))⟩
theorem gx {x:Addr} {o:HO} (e:H x=some o) (n:∀xs,o≠ .tup xs):qz [x] H:=fun b hb xs z=>by
 rw[D8.mp hb,e] at z;cases z;exact n xs rfl
theorem SM.fq {k:So} {s:SV} (h:SM cC cR cW H k s):qz k.own H:=fun b hb xs z=>by
 obtain ⟨C,dx,sv,ff,e1,e2,e3,e4,e5,⟨vs,e6,_⟩,e7⟩:=h;unfold So.own at hb;rcases D2.mp hb with rfl|hb
 ·rw[e1] at z;cases z
 rcases D2.mp hb with rfl|hb
 ·rw[e6] at z;cases z
 generalize k.sec=o1,s.sec=o2 at hb e7
 match o1,o2,e7 with
 |none,none,e=>simp at hb
 |some l,some (lo,hi,us),⟨t,f1,f2,⟨_,f3,_⟩⟩=>
  have hb:b=l:=by simpa using hb
  rw[hb,f3] at z;cases z
theorem SM.all {k:So} {s:SV} (h:SM cC cR cW H k s):∀b∈k.own,H b≠none:=fun b hb z=>by
 obtain ⟨C,dx,sv,ff,e1,e2,e3,e4,e5,⟨vs,e6,_⟩,e7⟩:=h;unfold So.own at hb;rcases D2.mp hb with rfl|hb
 ·rw[e1] at z;cases z
 rcases D2.mp hb with rfl|hb
 ·rw[e6] at z;cases z
 generalize k.sec=o1,s.sec=o2 at hb e7
 match o1,o2,e7 with
 |none,none,e=>simp at hb
 |some l,some (lo,hi,us),⟨t,f1,f2,⟨_,f3,_⟩⟩=>
  have hb:b=l:=by simpa using hb
  rw[hb,f3] at z;cases z
theorem SM.same {k:So} {s:SV} (h:SM cC cR cW H k s) (g:aH H H'):SM cC cR cW H' k s:=(lV g).sm (fun b hb=>nomatch hb) h fun b _ z=>nomatch z
theorem SM.o {k:So} {s:SV} (h:SM cC cR cW H k s):xM cC cR cW H k.x s:=by
 obtain ⟨C,dx,sv,ff,e1,e2,e3,e4,e5,e6,e7⟩:=h;refine ⟨C,dx,k.u,sv,ff,e1,e2,e3,e5,e6,?_⟩;generalize k.sec=o1,s.sec=o2 at e7
 match o1,o2,e7 with
 |none,none,e=>exact e
 |some l,some (lo,hi,us),⟨t,f1,f2,f3⟩=>exact ⟨t,l,f1,f2,f3⟩
section
variable {cRec:Addr} {G:Hp} {r:Addr} {n:Str} {p:Nat} {lt ls lk:Addr} {ks:List So} {M:Md}
theorem RM.same (h:RM cC cR cW cRec G H r n p lt ls lk ks M) (g:aH H H'):RM cC cR cW cRec G H' r n p lt ls lk ks M:=
 {h with fr:=h.fr.trans g,er:=h.er.same g,et:=h.et.same g,es:=g _ _ h.es,ss:=fun i k s e1 e2=>(h.ss i k s e1 e2).same g,ek:=h.ek.same g}
theorem RM.a (h:RM cC cR cW cRec G H r n p lt ls lk ks M):vG cC cR cW cRec H r n p M:=by
 refine ⟨lt,ls,lk,h.er,h.et,⟨_,h.es,by rw[D4];exact h.len,fun i v s e1 e2=>?_⟩,h.ek⟩
 rw[DA] at e1;obtain ⟨k,hk,rfl⟩:=DV.mp e1;exact ⟨k.x,rfl,(h.ss i k s hk e2).o⟩
theorem nK {k:So} {b:Addr} (hk:k∈ks) (hb:b∈k.own):b∈cc r lt ls lk ks:=by
 unfold cc;refine D7 _ (D7 _ (D7 _ (D7 _ ?_)));exact Dv.mpr ⟨_,DI.mpr ⟨k,hk,rfl⟩,hb⟩
theorem RM.all (h:RM cC cR cW cRec G H r n p lt ls lk ks M):∀b∈cc r lt ls lk ks,H b≠none:=fun b hb z=>by
 unfold cc at hb;rcases D2.mp hb with rfl|hb
 ·obtain ⟨dx,e⟩:=h.er.ex;rw[e] at z;cases z
 rcases D2.mp hb with rfl|hb
 ·obtain ⟨vs,e,_⟩:=h.et;rw[e] at z;cases z
 rcases D2.mp hb with rfl|hb
 ·rw[h.es] at z;cases z
 rcases D2.mp hb with rfl|hb
 ·obtain ⟨vs,e,_⟩:=h.ek;rw[e] at z;cases z
 obtain ⟨o,ho,hb⟩:=Dv.mp hb;obtain ⟨k,hk,rfl⟩:=DI.mp ho;obtain ⟨i,hi⟩:=DR.mp hk;have il:i<M.steps.length:=by rw[<-h.len];exact aU hi
 exact (h.ss i k _ hi (D1 il)).all b hb z
theorem RM.step_ne (h:RM cC cR cW cRec G H r n p lt ls lk ks M) {k:So} {b x:Addr} (hk:k∈ks) (hb:b∈k.own) (hx:x=r∨x=lt∨x=ls∨x=lk):b≠x:=fun e=>by
 subst e;have nd:=h.nd;unfold cc at nd;have mem:b∈(ks.map So.own).flatten:=Dv.mpr ⟨_,DI.mpr ⟨k,hk,rfl⟩,hb⟩;simp only[De,D2,not_or] at nd;rcases hx with rfl|rfl|rfl|rfl
 ·exact nd.1.2.2.2 mem
 ·exact nd.2.1.2.2 mem
 ·exact nd.2.2.1.2 mem
 ·exact nd.2.2.2.1 mem
theorem RM.ne (h:RM cC cR cW cRec G H r n p lt ls lk ks M):r≠lt/\r≠ls/\r≠lk/\lt≠ls/\lt≠lk/\ls≠lk:=by
 have nd:=h.nd;unfold cc at nd;simp only[De,D2,not_or] at nd;exact ⟨nd.1.1,nd.1.2.1,nd.1.2.2.1,nd.2.1.1,nd.2.1.2.1,nd.2.2.1.1⟩
theorem wz.kp {F:GP} (h:wz cRec H r n p lt ls lk) (kp:Kp F H H') (nr:r∉F):wz cRec H' r n p lt ls lk:=by
 obtain ⟨dx,e⟩:=h.ex;exact ⟨dx,kp _ _ e nr⟩
theorem RM.take (h:RM cC cR cW cRec G H r n p lt ls lk ks M) {vs:List V} {v:V} {x:Str×dh} (e:H lt=some (.lst vs)) (hv:eK An H v x):RM cC cR cW cRec G (aO H lt (.lst (vs++ [v]))) r n p lt ls lk ks {M with takes:=M.takes++ [x]}:=by
 obtain ⟨n1,n2,n3,n4,n5,n6⟩:=h.ne;have q:qz [lt] H:=gx e nofun;have kp:=(Kp.refl [lt] H).put (x:=lt) (by simp) (.lst (vs++ [v]))
 refine {h with fr:=eF h.fr (h.nw lt (by simp[cc])) _,er:=h.er.kp kp (by simpa using n1),et:=?_,es:=kp _ _ h.es (by simpa using n4.symm),ss:=fun i k s e1 e2=>kp.sm q (h.ss i k s e1 e2) fun b hb=>by simpa using h.step_ne (D5 e1) hb (.inr (.inl rfl)),ek:=kp.rtupM q h.ek (by simpa using n5.symm)}
 obtain ⟨us,e',rr⟩:=h.et;rw[e] at e';cases e';exact ⟨_,af,(rr.snoc hv).imp fun v x ⟨t,b,e1,e2,e3,e4,e5⟩=>⟨t,b,e1,e2,e3,kp.tupM q e4,kp.tupM q e5⟩⟩
theorem RM.link (h:RM cC cR cW cRec G H r n p lt ls lk ks M) {vs:List V} {v:V} {x:ky} (e:H lk=some (.lst vs)) (hv:eH rg An H v x):RM cC cR cW cRec G (aO H lk (.lst (vs++ [v]))) r n p lt ls lk ks {M with links:=M.links++ [x]}:=by
 obtain ⟨n1,n2,n3,n4,n5,n6⟩:=h.ne;have q:qz [lk] H:=gx e nofun;have kp:=(Kp.refl [lk] H).put (x:=lk) (by simp) (.lst (vs++ [v]))
 refine {h with fr:=eF h.fr (h.nw lk (by simp[cc])) _,er:=h.er.kp kp (by simpa using n3),et:=kp.rtakeM q h.et (by simpa using n5),es:=kp _ _ h.es (by simpa using n6),ss:=fun i k s e1 e2=>kp.sm q (h.ss i k s e1 e2) fun b hb=>by simpa using h.step_ne (D5 e1) hb (.inr (.inr (.inr rfl))),ek:=?_}
 obtain ⟨us,e',rr⟩:=h.ek;rw[e] at e';cases e';exact ⟨_,af,(rr.snoc hv).imp fun v x ⟨t,e1,e2,e3⟩=>⟨t,e1,e2,kp.tupM q e3⟩⟩
theorem RM.step {H0:Hp} (h:RM cC cR cW cRec G H0 r n p lt ls lk ks M) (g:aH H0 H) {k:So} {s:SV} (hs:SM cC cR cW H k s) (nk:∀a∈k.own,H0 a=none) (nd:k.own.Nodup):RM cC cR cW cRec G (aO H ls (.lst ((ks.map fun k=>V.ref k.x)++ [.ref k.x]))) r n p lt ls lk (ks++ [k]) {M with steps:=M.steps++ [s]}:=by
 have all:=h.all;have h1:=h.same g;obtain ⟨n1,n2,n3,n4,n5,n6⟩:=h.ne;have q:qz [ls] H:=gx h1.es nofun;have kp:=(Kp.refl [ls] H).put (x:=ls) (by simp) (.lst ((ks.map fun k=>V.ref k.x)++ [.ref k.x]))
 have eo:cc r lt ls lk (ks++ [k])=cc r lt ls lk ks++k.own:=by simp[cc]
 have dj:∀a∈k.own,a∉cc r lt ls lk ks:=fun a ha hm=>all a hm (nk a ha)
 refine {fr:=eF h1.fr (h.nw ls (by simp[cc])) _,nw:=?_,nd:=?_,er:=h1.er.kp kp (by simpa using n2),et:=kp.rtakeM q h1.et (by simpa using n4),es:=by rw[af,DQ];rfl,len:=by simp[h.len],ss:=?_,ek:=kp.rtupM q h1.ek (by simpa using n6.symm)}
 ·rw[eo];intro a ha;rcases DC.mp ha with ha|ha
  ·exact h.nw a ha
  ·exact h.fr.free (nk a ha)
 ·rw[eo,Dq];exact ⟨h.nd,nd,fun a ha b hb e=>dj b hb (e▸ha)⟩
 ·intro i k' s' e1 e2;rcases hW e1 with e1|⟨ei,rfl⟩
  ·have il:i<M.steps.length:=by rw[<-h.len];exact aU e1
   have e2':M.steps[i]?=some s':=by
    rw[<-e2];exact (Do il).symm
   exact kp.sm q (h1.ss i k' s' e1 e2') fun b hb=>by simpa using h.step_ne (D5 e1) hb (.inr (.inr (.inl rfl)))
  ·have e2':s=s':=by
    rw[ei,h.len] at e2;simp at e2;exact e2
   subst e2';exact kp.sm q hs fun b hb z=>dj b hb (by rw[D8.mp z];simp[cc])
theorem RM.set (h:RM cC cR cW cRec G H r n p lt ls lk ks M) {i:Nat} {k k':So} {s s':SV} (e1:ks[i]?=some k) (e2:M.steps[i]?=some s) (kp:Kp k.own H H') (hs:SM cC cR cW H' k' s') (ea:k'.x=k.x) (nk:∀a∈k'.own,a∈k.own∨H a=none) (nd:k'.own.Nodup):RM cC cR cW cRec G H' r n p lt ls lk (ks.set i k') {M with steps:=M.steps.set i s'}:=by
 have all:=h.all;have q:=(h.ss i k s e1 e2).fq;have mk:=D5 e1;have il:=aU e1;have n4:∀x,(x=r∨x=lt∨x=ls∨x=lk)->x∉k.own:=fun x hx z=>h.step_ne mk z hx rfl
 have ndf:=h.nd;have spl:ks=ks.take i++k::ks.drop (i+1):=by
  rw[D1 il] at e1;rw[<-DS e1,<-EY il,ER]
 have spl':ks.set i k'=ks.take i++k'::ks.drop (i+1):=by rw[List.set_eq_take_append_cons_drop,if_pos il]
 have own1:cc r lt ls lk ks=(r::lt::ls::lk::((ks.take i).map So.own).flatten)++(k.own++((ks.drop (i+1)).map So.own).flatten):=by
  unfold cc
  conv=>lhs;rw[spl]
  simp
 have own2:cc r lt ls lk (ks.set i k')=(r::lt::ls::lk::((ks.take i).map So.own).flatten)++(k'.own++((ks.drop (i+1)).map So.own).flatten):=by
  unfold cc;rw[spl'];simp
 rw[own1,Dq,Dq] at ndf;obtain ⟨d1,⟨d2,d3,d4⟩,d5⟩:=ndf;have inO:∀a,a∈(r::lt::ls::lk::((ks.take i).map So.own).flatten)∨a∈((ks.drop (i+1)).map So.own).flatten->H a≠none/\a∉k.own:=fun a ha=>by
  refine ⟨all a (by rw[own1];rcases ha with ha|ha;exact Dz _ ha;exact DH _ (DH _ ha)),fun z=>?_⟩
  rcases ha with ha|ha
  ·exact d5 a ha a (Dz _ z) rfl
  ·exact d4 a z a ha rfl
 refine {fr:=?_,nw:=?_,nd:=?_,er:=h.er.kp kp (n4 _ (.inl rfl)),et:=kp.rtakeM q h.et (n4 _ (.inr (.inl rfl))),es:=?_,len:=by simp[h.len],ss:=?_,ek:=kp.rtupM q h.ek (n4 _ (.inr (.inr (.inr rfl))))}
 ·exact fun b o e=>kp _ _ (h.fr _ _ e) fun z=>by
   have:=h.nw b (nK mk z);rw[this] at e;cases e
 ·rw[own2];intro a ha;rcases DC.mp ha with ha|ha
  ·exact h.nw a (by rw[own1];exact Dz _ ha)
  rcases DC.mp ha with ha|ha
  ·rcases nk a ha with hk|hn
   ·exact h.nw a (nK mk hk)
   ·exact h.fr.free hn
  ·exact h.nw a (by rw[own1];exact DH _ (DH _ ha))
 ·rw[own2,Dq,Dq];refine ⟨d1,⟨nd,d3,fun a ha b hb e=>?_⟩,fun a ha b hb e=>?_⟩
  ·have:=inO b (.inr hb);rcases nk a ha with hk|hn
   ·exact this.2 (e▸hk)
   ·exact this.1 (e▸hn)
  ·have:=inO a (.inl ha);rcases DC.mp hb with hb|hb
   ·rcases nk b hb with hk|hn
    ·exact this.2 (e▸hk)
    ·exact this.1 (e▸hn)
   ·exact d5 a ha b (DH _ hb) e
 ·rw[kp _ _ h.es (n4 _ (.inr (.inr (.inl rfl))))]
  congr 2
  apply List.ext_getElem?;intro j;rw[DA,DA,ES]
  by_cases c:i=j
  ·subst c;rw[if_pos rfl,if_pos il,e1];simp[ea]
  ·rw[if_neg c]
 ·intro j kj sj f1 f2;have f2':(M.steps.set i s')[j]?=some sj:=f2;rw[ES] at f1 f2'
  by_cases c:i=j
  ·subst c;rw[if_pos rfl] at f1 f2';rw[if_pos il] at f1;rw[if_pos (by rw[<-h.len];exact il)] at f2'
   cases f1;cases f2';exact hs
  ·rw[if_neg c] at f1 f2';refine kp.sm q (h.ss j kj sj f1 f2') fun b hb z=>?_
   have mj:kj∈ks.take i∨kj∈ks.drop (i+1):=by
    by_cases lt:j<i
    ·exact .inl (D5 (i:=j) (by rw[List.getElem?_take,if_pos lt];exact f1))
    ·exact .inr (D5 (i:=j-(i+1)) (by rw[List.getElem?_drop,show i+1+(j-(i+1))=j by omega];exact f1))
   rcases mj with mj|mj
   ·exact (inO b (.inl (by
     refine D7 _ (D7 _ (D7 _ (D7 _ ?_)));exact Dv.mpr ⟨_,DI.mpr ⟨kj,mj,rfl⟩,hb⟩))).2 z
   ·exact (inO b (.inr (Dv.mpr ⟨_,DI.mpr ⟨kj,mj,rfl⟩,hb⟩))).2 z
end
end Sw
namespace L2
open PySem PySem.Spec PyProof.Rows
def xT (h:Heap) (j q:Addr) (k:Nat) (xs:Array Value):Prop:=IsTupIter h j q k/\IsTup h q xs
theorem xT.but {h h':Heap} {j q b:Addr} {k:Nat} {xs:Array Value} (x:xT h j q k xs) (e:Heap.SameBut b h h') (n1:j≠b) (n2:q≠b):xT h' j q k xs:=⟨x.1.extBut e.extBut n1,x.2.extBut e.extBut n2⟩
section
variable {prog:Program} {w:World} {A:Around} {E:GK} {s:Shared}
theorem qA {j q:Addr} {k:Nat} {xs:Array Value} {x:Value} {Q:GK} (t:xT s.heap j q k xs) (qj:q≠j) (hx:xs[k]?=some x) (go:∀h',xT h' j q (k+1) xs->Heap.SameBut j s.heap h'->Q x {s with heap:=h'}):wpAny (model prog w) A (Builtin.SmallTypes.nextOf (.ref j)) Q E s:=by
 obtain ⟨oj,gj,cj,dj⟩:=id t.1;obtain ⟨oq,gq,_,nq,dq⟩:=id t.2;unfold Builtin.SmallTypes.nextOf;refine wpAny_bind (wpAny_callSpecial?_slot (name:=Str.ofString "__next__") t.1.typeIs slot_tupleiter_next (wpAny_call_entry slot_tupleiter_next t.1.typeIs entry_tupleiter_next ?_ (args_tupleiter_next _)));refine wpAny_bind (m:=field (.ref j) 0) (wpAny_field gj dj (x:= .ref q) rfl ?_);show wpAny _ _ (if (Value.ref q==Value.none)=true then _ else _) _ _ s
 rw[if_neg (show ¬(Value.ref q==Value.none)=true from DL)]
 refine wpAny_bind (m:=field (.ref j) 1) (wpAny_field gj dj (x:= .int k 0) rfl (wpAny_bind (m:=seqItems? (.ref q)) (wpAny_seqItems gq dq ?_)));simp only[Int.toNat_natCast,hx];refine wpAny_bind (wpAny_setField gj dj (by simp) (wpAny_pure ⟨x,rfl,wpAny_pure (go _ ⟨?_,t.2.extBut (Heap.SameBut.update ..).extBut qj⟩ (Heap.SameBut.update ..))⟩))
 refine ⟨_,Heap.get?_update_self _ gj (Obj.isFreed_of_fields (Obj.data_mapFields dj _)),(Obj.cls_mapFields ..).trans cj,?_⟩;rw[Obj.data_mapFields dj];simp[rawInt]
theorem vO {j q:Addr} {k:Nat} {xs:Array Value} {Q:GK} (calm:A.handled=none) (t:xT s.heap j q k xs) (hx:xs[k]?=none) (go:∀h' e,Heap.ExtBut j s.heap h'->(∃o,h'.get? e=some o/\o.cls= .type "StopIteration")->E (.ref e) {s with heap:=h'}):wpAny (model prog w) A (Builtin.SmallTypes.nextOf (.ref j)) Q E s:=by
 obtain ⟨oj,gj,cj,dj⟩:=id t.1;obtain ⟨oq,gq,_,nq,dq⟩:=id t.2;unfold Builtin.SmallTypes.nextOf;refine wpAny_bind (wpAny_callSpecial?_slot (name:=Str.ofString "__next__") t.1.typeIs slot_tupleiter_next (wpAny_call_entry slot_tupleiter_next t.1.typeIs entry_tupleiter_next ?_ (args_tupleiter_next _)));refine wpAny_bind (m:=field (.ref j) 0) (wpAny_field gj dj (x:= .ref q) rfl ?_);show wpAny _ _ (if (Value.ref q==Value.none)=true then _ else _) _ _ s
 rw[if_neg (show ¬(Value.ref q==Value.none)=true from DL)]
 refine wpAny_bind (m:=field (.ref j) 1) (wpAny_field gj dj (x:= .int k 0) rfl (wpAny_bind (m:=seqItems? (.ref q)) (wpAny_seqItems gq dq ?_)));simp only[Int.toNat_natCast,hx];refine wpAny_bind (wpAny_rule (wpAny_bind (wpAny_setField gj dj (by simp) (wpAny_bind (m:=newExc (.type "StopIteration") []) ?_))))
 simp only[newExc,newTuple];refine wpAny_bind (wpAny_newObj_type (wpAny_bind (m:=firstArgMember _ _) (wpAny_of_eq (a:=Value.none) (by first|rfl|(simp only[firstArgMember];rfl)) (wpAny_newObj_type ?_ (by size_fits)))) (by size_fits))
 simp only[raiseNew];refine wpAny_bind (wpAny_handled ?_)
 first|rw[show A.in1.handled=none from calm]|rw[calm]
 exact wpAny_bind (wpAny_pure (wpAny_throw (go _ _ (((Heap.SameBut.update ..).extBut.push _).push _) ⟨_,Heap.get?_push_size _ rfl,rfl⟩)))
variable {y ti to j1 j2 q l:Addr} {k:Nat} {xs ys:Array Value} {a b:Value}
structure Cf (h:Heap) (y ti to j1 j2 q l:Addr) (k:Nat) (xs ys:Array Value) (a b:Value):Prop where
 z:IsZip h y ti to .none
 i:IsPair h ti (.ref j1) (.ref j2)
 o:IsPair h to a b
 t:xT h j1 q k xs
 n:h.IsListIter j2 l k
 li:h.IsList l ys
theorem vP {x v:Value} {Q:GS->Shared->Prop} (D:ZipApart y ti to j1 j2 q l) (S:Cf s.heap y ti to j1 j2 q l k xs ys a b) (hx:xs[k]?=some x) (hv:ys[k]?=some v)
  (fin:∀h',IsZip h' y ti to (rawInt s.heap.objs.size)->IsPair h' to x v->IsTupIter h' j1 q (k+1)->h'.IsListIter j2 l (k+1)->IsPair h' s.heap.objs.size x v->h'.objs.size=s.heap.objs.size+1->
   (∀c o,c≠y->c≠to->c≠j1->c≠j2->s.heap.get? c=some o->h'.get? c=some o)->Q (some (.ref s.heap.objs.size)) {s with heap:=h'}):wpAny (model prog w) A (pyNext (.ref y)) Q E s:=by
 obtain ⟨sz,si,so,st,sn,sl⟩:=S;have ty:s.TypeIs (.ref y) "zip" :=⟨_,sz,rfl⟩;unfold pyNext;refine wpAny_bind (wpAny_attempt (wpAny_callSpecial?_slot (name:=Str.ofString "__next__") ty F.slot_zip_next (wpAny_call_entry F.slot_zip_next ty F.entry_zip_next ?_ (F.args_zip_next_1 _))));refine wpAny_bind (m:=field (.ref y) 2) (wpAny_field sz rfl (x:= .bool false) rfl (wpAny_bind (m:=field (.ref y) 3) (wpAny_field sz rfl (x:= .ref ti) rfl (wpAny_bind (wpAny_seqItems si rfl (wpAny_bind (m:=Builtin.SmallTypes.ownedTupleIsFree (.ref y)) ?_))))));unfold Builtin.SmallTypes.ownedTupleIsFree;refine wpAny_bind (wpAny_field sz rfl (x:= .none) rfl (wpAny_pure ?_));simp only[if_true];refine wpAny_bind (wpAny_rule (wpAny_bind (wpAny_field sz rfl (x:= .ref to) rfl (wpAny_bind (wpAny_setField_rec sz (by simp) fun e1 (z1:IsZip e1 y ti to .ellipsis) u1=>wpAny_bind ?_)))))
 simp only[List.zipIdx_cons,List.zipIdx_nil,List.forIn_cons,List.forIn_nil];refine wpAny_bind (wpAny_bind (wpAny_onRaise (wpAny_bind (m:=Builtin.SmallTypes.nextOf (.ref j1)) (qA (st.but u1 D.i1z D.l1z) D.l1i1 hx fun e2 t2 u2=>wpAny_pure ?_))))
 have o2:IsPair e2 to a b:=u2.extBut _ _ D.TOi1 (u1.extBut _ _ D.TOz so);refine wpAny_bind (wpAny_seqItems o2 rfl (wpAny_bind (wpAny_updateSeq_pair o2 fun e3 (o3:IsPair e3 to x b) u3=>wpAny_bind (wpAny_letGo (wpAny_pure ?_)))))
 have n3:=((sn.extBut u1.extBut D.i2z).extBut u2.extBut D.i12.symm).extBut u3.extBut D.TOi2.symm;have l3:=((sl.extBut u1.extBut D.l2z).extBut u2.extBut D.l2i1).extBut u3.extBut D.l2TO;refine wpAny_bind (wpAny_bind (wpAny_onRaise (wpAny_bind (m:=Builtin.SmallTypes.nextOf (.ref j2)) (wpAny_nextOf_list_item n3 l3 hv fun e4 n4 u4=>wpAny_pure ?_))))
 have o4:IsPair e4 to x b:=u4.extBut _ _ D.TOi2 o3;refine wpAny_bind (wpAny_seqItems o4 rfl (wpAny_bind (wpAny_updateSeq_pair o4 fun e5 (o5:IsPair e5 to x v) u5=>wpAny_bind (wpAny_letGo (wpAny_pure (wpAny_pure ?_))))))
 refine wpAny_bind (wpAny_seqItems o5 rfl (wpAny_bind (wpAny_newTuple (wpAny_bind (m:=Builtin.SmallTypes.ownedTupleHandOut (.ref y) (.ref e5.objs.size)) ?_))));have sz5:e5.objs.size=s.heap.objs.size:=by rw[u5.1,u4.1,u3.1,u2.1,u1.1]
 have all5:∀c o,c≠y->c≠to->c≠j1->c≠j2->s.heap.get? c=some o->e5.get? c=some o:=fun c o c1 c2 c3 c4 e=>u5.extBut _ _ c2 (u4.extBut _ _ c4 (u3.extBut _ _ c2 (u2.extBut _ _ c3 (u1.extBut _ _ c1 e))))
 have z5:IsZip e5 y ti to .ellipsis:=u5.extBut _ _ D.TOz.symm (u4.extBut _ _ D.i2z.symm (u3.extBut _ _ D.TOz.symm (u2.extBut _ _ D.i1z.symm z1)));have i5:IsTupIter e5 j1 q (k+1):=((t2.1.extBut u3.extBut D.TOi1.symm).extBut u4.extBut D.i12).extBut u5.extBut D.TOi1.symm;have n5:e5.IsListIter j2 l (k+1):=n4.extBut u5.extBut D.TOi2.symm;have yl:y<e5.objs.size:=Heap.lt_size z5;unfold Builtin.SmallTypes.ownedTupleHandOut;have z6:IsZip (e5.push {cls:= .type "tuple",data:= .seq #[x,v]}) y ti to .ellipsis:=Heap.get?_push_of_some _ z5;refine wpAny_bind (wpAny_setField_rec z6 (by simp) fun e7 (z7:IsZip e7 y ti to (rawInt e5.objs.size)) u7=>wpAny_setField_rec z7 (by simp) fun e8 (z8:IsZip e8 y ti to (rawInt e5.objs.size)) u8=>?_)
 have up:∀c o,c≠y->e5.get? c=some o->e8.get? c=some o:=fun c o c1 e=>u8.extBut _ _ c1 (u7.extBut _ _ c1 (Heap.get?_push_of_some _ e))
 have p8:IsPair e8 e5.objs.size x v:=u8.extBut _ _ (EG yl) (u7.extBut _ _ (EG yl) (Heap.get?_push_size _ rfl));have sz8:e8.objs.size=e5.objs.size+1:=by rw[u8.1,u7.1,Heap.size_push]
 rw[sz5] at z8 p8 sz8;refine wpAny_pure ⟨_,rfl,wpAny_pure ?_⟩;show Q (some (.ref e5.objs.size)) _;rw[sz5];obtain ⟨oi,gi,ri⟩:=i5;exact fin e8 z8 (up _ _ D.TOz o5) ⟨oi,up _ _ D.i1z gi,ri⟩ (n5.at fun o e=>up _ o D.i2z e) p8 sz8 fun c o c1 c2 c3 c4 e=>up c o c1 (all5 c o c1 c2 c3 c4 e)
theorem xU {Q:GS->Shared->Prop} (calm:A.handled=none) (D:ZipApart y ti to j1 j2 q l) (S:Cf s.heap y ti to j1 j2 q l k xs ys a b) (hend:xs[k]?=none∨ys[k]?=none)
  (fin:∀h',(∀c o,c≠y->c≠to->c≠j1->c≠j2->s.heap.get? c=some o->h'.get? c=some o)->Q none {s with heap:=h'}):wpAny (model prog w) A (pyNext (.ref y)) Q E s:=by
 obtain ⟨sz,si,so,st,sn,sl⟩:=S;have ty:s.TypeIs (.ref y) "zip" :=⟨_,sz,rfl⟩;unfold pyNext;have out:∀h' e,(∀c o,c≠y->c≠to->c≠j1->c≠j2->s.heap.get? c=some o->h'.get? c=some o)->(∃o,h'.get? e=some o/\o.cls= .type "StopIteration")->wpAny (model prog w) A (do if<-isInstance (.ref e) (.type "StopIteration") then pure none else throw (.ref e)) Q E {s with heap:=h'}:=fun h' e hk he=>by
  obtain ⟨oe,ge,ce⟩:=he;exact wpAny_bind (wpAny_isInstance (T:= "StopIteration") (b:=true) ⟨oe,ge,ce⟩ isSubtype_stop (wpAny_pure (fin _ hk)))
 refine wpAny_bind (wpAny_attempt (wpAny_callSpecial?_slot (name:=Str.ofString "__next__") ty F.slot_zip_next (wpAny_call_entry F.slot_zip_next ty F.entry_zip_next ?_ (F.args_zip_next_1 _))));refine wpAny_bind (m:=field (.ref y) 2) (wpAny_field sz rfl (x:= .bool false) rfl (wpAny_bind (m:=field (.ref y) 3) (wpAny_field sz rfl (x:= .ref ti) rfl (wpAny_bind (wpAny_seqItems si rfl (wpAny_bind (m:=Builtin.SmallTypes.ownedTupleIsFree (.ref y)) ?_))))));unfold Builtin.SmallTypes.ownedTupleIsFree;refine wpAny_bind (wpAny_field sz rfl (x:= .none) rfl (wpAny_pure ?_));simp only[if_true];refine wpAny_bind (wpAny_rule (wpAny_bind (wpAny_field sz rfl (x:= .ref to) rfl (wpAny_bind (wpAny_setField_rec sz (by simp) fun e1 (z1:IsZip e1 y ti to .ellipsis) u1=>wpAny_bind ?_)))))
 simp only[List.zipIdx_cons,List.zipIdx_nil,List.forIn_cons,List.forIn_nil];cases hx:xs[k]? with
 |none=>
  refine wpAny_bind (wpAny_bind (wpAny_onRaise (wpAny_bind (m:=Builtin.SmallTypes.nextOf (.ref j1)) (vO calm (st.but u1 D.i1z D.l1z) hx fun e2 e u2 he=>?_))))
  obtain ⟨oe,ge,ce⟩:=he;have z2:IsZip e2 y ti to .ellipsis:=u2 _ _ D.i1z.symm z1;have ey:e≠y:=fun c=>by subst c;rw[z2] at ge;cases ge;simp at ce
  exact wpAny_setField_rec z2 (by simp) fun e3 _ u3=>out e3 e (fun c o c1 _ c3 _ g=>u3.extBut _ _ c1 (u2 _ _ c3 (u1.extBut _ _ c1 g))) ⟨oe,u3.extBut _ _ ey ge,ce⟩
 |some x=>
  have hy:ys[k]?=none:=by rcases hend with h|h;rw[hx] at h;cases h;exact h
  refine wpAny_bind (wpAny_bind (wpAny_onRaise (wpAny_bind (m:=Builtin.SmallTypes.nextOf (.ref j1)) (qA (st.but u1 D.i1z D.l1z) D.l1i1 hx fun e2 t2 u2=>wpAny_pure ?_))))
  have o2:IsPair e2 to a b:=u2.extBut _ _ D.TOi1 (u1.extBut _ _ D.TOz so);refine wpAny_bind (wpAny_seqItems o2 rfl (wpAny_bind (wpAny_updateSeq_pair o2 fun e3 o3 u3=>wpAny_bind (wpAny_letGo (wpAny_pure ?_)))))
  have n3:=((sn.extBut u1.extBut D.i2z).extBut u2.extBut D.i12.symm).extBut u3.extBut D.TOi2.symm;have l3:=((sl.extBut u1.extBut D.l2z).extBut u2.extBut D.l2i1).extBut u3.extBut D.l2TO;refine wpAny_bind (wpAny_bind (wpAny_onRaise (wpAny_bind (m:=Builtin.SmallTypes.nextOf (.ref j2)) (wpAny_nextOf_list_end calm n3 l3 hy fun e4 e u4 he=>?_))))
  obtain ⟨oe,ge,ce⟩:=he;have z4:IsZip e4 y ti to .ellipsis:=u4 _ _ D.i2z.symm (u3.extBut _ _ D.TOz.symm (u2.extBut _ _ D.i1z.symm z1));have ey:e≠y:=fun c=>by subst c;rw[z4] at ge;cases ge;simp at ce
  exact wpAny_setField_rec z4 (by simp) fun e5 _ u5=>out e5 e (fun c o c1 c2 c3 c4 g=>u5.extBut _ _ c1 (u4 _ _ c4 (u3.extBut _ _ c2 (u2.extBut _ _ c3 (u1.extBut _ _ c1 g))))) ⟨oe,u5.extBut _ _ ey ge,ce⟩
end
def CJ (n:Nat) (q l:Addr):List Obj:= [{cls:= .type "tuple_iterator",data:= .fields #[.ref q,.int 0 0]},{cls:= .type "list_iterator",data:= .fields #[.ref l,.int 0 0]},{cls:= .type "tuple",data:= .seq #[.ref n,.ref (n+1)]},{cls:= .type "tuple",data:= .seq #[.none,.none]},{cls:= .type "zip",data:= .fields #[.none,.bool false,.bool false,.ref (n+2),.ref (n+3)]}]
def Cg (h:Heap) (q l:Addr):Heap:=(CJ h.objs.size q l).foldl Heap.push h
theorem t9 (q l:Addr) (xs ys:Array Value):Meets (Builtin.«zip.__new__» ⟨[.type "zip",.ref q,.ref l],[]⟩) (fun _ R s=>IsTup s.heap q xs/\s.heap.IsList l ys/\R (.ok (.ret (.ref (s.heap.objs.size+4)))) {s with heap:=Cg s.heap q l}):=
 .of_wp fun prog w A R s k=>by
  obtain ⟨hp,g,d,tk,os⟩:=s;obtain ⟨k1,k2,k3⟩:=k;have sub:=sub_zip;have c1:IsTup (Shared.heap ⟨hp,g,d,tk,os⟩) q xs:=k1;have c2:Heap.IsList (Shared.heap ⟨hp.push {cls:= .type "tuple_iterator",data:= .fields #[.ref q,.int 0 0]},g,d,tk,os⟩) l ys:=Heap.IsList.push k2 _
  wp_walk using iter_tuple c1,wpAny_pyIter_list c2
  refine ⟨_,rfl,?_⟩;simp only[Heap.size_push];exact k3
section
variable {prog:Program} {w:World} {A:Around} {E:GK} {s:Shared}
theorem vQ {q l:Addr} {xs ys:Array Value} {Q:GK} (h1:IsTup s.heap q xs) (h2:s.heap.IsList l ys)
  (fin:∀h',Cf h' (s.heap.objs.size+4) (s.heap.objs.size+2) (s.heap.objs.size+3) s.heap.objs.size (s.heap.objs.size+1) q l 0 xs ys .none .none->(∀c o,s.heap.get? c=some o->h'.get? c=some o)->Q (.ref (s.heap.objs.size+4)) {s with heap:=h'}):
  wpAny (model prog w) A (call (.type "zip") [.ref q,.ref l]) Q E s:=by
 have kp:∀c o,s.heap.get? c=some o->(Cg s.heap q l).get? c=some o:=fun c o e=>by
  unfold Cg CJ;simp only[List.foldl_cons,List.foldl_nil];exact Heap.get?_push_of_some _ (Heap.get?_push_of_some _ (Heap.get?_push_of_some _ (Heap.get?_push_of_some _ (Heap.get?_push_of_some _ e))))
 have at_:∀(h:Heap) (o1 o2 o3 o4 o5:Obj),o1.isFreed=false->o2.isFreed=false->o3.isFreed=false->o4.isFreed=false->o5.isFreed=false->(((((h.push o1).push o2).push o3).push o4).push o5).get? h.objs.size=some o1/\(((((h.push o1).push o2).push o3).push o4).push o5).get? (h.objs.size+1)=some o2/\(((((h.push o1).push o2).push o3).push o4).push o5).get? (h.objs.size+2)=some o3/\(((((h.push o1).push o2).push o3).push o4).push o5).get? (h.objs.size+3)=some o4/\(((((h.push o1).push o2).push o3).push o4).push o5).get? (h.objs.size+4)=some o5:=fun h o1 o2 o3 o4 o5 f1 f2 f3 f4 f5=>by
  have a1:=Heap.get?_push_size h f1;have a2:=Heap.get?_push_size (h.push o1) f2;have a3:=Heap.get?_push_size ((h.push o1).push o2) f3;have a4:=Heap.get?_push_size (((h.push o1).push o2).push o3) f4;have a5:=Heap.get?_push_size ((((h.push o1).push o2).push o3).push o4) f5;simp only[Heap.size_push] at a2 a3 a4 a5;exact ⟨Heap.get?_push_of_some _ (Heap.get?_push_of_some _ (Heap.get?_push_of_some _ (Heap.get?_push_of_some _ a1))),Heap.get?_push_of_some _ (Heap.get?_push_of_some _ (Heap.get?_push_of_some _ a2)),Heap.get?_push_of_some _ (Heap.get?_push_of_some _ a3),Heap.get?_push_of_some _ a4,a5⟩
 obtain ⟨a1,a2,a3,a4,a5⟩:=at_ s.heap {cls:= .type "tuple_iterator",data:= .fields #[.ref q,.int 0 0]} {cls:= .type "list_iterator",data:= .fields #[.ref l,.int 0 0]} {cls:= .type "tuple",data:= .seq #[.ref s.heap.objs.size,.ref (s.heap.objs.size+1)]} {cls:= .type "tuple",data:= .seq #[.none,.none]} {cls:= .type "zip",data:= .fields #[.none,.bool false,.bool false,.ref (s.heap.objs.size+2),.ref (s.heap.objs.size+3)]} rfl rfl rfl rfl rfl;refine callType_new F.called_zip (by decide) (F.typeCall_zip_2 _ _) (F.newCall_zip_2 _ _) (fun obj=>F.args_object_init_3 obj _ _) F.entry_zip_new (t9 q l xs ys) ⟨h1,h2,⟨_,a5,rfl⟩,fin _ ⟨a5,a3,a4,⟨⟨_,a1,rfl,rfl⟩,h1.keeps kp⟩,⟨_,a2,rfl,rfl⟩,?_⟩ kp⟩
 exact h2.at fun o e=>kp _ o e
end
def Ap (K:D3) (l1 l2:Addr):It:=
  ⟨fun i H=>∃xs ys x y,bX K H l1 xs/\aE K H l2 ys/\xs[i]?=some x/\ys[i]?=some y,
   fun i H v H'=>∃(T:Addr) (x y:V),v= .ref T/\H T=none/\(∀xs,bX K H l1 xs->xs[i]?=some x)/\(∀ys,aE K H l2 ys->ys[i]?=some y)/\H'=aO H T (.tup [x,y]),
   fun i H=>∃xs ys,bX K H l1 xs/\aE K H l2 ys/\(xs.length<=i∨ys.length<=i)⟩
structure Ch (h:Heap) (z ti to i1 i2 l1 l2:Addr) (i:Nat):Prop where
 zip:IsZip h z ti to .none
 ti:IsPair h ti (.ref i1) (.ref i2)
 to:∃a b,IsPair h to a b
 it1:IsTupIter h i1 l1 i
 it2:h.IsListIter i2 l2 i
theorem IsTupIter.at' {h h':Heap} {a t:Addr} {i:Nat} (x:IsTupIter h a t i) (k:∀o,h.get? a=some o->h'.get? a=some o):IsTupIter h' a t i:=let ⟨o,e,r⟩:=x;⟨o,k o e,r⟩
theorem Ch.apart {h:Heap} {z TI TO i1 i2 l1 l2:Addr} {i:Nat} {ys:Array Value} (st:Ch h z TI TO i1 i2 l1 l2 i) (d: [z,TI,TO,i1,i2].Nodup) (dl:l1∉ [z,TI,TO,i1,i2]) (h2:h.IsList l2 ys):ZipApart z TI TO i1 i2 l1 l2:=by
 obtain ⟨a,b,eto⟩:=st.to;obtain ⟨o1,e1,c1,_⟩:=st.it1;obtain ⟨o2,e2,c2,_⟩:=st.it2;simp only[De,D2,D6,or_false,not_or,List.nodup_nil,and_true] at d dl;obtain ⟨⟨d1,d2,d3,d4⟩,⟨d5,d6,d7⟩,⟨d8,d9⟩,d10,_⟩:=d;obtain ⟨p1,p2,p3,p4,p5⟩:=dl;obtain ⟨q1,q2,q3,q4,q5⟩:l2≠z/\l2≠TI/\l2≠TO/\l2≠i1/\l2≠i2:=⟨gU h2 st.zip rfl (by decide),gU h2 st.ti rfl (by decide),gU h2 eto rfl (by decide),gU h2 e1 c1 (by decide),gU h2 e2 c2 (by decide)⟩
 constructor<;>first|assumption|exact Ne.symm (by assumption)
theorem vR {P:Program} {w:World} {K:D3} {elts:List Expr} {k:Nat} {pos:Pos} (l1 l2 z TI TO i1 i2:Addr) (d: [z,TI,TO,i1,i2].Nodup) (dl:l1∉ [z,TI,TO,i1,i2]):Turn P w K (.Tuple elts k pos) (Ap K l1 l2) [z,TI,TO,i1,i2] z (fun i h=>Ch h z TI TO i1 i2 l1 l2 i) where
 mem:=by simp
 obj:=fun i h st b hb=>by
  obtain ⟨a,b',eto⟩:=st.to;obtain ⟨o1,e1,c1,d1⟩:=st.it1;obtain ⟨o2,e2,c2,d2⟩:=st.it2;simp only[D2,D6,or_false] at hb;rcases hb with q|q|q|q|q<;>subst q
  ·exact ⟨_,st.zip,fun v z=>by cases z⟩
  ·exact ⟨_,st.ti,fun v z=>by cases z⟩
  ·exact ⟨_,eto,fun v z=>by cases z⟩
  ·exact ⟨o1,e1,fun v z=>by rw[d1] at z;cases z⟩
  ·exact ⟨o2,e2,fun v z=>by rw[d2] at z;cases z⟩
 keep:=fun i h h' st k=>⟨k _ (by simp) _ st.zip,k _ (by simp) _ st.ti,let ⟨a,b,e⟩:=st.to;⟨a,b,k _ (by simp) _ e⟩,IsTupIter.at' st.it1 fun o q=>k _ (by simp) o q,st.it2.at fun o q=>k _ (by simp) o q⟩
 item:=by
  intro X hP hw hK hc i pins s σ H E I hf st hg;subst hP hw hK;obtain ⟨xs,ys,x,y,hq1,hq2,hx,hy⟩:=hg;obtain ⟨is1,rv1,p1,hz1⟩:=I.tuple hq1;obtain ⟨is2,rv2,p2,hz2⟩:=I.list hq2;obtain ⟨u,hu,ru⟩:=rv1.get hx;obtain ⟨v,hv,rv⟩:=rv2.get hy;have ap:=st.apart d dl p2.isList;obtain ⟨a,b,eto⟩:=st.to;refine vP (xs:=is1.toArray) (ys:=is2.toArray) (x:=u) (v:=v) ap ⟨st.zip,st.ti,eto,⟨st.it1,p1⟩,st.it2,p2.isList⟩ (by simpa using hu) (by simpa using hv) fun h1 ho hto hi1 hi2 hT hsz hk=>?_
  refine ⟨_,rfl,wpAny_letOwnedTupleGo_zip (s:={s with heap:=h1}) ho fun h2 hz2' hs2=>?_⟩
  have nT:H s.heap.objs.size=none:=I.hok.fresh (D9 _);have lt:∀b∈ [z,TI,TO,i1,i2],b<s.heap.objs.size:=fun b hb=>by
   obtain ⟨o1,e1,_⟩:=st.it1;obtain ⟨o2,e2,_⟩:=st.it2;simp only[D2,D6,or_false] at hb;rcases hb with q|q|q|q|q<;>subst q
   ·exact Heap.lt_size st.zip
   ·exact Heap.lt_size st.ti
   ·exact Heap.lt_size eto
   ·exact Heap.lt_size e1
   ·exact Heap.lt_size e2
  have zl:=lt z (by simp)
  have hT2:IsPair h2 s.heap.objs.size u v:=(hs2.2 _ (EG zl)).trans hT;have kp:∀b o,b∉ [z,TI,TO,i1,i2]->s.heap.get? b=some o->h2.get? b=some o:=fun b o hb q=>by
   simp only[D2,D6,or_false,not_or] at hb;exact (hs2.2 b hb.1).trans (hk b o hb.1 hb.2.2.1 hb.2.2.2.1 hb.2.2.2.2 q)
  have eti:h1.get? TI=some {cls:= .type "tuple",data:= .seq #[.ref i1,.ref i2]}:=hk TI _ ap.TIz ap.TITO ap.TIi1 ap.TIi2 st.ti;refine ⟨.ref s.heap.objs.size,aO H s.heap.objs.size (.tup [x,y]),I.turnedNew (t':=s.toks) (ch:= [z,TI,TO,i1,i2]) hf kp (D9 _) ⟨by show 2<=sizeLine;decide,[u,v],.cons ru (.cons rv .nil),⟨_,hT2,rfl,0,rfl⟩⟩,rfl,
   ⟨_,x,y,rfl,nT,fun ys hy'=>by rw[I.tuple_inj hy' hq1];exact hx,fun ys hy'=>by rw[I.list_inj hy' hq2];exact hy,rfl⟩,⟨hz2',(hs2.2 _ ap.TIz).trans eti,⟨u,v,(hs2.2 _ ap.TOz).trans hto⟩,IsTupIter.at' hi1 fun o q=>(hs2.2 _ ap.i1z).trans q,hi2.at fun o q=>(hs2.2 _ ap.i2z).trans q⟩,fun b hb=>?_⟩
  rw[aB (DW (lt b hb))];exact (hf b hb).1
 done:=by
  intro X hP hw hK hc i pins s σ H E I hf st hg;subst hP hw hK;obtain ⟨xs,ys,hq1,hq2,hx⟩:=hg;obtain ⟨is1,rv1,p1,hz1⟩:=I.tuple hq1;obtain ⟨is2,rv2,p2,hz2⟩:=I.list hq2;have ap:=st.apart d dl p2.isList;obtain ⟨a,b,eto⟩:=st.to;have e1:=rv1.length;have e2:=rv2.length;refine xU (xs:=is1.toArray) (ys:=is2.toArray) (I.ok.hd hc) ap ⟨st.zip,st.ti,eto,⟨st.it1,p1⟩,st.it2,p2.isList⟩ (by rcases hx with q|q;exact .inl (by simp;omega);exact .inr (by simp;omega)) fun h' hk=>⟨rfl,I.turnedAll (t':=s.toks) (ch:= [z,TI,TO,i1,i2]) hf fun b o hb q=>?_⟩
  simp only[D2,D6,or_false,not_or] at hb;exact hk b o hb.1 hb.2.2.1 hb.2.2.2.1 hb.2.2.2.2 q
 self:=fun _ _ _ _ _ st h=>wpAny_pyIter_zip st.zip h
theorem Ci {l n:Nat} (h:l<n):l∉ [n+4,n+2,n+3,n,n+1]:=by
 simp only[D2,D6,or_false,not_or];omega
def C9 (K:D3) (ta:TA):TI:=fun σ H R=>ta σ H fun vs H1=>∃l1 l2:Addr,vs= [.ref l1,.ref l2]/\(∃xs,bX K H1 l1 xs)/\(∃ys,aE K H1 l2 ys)/\R (Ap K l1 l2) H1
theorem Aq {X:Cx} {a b:Expr} {ta:TA} {elts:List Expr} {k:Nat} {tp p pos:Pos} (hg:Gl X "zip") (hm:X.mg "zip" =none) (ha:PA X [a,b] ta) (hs:starEach [a,b] X.env= [(false,eval a X.env),(false,eval b X.env)]:=by rfl) (hs2:starEach [b] X.env= [(false,eval b X.env)]:=by rfl):
  PI X (.Tuple elts k tp) (.Call (.Name "zip" p) [a,b] [] pos) (C9 X.K ta):=by
 intro pins s σ H R I h;refine Call_ (fF I hg hm boot_zip (EE (b7 (ha pos pins s σ H _ I h) fun us s1 ⟨vs,H1,I1,r1,q1⟩=>?_) (by rw[hs,hs2]) (by rw[hs2];rfl)))
 obtain ⟨l1,l2,e,⟨xs,hq1⟩,⟨ys,hq2⟩,q⟩:=q1;subst e;cases r1 with
 |cons r rr=>
  cases rr with
  |cons r' rr=>
   cases rr;cases r;cases r';obtain ⟨is1,rv1,p1,hz1⟩:=I1.tuple hq1;obtain ⟨is2,rv2,p2,hz2⟩:=I1.list hq2;refine vQ p1 p2.isList fun h' S hk=>?_
   obtain ⟨hz,hti,hto,⟨hi1,_⟩,hi2,_⟩:=S;refine wpAny_pyIter_zip (s:={s1 with heap:=h'}) hz ?_
   have I2:aP X pins σ H1 {s1 with heap:=h'}:=I1.kept (t':=s1.toks) hk
   have l1s:l1<s1.heap.objs.size:=p1.lt;refine ⟨s1.heap.objs.size+4,[s1.heap.objs.size+4,s1.heap.objs.size+2,s1.heap.objs.size+3,s1.heap.objs.size,s1.heap.objs.size+1],_,_,H1,rfl,I2,vR l1 l2 _ _ _ _ _ (xx _) (Ci l1s),⟨hz,hti,⟨_,_,hto⟩,hi1,hi2⟩,fun b hb=>?_,q⟩
   have bl:s1.heap.objs.size<=b:=by
    simp only[D2,D6,or_false] at hb;rcases hb with q|q|q|q|q<;>rw[q]<;>first|exact D9 _|exact Nat.le_add_right _ _
   exact I1.fpOk bl (I1.hok.fresh bl)
theorem xV {K:D3} {l1 l2:Addr} {xs ys:List V} {g:TG} {tb:TS} {D:Ends} {σ:St} {H:Hp} (Pv:Nat->St->Hp->Prop) (h0:Pv 0 σ H) (hl:∀i σ H,i<=min xs.length ys.length->Pv i σ H->bX K H l1 xs/\aE K H l2 ys)
  (hs:∀i x y σ H (T:Addr),xs[i]?=some x->ys[i]?=some y->Pv i σ H->H T=none->g (.ref T) σ (aO H T (.tup [x,y])) fun σ2 H2=>tb {D with nx:=Pv (i+1),ct:=Pv (i+1),bk:=D.nx} σ2 H2) (hd:∀σ H,Pv (min xs.length ys.length) σ H->D.nx σ H):
  ∃W:Nat->Nat->St->Hp->Prop,(∃m,W 0 m σ H)/\∀i m σ H,W i m σ H->
   ((Ap K l1 l2).stop i H/\D.nx σ H)∨((Ap K l1 l2).go i H/\∃N:St->Hp->Prop,(∀σ' H',N σ' H'->∃m',m'<m/\W (i+1) m' σ' H')/\∀x H',(Ap K l1 l2).yld i H x H'->g x σ H' fun σ2 H2=>tb {D with nx:=N,ct:=N,bk:=D.nx} σ2 H2):=by
 refine ⟨fun i m σ H=>m=min xs.length ys.length-i/\i<=min xs.length ys.length/\Pv i σ H,⟨min xs.length ys.length,by simp,E1 _,h0⟩,?_⟩
 rintro i m σ H ⟨rfl,hi,p⟩;obtain ⟨q1,q2⟩:=hl i σ H hi p
 by_cases hlt:i<min xs.length ys.length
 ·refine .inr ⟨⟨xs,ys,xs[i]'(by omega),ys[i]'(by omega),q1,q2,D1 _,D1 _⟩,Pv (i+1),fun σ' H' p'=>⟨min xs.length ys.length-(i+1),by omega,rfl,by omega,p'⟩,fun x H' y=>?_⟩
  obtain ⟨T,a,b,rfl,nT,ha,hb,rfl⟩:=y;exact hs i a b σ H T (ha xs q1) (hb ys q2) p nT
 ·have e:i=min xs.length ys.length:=by omega
  subst e;exact .inl ⟨⟨xs,ys,q1,q2,by omega⟩,hd σ H p⟩
end L2
namespace Sw
open PySem L2 XH Hm PySem.NumText
theorem qB (s:Str) (ws:GO):Txt.join s ws=Str.join s ws:=StrLaws.glued_eq_join s ws
end Sw
namespace L2
open PySem
end L2
namespace Sw
open PySem L2 XH Hm PySem.NumText
end Sw
namespace L2
open PySem PySem.Spec PyProof.Rows XH Sw
theorem gK:∀{xs:GO} {us:GQ},bn (xs.map V.str) us->∀(i:Nat) (v:Value),us[i]?=some v->∃t,v= .str (xs.getD i "") t
 | [],_,.nil,i,v,h=>by simp at h
 |x::xs,_,.cons r t,0,v,h=>by
  obtain ⟨t',e⟩:=r;have:v= .str x t':=by simpa [e] using h.symm
  exact ⟨t',by simpa using this⟩
 |x::xs,_,.cons _ t,i+1,v,h=>by
  obtain ⟨t',e⟩:=gK (xs:=xs) t i v (by simpa using h)
  exact ⟨t',by simpa using e⟩
theorem uc (xs ys:GO) (h:xs.length=ys.length):((EA xs.length).all fun j=>xs.getD j "" ==ys.getD j "")=decide (xs=ys):=by
 by_cases e:xs=ys
 ·subst e;rw[decide_eq_true rfl,EI];intro j _;simp
 ·rw[decide_eq_false e,<-Bool.not_eq_true,EI];intro hh;apply e;apply List.ext_getElem h;intro i h1 h2;have:=hh i (List.mem_range.mpr h1);rw[E7,D1 h1,E7,D1 h2] at this
  simpa using this
theorem vS {X:Cx} (hu:X.A.units+1<cLine):gA X (compareOp .NotEq) (fun x y H Q=>∃(a b:Addr) (xs ys:GO),x= .ref a/\y= .ref b/\H a=some (.lst (xs.map V.str))/\H b=some (.lst (ys.map V.str))/\Q (.bl (!decide (xs=ys))) H):=by
 intro pins s σ H x y v u Q I rx ry h;obtain ⟨a,b,xs,ys,rfl,rfl,h1,h2,hq⟩:=h;cases rx;cases ry;obtain ⟨i1,r1,p1,_⟩:=I.list (aE.of h1);obtain ⟨i2,r2,p2,_⟩:=I.list (aE.of h2);have l1:i1.length=xs.length:=by rw[<-r1.length,D4]
 have l2:i2.length=ys.length:=by rw[<-r2.length,D4]
 by_cases hl:xs.length=ys.length
 ·refine SeqAt.RcNeAt.lists (e:=fun j=>xs.getD j "" ==ys.getD j "") p1.isList p2.isList (by simp[l1,l2,hl]) (by omega) (fun j g1 g2=>?_) _ _ _ _ ⟨.bl (!decide (xs=ys)),H,I,?_,hq⟩
  ·have g1':j<i1.length:=by simpa using g1
   have g2':j<i2.length:=by simpa using g2
   obtain ⟨t,e⟩:=gK r1 j i1[j] (D1 g1');obtain ⟨t',e'⟩:=gK r2 j i2[j] (D1 g2');simp only[List.getElem_toArray,e,e'];exact SeqAt.EqAt.str_str _ _ _ _
  ·show Value.bool _=Value.bool _;rw[DK,l1,uc xs ys hl]
 ·refine SeqAt.RcNeAt.lists_lengths p1.isList p2.isList (by simp[l1,l2,hl]) (by omega) _ _ _ _ ⟨.bl (!decide (xs=ys)),H,I,?_,hq⟩
  show Value.bool _=Value.bool _;rw[decide_eq_false (fun e=>hl (by rw[e]))]
  rfl
end L2
namespace Sw
open PySem L2 XH Hm PySem.NumText
theorem nL {ws:GO} (ne:ws≠ []) (h:∀w∈ws,10∉sL w):Txt.split (Txt.join md ws) md=ws:=by
 unfold md;rw[qB];exact eU ne h
inductive Fv where
 |nm (z:Str)
 |num (n:Nat)
 |am (a:dh)
def wB:RA Fv:=fun P H v x=>match x with
 | .nm z=>v= .str z
 | .num n=>v=vN n
 | .am a=>∃t,v= .ref t/\P t/\H t=some (.tup (vE a))
instance:Mv wB where
 mv:=fun {P P' H H' v x} g h=>by
  cases x with
  |nm z=>exact h
  |num n=>exact h
  |am a=>
   obtain ⟨t,e1,p,e2⟩:=h;exact ⟨t,e1,(g t _ p rfl e2).1,(g t _ p rfl e2).2⟩
def pz:List (Str×(Nat×Nat)):= [("plates",(1,1000)),("length",(1,100000)),("many",(1,8)),("heat",(0,1000)),("turns",(0,100000)),("course",(1,8)),("parts",(0,400)),("low",(0,1000000000000000))]
def vT:List (Str×List V):=pz.map fun p=>(p.1,[vN p.2.1,vN p.2.2])
def cu:List (Str×GO):= [("dish",["name","plates"]),("take",["name","amount"]),("cut",["name","length","length"]),("rest",["name","length","length"]),("warm",["name","length","length","amount"]),("or",["name","length","length"]),("with",["name","name","many","heat"]),("orwith",["name","name","many","heat"]),("after",["name","name"]),("within",["name","name","turns"]),("apart",["name","name"])]
def fP:List (Str×List V):=cu.map fun p=>(p.1,p.2.map V.str)
open Classical in
noncomputable def nM (w:Str):Option dh:=if h:∃a:dh,Reads (sL w) a.1 a.2/\1<=a.1 then some h.choose else none
theorem kG {w:Str} {a:dh} (h:Reads (sL w) a.1 a.2) (p:1<=a.1):nM w=some a:=by
 have ex:∃a:dh,Reads (sL w) a.1 a.2/\1<=a.1:=⟨a,h,p⟩;unfold nM;rw[dif_pos ex];have:=iG ex.choose_spec.1 h;exact congrArg some (Prod.ext this.1 this.2)
theorem kH {w:Str} (h:∀a:dh,Reads (sL w) a.1 a.2->¬1<=a.1):nM w=none:=by
 unfold nM;rw[dif_neg];rintro ⟨a,h1,h2⟩;exact h a h1 h2
def nN (w:Str) (lo hi:Nat):Option Nat:=if xI (sL w)=true/\lo<=digitsVal (sL w)/\digitsVal (sL w)<=hi then some (digitsVal (sL w)) else none
noncomputable def bD (f w:Str):Option Fv:=if f= "name" then (if xJ w=true then some (.nm w) else none) else if f= "amount" then (nM w).map .am else match pz.lookup f with
 |some b=>(nN w b.1 b.2).map .num
 |none=>none
noncomputable def cE:GO->GO->Option (List Fv)
 | [],[]=>some []
 |f::fs,w::ws=>match bD f w,cE fs ws with
  |some v,some vs=>some (v::vs)
  |_,_=>none
 |_,_=>none
def cL (w:Str) (vs:List Fv):Bool:=match vs with
 | .nm _:: .num lo:: .num hi::_=> !(decide (w= "or" ∨w= "cut" ∨w= "rest" ∨w= "warm"))||decide (lo<=hi)
 | .nm a:: .nm b::_=> !(decide (w= "after" ∨w= "within" ∨w= "apart"))||decide (a≠b)
 |_=>true
noncomputable def jR (z:Str):Option (Str×List Fv):=if Str.empty∈Txt.split z jO then none else match Txt.split z jO with
 | []=>none
 |w::rest=>match cu.lookup w with
  |none=>none
  |some fs=>match cE fs rest with
   |none=>none
   |some vs=>if cL w vs=true then some (w,vs) else none
def pA:Option dh->List Fv
 |none=> []
 |some a=> [.am a]
def pB:Rr->Str×List Fv
 | .take g a=>("take",[.nm g,.am a])
 | .step w n lo hi f=>(w,[.nm n,.num lo,.num hi]++pA f)
 | .sec n lo hi=>("or",[.nm n,.num lo,.num hi])
 | .use o n u=>(if o=true then "orwith" else "with",[.nm n,.nm u.1,.num u.2.1,.num u.2.2])
 | .link w a b t=>(w,[.nm a,.nm b]++if w= "within" then [.num t] else [])
theorem cz {z:Str} (h:Nm z):bD "name" z=some (.nm z):=by
 unfold bD;rw[if_pos rfl,if_pos ((gd z).mpr h)]
theorem nO {a:dh} (h:pi a):bD "amount" (i4 a)=some (.am a):=by
 unfold bD;rw[if_neg (by decide),if_pos rfl,kG (a:=a) (by unfold i4;rw[bx];exact h.rd) h.pos]
 rfl
theorem xW {n lo hi:Nat} (h1:lo<=n) (h2:n<=hi) (h3:n<=999999999):nN (bw n) lo hi=some n:=by
 unfold nN bw;rw[bx,oR];have dl:=cV (n:=n) (k:=8) (by omega)
 rw[if_pos];refine ⟨(jt _).mpr ?_,h1,h2⟩;have:=jd (eD (n:=n) (by omega))
 unfold vn;refine ⟨?_,by omega,?_,eB n⟩
 ·have:=p6 n;have:=List.length_pos_iff.mpr this;omega
 ·by_cases c:(dg n).head?=some 48
  ·have:=p7 n c;subst this;exact .inr lG
  ·exact .inl c
theorem eV {f:Str} {n lo hi:Nat} (hf:pz.lookup f=some (lo,hi)) (n1:f≠ "name") (n2:f≠ "amount") (h1:lo<=n) (h2:n<=hi) (h3:n<=999999999):bD f (bw n)=some (.num n):=by
 unfold bD;rw[if_neg n1,if_neg n2,hf];show (nN (bw n) lo hi).map Fv.num=_;rw[xW h1 h2 h3]
 rfl
theorem a9 {f w:Str} {fs ws:GO} {v:Fv} {vs:List Fv} (h:bD f w=some v) (k:cE fs ws=some vs):cE (f::fs) (w::ws)=some (v::vs):=by
 show (match bD f w,cE fs ws with|some v,some vs=>some (v::vs)|_,_=>none)=_
 rw[h,k]
def Wb (w:Str):Prop:=32∉sL w/\w≠ ""
theorem fE {z:Str} (h:Nm z):Wb z:=⟨fun m=>by have:=h.2.2 32 m;omega,fun e=>by rw[e] at h;exact absurd h.1 (by decide)⟩
theorem eN (n:Nat):Wb (bw n):=⟨fN (by decide),fun e=>by
 have:=congrArg sL e;unfold bw at this;rw[bx] at this;exact p6 n this⟩
theorem wC {a:dh} (h:pi a):Wb (i4 a):=by
 have no:∀c∈cO a.1 a.2,43<=c:=fun c hc=>by
  unfold cO at hc;have dd:∀n c,c∈dg n->43<=c:=fun n c h=>by have:=(eB n c h).1;omega
  split at hc
  ·exact dd _ c hc
  ·split at hc
   ·rcases DC.mp hc with h|h
    ·exact dd _ c h
    ·rcases D2.mp h with rfl|h
     ·decide
     ·exact dd _ c h
   ·rcases DC.mp hc with h|h
    ·exact dd _ c h
    ·rcases D2.mp h with rfl|h
     ·decide
     ·rcases DC.mp h with h|h
      ·exact dd _ c h
      ·rcases D2.mp h with rfl|h
       ·decide
       ·exact dd _ c h
 refine ⟨fun m=>?_,fun e=>?_⟩
 ·unfold i4 at m;rw[bx] at m;have:=no 32 m;omega
 ·have e1:=congrArg sL e;unfold i4 at e1;rw[bx] at e1;have e0:cO a.1 a.2= []:=e1;obtain ⟨n,m,hl,_⟩:=h.rd.ex;rw[e0] at hl;have:dz []=none:=by
   unfold dz c7 cB;rw[if_neg (by simp),if_neg (by simp),fY (fun f=>absurd f.1 (by decide))]
  rw[this] at hl;cases hl
theorem ud {ws:GO} (ne:ws≠ []) (h:∀w∈ws,Wb w):Txt.split (jB ws) jO=ws/\Str.empty∉ws:=by
 refine ⟨?_,fun m=>(h _ m).2 rfl⟩
 unfold jB jO;rw[qB];exact eU ne fun w hw=>(h w hw).1
theorem eL {w:Str} {rest fs:GO} {vs:List Fv} (h:∀x∈w::rest,Wb x) (hf:cu.lookup w=some fs) (hv:cE fs rest=some vs) (ha:cL w vs=true):jR (jB (w::rest))=some (w,vs):=by
 obtain ⟨e,n⟩:=ud (ws:=w::rest) (by simp) h
 unfold jR;rw[e,if_neg n];simp only[hf,hv,ha,if_true]
theorem rA {w:Str} (h:xJ w=true):Wb w:=fE ((gd w).mp h)
theorem kI {n:Str} {p:Nat} (h:Nm n) (p1:1<=p) (p2:p<=1000):jR (bj n p)=some (Str.ofString "dish",[Fv.nm n,Fv.num p]):=by
 refine eL (fs:= ["name","plates"]) (fun x hx=>?_) (by decide) (a9 (cz h) (a9 (eV (lo:=1) (hi:=1000) (by decide) (by decide) (by decide) p1 p2 (by omega)) rfl)) rfl
 simp only[D2,D6,or_false] at hx;rcases hx with rfl|rfl|rfl
 ·exact rA (by decide+kernel)
 ·exact fE h
 ·exact eN p
theorem lZ {r:Rr} (h:eM r):jR (eG r)=some (pB r):=by
 have LN:∀{n:Nat},1<=n->n<=100000->bD "length" (bw n)=some (.num n):=fun h1 h2=>eV (lo:=1) (hi:=100000) (by decide) (by decide) (by decide) h1 h2 (by omega)
 cases r with
 |take g a=>
  obtain ⟨h1,h2⟩:=h;refine eL (fs:= ["name","amount"]) (fun x hx=>?_) (by decide) (a9 (cz h1) (a9 (nO h2) rfl)) rfl
  simp only[D2,D6,or_false] at hx;rcases hx with rfl|rfl|rfl
  ·exact rA (by decide+kernel)
  ·exact fE h1
  ·exact wC h2
 |step w n lo hi f=>
  obtain ⟨h1,h2,⟨l1,l2,l3⟩,h4⟩:=h;have lo1:=LN (n:=lo) l1 (by omega)
  have hi1:=LN (n:=hi) (by omega) l3
  have wb:Wb w:=by rcases h1 with rfl|rfl|rfl<;>exact rA (by decide+kernel)
  cases f with
  |none=>
   have h4:w≠ "warm" :=h4;have hw:w= "cut" ∨w= "rest" :=by
    rcases h1 with e|e|e
    ·exact .inl e
    ·exact .inr e
    ·exact absurd e h4
   refine eL (fs:= ["name","length","length"]) (rest:= [n,bw lo,bw hi]) (fun x hx=>?_) (by rcases hw with rfl|rfl<;>decide) (a9 (cz h2) (a9 lo1 (a9 hi1 rfl))) (by simp[cL,l2])
   simp only[D2,D6,or_false] at hx;rcases hx with rfl|rfl|rfl|rfl
   ·exact wb
   ·exact fE h2
   ·exact eN lo
   ·exact eN hi
  |some a=>
   obtain ⟨rfl,h5⟩:=h4;refine eL (fs:= ["name","length","length","amount"]) (rest:= [n,bw lo,bw hi,i4 a]) (fun x hx=>?_) (by decide) (a9 (cz h2) (a9 lo1 (a9 hi1 (a9 (nO h5) rfl)))) (by simp[cL,l2])
   simp only[D2,D6,or_false] at hx;rcases hx with rfl|rfl|rfl|rfl|rfl
   ·exact wb
   ·exact fE h2
   ·exact eN lo
   ·exact eN hi
   ·exact wC h5
 |sec n lo hi=>
  obtain ⟨h2,⟨l1,l2,l3⟩⟩:=h;refine eL (fs:= ["name","length","length"]) (fun x hx=>?_) (by decide) (a9 (cz h2) (a9 (LN l1 (by omega)) (a9 (LN (by omega) l3) rfl))) (by simp[cL,l2])
  simp only[D2,D6,or_false] at hx;rcases hx with rfl|rfl|rfl|rfl
  ·exact rA (by decide+kernel)
  ·exact fE h2
  ·exact eN lo
  ·exact eN hi
 |use o n u=>
  obtain ⟨h1,h2,h3,h4,h5⟩:=h;have hw:(if o=true then Str.ofString "orwith" else Str.ofString "with")= "orwith" ∨(if o=true then Str.ofString "orwith" else Str.ofString "with")= "with" :=by cases o<;>simp
  show jR (jB [if o=true then Str.ofString "orwith" else Str.ofString "with",n,u.1,bw u.2.1,bw u.2.2])=some (if o=true then Str.ofString "orwith" else Str.ofString "with",_)
  generalize (if o=true then Str.ofString "orwith" else Str.ofString "with")=w at hw
  refine eL (fs:= ["name","name","many","heat"]) (fun x hx=>?_) (by rcases hw with rfl|rfl<;>decide) (a9 (cz h1) (a9 (cz h2) (a9 (eV (lo:=1) (hi:=8) (by decide) (by decide) (by decide) h3 h4 (by omega)) (a9 (eV (lo:=0) (hi:=1000) (by decide) (by decide) (by decide) (by omega) h5 (by omega)) rfl)))) (by rcases hw with rfl|rfl<;>(unfold cL;simp;exact .inl (by decide)))
  simp only[D2,D6,or_false] at hx;rcases hx with rfl|rfl|rfl|rfl|rfl
  ·rcases hw with rfl|rfl<;>exact rA (by decide+kernel)
  ·exact fE h1
  ·exact fE h2
  ·exact eN _
  ·exact eN _
 |link w a b t=>
  obtain ⟨h1,h2,h3,h4,h5,h6⟩:=h;have wb:Wb w:=by rcases h1 with rfl|rfl|rfl<;>exact rA (by decide+kernel)
  show jR (jB (cK w a b t))=some (w,[.nm a,.nm b]++if w= "within" then [.num t] else [])
  unfold cK
  by_cases c:w= "within"
  ·subst c;rw[if_pos rfl,if_pos rfl];refine eL (fs:= ["name","name","turns"]) (rest:= [a,b,bw t]) (fun x hx=>?_) (by decide) (a9 (cz h2) (a9 (cz h3) (a9 (eV (lo:=0) (hi:=100000) (by decide) (by decide) (by decide) (by omega) h5 (by omega)) rfl))) (by simp[cL,h4])
   simp only[D2,D6,or_false] at hx;rcases hx with rfl|rfl|rfl|rfl
   ·exact wb
   ·exact fE h2
   ·exact fE h3
   ·exact eN t
  ·rw[if_neg c,if_neg c];have hw:w= "after" ∨w= "apart" :=by
    rcases h1 with e|e|e
    ·exact .inl e
    ·exact absurd e c
    ·exact .inr e
   refine eL (fs:= ["name","name"]) (rest:= [a,b]) (fun x hx=>?_) (by rcases hw with rfl|rfl<;>decide) (a9 (cz h2) (a9 (cz h3) rfl)) (by simp[cL,h4])
   simp only[D2,D6,or_false] at hx;rcases hx with rfl|rfl|rfl
   ·exact wb
   ·exact fE h2
   ·exact fE h3
end Sw
namespace L2
open PySem PySem.Spec PyProof.Rows XH Sw
def Mx (K:D3) (H:Hp) (v:V):Prop:=v= .non∨(∃z,v= .str z)∨(∃i,v= .int i)∨∃a ys,v= .ref a/\bX K H a ys
theorem ue {K:D3} {H:Hp}:∀{xs:List V} {us:GQ},bn xs us->(∀v∈xs,Mx K H v)->us.any lR=decide (V.non∈xs)
 | [],[],.nil,_=>rfl
 |x::xs,u::us,.cons r t,h=>by
  rw[List.any_cons,ue t fun v hv=>h v (D7 _ hv)]
  rcases h x Dc with rfl|⟨z,rfl⟩|⟨i,rfl⟩|⟨a,_,rfl,_⟩
  ·cases r;simp[lR]
  ·obtain ⟨_,rfl⟩:=r;simp[lR]
  ·obtain ⟨_,rfl⟩:=r;simp[lR]
  ·cases r;simp[lR]
theorem wD {X:Cx} {pins:GM} {σ:St} {H:Hp} {s:Shared} (I:aP X pins σ H s) {A:Around} (hu:A.units<cLine):∀{xs:List V} {us:GQ},bn xs us->(∀v∈xs,Mx X.K H v)->∀u∈us,SeqAt.EqAt A s u .none (lR u)
 | [],[],.nil,_=>fun u hu=>by cases hu
 |x::xs,u::us,.cons r t,h=>fun u' hu'=>by
  rcases D2.mp hu' with rfl|hu'
  ·rcases h x Dc with rfl|⟨z,rfl⟩|⟨i,rfl⟩|⟨a,ys,rfl,k⟩
   ·cases r;exact SeqAt.EqAt.same _
   ·obtain ⟨_,rfl⟩:=r;exact SeqAt.EqAt.str_none _ _
   ·obtain ⟨_,rfl⟩:=r;exact SeqAt.EqAt.int_none _ _
   ·cases r;obtain ⟨its,_,pl,_⟩:=I.tuple k;exact SeqAt.EqAt.tuple_none pl hu
  ·exact wD I hu t (fun v hv=>h v (D7 _ hv)) u' hu'
theorem vU {X:Cx} (hu:X.A.units+1<cLine):gA X (compareOp .In) (fun x y H Q=>∃(p:Addr) (xs:List V),x= .non/\y= .ref p/\aE X.K H p xs/\(∀v∈xs,Mx X.K H v)/\Q (.bl (decide (V.non∈xs))) H):=by
 intro pins s σ H x y v u Q I rx ry h;obtain ⟨p,xs,rfl,rfl,hS,hx,q⟩:=h;cases rx;cases ry;obtain ⟨its,r,pl,hz⟩:=I.list hS;refine SeqAt.in_listAt lR pl.isList (fun w hw=>wD I (by first|omega|(show X.A.units+1<cLine;omega)) r hx w (by simpa using hw)) ⟨.bl _,H,I,rfl,?_⟩
 rw[show its.toArray.any lR=its.any lR by simp,ue r hx]
 exact q
end L2
namespace Sw
open PySem L2 XH Hm PySem.NumText
def kJ:Sp:=fun vs H Q _=>∃w:Str,vs= [.str w,.int 1]/\w.length<=10000/\(nM w=none->∀H',aH H H'->Q .non H')/\∀a:dh,nM w=some a->∀(t:Addr) (H':Hp),aH H H'->H' t=some (.tup (vE a))->Q (.ref t) H'
def uf (f:Str):Prop:=f= "name" ∨f= "amount" ∨(f≠ "name" /\f≠ "amount" /\f≠ "stock" /\∃b,pz.lookup f=some b)
def kK:Sp:=fun vs H Q _=>∃f w:Str,vs= [.str f,.str w]/\w.length<=10000/\uf f/\(bD f w=none->∀H',aH H H'->Q .non H')/\∀v:Fv,bD f w=some v->∀(x:V) (H':Hp),aH H H'->wB An H' x v->Q x H'
def LV (H:Hp) (l:Addr) (w:Str) (vs:List Fv):Prop:=∃us,H l=some (.lst (.str w::us))/\A2 (wB An H) us vs
theorem LV.same {H H':Hp} {l:Addr} {w:Str} {vs:List Fv} (h:LV H l w vs) (g:aH H H'):LV H' l w vs:=by
 obtain ⟨us,e,r⟩:=h;exact ⟨us,g _ _ e,r.imp fun _ _ q=>xE q g⟩
def jx (K:D3):Sp:=fun vs H Q _=>∃(t l:Addr) (fs:GO) (w:Str) (rest:GO),vs= [.ref t,.ref l]/\lY K t (fs.map V.str)/\H l=some (.lst ((w::rest).map V.str))/\B7 (w::rest)/\(∀f∈fs,uf f)/\fs.length<=10/\(cE fs rest=none->∀H',aH H H'->Q .non H')/\∀us,cE fs rest=some us->∀(p:Addr) (H':Hp),aH H H'->H p=none->LV H' p w us->Q (.ref p) H'
theorem xX:(vT.map fun p=>p.1).Nodup:=by decide+kernel
theorem nP:(fP.map fun p=>p.1).Nodup:=by decide+kernel
theorem fw {α β:Type} (g:α->β):∀(l:List (Str×α)) (k:Str),(l.map fun p=>(p.1,g p.2)).lookup k=(l.lookup k).map g
 | [],_=>rfl
 |(a,b)::l,k=>by
  rw[Dd,List.lookup_cons,List.lookup_cons];cases k==a with
  |true=>rfl
  |false=>exact fw g l k
theorem vV {f:Str} {b:Nat×Nat} (h:pz.lookup f=some b):vT.lookup f=some [vN b.1,vN b.2]:=by
 unfold vT;rw[fw (fun b:Nat×Nat=> [vN b.1,vN b.2]),h]
 rfl
theorem rB {w:Str} {fs:GO} (h:cu.lookup w=some fs):fP.lookup w=some (fs.map V.str):=by
 unfold fP;rw[fw (fun b:GO=>b.map V.str),h]
 rfl
theorem nQ (w:Str):(fP.lookup w).isSome=(cu.lookup w).isSome:=by
 unfold fP;rw[fw (fun b:GO=>b.map V.str),Option.isSome_map]
theorem ug {w:Str} {fs:GO} (h:cu.lookup w=some fs):(∀f∈fs,uf f)/\fs.length<=10:=by
 have all:∀p∈cu,(∀f∈p.2,f= "name" ∨f= "amount" ∨f= "plates" ∨f= "length" ∨f= "many" ∨f= "heat" ∨f= "turns")/\p.2.length<=10:=by decide+kernel
 have m:∀(l:List (Str×GO)),l.lookup w=some fs->(w,fs)∈l:=by
  intro l
  induction l with
  |nil=>intro h;cases h
  |cons p l ih=>
   intro h;rw[List.lookup_cons] at h;cases c:(w==p.1) with
   |true=>
    rw[c] at h;have e:w=p.1:=by simpa using c
    cases h;rw[e];exact Dc
   |false=>
    rw[c] at h;exact D7 _ (ih h)
 obtain ⟨h1,h2⟩:=all _ (m _ h);refine ⟨fun f hf=>?_,h2⟩
 rcases h1 f hf with e|e|e|e|e|e|e
 ·exact .inl e
 ·exact .inr (.inl e)
 all_goals
  subst e;exact .inr (.inr ⟨by decide,by decide,by decide,EC.mp (by decide+kernel)⟩)
noncomputable def fQ (fs ws:GO):List (Option Fv):=(fs.zip ws).map fun p=>bD p.1 p.2
theorem kL:∀{fs ws:GO},fs.length≠ws.length->cE fs ws=none
 | [],[],h=>absurd rfl h
 | [],_::_,_=>rfl
 |_::_,[],_=>rfl
 |f::fs,w::ws,h=>by
  have z:=kL (fs:=fs) (ws:=ws) fun e=>h (by simp[e])
  show (match bD f w,cE fs ws with|some v,some vs=>some (v::vs)|_,_=>none)=none
  rw[z];cases bD f w<;>rfl
theorem gL:∀{fs ws:GO},fs.length=ws.length->(none∈fQ fs ws/\cE fs ws=none)∨∃us,cE fs ws=some us/\fQ fs ws=us.map some
 | [],[],_=> .inr ⟨[],rfl,rfl⟩
 |f::fs,w::ws,h=>by
  have e:cE (f::fs) (w::ws)=(match bD f w,cE fs ws with|some v,some vs=>some (v::vs)|_,_=>none):=rfl
  have eo:fQ (f::fs) (w::ws)=bD f w::fQ fs ws:=rfl;rw[e,eo];rcases gL (fs:=fs) (ws:=ws) (by simpa using h) with ⟨m,z⟩|⟨us,z,o⟩
  ·rw[z];exact .inl ⟨D7 _ m,by cases bD f w<;>rfl⟩
  ·rw[z,o];cases bD f w with
   |none=>exact .inl ⟨Dc,rfl⟩
   |some v=>exact .inr ⟨v::us,rfl,rfl⟩
def qC (H:Hp) (x:V) (v:Option Fv):Prop:=match v with|none=>x= .non|some v=>wB An H x v
theorem qC.same {H H':Hp} {x:V} {v:Option Fv} (h:qC H x v) (g:aH H H'):qC H' x v:=by
 cases v with
 |none=>exact h
 |some v=>exact xE (R:=wB) h g
theorem qC.upd {H:Hp} {x:V} {v:Option Fv} {l:Addr} {xs:List V} {o:HO} (h:qC H x v) (e:H l=some (.lst xs)):qC (aO H l o) x v:=by
 cases v with
 |none=>exact h
 |some v=>cases v with
  |am a=>
   obtain ⟨t,rfl,q,k⟩:=h;refine ⟨t,rfl,q,?_⟩;rw[aB fun z=>by rw[z,e] at k;cases k]
   exact k
  |_=>exact h
theorem qC.mx {K:D3} {H:Hp} {x:V} {v:Option Fv} (h:qC H x v):Mx K H x/\(x= .non↔v=none):=by
 cases v with
 |none=>exact ⟨.inl h,iff_of_true h rfl⟩
 |some v=>cases v with
  |am a=>
   obtain ⟨t,rfl,q,k⟩:=h;exact ⟨.inr (.inr (.inr ⟨t,_,rfl,.of k⟩)),iff_of_false (fun z=>by cases z) (fun z=>by cases z)⟩
  |nm z=>
   cases h;exact ⟨.inr (.inl ⟨_,rfl⟩),iff_of_false (fun z=>by cases z) (fun z=>by cases z)⟩
  |num n=>
   cases h;exact ⟨.inr (.inr (.inl ⟨_,rfl⟩)),iff_of_false (fun z=>by cases z) (fun z=>by cases z)⟩
theorem Ar {H:Hp} {xs:List V} {us:List Fv} (h:A2 (qC H) xs (us.map some)):A2 (wB An H) xs us:=⟨by rw[h.1,D4],fun i v x e1 e2=>h.2 i v (some x) e1 (by rw[DA,e2];rfl)⟩
theorem uh {H:Hp} {xs:List V} {os:List (Option Fv)} (h:A2 (qC H) xs os):V.non∈xs↔none∈os:=by
 constructor
 ·intro m;obtain ⟨i,e⟩:=DR.mp m;obtain ⟨o,eo,r⟩:=h.at_ e;exact D5 ((r.mx (K:=default)).2.mp rfl▸eo)
 ·intro m;obtain ⟨i,e⟩:=DR.mp m;obtain ⟨v,ev,r⟩:=h.get e;cases r;exact D5 ev
def wE (w:Str) (vs:List Fv):Prop:=((w= "or" ∨w= "cut" ∨w= "rest" ∨w= "warm")->∃n lo hi r,vs= .nm n:: .num lo:: .num hi::r)/\((w= "after" ∨w= "within" ∨w= "apart")->∃a b r,vs= .nm a:: .nm b::r)
theorem dJ {f:Str} {fs ws:GO} {vs:List Fv} (h:cE (f::fs) ws=some vs):∃w ws' v vs',ws=w::ws'/\bD f w=some v/\cE fs ws'=some vs'/\vs=v::vs':=by
 cases ws with
 |nil=>cases h
 |cons w ws=>
  have h':(match bD f w,cE fs ws with|some v,some vs=>some (v::vs)|_,_=>none)=some vs:=h
  cases e:bD f w with
  |none=>rw[e] at h';cases h'
  |some v=>
   cases e':cE fs ws with
   |none=>rw[e,e'] at h';cases h'
   |some us=>
    rw[e,e'] at h';cases h';exact ⟨w,ws,v,us,rfl,e,e',rfl⟩
theorem gM {w:Str} {v:Fv} (h:bD "name" w=some v):v= .nm w:=by
 unfold bD at h;rw[if_pos rfl] at h
 split at h<;>cases h
 rfl
theorem kM {w:Str} {v:Fv} (h:bD "length" w=some v):∃n,v= .num n:=by
 unfold bD at h;rw[if_neg (by decide),if_neg (by decide),show pz.lookup (Str.ofString "length")=some (1,100000) by decide+kernel] at h
 obtain ⟨n,_,rfl⟩:=DV.mp h;exact ⟨n,rfl⟩
theorem ui {fs ws:GO} {vs:List Fv} (h:cE ("name" :: "length" :: "length" ::fs) ws=some vs):∃n lo hi r,vs= .nm n:: .num lo:: .num hi::r:=by
 obtain ⟨w1,ws,v1,vs,rfl,h1,k1,rfl⟩:=dJ h;obtain ⟨w2,ws,v2,vs,rfl,h2,k2,rfl⟩:=dJ k1;obtain ⟨w3,ws,v3,vs,rfl,h3,k3,rfl⟩:=dJ k2;obtain ⟨lo,rfl⟩:=kM h2;obtain ⟨hi,rfl⟩:=kM h3;cases gM h1;exact ⟨_,lo,hi,vs,rfl⟩
theorem vW {fs ws:GO} {vs:List Fv} (h:cE ("name" :: "name" ::fs) ws=some vs):∃a b r,vs= .nm a:: .nm b::r:=by
 obtain ⟨w1,ws,v1,vs,rfl,h1,k1,rfl⟩:=dJ h;obtain ⟨w2,ws,v2,vs,rfl,h2,k2,rfl⟩:=dJ k1;cases gM h1;cases gM h2;exact ⟨_,_,vs,rfl⟩
theorem rC {w:Str} {fs ws:GO} {vs:List Fv} (h:cu.lookup w=some fs) (v:cE fs ws=some vs):wE w vs:=by
 refine ⟨fun c=>?_,fun c=>?_⟩
 ·have:∃r:GO,fs=("name" :Str)::("length" :Str)::("length" :Str)::r:=by
   rcases c with rfl|rfl|rfl|rfl
   ·exact ⟨_,DS (h.symm.trans (by decide+kernel:cu.lookup (Str.ofString "or")=some (("name" :Str):: "length" :: "length" :: [])))⟩
   ·exact ⟨_,DS (h.symm.trans (by decide+kernel:cu.lookup (Str.ofString "cut")=some (("name" :Str):: "length" :: "length" :: [])))⟩
   ·exact ⟨_,DS (h.symm.trans (by decide+kernel:cu.lookup (Str.ofString "rest")=some (("name" :Str):: "length" :: "length" :: [])))⟩
   ·exact ⟨_,DS (h.symm.trans (by decide+kernel:cu.lookup (Str.ofString "warm")=some (("name" :Str):: "length" :: "length" :: ["amount"])))⟩
  obtain ⟨r,rfl⟩:=this;exact ui v
 ·have:∃r:GO,fs=("name" :Str)::("name" :Str)::r:=by
   rcases c with rfl|rfl|rfl
   ·exact ⟨_,DS (h.symm.trans (by decide+kernel:cu.lookup (Str.ofString "after")=some (("name" :Str):: "name" :: [])))⟩
   ·exact ⟨_,DS (h.symm.trans (by decide+kernel:cu.lookup (Str.ofString "within")=some (("name" :Str):: "name" :: ["turns"])))⟩
   ·exact ⟨_,DS (h.symm.trans (by decide+kernel:cu.lookup (Str.ofString "apart")=some (("name" :Str):: "name" :: [])))⟩
  obtain ⟨r,rfl⟩:=this;exact vW v
def qD:Sp:=fun vs H Q _=>∃(l:Addr) (w:Str) (us:List Fv),vs= [.ref l]/\LV H l w us/\wE w us/\Q (.bl (cL w us)) H
theorem a6 {α:Type} {R:V->α->Prop} {xs:List V} {y:α} {ys:List α} (h:A2 R xs (y::ys)):∃x xs',xs=x::xs'/\R x y/\A2 R xs' ys:=by
 cases xs with
 |nil=>exact absurd h.1 (by simp)
 |cons x xs=>exact ⟨x,xs,rfl,h.2 0 x y rfl rfl,by simpa using h.1,fun i v z e1 e2=>h.2 (i+1) v z (by simpa using e1) (by simpa using e2)⟩
theorem xY {H:Hp} {xs:List V} {n:Str} {lo hi:Nat} {r:List Fv} (h:A2 (wB An H) xs (.nm n:: .num lo:: .num hi::r)):∃ys,xs= .str n::vN lo::vN hi::ys:=by
 obtain ⟨_,_,rfl,e1,h1⟩:=a6 h;obtain ⟨_,_,rfl,e2,h2⟩:=a6 h1;obtain ⟨_,ys,rfl,e3,h3⟩:=a6 h2;cases e1;cases e2;cases e3;exact ⟨ys,rfl⟩
theorem As {H:Hp} {xs:List V} {a b:Str} {r:List Fv} (h:A2 (wB An H) xs (.nm a:: .nm b::r)):∃ys,xs= .str a:: .str b::ys:=by
 obtain ⟨_,_,rfl,e1,h1⟩:=a6 h;obtain ⟨_,ys,rfl,e2,h2⟩:=a6 h1;cases e1;cases e2;exact ⟨ys,rfl⟩
def jy:Sp:=fun vs H Q _=>∃z:Str,vs= [.str z]/\z.length<=1000/\(jR z=none->∀H',aH H H'->Q .non H')/\∀w us,jR z=some (w,us)->∀(p:Addr) (H':Hp),aH H H'->H p=none->LV H' p w us->Q (.ref p) H'
def fz:Sp:=fun vs H Q _=>∃(z:Str) (l:Addr) (ts:GO) (a:V),vs= [.str z,.ref l,a]/\H l=some (.lst (ts.map V.str))/\z∉ts/\Q .non H
def eW:Sp:=fun vs H Q _=>∃(l:Addr) (xs:List V) (m:Nat),vs= [.ref l,.int m]/\H l=some (.lst xs)/\xs.length<m/\Q .non H
def gz (cC cR cW cRec:Addr):Sp:=fun vs H Q _=>∃(r:Addr) (z:Str) (a:V) (n:Str) (p:Nat) (M:Md) (i:Nat) (s:SV),vs= [.ref r,.str z,a]/\vG cC cR cW cRec H r n p M/\M.steps.length<=1000/\M.steps[i]?=some s/\s.n=z/\(∀(j:Nat) (s:SV),j<i->M.steps[j]?=some s->s.n≠z)/\∀H',aH H H'->Q (.int i) H'
def kN (cC cR cW cRec:Addr):Sp:=fun vs H Q _=>∃(r l:Addr) (a:V) (G:Hp) (n:Str) (p:Nat) (lt ls lk:Addr) (ks:List So) (M:Md) (g:Str) (am:dh),vs= [.ref r,a,.ref l]/\RM cC cR cW cRec G H r n p lt ls lk ks M/\LV H l "take" [.nm g,.am am]/\(∀x∈M.takes,x.1≠g)/\M.takes.length<12/\∀H',RM cC cR cW cRec G H' r n p lt ls lk ks {M with takes:=M.takes++ [(g,am)]}->Q .non H'
def dv (M:Md) (z:Str) (i:Nat):Prop:=(∃s,M.steps[i]?=some s/\s.n=z)/\∀(j:Nat) (s:SV),j<i->M.steps[j]?=some s->s.n≠z
def kO (cC cR cW cRec:Addr):Sp:=fun vs H Q _=>∃(r l:Addr) (a:V) (G:Hp) (n:Str) (p:Nat) (lt ls lk:Addr) (ks:List So) (M:Md) (w x y:Str) (t i j:Nat),vs= [.ref r,a,.ref l]/\RM cC cR cW cRec G H r n p lt ls lk ks M/\LV H l w ([.nm x,.nm y]++if w= "within" then [.num t] else [])/\(w≠ "within" ->t=0)/\M.steps.length<=1000/\dv M x i/\dv M y j/\M.links.length<24/\∀H',RM cC cR cW cRec G H' r n p lt ls lk ks {M with links:=M.links++ [(w,i,j,t)]}->Q .non H'
end Sw
namespace L2
open PySem PySem.Spec PyProof.Rows
abbrev wF (v:Value):List (Str×Value):= [(Str.ofString "start",v)]
theorem xZ (a v:Value):checkTypeCall "enumerate" ⟨[a],wF v⟩=pure ():=by kernel_rfl
theorem x6 (a v:Value):checkBuiltinCall "enumerate.__new__" ⟨[.type "enumerate",a],wF v⟩=pure ():=by kernel_rfl
set_option maxHeartbeats 2000000 in
theorem rD (l:Addr) (xs:Array Value) (n:Nat) (dc:GR) (sl:GN) (t:Tok):Meets (Builtin.«enumerate.__new__» ⟨[.type "enumerate",.ref l],wF (.int 1 t)⟩) (fun _ R s=>s.heap.get? l=some {cls:= .type "list",dict:=dc,data:= .seq xs n,slots:=sl}/\R (.ok (.ret (.ref (s.heap.push {cls:= .type "list_iterator",data:= .fields #[.ref l,.int 0 0]}).objs.size))) {s with heap:=(s.heap.push {cls:= .type "list_iterator",data:= .fields #[.ref l,.int 0 0]}).push {cls:= .type "enumerate",data:= .fields #[.none,.bool false,.ref s.heap.objs.size,rawInt 1,.none,.none]}}):=
 .of_wp fun pr wo A R s h=>by
  obtain ⟨hp,g,d,tk,os⟩:=s;obtain ⟨hl,h⟩:=h;have hsub:=sub_enumerate;have hL:Heap.IsList (Shared.heap ⟨hp,g,d,tk,os⟩) l xs:=⟨_,hl,rfl,n,rfl⟩
  wp_walk using AutoSeq1.wpAny_loadPart' hl
  refine wpAny_stack_any fun st=>wpAny_pure ?_
  split
  ·rename_i c _ _ _ _ _;cases (c==Value.type "enumerate")
   all_goals
    wp_walk using AutoSeq1.wpAny_loadPart' hl,wpAny_pyIter_list hL
    exact ⟨_,rfl,h⟩
  ·wp_walk using AutoSeq1.wpAny_loadPart' hl,wpAny_pyIter_list hL
   exact ⟨_,rfl,h⟩
section
variable {pr:Program} {wo:World} {A:Around} {E:GK} {s:Shared}
theorem x8 (a b v:Value):argsOk "object.__init__" ⟨[a,b],wF v⟩:=by
 kernel_rfl
theorem vX {self a v:Value}:Meets (Builtin.«object.__init__» ⟨[self,a],wF v⟩) (fun _ R s=>s.TypeIs self "enumerate" /\R (.ok (.ret .none)) s):=by
 refine Meets.of_wp fun pr wo A R s ⟨hT,hq⟩=>?_
 have hl:=F.called_enumerate.init.lookup;have hm:=F.called_enumerate.made
 repeat (any_goals (first|assumption|wp_step))
 exact ⟨_,rfl,hq⟩
theorem pC {l:Addr} {xs:Array Value} {t:Tok} {Q:GK} (hL:s.heap.IsList l xs)
  (h:∀h',IsEnum h' (s.heap.objs.size+1) s.heap.objs.size 1 .none->h'.IsListIter s.heap.objs.size l 0->h'.objs.size=s.heap.objs.size+2->(∀b o,s.heap.get? b=some o->h'.get? b=some o)->Q (.ref (s.heap.objs.size+1)) {s with heap:=h'}):
  wpAny (model pr wo) A (call (.type "enumerate") [.ref l] (wF (.int 1 t))) Q E s:=by
 obtain ⟨⟨c,dc,dt,sl⟩,hl,hc,n,hd⟩:=hL;change c= .type "list" at hc;change dt= .seq xs n at hd;subst hc hd;have ft:=F.called_enumerate;obtain ⟨c,tl,hmro⟩:=ft.mro;have hmade:=ft.made;have hsub:=ft.sub;have h1:=ft.notType;have h2:=ft.canCreate;have hct:=xZ (.ref l) (.int 1 t);refine wpAny_call (codeAny_of_tree ?_);show wpAny _ _ (callAny (.type "enumerate") _) _ _ _;refine wpAny_pure ⟨Code.quiet_builtin _ (by decide+kernel),codeAny_builtin F.entry_type_call ?_⟩
 rw[Around.under_plain (weight_type_call_type _ _ _) (units_type_call_type _ _ _)]
 repeat (any_goals (first|assumption|wp_step))
 generalize eh:(s.heap.push {cls:= .type "list_iterator",data:= .fields #[.ref l,.int 0 0]}).push {cls:= .type "enumerate",data:= .fields #[.none,.bool false,.ref s.heap.objs.size,rawInt 1,.none,.none]}=h9;have hz:(s.heap.push {cls:= .type "list_iterator",data:= .fields #[.ref l,.int 0 0]}).objs.size=s.heap.objs.size+1:=Heap.size_push ..;have kn:codeAny (model pr wo) A.in1 (Code.call (.builtin "enumerate.__new__") ⟨[.type "enumerate",.ref l],wF (.int 1 t)⟩) (fun r s1=>r= .ok (.ret (.ref (s.heap.objs.size+1)))/\s1={s with heap:=h9}) s:=
  codeAny_call_builtin ft.plain F.entry_enumerate_new (wpAny_of_eq (x6 (.ref l) (.int 1 t)) (rD l xs n dc sl t pr wo A.in1 (fun r s1=>r= .ok (.ret (.ref (s.heap.objs.size+1)))/\s1={s with heap:=h9}) s ⟨hl,by rw[hz],by rw[eh]⟩))
 refine codeAny_mono kn fun r s1 hr=>?_
 obtain ⟨rfl,rfl⟩:=hr;have he:IsEnum h9 (s.heap.objs.size+1) s.heap.objs.size 1 .none:=by
  have k:=Heap.get?_push_size (s.heap.push {cls:= .type "list_iterator",data:= .fields #[.ref l,.int 0 0]}) (o:={cls:= .type "enumerate",data:= .fields #[.none,.bool false,.ref s.heap.objs.size,rawInt 1,.none,.none]}) rfl;rw[hz,eh] at k;exact k
 have hT:Shared.TypeIs {s with heap:=h9} (.ref (s.heap.objs.size+1)) "enumerate" :=⟨_,he,rfl⟩
 have hli:=ft.init.lookup;have hbi:=ft.init.bind (.ref (s.heap.objs.size+1))
 repeat (any_goals (first|assumption|wp_step))
 have ki:codeAny (model pr wo) A.in1 (Code.call (.builtin "object.__init__") ⟨[.ref (s.heap.objs.size+1),.ref l],wF (.int 1 t)⟩) (fun r s1=>r= .ok (.ret .none)/\s1={s with heap:=h9}) {s with heap:=h9}:=
  codeAny_call_builtin ft.init.plain F.entry_object_init (ft.init.check _ _ _ _ _ _ _ _ hT (x8 _ _ _) (vX (a:= .ref l) (v:= .int 1 t) pr wo A.in1 (fun r s1=>r= .ok (.ret .none)/\s1={s with heap:=h9}) {s with heap:=h9} ⟨hT,rfl,rfl⟩))
 refine codeAny_mono ki fun r s1 hr=>?_
 obtain ⟨rfl,rfl⟩:=hr
 repeat (any_goals (first|assumption|wp_step))
 refine h h9 he ?_ ?_ fun b o x=>?_
 ·rw[<-eh];exact ⟨_,Heap.get?_push_of_some _ (Heap.get?_push_size _ rfl),rfl,rfl⟩
 ·rw[<-eh,Heap.size_push,hz]
 ·rw[<-eh];exact Heap.get?_push_of_some _ (Heap.get?_push_of_some _ x)
theorem pD {e it l:Addr} {i:Nat} {j:Int} {xs:Array Value} {x o0:Value} {Q:GS->Shared->Prop} (he:IsEnum s.heap e it j o0) (hi:s.heap.IsListIter it l i) (hl:s.heap.IsList l xs) (hx:xs[i]?=some x) (ne:e≠it)
  (q:∀h',IsEnumOut h' e it (j+1) x s.heap.objs.size->h'.IsListIter it l (i+1)->h'.get? s.heap.objs.size=some {cls:= .type "tuple",data:= .seq #[.int j s.toks,x]}->h'.objs.size=s.heap.objs.size+1->(∀b o,b≠e->b≠it->s.heap.get? b=some o->h'.get? b=some o)->Q (some (.ref s.heap.objs.size)) {s with heap:=h',toks:=s.toks+1}):
  wpAny (model pr wo) A (pyNext (.ref e)) Q E s:=by
 have ty:s.TypeIs (.ref e) "enumerate" :=⟨_,he,rfl⟩;unfold pyNext;refine wpAny_bind (wpAny_attempt (wpAny_callSpecial?_slot (name:=Str.ofString "__next__") ty F.slot_enumerate_next (wpAny_call_entry F.slot_enumerate_next ty F.entry_enumerate_next ?_ (F.args_enumerate_next_1 _))));obtain ⟨p0,g,d,tk,os⟩:=s;show wpAny _ _ (field (.ref e) 2>>=fun _=>_) _ _ _
 refine wpAny_bind (wpAny_field he rfl (x:= .ref it) rfl (wpAny_bind (wpAny_nextOf_list_item hi hl hx fun pa ia (ba:Heap.SameBut it p0 pa)=>?_)))
 have ea:IsEnum pa e it j o0:=(ba.2 e ne).trans he;show wpAny _ _ (field (.ref e) 3>>=fun _=>_) _ _ ⟨pa,g,d,tk,os⟩
 refine wpAny_bind (wpAny_field ea rfl (x:=rawInt j) rfl ?_);show wpAny _ _ (field (.ref e) 4>>=fun _=>_) _ _ ⟨pa,g,d,tk,os⟩
 refine wpAny_bind (wpAny_field ea rfl (x:= .none) rfl ?_);show wpAny _ _ (mkInt j>>=fun _=>_) _ _ ⟨pa,g,d,tk,os⟩
 refine wpAny_bind (wpAny_mkInt ?_);show wpAny _ _ (setField (.ref e) 3 (rawInt (j+1))>>=fun _=>_) _ _ ⟨pa,g,d,tk+1,os⟩
 refine wpAny_bind (wpAny_setField_rec ea (by simp) fun pb (eb:IsEnum pb e it (j+1) o0) (bb:Heap.SameBut e pa pb)=>?_)
 show wpAny _ _ (setField (.ref e) 4 .none>>=fun _=>_) _ _ ⟨pb,g,d,tk+1,os⟩
 refine wpAny_bind (wpAny_setField_rec eb (by simp) fun pc (ec:IsEnum pc e it (j+1) o0) (bc:Heap.SameBut e pb pc)=>?_)
 show wpAny _ _ (newTuple [.int j tk,x]>>=fun _=>_) _ _ ⟨pc,g,d,tk+1,os⟩
 refine wpAny_bind (wpAny_newTuple ?_);have ed:IsEnum (pc.push {cls:= .type "tuple",data:= .seq #[.int j tk,x]}) e it (j+1) o0:=Heap.get?_push_of_some _ ec;have sz:pc.objs.size=p0.objs.size:=by rw[bc.1,bb.1,ba.1]
 have td:(pc.push {cls:= .type "tuple",data:= .seq #[.int j tk,x]}).get? p0.objs.size=some {cls:= .type "tuple",data:= .seq #[.int j tk,x]}:=by rw[<-sz];exact Heap.get?_push_size _ rfl
 have zd:(pc.push {cls:= .type "tuple",data:= .seq #[.int j tk,x]}).objs.size=p0.objs.size+1:=by rw[Heap.size_push,sz]
 have kd:∀b o,b≠e->b≠it->p0.get? b=some o->(pc.push {cls:= .type "tuple",data:= .seq #[.int j tk,x]}).get? b=some o:=fun b o n1 n2 z=>Heap.get?_push_of_some _ (bc.extBut b o n1 (bb.extBut b o n1 (ba.extBut b o n2 z)))
 have id':(pc.push {cls:= .type "tuple",data:= .seq #[.int j tk,x]}).IsListIter it l (i+1):=by
  obtain ⟨o,z,r⟩:=(ia.extBut bb.extBut ne.symm).extBut bc.extBut ne.symm;exact ⟨o,Heap.get?_push_of_some _ z,r⟩
 have el:e<p0.objs.size:=Heap.lt_size he;generalize pc.push {cls:= .type "tuple",data:= .seq #[.int j tk,x]}=pd at ed td zd kd id'⊢;show wpAny _ _ (Builtin.SmallTypes.ownedTupleIsFree (.ref e)>>=fun _=>_) _ _ ⟨pd,g,d,tk+1,os⟩
 rw[sz];clear ec bc eb bb ea ba ia sz pc pb pa;refine wpAny_bind ?_;unfold Builtin.SmallTypes.ownedTupleIsFree;refine wpAny_bind (wpAny_field ed rfl (x:= .none) rfl (wpAny_pure ?_));simp only[if_true];refine wpAny_bind (wpAny_rule (wpAny_bind (wpAny_field ed rfl (x:=o0) rfl (wpAny_bind (wpAny_setField_rec ed (by simp) fun pe (ee:IsEnum pe e it (j+1) x) (be:Heap.SameBut e pd pe)=>?_)))))
 show wpAny _ _ (Builtin.SmallTypes.ownedTupleHandOut (.ref e) (.ref p0.objs.size)>>=fun _=>_) _ _ ⟨pe,g,d,tk+1,os⟩
 refine wpAny_bind ?_;unfold Builtin.SmallTypes.ownedTupleHandOut;refine wpAny_bind (wpAny_setField_rec ee (by simp) fun pf (ef:IsEnumOut pf e it (j+1) x p0.objs.size) (bf:Heap.SameBut e pe pf)=>?_)
 refine wpAny_setField_rec ef (by simp) fun pg (eg:IsEnumOut pg e it (j+1) x p0.objs.size) (bg:Heap.SameBut e pf pg)=>?_
 refine wpAny_bind (wpAny_letGo (wpAny_pure ⟨_,rfl,wpAny_pure (q pg eg ?_ ?_ ?_ ?_)⟩))
 ·exact ((id'.extBut be.extBut ne.symm).extBut bf.extBut ne.symm).extBut bg.extBut ne.symm
 ·exact bg.extBut _ _ (EG el) (bf.extBut _ _ (EG el) (be.extBut _ _ (EG el) td))
 ·rw[bg.1,bf.1,be.1,zd]
 ·exact fun b o n1 n2 z=>bg.extBut b o n1 (bf.extBut b o n1 (be.extBut b o n1 (kd b o n1 n2 z)))
theorem rE {e it l:Addr} {i:Nat} {j:Int} {xs:Array Value} {o0:Value} {Q:GS->Shared->Prop} (hh:A.handled=none) (he:IsEnum s.heap e it j o0) (hi:s.heap.IsListIter it l i) (hl:s.heap.IsList l xs) (hx:xs[i]?=none) (q:∀h',Heap.ExtBut it s.heap h'->Q none {s with heap:=h'}):wpAny (model pr wo) A (pyNext (.ref e)) Q E s:=by
 have ty:s.TypeIs (.ref e) "enumerate" :=⟨_,he,rfl⟩;unfold pyNext;refine wpAny_bind (wpAny_attempt (wpAny_callSpecial?_slot (name:=Str.ofString "__next__") ty F.slot_enumerate_next (wpAny_call_entry F.slot_enumerate_next ty F.entry_enumerate_next ?_ (F.args_enumerate_next_1 _))));show wpAny _ _ (field (.ref e) 2>>=fun _=>_) _ _ _
 refine wpAny_bind (wpAny_field he rfl (x:= .ref it) rfl (wpAny_bind (wpAny_nextOf_list_end hh hi hl hx fun h' x k ⟨o,ho,hc⟩=>?_)))
 exact wpAny_bind (wpAny_isInstance (T:= "StopIteration") (b:=true) ⟨o,ho,hc⟩ isSubtype_stop (wpAny_pure (q _ k)))
end
def uj (K:D3) (l:Addr):It:=
 ⟨fun i H=>∃xs x,aE K H l xs/\xs[i]?=some x,fun i H v H'=>∃(T:Addr) (x:V),v= .ref T/\H T=none/\(∀xs,aE K H l xs->xs[i]?=some x)/\H'=aO H T (.tup [.int ((i:Int)+1),x]),fun i H=>∃xs,aE K H l xs/\xs.length<=i⟩
theorem pE {P:Program} {w:World} {K:D3} {elts:List Expr} {k:Nat} {pos:Pos} (l e it:Addr) (ne:e≠it):Turn P w K (.Tuple elts k pos) (uj K l) [e,it] e (fun i h=>(∃old,IsEnum h e it ((i:Int)+1) old)/\h.IsListIter it l i) where
 mem:=by simp
 obj:=fun i h st b hb=>by
  obtain ⟨⟨old,he⟩,o,e1,c,d⟩:=st;rcases D2.mp hb with z|z
  ·subst z;exact ⟨_,he,fun v z=>by cases z⟩
  ·rw[D8.mp z];exact ⟨o,e1,fun v z=>by rw[d] at z;cases z⟩
 keep:=fun i h h' st k=>⟨let ⟨old,he⟩:=st.1;⟨old,k e (by simp) _ he⟩,st.2.at fun o q=>k it (by simp) o q⟩
 item:=by
  intro X hP hw hK hc i pins s σ H E I hf st hg;subst hP hw hK;obtain ⟨xs,x,hq,hx⟩:=hg;obtain ⟨its,rv,p,hz⟩:=I.list hq;obtain ⟨u,hu,ru⟩:=rv.get hx;obtain ⟨⟨old,he⟩,hit⟩:=st;refine pD he hit p.isList (x:=u) (by simpa using hu) ne fun h1 ho hit' hT hsz hk=>?_
  refine ⟨_,rfl,wpAny_letOwnedTupleGo_enum (s:={s with heap:=h1,toks:=s.toks+1}) ho fun h2 he2 hs2=>?_⟩
  have nT:H s.heap.objs.size=none:=I.hok.fresh (D9 _);have el:e<s.heap.objs.size:=Heap.lt_size he;have il:it<s.heap.objs.size:=by obtain ⟨_,q,_⟩:=hit;exact Heap.lt_size q
  have hT2:h2.get? s.heap.objs.size=some {cls:= .type "tuple",data:= .seq #[.int ((i:Int)+1) s.toks,u]}:=(hs2.2 _ (EG el)).trans hT;have kp:∀b o,b∉ [e,it]->s.heap.get? b=some o->h2.get? b=some o:=fun b o hb q=>by
   simp at hb;exact (hs2.2 b hb.1).trans (hk b o hb.1 hb.2 q)
  refine ⟨.ref s.heap.objs.size,aO H s.heap.objs.size (.tup [.int ((i:Int)+1),x]),I.turnedNew (t':=s.toks+1) (ch:= [e,it]) hf kp (D9 _) ⟨by show 2<=sizeLine;decide,[.int ((i:Int)+1) s.toks,u],.cons ⟨_,rfl⟩ (.cons ru .nil),⟨_,hT2,rfl,0,rfl⟩⟩,rfl,
   ⟨_,x,rfl,nT,fun ys hy=>by rw[I.list_inj hy hq];exact hx,rfl⟩,⟨⟨u,?_⟩,?_⟩,fun b hb=>?_⟩
  ·simpa using he2
  ·exact hit'.at fun o q=>(hs2.2 it (Ne.symm ne)).trans q
  ·have bl:b≠s.heap.objs.size:=by
    rcases D2.mp hb with z|z
    ·rw[z];exact DW el
    ·rw[D8.mp z];exact DW il
   rw[aB bl];exact (hf b hb).1
 done:=by
  intro X hP hw hK hc i pins s σ H E I hf st hg;subst hP hw hK;obtain ⟨xs,hq,hx⟩:=hg;obtain ⟨its,rv,p,hz⟩:=I.list hq;obtain ⟨⟨old,he⟩,hit⟩:=st;have hl:=rv.length;exact rE (I.ok.hd hc) he hit p.isList (by simp;omega) fun h' eb=>⟨rfl,I.turnedAll (t':=s.toks) (ch:= [e,it]) hf fun b o hb q=>eb b o (fun z=>hb (by simp[z])) q⟩
 self:=fun _ _ _ _ _ st h=>let ⟨_,he⟩:=st.1;wpAny_pyIter_enum he h
def x9 (K:D3) (te:TE):TI:=fun σ H R=>te σ H fun v H1=>∃l:Addr,v= .ref l/\(∃xs,aE K H1 l xs)/\R (uj K l) H1
theorem jz {M:Model} {A:Around} {E:GK} {s:Shared} {pos:Pos} {T:String} {args:List (Bool×Sem Value)} {kws:List (Option Str×Sem Value)} {Q:GK} (n1:args.any (fun x=>x.1)=false) (n2:kws.any (fun x=>x.1.isNone)=false)
  (h:wpAny M A (evalArgs (.type T) true args kws) (fun a s1=>wpAny M A (call (.type T) ([]++a.pos) a.kw) Q E s1) E s):wpAny M A (callWith pos (.type T) [] args kws) Q E s:=by
 unfold callWith;refine wpAny_bind (wpAny_holding (wpAny_mono h (fun a s1 k=>wpAny_bind (wpAny_standAt ?_)) fun _ _ x=>x))
 simp only[n1,n2,Bool.or_false];refine wpAny_bind (wpAny_pure (wpAny_bind (wpAny_mono k (fun r s2 z=>wpAny_bind (wpAny_holding (wpAny_point (wpAny_pure z)))) fun _ _ x=>x)))
theorem uk {X:Cx} {a:Expr} {te:TE} {elts:List Expr} {k cj:Nat} {tp p pos kp cp:Pos} (hg:Gl X "enumerate") (hm:X.mg "enumerate" =none) (ha:PE X a te) (hs:starEach [a] X.env= [(false,eval a X.env)]:=by rfl):PI X (.Tuple elts k tp) (.Call (.Name "enumerate" p) [a] [⟨some "start",.Constant (.int 1) cj cp,kp⟩] pos) (x9 X.K te):=by
 intro pins s σ H R I h;apply wpAny_Call_Name_kw;refine fF I hg hm boot_enumerate ?_ (by decide) (by decide)
 have hb:backTo pos (starEach [a] X.env)= [(false,eval a X.env)]:=by rw[hs];rfl
 rw[hb];refine jz rfl rfl (evalArgs_kwB rfl ?_);refine Calls.spliced_cons (x:=eval a X.env) (rest:= []) (b7 (ha pins s σ H _ I h) fun v s1 ⟨x,H1,I1,r1,l,ex,⟨xs,hq⟩,q⟩=>?_)
 subst ex;cases r1;refine Calls.spliced_nil ?_;refine kws_cons (wpAny_Constant_int (kws_nil ?_));have I2:aP X pins σ H1 {s1 with toks:=s1.toks+1}:=I1.tok _
 obtain ⟨its,rv,p1,hz⟩:=I2.list hq;refine pC (s:={s1 with toks:=s1.toks+1}) p1.isList fun h' he hit hsz hk=>?_
 refine wpAny_pyIter_enum (s:={s1 with heap:=h',toks:=s1.toks+1}) he ?_
 have I3:aP X pins σ H1 {s1 with heap:=h',toks:=s1.toks+1}:=I2.kept (t':=s1.toks+1) hk
 refine ⟨s1.heap.objs.size+1,[s1.heap.objs.size+1,s1.heap.objs.size],_,_,H1,rfl,I3,pE l _ _ (Nat.succ_ne_self _),⟨⟨_,by simpa using he⟩,hit⟩,fun b hb=>?_,q⟩
 have bl:s1.heap.objs.size<=b:=by
  rcases D2.mp hb with z|z
  ·rw[z];exact Nat.le_succ _
  ·rw[D8.mp z];exact D9 _
 exact I2.fpOk bl (I1.hok.fresh bl)
theorem rF {K:D3} {a:Addr} {xs:List V} {g:TG} {tb:TS} {D:Ends} {σ:St} {H:Hp} (Pv:Nat->St->Hp->Prop) (h0:Pv 0 σ H) (hl:∀i σ H,i<=xs.length->Pv i σ H->aE K H a xs)
  (hs:∀i x σ H (T:Addr),xs[i]?=some x->Pv i σ H->H T=none->g (.ref T) σ (aO H T (.tup [.int ((i:Int)+1),x])) fun σ2 H2=>tb {D with nx:=Pv (i+1),ct:=Pv (i+1),bk:=D.nx} σ2 H2) (hd:∀σ H,Pv xs.length σ H->D.nx σ H):
  ∃W:Nat->Nat->St->Hp->Prop,(∃m,W 0 m σ H)/\∀i m σ H,W i m σ H->
   ((uj K a).stop i H/\D.nx σ H)∨((uj K a).go i H/\∃N:St->Hp->Prop,(∀σ' H',N σ' H'->∃m',m'<m/\W (i+1) m' σ' H')/\∀x H',(uj K a).yld i H x H'->g x σ H' fun σ2 H2=>tb {D with nx:=N,ct:=N,bk:=D.nx} σ2 H2):=by
 refine ⟨fun i m σ H=>m=xs.length-i/\i<=xs.length/\Pv i σ H,⟨xs.length,by simp,E1 _,h0⟩,?_⟩
 rintro i m σ H ⟨rfl,hi,p⟩;have q:=hl i σ H hi p
 by_cases hlt:i<xs.length
 ·refine .inr ⟨⟨xs,xs[i],q,by simp[hlt]⟩,Pv (i+1),fun σ' H' p'=>⟨xs.length-(i+1),by omega,rfl,hlt,p'⟩,fun x H' y=>?_⟩
  obtain ⟨T,z,rfl,nT,hz,rfl⟩:=y;exact hs i z σ H T (hz xs q) p nT
 ·have e:i=xs.length:=by omega
  subst e;exact .inl ⟨⟨xs,q,D9 _⟩,hd σ H p⟩
end L2
namespace Sw
open PySem L2 XH Hm PySem.NumText
section
variable {cC cR cW cRec:Addr} {G H H':Hp} {r:Addr} {n:Str} {p:Nat} {lt ls lk:Addr} {ks:List So} {M:Md}
theorem ya {dx:Addr} (g:aH H H') (nr:H r=none) (nt:H lt=none) (ns:H ls=none) (nk:H lk=none) (d1:lt≠r) (d2:ls≠r) (d3:lk≠r) (nd: [lt,ls,lk].Nodup) (er:H' r=some (.ins cRec dx (lM (.str n) (vN p) (.ref lt) (.ref ls) (.ref lk)))) (et:H' lt=some (.lst [])) (es:H' ls=some (.lst [])) (ek:H' lk=some (.lst [])):RM cC cR cW cRec H H' r n p lt ls lk [] ⟨[],[],[]⟩ where
 fr:=g
 nw:=fun a ha=>by
  simp only[cc,Du,EW,D2,D6,or_false] at ha;rcases ha with rfl|rfl|rfl|rfl
  ·exact nr
  ·exact nt
  ·exact ns
  ·exact nk
 nd:=by
  simp only[cc,Du,EW];rw[De];refine ⟨fun m=>?_,nd⟩
  simp only[D2,D6,or_false] at m;rcases m with e|e|e
  ·exact d1 e.symm
  ·exact d2 e.symm
  ·exact d3 e.symm
 er:=⟨dx,er⟩
 et:=⟨[],et,A2.nil⟩
 es:=es
 len:=rfl
 ss:=fun i k s h=>by simp at h
 ek:=⟨[],ek,A2.nil⟩
end
def jA (cC cR cW cRec:Addr):Sp:=fun vs H Q _=>∃(l:Addr) (n:Str) (p:Nat),vs= [.ref l]/\LV H l "dish" [.nm n,.num p]/\∀(r lt ls lk:Addr) (H':Hp),RM cC cR cW cRec H H' r n p lt ls lk [] ⟨[],[],[]⟩->Q (.ref r) H'
def nR (cC cR cW:Addr):Sp:=fun vs H Q _=>∃(l:Addr) (w n:Str) (lo hi:Nat) (f:Option dh),vs= [.ref l]/\LV H l w ([.nm n,.num lo,.num hi]++pA f)/\uD w/\ny w f/\∀(k:So) (H':Hp),aH H H'->SM cC cR cW H' k ⟨w,n,lo,hi,f,[],none⟩->(∀a∈k.own,H a=none)->k.own.Nodup->Q (.ref k.x) H'
def kP (cC cR cW cRec:Addr):Sp:=fun vs H Q _=>∃(r l:Addr) (a:V) (G:Hp) (n:Str) (p:Nat) (lt ls lk:Addr) (ks:List So) (M:Md) (w z:Str) (lo hi:Nat) (f:Option dh),vs= [.ref r,a,.ref l]/\RM cC cR cW cRec G H r n p lt ls lk ks M/\LV H l w ([.nm z,.num lo,.num hi]++pA f)/\uD w/\ny w f/\(∀s∈M.steps,s.n≠z)/\M.steps.length<12/\∀(k:So) (H':Hp),RM cC cR cW cRec G H' r n p lt ls lk (ks++ [k]) {M with steps:=M.steps++ [⟨w,z,lo,hi,f,[],none⟩]}->Q .non H'
def iQ (cC cR cW cRec:Addr):Sp:=fun vs H Q _=>∃(r l:Addr) (a:V) (G:Hp) (n:Str) (p:Nat) (lt ls lk:Addr) (ks:List So) (M:Md) (z:Str) (lo hi i:Nat) (s:SV),vs= [.ref r,a,.ref l]/\RM cC cR cW cRec G H r n p lt ls lk ks M/\LV H l "or" [.nm z,.num lo,.num hi]/\M.steps.length<=1000/\dv M z i/\M.steps[i]?=some s/\s.sec=none/\∀(ks':List So) (H':Hp),RM cC cR cW cRec G H' r n p lt ls lk ks' {M with steps:=M.steps.set i {s with sec:=some (lo,hi,[])}}->Q .non H'
def nS (cC cR cW cRec:Addr):Sp:=fun vs H Q _=>∃(r l:Addr) (a:V) (G:Hp) (n:Str) (p:Nat) (lt ls lk:Addr) (ks:List So) (M:Md) (o:Bool) (z:Str) (u:bN) (i:Nat) (s:SV) (us:List bN),vs= [.ref r,a,.ref l]/\RM cC cR cW cRec G H r n p lt ls lk ks M/\LV H l (if o=true then "orwith" else "with") [.nm z,.nm u.1,.num u.2.1,.num u.2.2]/\M.steps.length<=1000/\dv M z i/\M.steps[i]?=some s/\(if o=true then ∃lo hi,s.sec=some (lo,hi,us) else s.uses=us)/\(∀x∈us,x.1≠u.1)/\us.length<12/\∀(ks':List So) (s':SV) (H':Hp),(if o=true then ∃lo hi,s.sec=some (lo,hi,us)/\s'={s with sec:=some (lo,hi,us++ [u])} else s'={s with uses:=us++ [u]})->RM cC cR cW cRec G H' r n p lt ls lk ks' {M with steps:=M.steps.set i s'}->Q .non H'
def bA (M:Md):List Rr->Except qp Md
 | []=> .ok M
 |r::rs=>match cY M r with
  | .error e=> .error e
  | .ok M'=>bA M' rs
def kQ (cC cR cW cRec:Addr):Sp:=fun vs H Q _=>∃(n:Str) (p:Nat) (rs:List Rr) (M:Md),vs= [.str (Txt.join md (bj n p::rs.map eG))]/\Nm n/\1<=p/\p<=1000/\(∀r∈rs,eM r)/\rs.length<=1000/\bA ⟨[],[],[]⟩ rs= .ok M/\∀(r lt ls lk:Addr) (ks:List So) (H':Hp),RM cC cR cW cRec H H' r n p lt ls lk ks M->Q (.ref r) H'
theorem iJ {M:Md} {z:Str} {i:Nat} (h:place M z=some i):dv M z i/\i<M.steps.length:=by
 unfold place at h;rw[EK] at h;obtain ⟨il,h1,h2⟩:=h;refine ⟨⟨⟨_,D1 il,by simpa using h1⟩,fun j s jl hs e=>?_⟩,il⟩
 have:=h2 j jl;rw[D1 (by omega)] at hs
 cases hs;simp at this;exact this e
theorem fR {M M':Md} {n:Str} {f:SV->Except qp SV} (h:fk M n f= .ok M'):∃i s s',dv M n i/\M.steps[i]?=some s/\f s= .ok s'/\M'={M with steps:=M.steps.set i s'}:=by
 unfold fk at h
 split at h
 ·cases h
 next i e=>
 split at h
 ·cases h
 next s es=>
 split at h
 ·cases h
 next s' e'=>
 cases h;exact ⟨i,s,s',(iJ e).1,es,e',rfl⟩
theorem nU {us us':List bN} {u:bN} (h:nA us u= .ok us'):(∀x∈us,x.1≠u.1)/\us.length≠12/\us'=us++ [u]:=by
 unfold nA at h
 split at h
 ·cases h
 next n1=>
 split at h
 ·cases h
 next n2=>
 cases h;exact ⟨fun x hx e=>n1 (DI.mpr ⟨x,hx,e⟩),n2,rfl⟩
theorem fA {M M':Md} {g:Str} {a:dh} (e:cY M (.take g a)= .ok M'):(∀x∈M.takes,x.1≠g)/\M.takes.length≠12/\M'={M with takes:=M.takes++ [(g,a)]}:=by
 change (if g∈M.takes.map (fun x=>x.1) then Except.error qp.twice else if M.takes.length=12 then .error .full else .ok _)=_ at e
 split at e
 ·cases e
 next n1=>
 split at e
 ·cases e
 next n2=>
 cases e;exact ⟨fun x hx e=>n1 (DI.mpr ⟨x,hx,e⟩),n2,rfl⟩
theorem fB {M M':Md} {w n:Str} {lo hi:Nat} {f:Option dh} (e:cY M (.step w n lo hi f)= .ok M'):(∀s∈M.steps,s.n≠n)/\M.steps.length≠12/\M'={M with steps:=M.steps++ [⟨w,n,lo,hi,f,[],none⟩]}:=by
 change (if n∈M.steps.map (fun s=>s.n) then Except.error qp.twice else if M.steps.length=12 then .error .full else .ok _)=_ at e
 split at e
 ·cases e
 next n1=>
 split at e
 ·cases e
 next n2=>
 cases e;exact ⟨fun x hx e=>n1 (DI.mpr ⟨x,hx,e⟩),n2,rfl⟩
theorem fC {M M':Md} {w a b:Str} {t:Nat} (e:cY M (.link w a b t)= .ok M'):∃i j,dv M a i/\dv M b j/\M.links.length≠24/\M'={M with links:=M.links++ [(w,i,j,t)]}:=by
 simp only[cY] at e
 split at e
 ·cases e
 next i e1=>
 split at e
 ·cases e
 next j e2=>
 split at e
 ·cases e
 next n2=>
 cases e;exact ⟨i,j,(iJ e1).1,(iJ e2).1,n2,rfl⟩
theorem fS {M M':Md} {n:Str} {lo hi:Nat} (e:cY M (.sec n lo hi)= .ok M'):∃i s,dv M n i/\M.steps[i]?=some s/\s.sec=none/\M'={M with steps:=M.steps.set i {s with sec:=some (lo,hi,[])}}:=by
 obtain ⟨i,s,s',hp,hs,hf,rfl⟩:=fR e
 split at hf
 ·cases hf
 next es=>
 cases hf;exact ⟨i,s,hp,hs,es,rfl⟩
theorem fT {M M':Md} {n:Str} {u:bN} (e:cY M (.use false n u)= .ok M'):∃i s,dv M n i/\M.steps[i]?=some s/\(∀x∈s.uses,x.1≠u.1)/\s.uses.length≠12/\M'={M with steps:=M.steps.set i {s with uses:=s.uses++ [u]}}:=by
 obtain ⟨i,s,s',hp,hs,hf,rfl⟩:=fR e
 split at hf
 ·cases hf
 next us eu=>
 cases hf;obtain ⟨n1,n2,rfl⟩:=nU eu;exact ⟨i,s,hp,hs,n1,n2,rfl⟩
theorem fU {M M':Md} {n:Str} {u:bN} (e:cY M (.use true n u)= .ok M'):∃i s lo hi us,dv M n i/\M.steps[i]?=some s/\s.sec=some (lo,hi,us)/\(∀x∈us,x.1≠u.1)/\us.length≠12/\M'={M with steps:=M.steps.set i {s with sec:=some (lo,hi,us++ [u])}}:=by
 obtain ⟨i,s,s',hp,hs,hf,rfl⟩:=fR e
 split at hf
 ·cases hf
 next lo hi us es=>
 split at hf
 ·cases hf
 next us' eu=>
 cases hf;obtain ⟨n1,n2,rfl⟩:=nU eu;exact ⟨i,s,lo,hi,us,hp,hs,es,n1,n2,rfl⟩
structure qE (M:Md):Prop where
 t:M.takes.length<=12
 s:M.steps.length<=12
 k:M.links.length<=24
 us:∀s∈M.steps,s.uses.length<=12/\∀x,s.sec=some x->x.2.2.length<=12
def nV (cC cR cW cRec:Addr):Sp:=fun vs H Q _=>∃(r l:Addr) (a:V) (G:Hp) (n:Str) (p:Nat) (lt ls lk:Addr) (ks:List So) (M M':Md) (rr:Rr),vs= [.ref r,a,.ref l]/\RM cC cR cW cRec G H r n p lt ls lk ks M/\LV H l (pB rr).1 (pB rr).2/\eM rr/\qE M/\cY M rr= .ok M'/\∀(ks':List So) (H':Hp),RM cC cR cW cRec G H' r n p lt ls lk ks' M'->Q .non H'
theorem qE.set {M:Md} (h:qE M) {i:Nat} {s':SV} (hs:s'.uses.length<=12/\∀x,s'.sec=some x->x.2.2.length<=12):qE {M with steps:=M.steps.set i s'}:=
 {h with
  s:=by simp;exact h.s
  us:=fun x hx=>by
   rcases List.mem_or_eq_of_mem_set hx with hx|rfl
   ·exact h.us x hx
   ·exact hs}
theorem qE.put {M M':Md} (h:qE M) {r:Rr} (e:cY M r= .ok M'):qE M':=by
 have ht:=h.t;have hs:=h.s;have hk:=h.k;cases r with
 |take g a=>
  obtain ⟨_,n2,rfl⟩:=fA e;exact {h with t:=by simp;omega}
 |step w n lo hi f=>
  obtain ⟨_,n2,rfl⟩:=fB e;refine {h with s:=by simp;omega,us:=fun s hs=>?_}
  rcases DC.mp hs with hs|hs
  ·exact h.us s hs
  ·rw[D8.mp hs];exact ⟨by simp,fun x hx=>by cases hx⟩
 |sec n lo hi=>
  obtain ⟨i,s,hp,hs,_,rfl⟩:=fS e;have k:=h.us s (D5 hs);exact h.set ⟨k.1,fun x hx=>by cases hx;simp⟩
 |use o n u=>
  cases o with
  |false=>
   obtain ⟨i,s,hp,hs,_,n2,rfl⟩:=fT e;have k:=h.us s (D5 hs);exact h.set ⟨by have:=k.1;simp;omega,k.2⟩
  |true=>
   obtain ⟨i,s,lo,hi,us,hp,hs,es,_,n2,rfl⟩:=fU e;have k:=h.us s (D5 hs);have k2:=k.2 _ es;dsimp only at k2;exact h.set ⟨k.1,fun x hx=>by cases hx;simp;omega⟩
 |link w a b t=>
  obtain ⟨i,j,_,_,n2,rfl⟩:=fC e;exact {h with k:=by simp;omega}
theorem ik {f:Str} {v x:V}:∀{fs:List (Str×V)},fs.lookup f=some x->(aM f v fs).length=fs.length
 | [],h=>by cases h
 |(g,y)::r,h=>by
  rw[show aM f v ((g,y)::r)=(if g=f then (g,v)::r else (g,y)::aM f v r) from rfl]
  by_cases c:g=f
  ·rw[if_pos c]
   rfl
  ·rw[if_neg c];rw[List.lookup_cons,show (f==g)=false by simpa using fun z=>c z.symm] at h
   simp[ik (fs:=r) h]
theorem wv.put2 {ff:List (Str×V)} {nm l m u s v:V} (h:wv ff nm l m u s):wv (aM "second" v ff) nm l m u v:=by
 have k:∀{g:Str},g≠ "second" ->(aM "second" v ff).lookup g=ff.lookup g:=fun hg=>by rw[bE,if_neg hg]
 exact ⟨(k (by decide+kernel)).trans h.name,(k (by decide+kernel)).trans h.least,(k (by decide+kernel)).trans h.most,(k (by decide+kernel)).trans h.uses,by rw[bE,if_pos rfl],(k (by decide+kernel)).trans h.word,(k (by decide+kernel)).trans h.span,(k (by decide+kernel)).trans h.grown,(k (by decide+kernel)).trans h.way⟩
section
variable {cC cR cW cRec:Addr} {G H H1 H':Hp} {r:Addr} {n:Str} {p:Nat} {lt ls lk:Addr} {ks:List So} {M:Md}
theorem RM.own_nd (h:RM cC cR cW cRec G H r n p lt ls lk ks M) {k:So} (hk:k∈ks):k.own.Nodup:=by
 have nd:=h.nd;unfold cc at nd;simp only[De] at nd;have nf:=nd.2.2.2.2;exact nf.sublist (List.sublist_flatten_of_mem (DI.mpr ⟨k,hk,rfl⟩))
theorem pF {k:So} {x:Addr} {o:HO} (g:aH H H1) (hx:x∈k.own):Kp k.own H (aO H1 x o):=fun b u e m=>by
 rw[aB fun z=>m (by rw[z];exact hx)]
 exact g _ _ e
theorem SM.second {k:So} {s:SV} {C dx:Addr} {sv:V} {ff:List (Str×V)} {t l:Addr} {lo hi:Nat} (hx:H k.x=some (.ins C dx ff)) (hC:iM cC cR cW s.w C) (sf:wv ff (.str s.n) (vN s.lo) (vN s.hi) (.ref k.u) sv) (l10:ff.length<=10) (hf:ic H ff s.fill) (hu:Uz H k.u s.uses) (g:aH H H1) (nl:H l=none) (el:H1 l=some (.lst [])) (et:H1 t=some (.tup [vN lo,vN hi,.ref l])):SM cC cR cW (aO H1 k.x (.ins C dx (aM "second" (.ref t) ff))) ⟨k.x,k.u,some l⟩ {s with sec:=some (lo,hi,[])}:=by
 have q:qz [k.x] H1:=gx (g _ _ hx) nofun;have kp:=(Kp.refl [k.x] H1).put (x:=k.x) (by simp) (.ins C dx (aM "second" (.ref t) ff))
 have nu:k.u∉ [k.x]:=fun z=>by
  obtain ⟨vs,e,_⟩:=hu;rw[D8.mp z,hx] at e;cases e
 have nlx:l≠k.x:=fun z=>by rw[z,hx] at nl;cases nl
 refine ⟨C,dx,.ref t,_,af,hC,sf.put2,by rw[ik sf.second];exact l10,?_,kp.rtupM q (hu.same g) nu,t,rfl,kp.tupM q et,[],?_,A2.nil⟩
 ·have k0:=kp.fillM q (hf.same g);show ic _ _ s.fill;generalize s.fill=o at k0;cases o with
  |none=>exact k0
  |some a=>
   obtain ⟨t',e1,e2⟩:=k0;exact ⟨t',by rw[bE,if_neg (by decide+kernel)];exact e1,e2⟩
 ·rw[aB nlx];exact el
theorem SM.use {k:So} {s:SV} {vs:List V} {t:Addr} {u:bN} (h:SM cC cR cW H k s) (nd:k.own.Nodup) (ev:H k.u=some (.lst vs)) (g:aH H H1) (et:H1 t=some (.tup (qt u))):SM cC cR cW (aO H1 k.u (.lst (vs++ [.ref t]))) k {s with uses:=s.uses++ [u]}:=by
 obtain ⟨C,dx,sv,ff,hx,hC,sf,l10,hf,hu,hs⟩:=h.same g;have q:qz [k.u] H1:=gx (g _ _ ev) nofun;have kp:=(Kp.refl [k.u] H1).put (x:=k.u) (by simp) (.lst (vs++ [.ref t]))
 simp only[So.own,De,D2,not_or] at nd;refine ⟨C,dx,sv,ff,kp _ _ hx (by simpa using nd.1.1),hC,sf,l10,kp.fillM q hf,?_,kp.secM q hs fun b hb=>by simpa using fun z:b=k.u=>nd.2.1 (z▸hb)⟩
 obtain ⟨us,e',rr⟩:=hu;rw[g _ _ ev] at e';cases e';exact ⟨_,af,(rr.snoc ⟨t,rfl,trivial,et⟩).imp fun v x ⟨t,e1,e2,e3⟩=>⟨t,e1,e2,kp.tupM q e3⟩⟩
theorem SM.orw {k:So} {s:SV} {vs:List V} {t l lo hi:Nat} {us:List bN} {u:bN} (h:SM cC cR cW H k s) (nd:k.own.Nodup) (ek:k.sec=some l) (es:s.sec=some (lo,hi,us)) (ev:H l=some (.lst vs)) (g:aH H H1) (et:H1 t=some (.tup (qt u))):SM cC cR cW (aO H1 l (.lst (vs++ [.ref t]))) k {s with sec:=some (lo,hi,us++ [u])}:=by
 obtain ⟨C,dx,sv,ff,hx,hC,sf,l10,hf,hu,hs⟩:=h.same g;have q:qz [l] H1:=gx (g _ _ ev) nofun;have kp:=(Kp.refl [l] H1).put (x:=l) (by simp) (.lst (vs++ [.ref t]))
 simp only[So.own,ek,Option.toList,De,D2,not_or,D6,not_false_eq_true,and_true] at nd;rw[ek,es] at hs;obtain ⟨t2,rfl,e2,⟨ws,e3,rr⟩⟩:=hs;rw[g _ _ ev] at e3;cases e3;refine ⟨C,dx,_,ff,kp _ _ hx (by simpa using nd.1.2),hC,sf,l10,kp.fillM q hf,kp.rtupM q hu (by simpa using nd.2.1),?_⟩
 rw[ek];exact ⟨t2,rfl,kp.tupM q e2,_,af,(rr.snoc ⟨t,rfl,trivial,et⟩).imp fun v x ⟨t,e1,e2,e3⟩=>⟨t,e1,e2,kp.tupM q e3⟩⟩
end
theorem vY {r:Rr} (h:eM r) (e:(pB r).1= "take"):∃g a,r= .take g a:=by
 cases r with
 |take g a=>exact ⟨g,a,rfl⟩
 |step w n lo hi f=>
  have e:w= "take" :=e;rcases h.1 with k|k|k<;>exact absurd (k.symm.trans e) (by decide)
 |sec n lo hi=>exact absurd e (show ¬Str.ofString "or" =Str.ofString "take" from by decide+kernel)
 |use o n u=>
  cases o with
  |false=>exact absurd e (show ¬Str.ofString "with" =Str.ofString "take" from by decide+kernel)
  |true=>exact absurd e (show ¬Str.ofString "orwith" =Str.ofString "take" from by decide+kernel)
 |link w a b t=>
  have e:w= "take" :=e;rcases h.1 with k|k|k<;>exact absurd (k.symm.trans e) (by decide)
theorem vZ {r:Rr} (h:eM r) (e:(pB r).1∈([("cut" :Str),"rest","warm"]:GO)):∃w n lo hi f,r= .step w n lo hi f:=by
 cases r with
 |take g a=>exact absurd e (show ¬Str.ofString "take" ∈([Str.ofString "cut","rest","warm"]:GO) from by decide+kernel)
 |step w n lo hi f=>exact ⟨w,n,lo,hi,f,rfl⟩
 |sec n lo hi=>exact absurd e (show ¬Str.ofString "or" ∈([Str.ofString "cut","rest","warm"]:GO) from by decide+kernel)
 |use o n u=>
  cases o with
  |false=>exact absurd e (show ¬Str.ofString "with" ∈([Str.ofString "cut","rest","warm"]:GO) from by decide+kernel)
  |true=>exact absurd e (show ¬Str.ofString "orwith" ∈([Str.ofString "cut","rest","warm"]:GO) from by decide+kernel)
 |link w a b t=>
  have e:w∈([("cut" :Str),"rest","warm"]:GO):=e;rcases h.1 with k|k|k<;>(rw[k] at e;exact absurd e (by decide+kernel))
theorem yb {r:Rr} (h:eM r) (e:(pB r).1= "or"):∃n lo hi,r= .sec n lo hi:=by
 cases r with
 |take g a=>exact absurd e (show ¬Str.ofString "take" =Str.ofString "or" from by decide+kernel)
 |step w n lo hi f=>
  have e:w= "or" :=e;rcases h.1 with k|k|k<;>exact absurd (k.symm.trans e) (by decide)
 |sec n lo hi=>exact ⟨n,lo,hi,rfl⟩
 |use o n u=>
  cases o with
  |false=>exact absurd e (show ¬Str.ofString "with" =Str.ofString "or" from by decide+kernel)
  |true=>exact absurd e (show ¬Str.ofString "orwith" =Str.ofString "or" from by decide+kernel)
 |link w a b t=>
  have e:w= "or" :=e;rcases h.1 with k|k|k<;>exact absurd (k.symm.trans e) (by decide)
theorem yc {r:Rr} (h:eM r) (e:(pB r).1∈([("with" :Str),"orwith"]:GO)):∃o n u,r= .use o n u:=by
 cases r with
 |take g a=>exact absurd e (show ¬Str.ofString "take" ∈([Str.ofString "with","orwith"]:GO) from by decide+kernel)
 |step w n lo hi f=>
  have e:w∈([("with" :Str),"orwith"]:GO):=e;rcases h.1 with k|k|k<;>(rw[k] at e;exact absurd e (by decide+kernel))
 |sec n lo hi=>exact absurd e (show ¬Str.ofString "or" ∈([Str.ofString "with","orwith"]:GO) from by decide+kernel)
 |use o n u=>exact ⟨o,n,u,rfl⟩
 |link w a b t=>
  have e:w∈([("with" :Str),"orwith"]:GO):=e;rcases h.1 with k|k|k<;>(rw[k] at e;exact absurd e (by decide+kernel))
theorem v4 {r:Rr} (h:eM r) (n1:(pB r).1≠ "take") (n2:(pB r).1∉([("cut" :Str),"rest","warm"]:GO)) (n3:(pB r).1≠ "or") (n4:(pB r).1∉([("with" :Str),"orwith"]:GO)):∃w a b t,r= .link w a b t:=by
 cases r with
 |take g a=>exact absurd rfl n1
 |step w n lo hi f=>
  have n2:w∉([("cut" :Str),"rest","warm"]:GO):=n2;rcases h.1 with k|k|k<;>(rw[k] at n2;exact absurd (by decide+kernel) n2)
 |sec n lo hi=>exact absurd rfl n3
 |use o n u=>
  cases o with
  |false=>exact absurd (show Str.ofString "with" ∈([Str.ofString "with","orwith"]:GO) from by decide+kernel) n4
  |true=>exact absurd (show Str.ofString "orwith" ∈([Str.ofString "with","orwith"]:GO) from by decide+kernel) n4
 |link w a b t=>exact ⟨w,a,b,t,rfl⟩
def Wg (w:Str):Prop:=(∀c∈sL w,32<=c)/\w.length<=40
theorem im {z:Str} (h:Nm z):Wg z:=⟨fun c m=>by have:=h.2.2 c m;omega,by have:=h.len;omega⟩
theorem fV {n:Nat} (h:n<=999999999):Wg (bw n):=⟨fun c m=>by
 unfold bw at m;rw[bx] at m;have:=(eB n c m).1;omega,by have:=br h;omega⟩
theorem v6 {p q:Nat}:∀c∈cO p q,43<=c:=fun c hc=>by
 have dd:∀n c,c∈dg n->43<=c:=fun n c h=>by have:=(eB n c h).1;omega
 unfold cO at hc
 split at hc
 ·exact dd _ c hc
 ·split at hc
  ·rcases DC.mp hc with h|h
   ·exact dd _ c h
   ·rcases D2.mp h with rfl|h
    ·decide
    ·exact dd _ c h
  ·rcases DC.mp hc with h|h
   ·exact dd _ c h
   ·rcases D2.mp h with rfl|h
    ·decide
    ·rcases DC.mp h with h|h
     ·exact dd _ c h
     ·rcases D2.mp h with rfl|h
      ·decide
      ·exact dd _ c h
theorem wG {a:dh} (h:pi a):Wg (i4 a):=⟨fun c m=>by
 unfold i4 at m;rw[bx] at m;have:=v6 c m;omega,dW h⟩
theorem pG {w:Str} (h:xJ w=true):Wg w:=im ((gd w).mp h)
theorem um:∀{ws:GO},(∀w∈ws,Wg w)->∀c∈sL (jB ws),32<=c
 | [],_,c,m=>by simp[jB] at m;exact absurd m (by decide+revert)
 | [a],h,c,m=>(h a Dc).1 c m
 |a::b::r,h,c,m=>by
  rw[bH,bQ,bQ] at m;rcases DC.mp m with m|m
  ·rcases DC.mp m with m|m
   ·exact (h a Dc).1 c m
   ·have:sL jO= [32]:=by decide
    rw[this] at m;simp at m;omega
  ·exact um (fun w hw=>h w (D7 _ hw)) c m
theorem At {r:Rr} (h:eM r):(∀w∈iV r,Wg w)/\(iV r).length<=5:=by
 have W:∀{w:Str},uD w->Wg w:=fun h=>by rcases h with rfl|rfl|rfl<;>exact pG (by decide+kernel)
 have L:∀{w:Str},zo w->Wg w:=fun h=>by rcases h with rfl|rfl|rfl<;>exact pG (by decide+kernel)
 cases r with
 |take g a=>
  refine ⟨fun w hw=>?_,by simp[iV]⟩
  simp only[iV,D2,D6,or_false] at hw;rcases hw with rfl|rfl|rfl
  ·exact pG (by decide+kernel)
  ·exact im h.1
  ·exact wG h.2
 |step w n lo hi f=>
  obtain ⟨h1,h2,⟨l1,l2,l3⟩,h4⟩:=h;refine ⟨fun x hx=>?_,by cases f<;>simp[iV,dr]⟩
  have hx:x∈ [w,n,bw lo,bw hi]++dr f:=hx;rcases DC.mp hx with hx|hx
  ·simp only[D2,D6,or_false] at hx;rcases hx with rfl|rfl|rfl|rfl
   ·exact W h1
   ·exact im h2
   ·exact fV (by omega)
   ·exact fV (by omega)
  ·cases f with
   |none=>cases hx
   |some a=>
    rw[D8.mp hx];exact wG h4.2
 |sec n lo hi=>
  obtain ⟨h2,⟨l1,l2,l3⟩⟩:=h;refine ⟨fun x hx=>?_,by simp[iV,eE]⟩
  simp only[iV,eE,D2,D6,or_false] at hx;rcases hx with rfl|rfl|rfl|rfl
  ·exact pG (by decide+kernel)
  ·exact im h2
  ·exact fV (by omega)
  ·exact fV (by omega)
 |use o n u=>
  obtain ⟨h1,h2,h3,h4,h5⟩:=h;refine ⟨fun x hx=>?_,by simp[iV,cD]⟩
  simp only[iV,cD,D2,D6,or_false] at hx;rcases hx with rfl|rfl|rfl|rfl|rfl
  ·cases o
   ·exact pG (w:=Str.ofString "with") (by decide+kernel)
   ·exact pG (w:=Str.ofString "orwith") (by decide+kernel)
  ·exact im h1
  ·exact im h2
  ·exact fV (by omega)
  ·exact fV (by omega)
 |link w a b t=>
  obtain ⟨h1,h2,h3,h4,h5,h6⟩:=h;refine ⟨fun x hx=>?_,by simp only[iV,cK];split<;>simp⟩
  have hx:x∈ [w,a,b]++if w= "within" then [bw t] else []:=hx
  rcases DC.mp hx with hx|hx
  ·simp only[D2,D6,or_false] at hx;rcases hx with rfl|rfl|rfl
   ·exact L h1
   ·exact im h2
   ·exact im h3
  ·split at hx
   ·rw[D8.mp hx];exact fV (by omega)
   ·cases hx
theorem l7 {r:Rr} (h:eM r):10∉sL (eG r)/\(eG r).length<=400:=by
 obtain ⟨h1,h2⟩:=At h;refine ⟨fun m=>absurd (um h1 10 m) (by decide),?_⟩
 have k:=tP (iV r) (m:=40) fun w hw=>(h1 w hw).2
 have:=Nat.mul_le_mul_left 41 h2;exact DU k (by omega)
theorem io {n:Str} {p:Nat} (h:Nm n) (hp:p<=1000):10∉sL (bj n p)/\(bj n p).length<=400:=by
 refine ⟨fun m=>absurd (um (ws:= ["dish",n,bw p]) (fun w hw=>?_) 10 m) (by decide),kD h hp⟩
 simp only[D2,D6,or_false] at hw;rcases hw with rfl|rfl|rfl
 ·exact pG (by decide+kernel)
 ·exact im h
 ·exact fV (by omega)
theorem kR {n:Str} {p:Nat} {rs:List Rr} (h:Nm n) (hp:p<=1000) (ro:∀r∈rs,eM r):Txt.split (Txt.join md (bj n p::rs.map eG)) md=bj n p::rs.map eG:=by
 refine nL (by simp) fun w hw=>?_
 rcases D2.mp hw with rfl|hw
 ·exact (io h hp).1
 ·obtain ⟨r,hr,rfl⟩:=DI.mp hw;exact (l7 (ro r hr)).1
theorem qF {n:Str} {p:Nat} {rs:List Rr} (h:Nm n) (hp:p<=1000) (ro:∀r∈rs,eM r) (l:rs.length<=1000):(Txt.join md (bj n p::rs.map eG)).length<=500000:=by
 have s:=gf (m:=400) (ws:=bj n p::rs.map eG) fun w hw=>by
  rcases D2.mp hw with rfl|hw
  ·exact (io h hp).2
  ·obtain ⟨r,hr,rfl⟩:=DI.mp hw;exact (l7 (ro r hr)).2
 rw[jm,show md.length=1 from rfl]
 simp only[DD,D4] at s⊢;omega
theorem eX {rs ts:List Rr} {M M':Md} (h:bA M rs= .ok M'):bA M (rs++ts)=bA M' ts:=by
 induction rs generalizing M with
 |nil=>cases h;rfl
 |cons r rs ih=>
  simp only[EM,bA] at h⊢;cases e:cY M r with
  |error x=>rw[e] at h;cases h
  |ok M1=>rw[e] at h;exact ih h
theorem ip {r:Rr} {rs:List Rr} {M M':Md} (h:bA M (r::rs)= .ok M'):∃M1,cY M r= .ok M1/\bA M1 rs= .ok M':=by
 simp only[bA] at h;cases e:cY M r with
 |error x=>rw[e] at h;cases h
 |ok M1=>rw[e] at h;exact ⟨M1,rfl,h⟩
theorem qE.puts {rs:List Rr} {M M':Md} (b:qE M) (h:bA M rs= .ok M'):qE M':=by
 induction rs generalizing M with
 |nil=>cases h;exact b
 |cons r rs ih=>
  obtain ⟨M1,e1,e2⟩:=ip h;exact ih (b.put e1) e2
theorem qE.nil:qE ⟨[],[],[]⟩:=⟨by simp,by simp,by simp,fun s h=>by cases h⟩
theorem rG {rs:List Rr} {M:Md} (h:bA ⟨[],[],[]⟩ rs= .ok M) (i:Nat):∃M1,bA ⟨[],[],[]⟩ (rs.take i)= .ok M1/\qE M1/\bA M1 (rs.drop i)= .ok M:=by
 have g:∀(M0:Md) (rs:List Rr) (i:Nat),bA M0 rs= .ok M->∃M1,bA M0 (rs.take i)= .ok M1/\bA M1 (rs.drop i)= .ok M:=by
  intro M0 rs
  induction rs generalizing M0 with
  |nil=>intro i h;exact ⟨M0,by simp[bA],by simpa using h⟩
  |cons r rs ih=>
   intro i h;cases i with
   |zero=>exact ⟨M0,rfl,h⟩
   |succ i=>
    obtain ⟨M1,e1,e2⟩:=ip h;obtain ⟨M2,k1,k2⟩:=ih M1 i e2;exact ⟨M2,by simp only[List.take_succ_cons,bA,e1];exact k1,k2⟩
 obtain ⟨M1,e1,e2⟩:=g _ rs i h;exact ⟨M1,e1,qE.nil.puts e1,e2⟩
section
variable {cC cR cW cRec:Addr} {G G' H H':Hp} {r:Addr} {n:Str} {p:Nat} {lt ls lk:Addr} {ks:List So} {M:Md}
theorem RM.low (h:RM cC cR cW cRec G H r n p lt ls lk ks M) (g:aH G' G):RM cC cR cW cRec G' H r n p lt ls lk ks M:={h with fr:=g.trans h.fr,nw:=fun a ha=>g.free (h.nw a ha)}
theorem RM.top (h:RM cC cR cW cRec G H r n p lt ls lk ks M):RM cC cR cW cRec (less H (cc r lt ls lk ks)) H r n p lt ls lk ks M:={h with fr:=iI _ _,nw:=fun a ha=>if_pos ha}
theorem RM.less (h:RM cC cR cW cRec G H r n p lt ls lk ks M):aH G (Sw.less H (cc r lt ls lk ks)):=fun b o e=>by
 rw[fu fun hx=>?_]
 ·exact h.fr _ _ e
 ·have:=h.nw b hx;rw[e] at this;cases this
end
theorem uo {r:Rr} (h:eM r):(pB r).1≠ "dish" :=fun e=>by
 cases r with
 |take g a=>exact absurd e (show ¬Str.ofString "take" = "dish" from by decide)
 |step w n lo hi f=>
  have e:w= "dish" :=e;rcases h.1 with k|k|k<;>exact absurd (k.symm.trans e) (by decide)
 |sec n lo hi=>exact absurd e (show ¬Str.ofString "or" = "dish" from by decide)
 |use o n u=>
  cases o with
  |false=>exact absurd e (show ¬Str.ofString "with" = "dish" from by decide)
  |true=>exact absurd e (show ¬Str.ofString "orwith" = "dish" from by decide)
 |link w a b t=>
  have e:w= "dish" :=e;rcases h.1 with k|k|k<;>exact absurd (k.symm.trans e) (by decide)
def jC (n:Str):Option (Nat×Nat×List bN)->List Rr
 |none=> []
 |some (lo,hi,us)=> .sec n lo hi::us.map fun u=> .use true n u
def ck (s:SV):List Rr:= .step s.w s.n s.lo s.hi s.fill::(s.uses.map fun u=> .use false s.n u)++jC s.n s.sec
def dB (ss:List SV) (k:ky):Rr:= .link k.1 (hV ss k.2.1) (hV ss k.2.2.1) k.2.2.2
def jD (x:Str×dh):Rr:= .take x.1 x.2
def cA (M:Md):List Rr:=M.takes.map jD++(M.steps.map ck).flatten++M.links.map (dB M.steps)
theorem uq (s:SV):(ck s).map eG=aT s:=by
 obtain ⟨w,n,lo,hi,f,us,sec⟩:=s;unfold ck aT;cases sec with
 |none=>
  simp only[jC,du,DQ,Dd,EV,Du]
  rfl
 |some x=>
  obtain ⟨lo2,hi2,us2⟩:=x;simp only[jC,du,DQ,Dd,EV]
  rfl
theorem pH (n:Str) (p:Nat) (M:Md):i6 n p M=bj n p::(cA M).map eG:=by
 unfold i6 cA;rw[DQ,DQ,EV,EV,List.map_flatten,EV,EM,EM];have e1:M.takes.map cS=M.takes.map (eG ∘ jD):=rfl;have e2:M.links.map (cQ M.steps)=M.links.map (eG ∘ dB M.steps):=rfl;have e3:M.steps.map aT=M.steps.map (List.map eG ∘ ck):=EZ fun s _=>(uq s).symm
 rw[e1,e2,e3]
variable {zs:GO} {M:Md}
theorem nW {n:Str} {us:List bN} {o:Bool} (hn:Nm n) (h:xN us):∀r∈us.map (fun u=>Rr.use o n u),eM r:=fun r hr=>by
 obtain ⟨u,hu,rfl⟩:=DI.mp hr;obtain ⟨h1,h2,h3,h4⟩:=h.2 u hu;exact ⟨hn,h1,h2,h3,h4⟩
theorem rH {s:SV} (b:wA s):∀r∈ck s,eM r:=fun r hr=>by
 unfold ck at hr;rcases DC.mp hr with hr|hr
 ·rcases D2.mp hr with rfl|hr
  ·exact ⟨b.wd,b.nm,b.le,b.fl⟩
  ·exact nW b.nm b.us r hr
 ·match e:s.sec,hr with
  |some (lo,hi,us),hr=>
   obtain ⟨k1,k2⟩:=b.sec _ e;rcases D2.mp hr with rfl|hr
   ·exact ⟨b.nm,k1⟩
   ·exact nW b.nm k2 r hr
  |none,hr=>cases hr
theorem Au (z:Zs zs) (h:gh zs 12 M) {i j:Nat} (hi:i<M.steps.length) (hj:j<M.steps.length) (ne:i≠j):hV M.steps i≠hV M.steps j:=fun e=>by
 rw[bP (D1 hi),bP (D1 hj)] at e;have k1:=(h.ss i _ (D1 hi)).nm;have k2:=(h.ss j _ (D1 hj)).nm;rw[e] at k1;have:=z.inj k1 k2;have:=h.sr;omega
theorem ur (z:Zs zs) (h:gh zs 12 M):∀r∈cA M,eM r:=fun r hr=>by
 have b:=h.bd z (by decide)
 unfold cA at hr;rcases DC.mp hr with hr|hr
 ·rcases DC.mp hr with hr|hr
  ·obtain ⟨x,hx,rfl⟩:=DI.mp hr;exact b.ts x hx
  ·obtain ⟨l,hl,hr⟩:=Dv.mp hr;obtain ⟨s,hs,rfl⟩:=DI.mp hl;exact rH (b.ss s hs) r hr
 ·obtain ⟨k,hk,rfl⟩:=DI.mp hr;have l:=b.ks k hk;have na:Nm (hV M.steps k.2.1):=by rw[bP (D1 l.a)];exact (b.ss _ (EB l.a)).nm
  have nb:Nm (hV M.steps k.2.2.1):=by rw[bP (D1 l.b)];exact (b.ss _ (EB l.b)).nm
  exact ⟨l.w,na,nb,Au z h l.a l.b l.ab,l.t,l.t0⟩
theorem jE:∀{xs T:List (Str×dh)},((T++xs).map fun x=>x.1).Nodup->(T++xs).length<=12->bA ⟨T,[],[]⟩ (xs.map jD)= .ok ⟨T++xs,[],[]⟩
 | [],T,_,_=>by simp[bA]
 |x::xs,T,nd,l=>by
  have e:T++x::xs=(T++ [x])++xs:=by simp
  have e1:cY ⟨T,[],[]⟩ (jD x)= .ok ⟨T++ [x],[],[]⟩:=by
   show (if x.1∈T.map (fun x=>x.1) then Except.error qp.twice else if T.length=12 then .error .full else .ok _)=_
   rw[if_neg,if_neg]
   ·simp at l;omega
   ·intro m;rw[DQ,Dq] at nd;exact nd.2.2 _ m x.1 (by simp) rfl
  simp only[Dd,bA,e1];rw[e] at nd l⊢;exact jE nd l
theorem pI {T:List (Str×dh)} {S:List SV} {L:List ky} {s:SV} (h:s.n∉S.map fun x=>x.n):place ⟨T,S++ [s],L⟩ s.n=some S.length:=by
 unfold place;rw[EK];refine ⟨by simp,by simp,fun j hj=>?_⟩
 simp only[decide_eq_true_eq];rw[List.getElem_append_left hj];exact fun e=>h (DI.mpr ⟨_,EB hj,e⟩)
theorem l9 {T:List (Str×dh)} {S:List SV} {L:List ky} {s s':SV} {f:SV->Except qp SV} (h:s.n∉S.map fun x=>x.n) (e:f s= .ok s'):fk ⟨T,S++ [s],L⟩ s.n f= .ok ⟨T,S++ [s'],L⟩:=by
 unfold fk;rw[pI h];simp only[E6 (D9 S.length),Nat.sub_self,List.getElem?_cons_zero,e];rw[List.set_append_right _ _ (D9 _)];simp
theorem kS {us ts:List bN} {u:bN} (nd:((us++u::ts).map fun x=>x.1).Nodup) (l:(us++u::ts).length<=12):nA us u= .ok (us++ [u]):=by
 unfold nA;rw[if_neg,if_neg]
 ·simp at l;omega
 ·intro m;rw[DQ,Dq] at nd;exact nd.2.2 _ m u.1 (by simp) rfl
theorem kT {T:List (Str×dh)} {S:List SV} {L:List ky} {n:Str} (h:n∉S.map fun x=>x.n) {w:Str} {lo hi:Nat} {f:Option dh} {sec:Option (Nat×Nat×List bN)}:∀{ts us:List bN},((us++ts).map fun x=>x.1).Nodup->(us++ts).length<=12->bA ⟨T,S++ [⟨w,n,lo,hi,f,us,sec⟩],L⟩ (ts.map fun u=> .use false n u)= .ok ⟨T,S++ [⟨w,n,lo,hi,f,us++ts,sec⟩],L⟩
 | [],us,_,_=>by simp[bA]
 |u::ts,us,nd,l=>by
  have e1:cY ⟨T,S++ [⟨w,n,lo,hi,f,us,sec⟩],L⟩ (.use false n u)= .ok ⟨T,S++ [⟨w,n,lo,hi,f,us++ [u],sec⟩],L⟩:=l9 (s:=⟨w,n,lo,hi,f,us,sec⟩) h (by simp only[kS nd l])
  simp only[Dd,bA,e1];rw[show us++u::ts=(us++ [u])++ts by simp] at nd l⊢
  exact kT h nd l
theorem kU {T:List (Str×dh)} {S:List SV} {L:List ky} {n:Str} (h:n∉S.map fun x=>x.n) {w:Str} {lo hi lo2 hi2:Nat} {f:Option dh} {vs:List bN}:∀{ts us:List bN},((us++ts).map fun x=>x.1).Nodup->(us++ts).length<=12->bA ⟨T,S++ [⟨w,n,lo,hi,f,vs,some (lo2,hi2,us)⟩],L⟩ (ts.map fun u=> .use true n u)= .ok ⟨T,S++ [⟨w,n,lo,hi,f,vs,some (lo2,hi2,us++ts)⟩],L⟩
 | [],us,_,_=>by simp[bA]
 |u::ts,us,nd,l=>by
  have e1:cY ⟨T,S++ [⟨w,n,lo,hi,f,vs,some (lo2,hi2,us)⟩],L⟩ (.use true n u)= .ok ⟨T,S++ [⟨w,n,lo,hi,f,vs,some (lo2,hi2,us++ [u])⟩],L⟩:=l9 (s:=⟨w,n,lo,hi,f,vs,some (lo2,hi2,us)⟩) h (by simp only[kS nd l])
  simp only[Dd,bA,e1];rw[show us++u::ts=(us++ [u])++ts by simp] at nd l⊢
  exact kU h nd l
def Av (us:List bN):Prop:=(us.map fun x=>x.1).Nodup/\us.length<=12
theorem rJ {T:List (Str×dh)} {S:List SV} {s:SV} (h:s.n∉S.map fun x=>x.n) (l:S.length<12) (u1:Av s.uses) (u2:∀x,s.sec=some x->Av x.2.2):bA ⟨T,S,[]⟩ (ck s)= .ok ⟨T,S++ [s],[]⟩:=by
 obtain ⟨w,n,lo,hi,f,us,sec⟩:=s;have e1:cY ⟨T,S,[]⟩ (.step w n lo hi f)= .ok ⟨T,S++ [⟨w,n,lo,hi,f,[],none⟩],[]⟩:=by
  show (if n∈S.map (fun s=>s.n) then Except.error qp.twice else if S.length=12 then .error .full else .ok _)=_
  rw[if_neg h,if_neg (by omega)]
 have e2:bA ⟨T,S,[]⟩ (.step w n lo hi f::us.map fun u=> .use false n u)= .ok ⟨T,S++ [⟨w,n,lo,hi,f,us,none⟩],[]⟩:=by
  simp only[bA,e1];exact kT (us:= []) h u1.1 u1.2
 unfold ck;rw[eX e2];cases sec with
 |none=>rfl
 |some x=>
  obtain ⟨lo2,hi2,us2⟩:=x;obtain ⟨k1,k2⟩:=u2 _ rfl;have e3:cY ⟨T,S++ [⟨w,n,lo,hi,f,us,none⟩],[]⟩ (.sec n lo2 hi2)= .ok ⟨T,S++ [⟨w,n,lo,hi,f,us,some (lo2,hi2,[])⟩],[]⟩:=l9 (s:=⟨w,n,lo,hi,f,us,none⟩) h rfl;simp only[jC,bA,e3];exact kU (us:= []) h k1 k2
theorem jF {T:List (Str×dh)}:∀{ss S:List SV},((S++ss).map fun x=>x.n).Nodup->(S++ss).length<=12->(∀s∈ss,Av s.uses/\∀x,s.sec=some x->Av x.2.2)->bA ⟨T,S,[]⟩ (ss.map ck).flatten= .ok ⟨T,S++ss,[]⟩
 | [],S,_,_,_=>by simp[bA]
 |s::ss,S,nd,l,u=>by
  have h:s.n∉S.map fun x=>x.n:=fun m=>by
   rw[DQ,Dq] at nd;exact nd.2.2 _ m s.n (by simp) rfl
  have e:=rJ (T:=T) h (by simp at l;omega) (u s Dc).1 (u s Dc).2
  rw[Dd,List.flatten_cons,eX e];rw[show S++s::ss=(S++ [s])++ss by simp] at nd l⊢
  exact jF nd l fun x hx=>u x (D7 _ hx)
theorem nX {M:Md} (nd:(M.steps.map fun x=>x.n).Nodup) {i:Nat} (hi:i<M.steps.length):place M (hV M.steps i)=some i:=by
 unfold place;rw[EK,bP (D1 hi)];refine ⟨hi,by simp,fun j hj=>?_⟩
 have jl:j<M.steps.length:=by omega
 simp only[decide_eq_true_eq];intro e;have k1:(M.steps.map fun x=>x.n)[j]?=some M.steps[j].n:=by rw[DA,D1 jl];rfl
 have k2:(M.steps.map fun x=>x.n)[i]?=some M.steps[j].n:=by rw[DA,D1 hi,e];rfl
 have:=(List.getElem?_inj (by simpa using jl) nd).mp (k1.trans k2.symm)
 omega
theorem jG {T:List (Str×dh)} {S:List SV} (nd:(S.map fun x=>x.n).Nodup):∀{ks L:List ky},(L++ks).length<=24->(∀k∈ks,k.2.1<S.length/\k.2.2.1<S.length)->bA ⟨T,S,L⟩ (ks.map (dB S))= .ok ⟨T,S,L++ks⟩
 | [],L,_,_=>by simp[bA]
 |k::ks,L,l,h=>by
  obtain ⟨h1,h2⟩:=h k Dc;have e1:cY ⟨T,S,L⟩ (dB S k)= .ok ⟨T,S,L++ [k]⟩:=by
   have p1:=nX (M:=⟨T,S,L⟩) nd h1;have p2:=nX (M:=⟨T,S,L⟩) nd h2;simp only[dB,cY];dsimp only at p1 p2;rw[p1];dsimp only;rw[p2];dsimp only;rw[if_neg (by simp at l;omega)]
  simp only[Dd,bA,e1];rw[show L++k::ks=(L++ [k])++ks by simp] at l⊢
  exact jG nd l fun x hx=>h x (D7 _ hx)
theorem jH {α:Type} {xs:List α} {f:α->Str} (h:∀(i j:Nat) (x y:α),xs[i]?=some x->xs[j]?=some y->f x=f y->i=j):(xs.map f).Nodup:=by
 unfold List.Nodup;rw[List.pairwise_iff_getElem];intro i j hi hj ij e;rw[D4] at hi hj;rw[List.getElem_map,List.getElem_map] at e;have:=h i j _ _ (D1 hi) (D1 hj) e;omega
theorem jP.nd {zs:GO} (z:Zs zs) {us:List bN} (h:jP zs us):Av us:=⟨jH fun i j x y h1 h2 e=>by
 have k1:=(h.2 i x h1).1;have k2:=(h.2 j y h2).1;rw[e] at k1;have:=z.inj k1 k2;have:=aU h1;have:=aU h2;have:=h.1;omega,h.1⟩
theorem ut {zs:GO} {M:Md} (z:Zs zs) (h:gh zs 12 M):bA ⟨[],[],[]⟩ (cA M)= .ok M:=by
 have ndt:(M.takes.map fun x=>x.1).Nodup:=jH fun i j x y h1 h2 e=>by
  have k1:=(h.ts i x h1).1;have k2:=(h.ts j y h2).1;rw[e] at k1;have:=z.inj k1 k2;have:=aU h1;have:=aU h2;have:=h.t12;omega
 have nds:(M.steps.map fun x=>x.n).Nodup:=jH fun i j x y h1 h2 e=>by
  have k1:=(h.ss i x h1).nm;have k2:=(h.ss j y h2).nm;rw[e] at k1;have:=z.inj k1 k2;have:=aU h1;have:=aU h2;have:=h.sr;omega
 unfold cA;have e1:=jE (T:= []) (xs:=M.takes) ndt h.t12;have e2:=jF (T:=M.takes) (S:= []) (ss:=M.steps) nds h.sr fun s hs=>by
  obtain ⟨i,hi⟩:=DR.mp hs;have k:=h.ss i s hi;exact ⟨k.us.nd z,fun x hx=>(k.sec x hx).2.nd z⟩
 rw[Da,eX e1,Ec,eX e2,Ec];exact jG (L:= []) nds h.k24 fun k hk=>⟨(h.ks k hk).a,(h.ks k hk).b⟩
end Sw
namespace L2
open PySem PySem.Spec PyProof.Rows XH Sw So
theorem iR {X:Cx}:dH X (.builtin "sorted") (fun xs H Q=>∃l ks,xs= [.ref l]/\H l=some (.lst (ks.map V.str))/\ks.length<64/\
  ∀p ys,H p=none->ys.Perm ks->sortedS ys=true->Q (.ref p) (aO H p (.lst (ys.map V.str)))):=by
 intro pins s σ H xs us Q I r h;obtain ⟨l,ks,rfl,hl,l64,q⟩:=h;obtain ⟨u,rfl,ru⟩:=vals1 r;cases ru;obtain ⟨z,its,n,rv,hlen,hg⟩:=I.lstM hl;have SA:StrsAre its ks:=jk rv;have la:its.length=ks.length:=by rw[<-hlen,D4]
 refine Calls.call_function_entry kind_sorted plain_sorted entry_sorted (args_sorted1 _) ?_;unfold Builtin.«sorted»;refine wpAny_bind (m:=checkCount "sorted" 1 1 _) (wpAny_pure ?_);refine wpAny_bind (m4 hg (by rw[<-hlen];exact z) fun h' hlt hkp=>?_)
 refine wpAny_bind (wpAny_newList ?_ (by rw[<-hlen];exact z))
 have hoL:(h'.push (seqObj "list" its.toArray 0)).get? h'.objs.size=some (seqObj "list" its.toArray 0):=Heap.get?_push_size _ rfl;refine wpAny_bind (wpAny_holding (wpAny_call_entry slot_list_sort ⟨_,hoL,rfl⟩ entry_list_sort (list_sort_treeK strKind_oneLt hoL SA.keysOf (fun v₁ v₂ rest e=>keyKind_strs (by rw[<-e];exact SA)) (by rw[la];exact l64) fun st' hp hs=>⟨_,rfl,?_⟩) (args_list_sort _)))
 obtain ⟨ys,h1,h2,h3⟩:=sorted_out_str SA hp hs;have sl:s.heap.objs.size<=h'.objs.size:=Nat.le_of_lt hlt;refine wpAny_pure ⟨_,rfl,.ref h'.objs.size,_,I.laid (a:=h'.objs.size) (o:= .lst (ys.map V.str)) (h':=sortedHeap (h'.push (seqObj "list" its.toArray 0)) h'.objs.size its ((arrOf st').map (·.2))) (t':=s.toks) (fun b o eo=>?_) sl ?_,rfl,q _ ys (I.hok.fresh sl) h2 h3⟩
 ·have eo':=hkp b o eo;have bl:=Heap.lt_size eo';rw[sortedHeap_old (DW bl) (by rw[size_push'];exact Nat.lt_succ_of_lt bl)]
  exact Heap.get?_push_of_some _ eo'
 ·obtain ⟨e,he⟩:=sortedHeap_at (out:=(arrOf st').map (·.2)) hoL;refine ⟨by rw[D4,h2.length_eq];rw[D4] at z;exact z,((arrOf st').map (·.2)).toList,e,gY h1,?_⟩
  rw[Array.toArray_toList];exact he
end L2
namespace Sw
open PySem L2 XH Hm PySem.NumText
def Aw (M:Md):Prop:=∀k∈M.links,k.2.1<M.steps.length/\k.2.2.1<M.steps.length
theorem yd {S:List SV} {i:Nat} {s s':SV} (h:S[i]?=some s) (e:s'.n=s.n):(S.set i s').map (fun s=>s.n)=S.map fun s=>s.n:=by
 rw[List.map_set,e];refine List.ext_getElem? fun j=>?_
 rw[ES]
 split
 ·rename_i z;subst z
  split
  ·rw[DA,h]
   rfl
  ·rename_i z;rw[D4] at z;exact absurd (aU h) z
 ·rfl
theorem rK {S:List SV} {i:Nat} {s s':SV} (h:S[i]?=some s) (e:s'.n=s.n) (L:List ky):L.map (dB (S.set i s'))=L.map (dB S):=by
 refine EZ fun k _=>?_
 unfold dB hV;rw[yd h e]
theorem rL {S:List SV} {s:SV} {L:List ky} (h:∀k∈L,k.2.1<S.length/\k.2.2.1<S.length):L.map (dB (S++ [s]))=L.map (dB S):=by
 refine EZ fun k hk=>?_
 obtain ⟨h1,h2⟩:=h k hk;unfold dB hV;have e:∀i,i<S.length->((S++ [s]).map fun s=>s.n).getD i ("" :Str)=(S.map fun s=>s.n).getD i ("" :Str):=fun i hi=>by
  rw[DQ,E7,E7,Do (by simpa using hi)]
 rw[e _ h1,e _ h2]
theorem uw {S:List SV} {i:Nat} {s s':SV} {r:Rr} (h:S[i]?=some s) (p:(ck s').Perm (ck s++ [r])):((S.set i s').map ck).flatten.Perm ((S.map ck).flatten++ [r]):=by
 classical
 have il:=aU h;have e1:S=S.take i++s::S.drop (i+1):=by
  rw[D1 il] at h;rw[<-DS h,<-EY il,ER]
 have e2:S.set i s'=S.take i++s'::S.drop (i+1):=by rw[List.set_eq_take_append_cons_drop,if_pos il]
 rw[e2]
 conv=>rhs;rw[e1]
 rw[EL] at p⊢;intro a;have k:=p a;simp only[DQ,Dd,List.flatten_append,List.flatten_cons,ET] at k⊢;omega
theorem uy {M M':Md} {r:Rr} (b:Aw M) (e:cY M r= .ok M'):(cA M').Perm (cA M++ [r])/\Aw M':=by
 classical
 have SET:∀{i:Nat} {s s':SV},M.steps[i]?=some s->s'.n=s.n->(ck s').Perm (ck s++ [r])->(cA {M with steps:=M.steps.set i s'}).Perm (cA M++ [r])/\Aw {M with steps:=M.steps.set i s'}:=fun {i s s'} h en p=>by
  refine ⟨?_,fun k hk=>by simpa using b k hk⟩
  have f:=uw h p;unfold cA;dsimp only;rw[rK h en];rw[EL] at f⊢;intro a;have k:=f a;simp only[ET] at k⊢;omega
 cases r with
 |take g a=>
  obtain ⟨_,_,rfl⟩:=fA e;refine ⟨?_,b⟩;unfold cA;rw[EL];intro x;simp only[DQ,Dd,Du,ET,jD];omega
 |step w n lo hi f=>
  obtain ⟨_,_,rfl⟩:=fB e;refine ⟨?_,fun k hk=>?_⟩
  ·unfold cA;dsimp only;rw[rL b,EL];intro x;simp only[DQ,Dd,Du,List.flatten_append,List.flatten_cons,EW,ET,ck,jC,EF];omega
  ·have:=b k hk;simp;omega
 |sec n lo hi=>
  obtain ⟨i,s,⟨⟨s1,h1,h2⟩,_⟩,h3,h4,rfl⟩:=fS e;rw[h1] at h3;cases h3;refine SET h1 rfl ?_;unfold ck;rw[h4];dsimp only;simp only[jC,Du,EF,h2];exact .refl _
 |use o n u=>
  cases o with
  |false=>
   obtain ⟨i,s,⟨⟨s1,h1,h2⟩,_⟩,h3,_,_,rfl⟩:=fT e;rw[h1] at h3;cases h3;refine SET h1 rfl ?_;unfold ck;dsimp only;rw[EL,h2];intro x;simp only[DQ,Dd,Du,ET,List.count_cons];omega
  |true=>
   obtain ⟨i,s,lo,hi,us,⟨⟨s1,h1,h2⟩,_⟩,h3,h4,_,_,rfl⟩:=fU e;rw[h1] at h3;cases h3;refine SET h1 rfl ?_;unfold ck;rw[h4];dsimp only;rw[EL,h2];intro x;simp only[jC,DQ,Dd,Du,ET,List.count_cons];omega
 |link w a c t=>
  obtain ⟨i,j,⟨⟨s1,h1,h2⟩,_⟩,⟨⟨s2,h3,h4⟩,_⟩,_,rfl⟩:=fC e;refine ⟨?_,fun k hk=>?_⟩
  ·have el:dB M.steps (w,i,j,t)= .link w a c t:=by
    unfold dB;dsimp only;rw[bP h1,bP h3,h2,h4]
   unfold cA;dsimp only;rw[DQ,Dd,Du,el,<-Da]
  ·rcases DC.mp hk with hk|hk
   ·exact b k hk
   ·rw[D8.mp hk];exact ⟨aU h1,aU h3⟩
theorem rM {rs:List Rr} {M M':Md} (b:Aw M) (e:bA M rs= .ok M'):(cA M').Perm (cA M++rs)/\Aw M':=by
 induction rs generalizing M with
 |nil=>
  cases e;exact ⟨by simp,b⟩
 |cons r rs ih=>
  obtain ⟨M1,e1,e2⟩:=ip e;obtain ⟨p1,b1⟩:=uy b e1;obtain ⟨p2,b2⟩:=ih b1 e2;refine ⟨p2.trans ((p1.append_right rs).trans ?_),b2⟩;rw[Da];exact .refl _
theorem kW {rs:List Rr} {M:Md} (e:bA ⟨[],[],[]⟩ rs= .ok M):(cA M).Perm rs:=by
 have h:=(rM (M:=⟨[],[],[]⟩) (fun k hk=>by cases hk) e).1
 exact h
theorem ye {r:Rr} (h:eM r):eG r≠ "" :=fun e=>by
 have k:=lZ h;rw[e] at k;have:jR "" =none:=if_pos (by decide+kernel)
 rw[this] at k;cases k
theorem rN {rs:List Rr} {r:Rr} {M M':Md} (h:bA ⟨[],[],[]⟩ rs= .ok M) (e:cY M r= .ok M'):bA ⟨[],[],[]⟩ (rs++ [r])= .ok M':=by
 rw[eX h];simp only[bA,e]
theorem yf (u:bN):jp (qt u):=fun x hx=>by
 simp only[qt,D2,D6,or_false] at hx;rcases hx with rfl|rfl|rfl<;>trivial
theorem uz (a:dh):jp (vE a):=fun x hx=>by
 simp only[vE,D2,D6,or_false] at hx;rcases hx with rfl|rfl<;>trivial
theorem yg (k:ky):jp (rg k):=fun x hx=>by
 simp only[rg,D2,D6,or_false] at hx;rcases hx with rfl|rfl|rfl|rfl<;>trivial
section
variable {K:D3} {H:Hp}
theorem uA {vs ws:List V} {us:List bN} (h:A2 (eH qt An H) vs us) (k:A2 (eH qt An H) ws us):gG (rc K H 1) vs ws:=o9 (R:=eH qt) (fun v w x _ h k=>ql (yf x) h k) h k
theorem yh {vs ws:List V} {us:List ky} (h:A2 (eH rg An H) vs us) (k:A2 (eH rg An H) ws us):gG (rc K H 1) vs ws:=o9 (R:=eH rg) (fun v w x _ h k=>ql (yg x) h k) h k
theorem uB {vs ws:List V} {us:List (Str×dh)} (h:A2 (eK An H) vs us) (k:A2 (eK An H) ws us):gG (rc K H 2) vs ws:=o9 (R:=eK) (fun v w x _ h k=>by
 obtain ⟨t,b,rfl,_,_,e1,e2⟩:=h;obtain ⟨t',b',rfl,_,_,f1,f2⟩:=k;refine .inr ⟨t,t',_,_,rfl,rfl,.inl ⟨bX.of e1,bX.of f1⟩,⟨.inl ⟨rfl,trivial⟩,.inr ⟨b,b',_,_,rfl,rfl,.inl ⟨bX.of e2,bX.of f2⟩,jq (uz x.2)⟩,trivial⟩⟩) h k
end
def jI (cC cR cW:Addr):Sp:=fun vs H Q _=>∃(x:Addr) (k:Sk) (s:SV),vs= [.ref x,.ref k.a]/\xM cC cR cW H x s/\SL H k s/\uD s.w/\ny s.w s.fill/\∀H',aH H H'->Q (.bl true) H'
def qG (cC cR cW cRec:Addr):Sp:=fun vs H Q _=>∃(r:Addr) (n:Str) (p:Nat) (G:Hp) (m lt ls lk:Addr) (ks:List Sk) (M:Md),vs= [.ref r,.str n,vN p,.ref m]/\vG cC cR cW cRec H r n p M/\ML G H m lt ls lk ks M/\zq M/\∀H',aH H H'->Q (.bl true) H'
def rQ (w:Str):List V:= [.bl (decide (V.str w=V.str "cut")),.bl (decide (V.str w=V.str "rest")),.bl (decide (V.str w=V.str "warm"))]
theorem iq {a b:Str}:decide (V.str a=V.str b)=decide (a=b):=by
 by_cases c:a=b
 ·rw[decide_eq_true c,c,decide_eq_true rfl]
 ·rw[decide_eq_false c,decide_eq_false fun z=>c (V.str.inj z)]
theorem yi:rQ "cut" = [.bl true,.bl false,.bl false]:=by
 unfold rQ;rw[iq,iq,iq]
 rfl
theorem v7:rQ "rest" = [.bl false,.bl true,.bl false]:=by
 unfold rQ;rw[iq,iq,iq]
 rfl
theorem v8:rQ "warm" = [.bl false,.bl false,.bl true]:=by
 unfold rQ;rw[iq,iq,iq]
 rfl
theorem pJ (w:Str):∀z∈rQ w,zm z:=fun z hz=>by
 simp only[rQ,D2,D6,or_false] at hz;rcases hz with rfl|rfl|rfl<;>trivial
section
variable {G H H':Hp} {m lt ls lk:Addr} {ks:List Sk} {M:Md}
theorem ML.less (h:ML G H m lt ls lk ks M):aH G (Sw.less H (cy m lt ls lk ks)):=fun b o e=>by
 rw[fu fun hx=>?_]
 ·exact h.fr _ _ e
 ·have:=h.nw b hx;rw[e] at this;cases this
theorem ML.out (h:ML G H m lt ls lk ks M) {x:Addr} {zs:GO} {o:HO} (ex:H x=some (.lst (zs.map V.str))) (nx:G x=none) (nm:x∉cy m lt ls lk ks):ML G (aO H x o) m lt ls lk ks M:=by
 have q:Fq [x] H:=fun b hb o e=>by
  rw[D8.mp hb,ex] at e;cases e;refine ⟨_,rfl,fun i j z=>?_⟩
  cases zs with
  |nil=>cases z
  |cons a zs=>cases z
 have kp:=(Kp.refl [x] H).put (x:=x) (by simp) o
 have ne:∀{b:Addr},b∈cy m lt ls lk ks->b∉ [x]:=fun hb z=>nm (by rw[<-D8.mp z];exact hb)
 exact {h with
  fr:=eF h.fr nx _
  em:=kp _ _ h.em (ne (by simp[cy]))
  et:=kp.rtake q h.et (ne (by simp[cy]))
  es:=kp _ _ h.es (ne (by simp[cy]))
  ss:=fun i k s e1 e2=>kp.sl q (h.ss i k s e1 e2) fun b hb=>ne (lW (D5 e1) hb)
  ek:=kp.rtup q h.ek (ne (by simp[cy]))}
end
structure wH (h:Str) (rs:List Rr) (M:Md) (i:Nat):Prop where
 pt:bA ⟨[],[],[]⟩ rs= .ok M
 ok:∀r∈rs,eM r
 ln:rs.length<=i
theorem wH.skip {h:Str} {rs:List Rr} {M:Md} {i:Nat} (k:wH h rs M i):wH h rs M (i+1):=⟨k.pt,k.ok,by have:=k.ln;omega⟩
theorem wH.put {h:Str} {rs:List Rr} {M M':Md} {i:Nat} {r:Rr} (k:wH h rs M i) (o:eM r) (e:cY M r= .ok M'):wH h (rs++ [r]) M' (i+1):=⟨rN k.pt e,fun x hx=>by
 rcases DC.mp hx with hx|hx
 ·exact k.ok x hx
 ·rw[D8.mp hx];exact o,by have:=k.ln;simp;omega⟩
theorem yj {h:Str} {rs:List Rr} (hh:h.length<=400) (ok:∀r∈rs,eM r) (l:rs.length<=1000):((h::rs.map eG).map fun x=>x.length).sum+(h::rs.map eG).length<=1048576:=by
 have s:=gf (m:=400) (ws:=h::rs.map eG) fun w hw=>by
  rcases D2.mp hw with rfl|hw
  ·exact hh
  ·obtain ⟨r,hr,rfl⟩:=DI.mp hw;exact (l7 (ok r hr)).2
 simp only[DD,D4] at s⊢;omega
theorem rO {ns:List Int} (a b:Nat):∃cs:List Int,dN (ns.map V.int) (some (a:Int)) (some (b:Int))=cs.map V.int/\cs.length<=b-a:=by
 refine ⟨(ns.drop (HT.c6 ns.length 0 (some (a:Int)))).take (HT.c6 ns.length ns.length (some (b:Int))-HT.c6 ns.length 0 (some (a:Int))),?_,?_⟩
 ·unfold dN;rw[D4,<-List.map_drop,<-List.map_take]
 ·rw[DX];have h1:HT.c6 ns.length 0 (some (a:Int))=min a ns.length:=by unfold HT.c6;simp;omega
  have h2:HT.c6 ns.length ns.length (some (b:Int))=min b ns.length:=by unfold HT.c6;simp;omega
  rw[h1,h2,Ds];omega
theorem rP {h:Str} {rs:List Rr} {M:Md} (e:bA ⟨[],[],[]⟩ rs= .ok M):(h::(cA M).map eG).Perm (h::rs.map eG):=((kW e).map eG).cons h
end Sw
namespace Lk38
open PySem L2 Sw XH PyProof.Rows Hm
abbrev GT (x:Addr):Option V:=some (.ref x)
theorem bK {X:Cx} {N P:GO} {sp:Scope} (i:Nat) (sc:aC N P sp) {x:Str} {e:Expr} {te:TE} {pos pos':Pos} (he:PE X e te) (hi:X.N[i]?=some x:=by rfl) (hx:Loc X.env.scope x:=by exact Or.inl rfl) (hn:X.N=N:=by rfl) (hs:swapsWith e (some (.Name x pos')) pos.line X.env=pure false:=by rfl) (hf:X.fn x=true∨X.env.scope.names.lookup x=some .local:=by first|exact .inl rfl|exact .inr rfl|assumption):PS X (.Assign [.Name x pos'] e pos) (rY te (aR i)):=k7 (hn▸sc.nd) hi hx he hs hf
theorem eY {X:Cx} {N P:GO} {sp:Scope} (i:Nat) (sc:aC N P sp) {x:Str} {pos:Pos} (hi:X.N[i]?=some x:=by rfl) (hx:Loc X.env.scope x:=by exact Or.inl rfl) (hn:X.N=N:=by rfl) (hf:X.fn x=true∨X.env.scope.names.lookup x=some .local:=by first|exact .inl rfl|exact .inr rfl|assumption):PG X (.Name x pos) (aR i):=kZ (hn▸sc.nd) hi hx hf
theorem b5 {X:Cx} {k j:Nat} {x:Str} {ps:GO} {dvs:List V} {sp:Sp} {e:Expr} {es:List Expr} {t:TA} {p pos:Pos} (D:Dx X.prog X.w X.K X.mg X.base bi k x ps dvs sp) (hr:cx j X.A) (ha:PA X (e::es) t) (hk:k<=j:=by decide) (hg:Gl X x:=by rfl) (hdb:(x==("__debug__" :Str))=false:=by decide) (he:starEach (e::es) X.env=(false,eval e X.env)::starEach es X.env:=by rfl) (hpl:(backTo pos (starEach es X.env)).any (·.1)=false:=by rfl):PE X (.Call (.Name x p) (e::es) [] pos) (mD sp [] E0 t):=xi D hr hk hg ha hdb he hpl
def top (i:Nat):Stmt:=PySem.Challenge.pw_stovework_k38_whole_read_again.main.body.getD i (.Pass ⟨0,0,0,0⟩)
def clsAt (s:Stmt) (i:Nat):Stmt:=match s with| .ClassDef _ _ _ body _ _ _ _ _ _ _=>body.getD i (.Pass ⟨0,0,0,0⟩)|_=>s
abbrev Cj:Stmt:=top 12
abbrev Ck:Stmt:=top 14
abbrev Cl:Stmt:=top 15
abbrev BB:Stmt:=top 17
abbrev Cm:Stmt:=top 18
abbrev Cn:Stmt:=top 19
abbrev Co:Stmt:=top 21
abbrev Cp:Stmt:=top 24
abbrev Cq:Stmt:=top 23
abbrev Cr:Stmt:=top 22
abbrev yk:Stmt:=top 28
abbrev ym:Stmt:=top 30
abbrev yn:Stmt:=top 31
abbrev yo:Stmt:=top 36
abbrev yq:Stmt:=top 35
abbrev yr:Stmt:=top 34
abbrev yt:Stmt:=top 61
abbrev yu:Stmt:=top 60
abbrev yw:Stmt:=top 70
abbrev yx:Stmt:=top 71
abbrev yy:Stmt:=top 69
abbrev yz:Stmt:=top 63
abbrev yA:Stmt:=top 68
abbrev v9:Stmt:=clsAt (top 38) 0
abbrev wa:Stmt:=clsAt (top 40) 0
abbrev yB:Stmt:=clsAt (top 43) 0
abbrev yC:Stmt:=top 59
abbrev yD:Stmt:=top 65
abbrev yE:Stmt:=top 64
abbrev yF:Stmt:=top 66
abbrev yG:Stmt:=top 67
abbrev yH:Stmt:=top 62
abbrev yI:Stmt:=top 58
abbrev yJ:Stmt:=clsAt (top 39) 0
abbrev yK:Stmt:=clsAt (top 40) 1
abbrev yL:Stmt:=clsAt (top 41) 0
abbrev yM:Stmt:=top 45
abbrev yN:Stmt:=top 47
abbrev yO:Stmt:=top 46
abbrev yP:Stmt:=top 48
abbrev yQ:Stmt:=top 44
abbrev yR:Stmt:=top 73
abbrev yS:Stmt:=top 74
abbrev yT:Stmt:=top 75
abbrev yU:Stmt:=top 76
abbrev yV:Stmt:=top 77
abbrev yW:Stmt:=top 78
abbrev yX:Stmt:=top 79
abbrev yY:Stmt:=top 80
abbrev yZ:Stmt:=top 81
abbrev y3:Stmt:=top 82
abbrev y4:Stmt:=top 83
abbrev y6:Stmt:=top 84
abbrev y8:Stmt:=top 85
abbrev y9:Stmt:=top 86
abbrev zc:Stmt:=top 87
abbrev ze:Stmt:=top 88
abbrev zf:Stmt:=top 89
abbrev zg:Stmt:=top 90
abbrev zh:Stmt:=top 91
abbrev ma:Stmt:=top 92
def qH:List (Str×List V):= [("dish",[.str "name",.str "plates"]),("take",[.str "name",.str "amount"]),("cut",[.str "name",.str "length",.str "length"]),("rest",[.str "name",.str "length",.str "length"]),("warm",[.str "name",.str "length",.str "length",.str "amount"]),("or",[.str "name",.str "length",.str "length"]),("with",[.str "name",.str "name",.str "many",.str "heat"]),("orwith",[.str "name",.str "name",.str "many",.str "heat"]),("after",[.str "name",.str "name"]),("within",[.str "name",.str "name",.str "turns"]),("apart",[.str "name",.str "name"])]
def nY:List (Str×List V):= [("plates",[.int 1,.int 1000]),("length",[.int 1,.int 100000]),("many",[.int 1,.int 8]),("heat",[.int 0,.int 1000]),("turns",[.int 0,.int 100000]),("course",[.int 1,.int 8]),("parts",[.int 0,.int 400]),("low",[.int 0,.int 1000000000000000])]
structure Bn (w:World) (K:D3) (mg:GL) (Fp Ef Fs Er Ei Db Ee Ek Fe Fk Fd on Fw FF FO FM FL FK:Addr):Prop where
 Gn:∃t,mg "LETTERS" =some (.str "abcdefghijklmnopqrstuvwxyz" t)
 FS:∃t,mg "MOST_LETTERS" =some (.int 12 t)
 Go:∃t,mg "FIGURES" =some (.str "0123456789" t)
 FT:∃t,mg "MOST_FIGURES" =some (.int 30 t)
 F7:∃t,mg "MOST_TAKES" =some (.int 12 t)
 F8:∃t,mg "MOST_STEPS" =some (.int 12 t)
 Ge:∃t,mg "MOST_USES" =some (.int 12 t)
 F9:∃t,mg "MOST_LINKS" =some (.int 24 t)
 GD:mg "abs" =none
 Gy:mg "bool" =none
 FP:mg "enumerate" =none
 Gx:mg "int" =none
 Eg:mg "isinstance" =none
 Ft:mg "len" =none
 Fy:mg "list" =none
 FQ:mg "range" =none
 Gg:mg "sorted" =none
 Es:mg "str" =none
 Gk:mg "tuple" =none
 GG:mg "zip" =none
 Gw:mg "BOUNDS" =some (.ref Fp)
 GC:mg "Cut" =some (.ref Ef)
 Gj:mg "FORMS" =some (.ref Fs)
 F0:mg "LINK_WORDS" =some (.ref Er)
 FG:mg "NoAmount" =some (.ref Ei)
 Gc:mg "Recipe" =some (.ref Db)
 Gv:mg "Rest" =some (.ref Ee)
 FH:mg "STEP_WORDS" =some (.ref Ek)
 Gu:mg "Step" =some (.ref Fe)
 GB:mg "StoveError" =some (.ref Fk)
 Gb:mg "USE_WORDS" =some (.ref Fd)
 Gi:mg "Warm" =some (.ref on)
 FC:nj K Ek ["cut","rest","warm"]
 FZ:nj K Fd ["with","orwith"]
 FU:nj K Er ["after","within","apart"]
 Gf:nH w K Fs qH
 Gp:nH w K Fp nY
 FR:PySem.W.excIn K Ei B0 "ValueError.__new__" =true
 GF:XI K Ei
 Gh:XT K Ei
 FB:PySem.W.subIn K (.ref Ei) (.ref Ei)=some true
 Ga:DJ K (.ref Ei) (.ref Fk)=some true
 GJ:jL K Fe
 GI:Mk K Fe Fw
 Fo:jL K Ef
 GE:Mk K Ef Fw
 Gs:mC K Ef "word" FM
 Fl:jL K Ee
 GA:Mk K Ee Fw
 Gq:mC K Ee "word" FK
 Fj:jL K on
 Gz:Mk K on FF
 Gr:mC K on "word" FL
 Eh:jL K Db
 Gm:Mk K Db FO
 Fh:aF K Ef "name"
 Fc:aF K Ef "least"
 Fi:aF K Ef "most"
 Fg:aF K Ef "uses"
 Ep:aF K Ef "second"
 Fa:aF K Ee "name"
 Eo:aF K Ee "least"
 Fb:aF K Ee "most"
 Ez:aF K Ee "uses"
 Em:aF K Ee "second"
 Ex:aF K on "name"
 En:aF K on "least"
 Ey:aF K on "most"
 Ew:aF K on "uses"
 El:aF K on "second"
 Fx:aF K on "fill"
 Fu:aF K Db "name"
 Fn:aF K Db "plates"
 Ev:aF K Db "takes"
 Ej:aF K Db "steps"
 Ff:aF K Db "links"
 FN:xv K Fe "__init__" Fw
 GH:uC K Fe
 Fm:uC K Ef
 Eu:uC K Ee
 Et:uC K on
 FA:uC K Db
 Gd:DJ K (.ref Ef) (.ref Ef)=some true
 F6:DJ K (.ref Ef) (.ref Ee)=some false
 FJ:DJ K (.ref Ef) (.ref on)=some false
 F5:DJ K (.ref Ef) (.ref Fe)=some true
 F4:DJ K (.ref Ee) (.ref Ef)=some false
 FY:DJ K (.ref Ee) (.ref Ee)=some true
 FE:DJ K (.ref Ee) (.ref on)=some false
 FX:DJ K (.ref Ee) (.ref Fe)=some true
 F3:DJ K (.ref on) (.ref Ef)=some false
 FW:DJ K (.ref on) (.ref Ee)=some false
 FD:DJ K (.ref on) (.ref on)=some true
 FV:DJ K (.ref on) (.ref Fe)=some true
 FI:DJ K (.ref Db) (.ref Db)=some true
section
variable {P:Program} {w:World} {K:D3} {mg:GL} {base:Heap} {f:Addr} {fd:FuncData} {Fp Ef Fs Er Ei Db Ee Ek Fe Fk Fd on Fw FF FO FM FL FK:Addr}
variable (B:Bn w K mg Fp Ef Fs Er Ei Db Ee Ek Fe Fk Fd on Fw FF FO FM FL FK)
include B
theorem Cs {dV:Value} (F:bv K "read_figures" "read_figures" Cj dV f fd):bh P w K mg base bi 1 f fd ["word"] oX:=by
 have sc:aC ["word","sign"] ["word"] (aw Cj):=df (by decide+kernel)
 refine F.ok sc (fun vs H Q E h=>?_) (fun cdv A outer s H vs Q E hr h=>?_)
 ·obtain ⟨_,rfl,_⟩:=h
  rfl
 obtain ⟨z,rfl,hz,q0,q1⟩:=h;have hz':z.length<=sizeLine:=DU hz (by decide)
 have hl:=cX z;refine ⟨_,(ac (aJ (PW.pt (bU (av ja (aI dR rfl B.Ft boot_len (@aa _ _ _ _ _ (pv 0) ae rfl)) ad (aA _)) (bM (av mz (aI dR rfl B.Ft boot_len (@aa _ _ _ _ _ (pv 0) ae rfl)) (eS rfl B.FT) (aA _))))) (ah (ay bo)) az) (ac (aJ (PW.pt (n9 (av bC (aj oG (pv 0) ad (fun _ _=>rfl)) ax (aA _)) (kY (av eP (pv 0) ax (aA _))))) (ah (ay bo)) az) (ac (cF PassesOwn.never rfl (sU (pv 0)) (eY 1 sc) (ah (aJ (av dQ (pv 1) (mV rfl B.Go) (by with_unfolding_all rfl)) (ah (ay bo)) az))) (ah (ay (aK lK rfl B.Gx boot_int (@aa _ _ _ _ _ (pv 0) ae rfl))))))),?_⟩
 try dsimp only[cxK]
 refine ⟨_,rfl,z,rfl,hz',_,_,rfl,rfl,_,rfl,d2 (fun c=>?_) (fun c1=>⟨_,rfl,z,rfl,hz',_,_,rfl,rfl,_,rfl,d2 (fun c=>?_) (fun c2=>?_)⟩)⟩
 ·exact q0 (fY fun f=>by have:=f.1;omega)
 ·exact q0 (fY fun f=>by have:=f.2.1;omega)
 obtain ⟨c0,r0,el⟩:∃c r,sL z=c::r:=by
  cases e:sL z with
  |nil=>rw[e] at hl;simp at hl;omega
  |cons c r=>exact ⟨c,r,rfl⟩
 try dsimp only[aR,aS]
 refine cut (fun σ H'=>σ= [some (.str z),none]/\H'=H/\(c0≠48∨sL z= [48])) (fun N hN=>?_) ?_
 ·refine ⟨_,rfl,z,0,c0,rfl,rfl,hz',(by show ir (sL z) ((0:Nat):Int)=some c0;exact aD (by rw[el];rfl)),rfl,_,rfl,xA (fun e1=>⟨_,rfl,rfl,_,rfl,tj (fun e2=>?_) (fun e2=>?_)⟩) (fun e1=>?_)⟩
  ·refine q0 (fY fun f=>?_)
   have c48:c0=48:=by
    have:=congrArg sL (e1.trans iY);rw[oV,bx,bx] at this;cases this
    rfl
   rcases f.2.2.1 with h|h
   ·exact h (by rw[el,c48];rfl)
   ·exact e2 (fM (by rw[h,iY,bx]))
  ·exact hN _ _ ⟨rfl,rfl,.inr (by rw[e2,iY,bx])⟩
  ·refine hN _ _ ⟨rfl,rfl,.inl fun e=>e1 ?_⟩
   rw[e,iY]
   rfl
 rintro σ H' ⟨rfl,rfl,hd⟩;refine ⟨_,rfl,z,rfl,pY (fun i σ H2=>H2=H'/\(∃o,σ= [some (.str z),o])/\∀j c,j<i->z.cps[j]?=some c->48<=c/\c<=57) ⟨rfl,⟨_,rfl⟩,fun j c h=>absurd h (by omega)⟩ (fun i c σ H2 hc hP=>?_) (fun σ H2 hP=>?_)⟩
 ·obtain ⟨rfl,⟨o,rfl⟩,hP⟩:=hP;refine ⟨_,rfl,_,_,rfl,rfl,_,rfl,By (fun e=>?_) (fun e=>?_)⟩
  ·have e':=(qd c).symm.trans e;refine q0 (fY fun f=>?_)
   have:=f.2.2.2 c (D5 (show (sL z)[i]?=some c by rw[<-hc];exact Array.getElem?_toList))
   rw[decide_eq_true this] at e';cases e'
  ·have e':=(qd c).symm.trans e;refine ⟨rfl,⟨_,rfl⟩,fun j c' hj hc'=>?_⟩
   rcases Nat.lt_succ_iff_lt_or_eq.mp hj with k|k
   ·exact hP j c' k hc'
   ·subst k;rw[hc] at hc';cases hc';exact of_decide_eq_true e'
 ·obtain ⟨rfl,⟨o,rfl⟩,hP⟩:=hP;have f:vn (sL z):=by
   refine ⟨by omega,by omega,?_,fun c hc=>?_⟩
   ·rcases hd with h|h
    ·exact .inl (by rw[el];simp;exact h)
    ·exact .inr h
   ·obtain ⟨i,hi⟩:=DR.mp hc;have hi':z.cps[i]?=some c:=by rw[<-hi];exact Array.getElem?_toList.symm
    exact hP i c (by have:=(EU.mp hi').1;exact this) hi'
  exact ⟨_,rfl,z,_,rfl,int_text f,by have:=f.2.1;omega,q1 _ (oS f)⟩
theorem Ct {dV:Value} (F:bv K "is_whole" "is_whole" Ck dV f fd):bh P w K mg base bi 1 f fd ["thing"] gP:=by
 have sc:aC ["thing"] ["thing"] (aw Ck):=df (by decide+kernel)
 refine F.ok sc (fun vs H Q E h=>?_) (fun cdv A outer s H vs Q E hr h=>?_)
 ·obtain ⟨_,rfl,_⟩:=h
  rfl
 obtain ⟨v,rfl,q⟩:=h;refine ⟨_,(ah (ay (oh (aI gO rfl B.Eg boot_isinstance (@aa _ _ _ _ _ (pv 0) (@aa _ _ _ _ _ (b6 (v:= .ty "int") rfl B.Gx boot_int rfl) ae rfl) rfl)) (og (rX (aI gO rfl B.Eg boot_isinstance (@aa _ _ _ _ _ (pv 0) (@aa _ _ _ _ _ (b6 (v:= .ty "bool") rfl B.Gy boot_bool rfl) ae rfl) rfl))))))),?_⟩;try dsimp only[cxK]
 refine ⟨_,rfl,_,_,_,rfl,.ii v,_,rfl,lq ⟨_,rfl,_,_,_,rfl,.ib v,_,rfl,q⟩⟩
theorem Cu {dV:Value} (F:bv K "divisor" "divisor" Cl dV f fd):bh P w K mg base bi 1 f fd ["one","other"] wg:=by
 have sc:aC ["one","other","greater","lesser","rest"] ["one","other"] (aw Cl):=df (by decide+kernel)
 refine F.ok sc (fun vs H Q E h=>?_) (fun cdv A outer s H vs Q E hr h=>?_)
 ·obtain ⟨_,_,rfl,_⟩:=h
  rfl
 obtain ⟨a,b,rfl,q⟩:=h;refine ⟨_,(ac (bK 2 sc (aI mB rfl B.GD boot_abs (@aa _ _ _ _ _ (pv 0) ae rfl))) (ac (bK 3 sc (aI mB rfl B.GD boot_abs (@aa _ _ _ _ _ (pv 1) ae rfl))) (ac (mr PassesOwn.never (av eP (pv 3) ad (aA _)) (ac (bK 4 sc (ar aN (pv 2) (pv 3))) (ac (bK 2 sc (pv 3)) (ah (bK 3 sc (pv 4)))))) (ah (ay (pv 2)))))),?_⟩;try dsimp only[cxK]
 refine ⟨_,rfl,_,rfl,_,rfl,_,rfl,?_⟩;refine mw (fun σ H'=>H'=H/\∃(g l:Int) (r:Option V),σ= [some (.int a),some (.int b),some (.int g),some (.int l),r]/\0<=g/\0<=l/\bB g l=bB a b)
  (fun (σ:L2.St) (_:Hp)=>match σ[3]? with|some (some (V.int l))=>l.toNat|_=>0) ⟨rfl,_,_,_,rfl,pU a,pU b,sB a b⟩ ?_ (fun σ H Q Q' m ⟨v,e,s,k,hk,h2⟩=>⟨v,e,s,k,hk,m _ _ h2⟩)
 rintro σ H' ⟨rfl,g,l,r,rfl,g0,l0,inv⟩;refine ⟨_,rfl,rfl,_,rfl,CZ (fun c=>?_) (fun c=>?_)⟩
 ·have lp:0<l:=by omega
  refine ⟨_,rfl,_,rfl,_,_,rfl,rfl,c,_,rfl,_,rfl,⟨rfl,l,g.fmod l,_,rfl,l0,DP g lp,?_⟩,?_⟩
  ·rw[j6 lp];exact inv
  ·have h1:=Df g lp;have h2:=DP g lp;show (g.fmod l).toNat<l.toNat;omega
 ·subst c;rw[j7 g0] at inv;rw[<-inv] at q;exact ⟨_,rfl,q⟩
theorem Cv {dV:Value} (F:bv K "fraction" "fraction" BB dV f fd) (DZ1:Dx P w K mg base bi 1 "is_whole" ["thing"] [] gP) (DZ2:Dx P w K mg base bi 1 "divisor" ["one","other"] [] wg):bh P w K mg base bi 2 f fd ["top","bottom"] uZ:=by
 have sc:aC ["top","bottom","common"] ["top","bottom"] (aw BB):=df (by decide+kernel)
 refine F.ok sc (fun vs H Q E h=>?_) (fun cdv A outer s H vs Q E hr h=>?_)
 ·obtain ⟨_,_,rfl,_⟩:=h
  rfl
 obtain ⟨a,b,rfl,b0,hb,q⟩:=h;refine ⟨_,(ac (aJ (PW.pt (bU (bW (bS (b5 DZ1 hr (@aa _ _ _ _ _ (pv 0) ae rfl)))) (bM (bW (bS (b5 DZ1 hr (@aa _ _ _ _ _ (pv 1) ae rfl))))))) (ah cM) az) (ac (aJ (av bC (pv 1) ad (aA _)) (ah cM) az) (ac (bK 2 sc (b5 DZ2 hr (@aa _ _ _ _ _ (pv 0) (@aa _ _ _ _ _ (pv 1) ae rfl) rfl))) (ac (aJ (av ja (pv 1) ad (aA _)) (ah (bK 2 sc (wc r8 (pv 2)))) az) (ah (ay (@cH _ _ _ _ _ (@aa _ _ _ _ _ (ar bR (pv 0) (pv 2)) (@aa _ _ _ _ _ (ar bR (pv 1) (pv 2)) ae rfl) rfl)))))))),?_⟩;try dsimp only[cxK]
 have c0:=sD (a:=a) b0;have cb:=wY (a:=a) b0 hb;have f:=zP (a:=a) b0;refine ⟨_,rfl,_,rfl,true,rfl,cq ⟨_,rfl,_,rfl,true,rfl,cq ?_⟩⟩;refine ⟨_,rfl,rfl,_,rfl,C0 b0 ?_⟩;refine ⟨_,rfl,_,rfl,_,_,rfl,?_⟩;refine ⟨_,rfl,_,_,rfl,rfl,_,rfl,d2 (fun c=>?_) (fun c=>?_)⟩
 ·have e:j8 a b= -bB a b:=if_pos c;rw[e] at c0 cb f;exact ⟨_,rfl,_,rfl,_,rfl,_,rfl,_,_,rfl,rfl,⟨c0,cb.div c0⟩,_,rfl,_,rfl,_,_,rfl,rfl,⟨c0,cb.div c0⟩,by show 2<=sizeLine;decide,fun t ht=>q _ _ f t _ (aq ht _) af⟩
 ·have e:j8 a b=bB a b:=if_neg c;rw[e] at c0 cb f;exact ⟨_,rfl,_,rfl,_,_,rfl,rfl,⟨c0,cb.div c0⟩,_,rfl,_,rfl,_,_,rfl,rfl,⟨c0,cb.div c0⟩,by show 2<=sizeLine;decide,fun t ht=>q _ _ f t _ (aq ht _) af⟩
theorem Cw {dV:Value} (F:bv K "plus" "plus" Cm dV f fd) (DZ3:Dx P w K mg base bi 2 "fraction" ["top","bottom"] [.int 1] uZ):bh P w K mg base bi 3 f fd ["one","other"] (sG K):=by
 have sc:aC ["one","other"] ["one","other"] (aw Cm):=df (by decide+kernel)
 refine F.ok sc (fun vs H Q E h=>?_) (fun cdv A outer s H vs Q E hr h=>?_)
 ·obtain ⟨_,_,_,_,_,_,rfl,_⟩:=h
  rfl
 obtain ⟨t,t',p,q,p',q',rfl,h1,h2,qq⟩:=h;refine ⟨_,(ah (ay (b5 DZ3 hr (@aa _ _ _ _ _ (ar bY (ar dn (aj aY (pv 0) ad (fun _ _=>rfl)) (aj aY (pv 1) ad (fun _ _=>rfl))) (ar dn (aj aY (pv 1) ad (fun _ _=>rfl)) (aj aY (pv 0) ad (fun _ _=>rfl)))) (@aa _ _ _ _ _ (ar dn (aj aY (pv 0) ad (fun _ _=>rfl)) (aj aY (pv 1) ad (fun _ _=>rfl))) ae rfl) rfl)))),?_⟩
 try dsimp only[cxK]
 exact ⟨_,rfl,_,_,_,_,rfl,rfl,h1.at_,rfl,_,rfl,_,_,_,_,rfl,rfl,h2.at_,rfl,_,_,rfl,rfl,h1.bp.ok h2.bq,_,rfl,_,_,_,_,rfl,rfl,h2.at_,rfl,_,rfl,_,_,_,_,rfl,rfl,h1.at_,rfl,_,_,rfl,rfl,h2.bp.ok h1.bq,_,_,rfl,rfl,_,rfl,_,_,_,_,rfl,rfl,h1.at_,rfl,_,rfl,_,_,_,_,rfl,rfl,h2.at_,rfl,_,_,rfl,rfl,h1.bq.ok h2.bq,_,_,rfl,sH h1.pos h2.pos,(h1.bq.mul h2.bq).mono (by decide),qq⟩
theorem Cy {dV:Value} (F:bv K "round_down" "round_down" Cn dV f fd):bh P w K mg base bi 1 f fd ["one"] (sF K):=by
 have sc:aC ["one"] ["one"] (aw Cn):=df (by decide+kernel)
 refine F.ok sc (fun vs H Q E h=>?_) (fun cdv A outer s H vs Q E hr h=>?_)
 ·obtain ⟨_,_,_,rfl,_⟩:=h
  rfl
 obtain ⟨t,p,q,rfl,h1,qq⟩:=h;refine ⟨_,(ah (ay (ar bR (aj aY (pv 0) ad (fun _ _=>rfl)) (aj aY (pv 0) ad (fun _ _=>rfl))))),?_⟩
 try dsimp only[cxK]
 have q0:q≠0:=by have:=h1.pos;omega
 exact ⟨_,rfl,_,_,_,_,rfl,rfl,h1.at_,rfl,_,rfl,_,_,_,_,rfl,rfl,h1.at_,rfl,_,_,rfl,rfl,⟨q0,h1.bq.div q0⟩,qq⟩
theorem Cz {dV:Value} (F:bv K "amount_text" "amount_text" Co dV f fd) (DZ5:Dx P w K mg base bi 1 "round_down" ["one"] [] (sF K)):bh P w K mg base bi 2 f fd ["amount"] (qf K):=by
 have sc:aC ["amount","whole","bottom","top"] ["amount"] (aw Co):=df (by decide+kernel)
 refine F.ok sc (fun vs H Q E h=>?_) (fun cdv A outer s H vs Q E hr h=>?_)
 ·obtain ⟨_,_,_,rfl,_⟩:=h
  rfl
 obtain ⟨t,p,q,rfl,h1,qq⟩:=h;refine ⟨_,(ac (bK 1 sc (b5 DZ5 hr (@aa _ _ _ _ _ (pv 0) ae rfl))) (ac (bK 2 sc (aj aY (pv 0) ad (fun _ _=>rfl))) (ac (bK 3 sc (ar ix (aj aY (pv 0) ad (fun _ _=>rfl)) (ar dn (pv 1) (pv 2)))) (ac (aJ (av bC (pv 3) ad (aA _)) (ah (ay (aK aG rfl B.Es boot_str (@aa _ _ _ _ _ (pv 1) ae rfl)))) az) (ac (aJ (av bC (pv 1) ad (aA _)) (ah (ay (lJ (dD (iE (pv 3)) (dD ax (dD (iE (pv 2)) oU)))))) az) (ah (ay (lJ (dD (iE (pv 1)) (dD ax (dD (iE (pv 3)) (dD ax (dD (iE (pv 2)) oU))))))))))))),?_⟩
 try dsimp only[cxK]
 have q0:q≠0:=by have:=h1.pos;omega
 have bp:=Ac h1.bp;have bq:=Ac h1.bq;have lw:p/q<2^1900:=Dt (Nat.div_le_self p q) bp;have lt:p % q<2^1900:=Dt (Nat.mod_le p q) bp;refine ⟨_,rfl,t,p,q,rfl,h1.mono (by decide),?_⟩
 rw[jh];refine ⟨_,rfl,_,_,_,_,rfl,rfl,h1.at_,rfl,?_⟩;refine ⟨_,rfl,_,_,_,_,rfl,rfl,h1.at_,rfl,_,rfl,_,rfl,_,_,rfl,rfl,(wu lw).ok h1.bq,_,_,rfl,rfl,?_⟩;dsimp only[aR];rw[vp];have dw:=cg lw;have dt:=cg lt;have dq:=cg bq;have s6:(600:Nat)*3+10<=sizeLine:=by decide
 refine ⟨_,rfl,rfl,_,rfl,j9 (fun c=>?_) (fun c=>?_)⟩
 ·refine ⟨_,rfl,_,rfl,lg lw,?_⟩;rw[gX];unfold cO at qq;rw[if_pos (by omega)] at qq
  exact qq
 refine ⟨_,rfl,rfl,_,rfl,j9 (fun c2=>?_) (fun c2=>?_)⟩
 ·refine ⟨_,rfl,.inl ⟨_,rfl,lg lt,_,rfl,?_,_,rfl,?_,_,rfl,.inl ⟨_,rfl,lg bq,_,rfl,?_,?_,?_⟩⟩⟩
  all_goals simp only[gX,cP,mW,bV,b8,Ec,DB,DD,List.length_nil]
  ·omega
  ·omega
  ·omega
  ·omega
  ·unfold cO at qq;rw[if_neg (by omega),if_pos (by omega)] at qq
   simpa using qq
 ·refine ⟨_,rfl,.inl ⟨_,rfl,lg lw,_,rfl,?_,_,rfl,?_,_,rfl,.inl ⟨_,rfl,lg lt,_,rfl,?_,_,rfl,?_,_,rfl,.inl ⟨_,rfl,lg bq,_,rfl,?_,?_,?_⟩⟩⟩⟩
  all_goals simp only[gX,cP,fh,mW,bV,b8,Ec,DB,DD,List.length_nil]
  ·omega
  ·omega
  ·omega
  ·omega
  ·omega
  ·omega
  ·unfold cO at qq;rw[if_neg (by omega),if_neg (by omega)] at qq
   simpa using qq
theorem CA {dV:Value} (F:bv K "loosely_read_term" "loosely_read_term" Cp dV f fd) (DZ0:Dx P w K mg base bi 1 "read_figures" ["word"] [] oX) (DZ3:Dx P w K mg base bi 2 "fraction" ["top","bottom"] [.int 1] uZ):bh P w K mg base bi 3 f fd ["text"] sY:=by
 have sc:aC ["text","halves","top","bottom"] ["text"] (aw Cp):=df (by decide+kernel)
 refine F.ok sc (fun vs H Q E h=>?_) (fun cdv A outer s H vs Q E hr h=>?_)
 ·obtain ⟨_,rfl,_⟩:=h
  rfl
 obtain ⟨z,rfl,hz,q0,q1⟩:=h;refine ⟨_,(ac (aJ (av dQ ax (pv 0) (by with_unfolding_all rfl)) (ah (bK 0 sc (lJ (dD (iE (pv 0)) (dD ax oU))))) az) (ac (bK 1 sc (bO Dp PySem.F.slot_str_partition PySem.F.type_str_partition gW (pv 0) (@aa _ _ _ _ _ ax ae rfl))) (ac (bK 2 sc (b5 DZ0 hr (@aa _ _ _ _ _ (aj aY (pv 1) ad (fun _ _=>rfl)) ae rfl))) (ac (bK 3 sc (b5 DZ0 hr (@aa _ _ _ _ _ (aj aY (pv 1) ad (fun _ _=>rfl)) ae rfl))) (ac (aJ (PW.pt (bU (av cG (pv 2) bo (aA _)) (bU (av cG (pv 3) bo (aA _)) (bM (av bC (pv 3) ad (aA _)))))) (ah (ay bo)) az) (ah (ay (b5 DZ3 hr (@aa _ _ _ _ _ (pv 2) (@aa _ _ _ _ _ (pv 3) ae rfl) rfl))))))))),?_⟩
 try dsimp only[cxK]
 have lz:=cX z;refine cut (fun σ H'=>H'=H/\∃z':Str,σ= [some (.str z'),none,none,none]/\z'.length<=900010/\47∈sL z'/\c7 (sL z)=cB (cr 47 (sL z')).1 (cr 47 (sL z')).2) (fun N hN=>?_) ?_
 ·refine ⟨_,rfl,_,_,rfl,rfl,_,rfl,By (fun e=>?_) (fun e=>?_)⟩
  ·rw[cP,iF] at e;have e':=of_decide_eq_false e;have e1:Str.ofString "/1" =bG [47,49]:=by decide
   refine ⟨_,rfl,.inr ⟨z,rfl,DU hz (by decide),_,rfl,?_,_,rfl,?_,?_,?_⟩⟩
   all_goals simp only[e1,Str.empty_append]
   ·exact DU hz (by decide)
   ·rw[<-cX,bQ,bx,DB];refine DU (m:=900010) ?_ (by decide)
    simp;omega
   ·rw[<-cX,bQ,bx,DB];refine DU (m:=900010) ?_ (by decide)
    simp;omega
   ·refine hN _ _ ⟨rfl,_,rfl,?_,?_,?_⟩
    ·rw[<-cX,bQ,bx,DB];simp;omega
    ·rw[bQ,bx];simp
    ·rw[bQ,bx];have c:=dU (c:=47) (a:=sL z) (b:= [49]) e';rw[c];exact if_neg e'
  ·rw[cP,iF] at e;have e':=of_decide_eq_true e;refine hN _ _ ⟨rfl,z,rfl,by omega,e',?_⟩
   exact if_pos e'
 rintro σ H' ⟨rfl,z',rfl,hz',hm,et⟩;rw[et] at q0 q1;obtain ⟨ec,_⟩:=qa hm;have lz':=cX z';have lc:=congrArg List.length ec;rw[DB,DD] at lc;refine ⟨_,rfl,rfl,z',_,rfl,rfl,(by rw[cP,b8];decide),DU hz' (by decide),fun t1 n1=>?_⟩
 rw[cP,mX,if_pos hm];have g1:=aq n1 (.tup [.str (bG (cr 47 (sL z')).1),.str (bG [47]),.str (bG (cr 47 (sL z')).2)]);generalize (cr 47 (sL z')).1=a at*;generalize (cr 47 (sL z')).2=b at*;cases ea:de a with
 |none=>
  have en:cB a b=none:=by unfold cB;rw[ea]
  refine ⟨_,rfl,_,_,_,_,rfl,rfl,bX.of af,rfl,_,rfl,by rw[b8];omega,fun _=>?_,(fun n h=>by rw[bx,ea] at h;cases h)⟩
  cases eb:de b with
  |none=>
   refine ⟨_,rfl,_,_,_,_,rfl,rfl,bX.of af,rfl,_,rfl,by rw[b8];omega,fun _=>?_,(fun n h=>by rw[bx,eb] at h;cases h)⟩
   exact ⟨_,rfl,rfl,_,rfl,dT rfl (q0 en _ g1)⟩
  |some m=>
   refine ⟨_,rfl,_,_,_,_,rfl,rfl,bX.of af,rfl,_,rfl,by rw[b8];omega,(fun h=>by rw[bx,eb] at h;cases h),fun n h=>?_⟩
   exact ⟨_,rfl,rfl,_,rfl,dT rfl (q0 en _ g1)⟩
 |some n=>
  refine ⟨_,rfl,_,_,_,_,rfl,rfl,bX.of af,rfl,_,rfl,by rw[b8];omega,(fun h=>by rw[bx,ea] at h;cases h),fun n' h=>?_⟩
  rw[bx,ea] at h;cases h;cases eb:de b with
  |none=>
   have en:cB a b=none:=by unfold cB;rw[ea,eb]
   refine ⟨_,rfl,_,_,_,_,rfl,rfl,bX.of af,rfl,_,rfl,by rw[b8];omega,fun _=>?_,(fun n h=>by rw[bx,eb] at h;cases h)⟩
   exact ⟨_,rfl,rfl,_,rfl,dF (fun z=>nomatch z) ⟨_,rfl,rfl,_,rfl,dT rfl (q0 en _ g1)⟩⟩
  |some m=>
   refine ⟨_,rfl,_,_,_,_,rfl,rfl,bX.of af,rfl,_,rfl,by rw[b8];omega,(fun h=>by rw[bx,eb] at h;cases h),fun m' h=>?_⟩
   rw[bx,eb] at h;cases h;refine ⟨_,rfl,rfl,_,rfl,dF (fun z=>nomatch z) ⟨_,rfl,rfl,_,rfl,dF (fun z=>nomatch z) ⟨_,rfl,rfl,_,rfl,j9 (fun c=>?_) (fun c=>?_)⟩⟩⟩
   ·exact q0 (by unfold cB;rw[ea,eb];simp only;rw[if_pos (by omega)]) _ g1
   ·have m0:m≠0:=fun z=>c (by rw[z];rfl)
    have ep:cB a b=some (n,m):=by unfold cB;rw[ea,eb];simp only;rw[if_neg m0]
    refine ⟨_,rfl,_,rfl,_,_,rfl,c,(f7 (iC eb)).mono (by decide),fun p q f t2 H2 g2 e2=>?_⟩
    exact q1 n m p q ep m0 (iC ea) (iC eb) f t2 H2 (g1.trans g2) e2
theorem CB {dV:Value} (F:bv K "loosely_read" "loosely_read" Cq dV f fd) (DZ4:Dx P w K mg base bi 3 "plus" ["one","other"] [] (sG K)) (DZ7:Dx P w K mg base bi 3 "loosely_read_term" ["text"] [] sY):bh P w K mg base bi 4 f fd ["text"] qe:=by
 have sc:aC ["text","halves","whole","rest"] ["text"] (aw Cq):=df (by decide+kernel)
 refine F.ok sc (fun vs H Q E h=>?_) (fun cdv A outer s H vs Q E hr h=>?_)
 ·obtain ⟨_,rfl,_⟩:=h
  rfl
 obtain ⟨z,rfl,hz,q0,q1⟩:=h;refine ⟨_,(ac (aJ (av dQ ax (pv 0) (by with_unfolding_all rfl)) (ah (ay (b5 DZ7 hr (@aa _ _ _ _ _ (pv 0) ae rfl)))) az) (ac (bK 1 sc (bO Dp PySem.F.slot_str_partition PySem.F.type_str_partition gW (pv 0) (@aa _ _ _ _ _ ax ae rfl))) (ac (bK 2 sc (b5 DZ7 hr (@aa _ _ _ _ _ (aj aY (pv 1) ad (fun _ _=>rfl)) ae rfl))) (ac (bK 3 sc (b5 DZ7 hr (@aa _ _ _ _ _ (aj aY (pv 1) ad (fun _ _=>rfl)) ae rfl))) (ac (aJ (PW.pt (bU (av cG (pv 2) bo (aA _)) (bM (av cG (pv 3) bo (aA _))))) (ah (ay bo)) az) (ah (ay (b5 DZ4 hr (@aa _ _ _ _ _ (pv 2) (@aa _ _ _ _ _ (pv 3) ae rfl) rfl))))))))),?_⟩
 try dsimp only[cxK]
 have noB:∀{n:Nat},n<10^30->Bd 400 (n:Int):=fun h=>(f7 h).mono (by decide)
 refine ⟨_,rfl,_,_,rfl,rfl,_,rfl,By (fun e=>?_) (fun e=>?_)⟩
 ·rw[fh,iF] at e;have e':=of_decide_eq_false e;have el:dz (sL z)=c7 (sL z):=if_neg e';rw[el] at q0 q1;refine ⟨_,rfl,z,rfl,by omega,q0,fun n m p q ht m0 hn hm f=>?_⟩
  exact q1 n m p q ht f.to f.same m0 ((noB hn).of_le f.bt) ((noB hm).of_le f.bb)
 ·rw[fh,iF] at e;have e':=of_decide_eq_true e;obtain ⟨ec,_⟩:=qa e';have el:dz (sL z)=lH (c7 (cr 43 (sL z)).1) (c7 (cr 43 (sL z)).2):=if_pos e';rw[el] at q0 q1;have lz:=cX z;have lc:=congrArg List.length ec;rw[DB,DD] at lc;refine ⟨_,rfl,rfl,z,_,rfl,rfl,(by rw[fh,b8];decide),DU hz (by decide),fun t1 n1=>?_⟩
  rw[fh,mX,if_pos e'];have g1:=aq n1 (.tup [.str (bG (cr 43 (sL z)).1),.str (bG [43]),.str (bG (cr 43 (sL z)).2)]);generalize (cr 43 (sL z)).1=a at*;generalize (cr 43 (sL z)).2=b at*;refine ⟨_,rfl,_,_,_,_,rfl,rfl,(bX.of af),rfl,_,rfl,by rw[b8];omega,fun ht H2 g2=>?_,fun n m p q ht m0 hn hm f t2 H2 g2 e2=>?_⟩
  ·rw[bx] at ht;have en:lH (c7 a) (c7 b)=none:=by unfold lH;rw[ht]
   have E2:H2 t1=some _:=g2 _ _ af;refine ⟨_,rfl,_,_,_,_,rfl,rfl,bX.of E2,rfl,_,rfl,by rw[b8];omega,fun hb H3 g3=>?_,fun n m p q hb m0 hn hm f t3 H3 g3 e3=>?_⟩
   ·exact ⟨_,rfl,rfl,_,rfl,dT rfl (q0 en _ (g1.trans (g2.trans g3)))⟩
   ·exact ⟨_,rfl,rfl,_,rfl,dT rfl (q0 en _ (g1.trans (g2.trans g3)))⟩
  ·rw[bx] at ht;have E2:H2 t1=some _:=g2 _ _ af;refine ⟨_,rfl,_,_,_,_,rfl,rfl,bX.of E2,rfl,_,rfl,by rw[b8];omega,fun hb H3 g3=>?_,fun n' m' p' q' hb m0' hn' hm' f' t3 H3 g3 e3=>?_⟩
   ·rw[bx] at hb;have en:lH (c7 a) (c7 b)=none:=by unfold lH;rw[ht,hb]
    exact ⟨_,rfl,rfl,_,rfl,dF (fun z=>nomatch z) ⟨_,rfl,rfl,_,rfl,dT rfl (q0 en _ (g1.trans (g2.trans g3)))⟩⟩
   ·rw[bx] at hb;have es:lH (c7 a) (c7 b)=some (n*m'+n'*m,m*m'):=by unfold lH;rw[ht,hb]
    have F1:iU K 100 H3 t2 p q:= .of f (f7 hn) (f7 hm) (g3 _ _ e2);have F2:iU K 100 H3 t3 p' q':= .of f' (f7 hn') (f7 hm') e3;refine ⟨_,rfl,rfl,_,rfl,dF (fun z=>nomatch z) ⟨_,rfl,rfl,_,rfl,dF (fun z=>nomatch z) ?_⟩⟩
    refine ⟨_,rfl,_,rfl,t2,t3,p,q,p',q',rfl,F1.mono (by decide),F2.mono (by decide),fun r s fr t4 H4 g4 e4=>?_⟩
    have b1:Bd 201 (p*q'+p'*q):=(F1.bp.mul F2.bq).add (F2.bp.mul F1.bq);have b2:Bd 200 (q*q'):=F1.bq.mul F2.bq;refine q1 _ _ r s es fr.to ?_ (Nat.mul_ne_zero m0 m0') ((b1.of_le fr.bt).mono (by decide)) ((b2.of_le fr.bb).mono (by decide)) t4 H4 (g1.trans (g2.trans (g3.trans g4))) e4
    have sm:=sI f.same f'.same F1.pos F2.pos fr.same;rw[E9,Int.natCast_add,E9,E9];exact sm
theorem CC {dV:Value} (F:bv K "read_amount" "read_amount" Cr dV f fd) (DZ6:Dx P w K mg base bi 2 "amount_text" ["amount"] [] (qf K)) (DZ8:Dx P w K mg base bi 4 "loosely_read" ["text"] [] qe):bh P w K mg base (lA P w) 5 f fd ["text"] (oY Ei):=by
 have sc:aC ["text","amount"] ["text"] (aw Cr):=df (by decide+kernel)
 refine F.okX sc (fun vs H Q E h=>?_) (fun cdv A outer s H vs Q E hr h=>?_)
 ·obtain ⟨_,rfl,_⟩:=h
  rfl
 obtain ⟨z,rfl,hz,q0,q1⟩:=h;refine ⟨_,(ac (aJ (bW (bS (aI (bZ (K:=K) rfl) rfl B.Eg boot_isinstance (@aa _ _ _ _ _ (pv 0) (@aa _ _ _ _ _ (b6 (v:= .ty "str") rfl B.Es boot_str rfl) ae rfl) rfl)))) (ah (mP B.FR rfl B.FG rfl sK (@aa _ _ _ _ _ ax ae rfl))) az) (ac (bK 1 sc (b5 DZ8 hr (@aa _ _ _ _ _ (pv 0) ae rfl))) (ac (aJ (PW.pt (bU (av cG (pv 1) bo (aA _)) (bM (av eP (b5 DZ6 hr (@aa _ _ _ _ _ (pv 1) ae rfl)) (pv 0) (aA _))))) (ah (mP B.FR rfl B.FG rfl sK (@aa _ _ _ _ _ ax ae rfl))) az) (ah (ay (pv 1)))))),?_⟩;try dsimp only[cxK]
 refine ⟨_,rfl,_,_,"str",true,rfl,.str z,(by kernel_rfl),true,rfl,cq ?_⟩
 refine ⟨_,rfl,z,rfl,hz,fun hl H2 g2=>?_,fun n m p q hl lo sm m0 bp bq t2 H2 g2 e2=>?_⟩
 ·refine ⟨_,rfl,rfl,_,rfl,dT rfl ⟨by show 1<=sizeLine;decide,q1 (fun p q r=>?_) _ g2⟩⟩
  obtain ⟨n,m,e,_⟩:=r.ex;rw[hl] at e;cases e
 ·have p0:0<=p:=Int.nonneg_of_mul_nonneg_left (a:=p) (b:=(m:Int)) (by rw[sm];exact Int.mul_nonneg (Int.natCast_nonneg _) (Int.le_of_lt lo.pos)) (by omega)
  obtain ⟨P,rfl⟩:=Int.eq_ofNat_of_zero_le p0;obtain ⟨D,rfl⟩:=Int.eq_ofNat_of_zero_le (Int.le_of_lt lo.pos);have F1:iU K 1900 H2 t2 P D:=⟨bX.of e2,lo.pos,bp.mono (by decide),bq.mono (by decide)⟩
  have low:ED P D=1:=by
   have:=lo.low;show ED P D=1;have e:bB (P:Int) (D:Int)=((ED P D:Nat):Int):=rfl;rw[e] at this;omega
  have D0:0<D:=by have:=lo.pos;omega
  have sm':P*m=n*D:=by
   have:((P*m:Nat):Int)=((n*D:Nat):Int):=by rw[E9,E9];exact sm
   omega
  refine ⟨_,rfl,rfl,_,rfl,dF (fun z=>nomatch z) ⟨_,rfl,t2,P,D,rfl,F1,_,rfl,rfl,_,rfl,tj (fun e=>?_) (fun e=>?_)⟩⟩
  ·refine ⟨by show 1<=sizeLine;decide,q1 (fun p q r=>e ?_) _ g2⟩
   obtain ⟨n',m',el,sm2⟩:=r.ex;rw[hl] at el;cases el;have u:(P:Int)=p/\(D:Int)=q:=by
    refine oK lo ⟨by have:=r.pos;omega,by show ((ED p q:Nat):Int)=1;rw[r.low];rfl⟩ ?_
    have:P*q=p*D:=by
     refine Nat.eq_of_mul_eq_mul_right (Nat.pos_of_ne_zero m0) ?_;have h1:P*q*m=(P*m)*q:=by rw[Nat.mul_right_comm]
     have h2:p*D*m=(p*m)*D:=by rw[Nat.mul_right_comm]
     rw[h1,h2,sm',sm2,Nat.mul_right_comm]
    have h3:((P*q:Nat):Int)=((p*D:Nat):Int):=by rw[this]
    rw[E9,E9] at h3;exact h3
   have e1:P=p:=by have:=u.1;omega
   have e2':D=q:=by have:=u.2;omega
   rw[e1,e2',r.wr,sX]
  ·refine ⟨_,rfl,q0 P D ⟨D0,low,⟨n,m,hl,sm'⟩,?_⟩ t2 H2 g2 e2⟩;rw[<-e,bx]
theorem Ax {dV:Value} (F:bv K "is_name" "is_name" yk dV f fd):bh P w K mg base bi 1 f fd ["thing"] (m7 K):=by
 have sc:aC ["thing","sign"] ["thing"] (aw yk):=df (by decide+kernel)
 refine F.ok sc (fun vs H Q E h=>?_) (fun cdv A outer s H vs Q E hr h=>?_)
 ·obtain ⟨_,rfl,_⟩:=h
  rfl
 obtain ⟨x,rfl,h⟩:=h;refine ⟨_,(ac (aJ (PW.pt (bU (bW (bS (aI (bZ (K:=K) rfl) rfl B.Eg boot_isinstance (@aa _ _ _ _ _ (pv 0) (@aa _ _ _ _ _ (b6 (v:= .ty "str") rfl B.Es boot_str rfl) ae rfl) rfl)))) (bU (av ja (aI dR rfl B.Ft boot_len (@aa _ _ _ _ _ (pv 0) ae rfl)) ad (aA _)) (bM (av mz (aI dR rfl B.Ft boot_len (@aa _ _ _ _ _ (pv 0) ae rfl)) (eS rfl B.FS) (aA _)))))) (ah (ay di)) az) (ac (cF PassesOwn.never rfl (sU (pv 0)) (eY 1 sc) (ah (aJ (av dQ (pv 1) (mV rfl B.Gn) (by with_unfolding_all rfl)) (ah (ay di)) az))) (ah (ay di)))),?_⟩
 try dsimp only[cxK]
 rcases h with ⟨z,rfl,hz,q1,q0⟩|⟨ty,hty,hk,q⟩
 ·have hz':z.length<=sizeLine:=DU hz (by decide)
  have hl:=cX z;try dsimp only[aR,aS]
  refine cut (fun σ H'=>H=H'/\σ= [some (.str z),none]/\1<=z.length/\z.length<=12) (fun N hN=>?_) ?_
  ·refine ⟨_,rfl,_,_,_,true,rfl,.str _,rfl,_,rfl,cq ⟨_,rfl,z,rfl,hz',_,_,rfl,rfl,_,rfl,d2 (fun c=>?_) (fun c1=>⟨_,rfl,z,rfl,hz',_,_,rfl,rfl,_,rfl,d2 (fun c=>?_) (fun c2=>?_)⟩)⟩⟩
   ·exact q0 fun n=>by have:=n.1;omega
   ·exact q0 fun n=>by have:=n.2.1;omega
   ·exact hN _ _ ⟨rfl,rfl,by omega,by omega⟩
  rintro σ _ ⟨rfl,rfl,l1,l2⟩;refine ⟨_,rfl,z,rfl,pY (fun i σ H2=>H=H2/\(∃o,σ= [some (.str z),o])/\∀j c,j<i->z.cps[j]?=some c->97<=c/\c<=122) ⟨rfl,⟨_,rfl⟩,fun j c h=>absurd h (by omega)⟩ (fun i c σ H2 hc hP=>?_) (fun σ H2 hP=>?_)⟩
  ·obtain ⟨rfl,⟨o,rfl⟩,hP⟩:=hP;refine ⟨_,rfl,_,_,rfl,rfl,_,rfl,By (fun e=>?_) (fun e=>?_)⟩
   ·have e':=(qm c).symm.trans e;refine q0 fun n=>?_
    have:=n.2.2 c (D5 (show (sL z)[i]?=some c by rw[<-hc];exact Array.getElem?_toList))
    rw[decide_eq_true this] at e';cases e'
   ·have e':=(qm c).symm.trans e;refine ⟨rfl,⟨_,rfl⟩,fun j c' hj hc'=>?_⟩
    rcases Nat.lt_succ_iff_lt_or_eq.mp hj with k|k
    ·exact hP j c' k hc'
    ·subst k;rw[hc] at hc';cases hc';exact of_decide_eq_true e'
  ·obtain ⟨rfl,⟨o,rfl⟩,hP⟩:=hP;refine q1 ⟨by omega,by omega,fun c hc=>?_⟩
   obtain ⟨i,hi⟩:=DR.mp hc;have hi':z.cps[i]?=some c:=by rw[<-hi];exact Array.getElem?_toList.symm
   exact hP i c (by have:=(EU.mp hi').1;exact this) hi'
 ·exact ⟨_,rfl,_,_,_,false,rfl,hty,hk,_,rfl,lq q⟩
theorem Ay {dV:Value} (F:bv K "words_of" "words_of" ym dV f fd):bh P w K mg base bi 1 f fd ["row"] qi:=by
 have sc:aC ["row","words"] ["row"] (aw ym):=df (by decide+kernel)
 refine F.ok sc (fun vs H Q E h=>?_) (fun cdv A outer s H vs Q E hr h=>?_)
 ·obtain ⟨_,rfl,_⟩:=h
  rfl
 obtain ⟨z,rfl,hz,q0,q1⟩:=h;have s4:(5000:Nat)<=sizeLine:=by decide
 refine ⟨_,(ac (bK 1 sc (bO Dp PySem.F.slot_str_split PySem.F.type_str_split jf (pv 0) (@aa _ _ _ _ _ ax ae rfl))) (ac (aJ (av dX ax (pv 1) (by with_unfolding_all rfl)) (ah (ay bo)) az) (ah (ay (pv 1))))),?_⟩
 try dsimp only[cxK]
 refine ⟨_,rfl,rfl,z,32,rfl,rfl,by omega,fun p np=>?_⟩
 have g1:=aq np (.lst ((Txt.split z (bG [32])).map V.str));try dsimp only[aR,aS]
 refine ⟨_,rfl,p,_,rfl,.inl (aE.of af),rfl,ku _,_,rfl,zn (fun e=>q0 e _ g1) (fun e=>⟨_,rfl,q1 e p _ g1 af⟩)⟩
theorem Az {dV:Value} (F:bv K "number_of" "number_of" yn dV f fd) (DZ0:Dx P w K mg base bi 1 "read_figures" ["word"] [] oX):bh P w K mg base bi 2 f fd ["word","low","high"] qk:=by
 have sc:aC ["word","low","high","number"] ["word","low","high"] (aw yn):=df (by decide+kernel)
 refine F.ok sc (fun vs H Q E h=>?_) (fun cdv A outer s H vs Q E hr h=>?_)
 ·obtain ⟨_,_,_,rfl,_⟩:=h
  rfl
 obtain ⟨z,lo,hi,rfl,hz,q0,q1⟩:=h;refine ⟨_,(ac (bK 3 sc (b5 DZ0 hr (@aa _ _ _ _ _ (pv 0) ae rfl))) (ac (aJ (PW.pt (bU (av cG (pv 3) bo (aA _)) (bU (av ja (pv 3) (pv 1) (aA _)) (bM (av mz (pv 3) (pv 2) (aA _)))))) (ah (ay bo)) az) (ah (ay (pv 3))))),?_⟩;try dsimp only[cxK]
 refine ⟨_,rfl,z,rfl,hz,fun e=>⟨_,rfl,rfl,_,rfl,dT rfl (q0 e)⟩,fun n e=>⟨_,rfl,rfl,_,rfl,dF (fun z=>nomatch z) ?_⟩⟩
 have q:=q1 n e;refine ⟨_,rfl,_,rfl,_,_,rfl,rfl,_,rfl,d2 (fun c=>?_) (fun c=>⟨_,rfl,_,rfl,_,_,rfl,rfl,_,rfl,d2 (fun c2=>?_) (fun c2=>⟨_,rfl,?_⟩)⟩)⟩
 ·rw[if_pos (.inl c)] at q;exact q
 ·rw[if_pos (.inr c2)] at q;exact q
 ·rw[if_neg (fun k=>k.elim c c2)] at q
  exact q
theorem AA {dV:Value} (F:bv K "amount_from" "amount_from" yo dV f fd) (XZ9:Dx P w K mg base (lA P w) 5 "read_amount" ["text"] [] (oY Ei)):bh P w K mg base bi 6 f fd ["word","least"] kJ:=by
 have sc:aC ["word","least","amount"] ["word","least"] (aw yo):=df (by decide+kernel)
 refine F.ok sc (fun vs H Q E h=>?_) (fun cdv A outer s H vs Q E hr h=>?_)
 ·obtain ⟨_,rfl,_⟩:=h
  rfl
 obtain ⟨w,rfl,wl,q0,q1⟩:=h;refine ⟨_,(ac (xc rfl rfl (fun pins E=>(ah (bK 2 sc (xj XZ9 hr (by decide) rfl sK (@aa _ _ _ _ _ (pv 0) ae rfl))))) (zR B.Gh rfl B.FG (fun pins a=>(ah (ay bo))) xf)) (ah (ay (eO (av zG (aj aY (pv 2) ad (fun _ _=>rfl)) (pv 1) (aA _)) (pv 2) bo)))),?_⟩
 try dsimp only[cxK]
 have sl:sizeLine=16777216:=sizeLine_eq;refine cut (fun σ H'=>∃(t:Addr) (p q:Nat),σ= [some (.str w),some (.int 1),GT t]/\aH H H'/\H' t=some (.tup [.int p,.int q])/\Reads (sL w) p q) (fun N hN=>?_) ?_
 ·refine ⟨_,rfl,w,rfl,by omega,fun p q rd t H1 g1 e1=>?_,fun no H1 g1=>?_⟩
  ·exact hN _ _ ⟨t,p,q,rfl,g1,e1,rd⟩
  ·intro a na;have ga:=aq na (w8 a (.ref Ei) none);refine ⟨Ei,true,rfl,B.FB,lq ?_⟩;exact q0 (kH fun a h _=>no _ _ h) _ (g1.trans ga)
 rintro σ H1 ⟨t,p,q,rfl,g1,e1,rd⟩;refine ⟨_,rfl,t,_,_,_,rfl,rfl,bX.of e1,rfl,_,rfl,_,_,rfl,rfl,_,rfl,d2 (fun c=>⟨_,rfl,q1 (p,q) (kG (a:=(p,q)) rd (by show 1<=p;omega)) t _ g1 e1⟩) fun c=>q0 (kH fun a h h1=>?_) _ g1⟩
 obtain ⟨e,_⟩:=iG h rd;omega
theorem AB {dV:Value} (F:bv K "value_of" "value_of" yq dV f fd) (DZ10:Dx P w K mg base bi 1 "is_name" ["thing"] [] (m7 K)) (DZ12:Dx P w K mg base bi 2 "number_of" ["word","low","high"] [] qk) (DZ13:Dx P w K mg base bi 6 "amount_from" ["word","least"] [] kJ):bh P w K mg base bi 7 f fd ["field","word"] kK:=by
 have sc:aC ["field","word","bounds"] ["field","word"] (aw yq):=df (by decide+kernel)
 refine F.ok sc (fun vs H Q E h=>?_) (fun cdv A outer s H vs Q E hr h=>?_)
 ·obtain ⟨_,_,rfl,_⟩:=h
  rfl
 obtain ⟨f,z,rfl,zl,fo,q0,q1⟩:=h;refine ⟨_,(ac (aJ (av bC (pv 0) ax (aA _)) (ah (ay (eO (bS (b5 DZ10 hr (@aa _ _ _ _ _ (pv 1) ae rfl))) (pv 1) bo))) az) (ac (aJ (av bC (pv 0) ax (aA _)) (ah (ay (b5 DZ13 hr (@aa _ _ _ _ _ (pv 1) (@aa _ _ _ _ _ ad ae rfl) rfl)))) az) (ac (aJ (av bC (pv 0) ax (aA _)) (ah (ay (b5 DZ13 hr (@aa _ _ _ _ _ (pv 1) (@aa _ _ _ _ _ ad ae rfl) rfl)))) az) (ac (bK 2 sc (nI (K:=K) (w:=w) rfl rfl (cf (v:=V.ref Fp) rfl B.Gw rfl) (pv 0) (fun _ _=>rfl))) (ah (ay (b5 DZ12 hr (@aa _ _ _ _ _ (pv 1) (@aa _ _ _ _ _ (aj aY (pv 2) ad (fun _ _=>rfl)) (@aa _ _ _ _ _ (aj aY (pv 2) ad (fun _ _=>rfl)) ae rfl) rfl) rfl)))))))),?_⟩
 try dsimp only[cxK]
 have sl:sizeLine=16777216:=sizeLine_eq;refine cut (fun σ H'=>σ= [some (.str f),some (.str z),none]/\H=H'/\f≠ "name") (fun N hN=>?_) ?_
 ·refine ⟨_,rfl,rfl,_,rfl,kv (fun e=>?_) fun e=>hN _ _ ⟨rfl,rfl,e⟩⟩
  have ef:bD f z=if xJ z=true then some (.nm z) else none:=by unfold bD;rw[if_pos e]
  refine ⟨_,rfl,_,rfl,.inl ⟨z,rfl,by omega,fun nm=>⟨_,rfl,lq ⟨_,rfl,q1 (.nm z) ?_ _ _ (.refl _) rfl⟩⟩,fun nm=>⟨_,rfl,cq (q0 ?_ _ (.refl _))⟩⟩⟩
  ·rw[ef,if_pos ((gd z).mpr nm)]
  ·rw[ef,if_neg fun k=>nm ((gd z).mp k)]
 rintro σ _ ⟨rfl,rfl,n1⟩;refine cut (fun σ H'=>σ= [some (.str f),some (.str z),none]/\H=H'/\f≠ "amount") (fun N hN=>?_) ?_
 ·refine ⟨_,rfl,rfl,_,rfl,kv (fun e=>?_) fun e=>hN _ _ ⟨rfl,rfl,e⟩⟩
  have ef:bD f z=(nM z).map .am:=by unfold bD;rw[if_neg n1,if_pos e]
  exact ⟨_,rfl,z,rfl,zl,fun h H1 g1=>q0 (by rw[ef,h];rfl) H1 g1,fun a h t H1 g1 e1=>q1 (.am a) (by rw[ef,h];rfl) _ _ g1 ⟨t,rfl,trivial,e1⟩⟩
 rintro σ _ ⟨rfl,rfl,n2⟩;obtain ⟨n3,b,hb⟩:f≠ "stock" /\∃b,pz.lookup f=some b:=by
  rcases fo with e|e|⟨_,_,n3,hb⟩
  ·exact absurd e n1
  ·exact absurd e n2
  ·exact ⟨n3,hb⟩
 have ef:bD f z=(nN z b.1 b.2).map .num:=by unfold bD;rw[if_neg n1,if_neg n2,hb]
 refine cut (fun σ H'=>σ= [some (.str f),some (.str z),none]/\H=H') (fun N hN=>?_) ?_
 ·exact ⟨_,rfl,rfl,_,rfl,kv (fun e=>absurd e n3) fun e=>hN _ _ ⟨rfl,rfl⟩⟩
 rintro σ _ ⟨rfl,rfl⟩;refine ⟨_,rfl,Fp,vT,f,_,rfl,rfl,B.Gp,xX,vV hb,fun t tv=>?_⟩
 have st:=fun H=>lY.sq tv H
 dsimp only[aR,aS];refine ⟨_,rfl,_,rfl,t,_,_,_,rfl,rfl,st _,rfl,_,rfl,t,_,_,_,rfl,rfl,st _,rfl,z,_,_,rfl,by omega,fun e=>q0 ?_ _ (.refl _),fun n e=>?_⟩
 ·rw[ef];unfold nN;rw[if_neg fun h=>?_]
  ·rfl
  ·have:=(jt _).mp h.1;rw[oS this] at e;cases e
 ·have ex:=jd e;have fg:vn (sL z):=by
   refine Classical.byContradiction fun nf=>?_
   rw[fY nf] at e;cases e
  have ev:PySem.NumText.digitsVal (sL z)=n:=by
   rw[oS fg] at e;exact DS e
  by_cases c:b.1<=n/\n<=b.2
  ·rw[if_neg (by omega)]
   refine q1 (.num n) ?_ _ _ (.refl _) rfl;rw[ef];unfold nN;rw[ev,if_pos ⟨(jt _).mpr fg,c⟩]
   rfl
  ·rw[if_pos (by omega)]
   refine q0 ?_ _ (.refl _);rw[ef];unfold nN;rw[ev,if_neg fun h=>c h.2]
   rfl
theorem AC {dV:Value} (F:bv K "values_by" "values_by" yr dV f fd) (DZ14:Dx P w K mg base bi 7 "value_of" ["field","word"] [] kK):bh P w K mg base bi 8 f fd ["fields","words"] (jx K):=by
 have sc:aC ["fields","words","values","field","word"] ["fields","words"] (aw yr):=df (by decide+kernel)
 refine F.ok sc (fun vs H Q E h=>?_) (fun cdv A outer s H vs Q E hr h=>?_)
 ·obtain ⟨_,_,_,_,_,rfl,_⟩:=h
  rfl
 obtain ⟨t,l,fs,w,rest,rfl,tv,el,wb,fo,fl,q0,q1⟩:=h;refine ⟨_,(ac (aJ (av eP (aI a7 rfl B.Ft boot_len (@aa _ _ _ _ _ (pv 1) ae rfl)) (ar bY ad (aI a7 rfl B.Ft boot_len (@aa _ _ _ _ _ (pv 0) ae rfl))) (aA _)) (ah (ay bo)) az) (ac (bK 2 sc (@aZ _ _ _ _ (@aa _ _ _ _ _ (aj ai (pv 1) ad (fun _ _=>rfl)) ae rfl))) (ac (cF PassesOwn.never rfl (Aq rfl B.GG (@aa _ _ _ _ _ (pv 0) (@aa _ _ _ _ _ (cN fb (pv 1) (cT ad) eJ) ae rfl) rfl)) (fG rfl (aW (eY 3 sc) (aW (eY 4 sc) dC))) (ah (aV (bO DE DG DF a8 (pv 2) (@aa _ _ _ _ _ (b5 DZ14 hr (@aa _ _ _ _ _ (pv 3) (@aa _ _ _ _ _ (pv 4) ae rfl) rfl)) ae rfl))))) (ah (ay (eO (av (vU (wf hr)) bo (pv 2) (by with_unfolding_all rfl)) bo (pv 2))))))),?_⟩
 try dsimp only[cxK]
 have sl:sizeLine=16777216:=sizeLine_eq;have st:=fun H=>lY.sq tv H
 refine cut (fun σ H'=>σ= [GT t,GT l,none,none,none]/\H=H'/\fs.length=rest.length) (fun N hN=>?_) ?_
 ·refine ⟨_,rfl,l,_,rfl,.inl (aE.of el),_,rfl,t,_,rfl,.inr (st _),?_⟩;refine ⟨_,_,rfl,rfl,rfl,_,rfl,?_⟩
  by_cases e:fs.length=rest.length
  ·show if (!decide (V.int _=V.int _))=true then _ else _
   rw[if_neg (by rw[decide_eq_true (congrArg V.int (by simp[e];omega))];decide)]
   exact hN _ _ ⟨rfl,rfl,e⟩
  ·show if (!decide (V.int _=V.int _))=true then _ else _
   rw[if_pos (by rw[decide_eq_false fun z=>by have:=vj z;simp at this;omega];rfl)]
   exact q0 (kL e) _ (.refl _)
 rintro σ _ ⟨rfl,rfl,en⟩;refine ⟨_,rfl,l,_,_,_,rfl,rfl,aE.of el,(aD (j:=0) rfl),by show 1<=sizeLine;decide,fun vl nv=>?_⟩
 have g1:=aq nv (.lst [.str w]);have e1:aO H vl (.lst [.str w]) vl=some (.lst [.str w]):=af;generalize aO H vl (.lst [.str w])=H1 at g1 e1⊢;dsimp only[aR,aS];refine cut (fun σ H'=>∃o3 o4 xs,σ= [GT t,GT l,GT vl,o3,o4]/\aH H H'/\H' vl=some (.lst (.str w::xs))/\A2 (qC H') xs (fQ fs rest)) (fun N hN=>?_) ?_
 ·refine ⟨_,rfl,_,rfl,_,rfl,l,_,rfl,aE.of (g1 _ _ el),fun sl' nsl=>?_⟩
  have ec:dN ((w::rest).map V.str) (some 1) none=rest.map V.str:=iH (c:=1);rw[ec];have g2:=g1.trans (aq nsl (.lst (rest.map V.str)));have e2:aO H1 sl' (.lst (rest.map V.str)) sl'=some (.lst (rest.map V.str)):=af;have e12:=aq nsl (.lst (rest.map V.str)) _ _ e1;have ns:sl'≠vl:=fun z=>by rw[z,e1] at nsl;cases nsl
  generalize aO H1 sl' (.lst (rest.map V.str))=H2 at g2 e2 e12⊢;refine ⟨t,sl',rfl,⟨_,st _⟩,⟨_,aE.of e2⟩,xV (xs:=fs.map V.str) (ys:=rest.map V.str) (fun i σ H'=>∃o3 o4 xs,σ= [GT t,GT l,GT vl,o3,o4]/\aH H H'/\H' sl'=some (.lst (rest.map V.str))/\H' vl=some (.lst (.str w::xs))/\A2 (qC H') xs ((fQ fs rest).take i)) ⟨none,none,[],rfl,g2,e2,e12,.nil⟩ (fun i σ H' _ ⟨_,_,_,_,_,e,_⟩=>⟨st _,aE.of e⟩) ?_ ?_⟩
  ·rintro i y z σ H3 T hy hz ⟨o3,o4,xs,rfl,g3,e3,e4,r⟩ nT;rw[DA] at hy hz;obtain ⟨fd',hf,rfl⟩:=DV.mp hy;obtain ⟨wd,hw,rfl⟩:=DV.mp hz;refine ⟨T,_,rfl,bX.of af,rfl,_,_,rfl,_,_,rfl,rfl,?_⟩;have gT:=aq nT (.tup [.str fd',.str wd]);generalize aO H3 T (.tup [.str fd',.str wd])=H4 at gT⊢;have il:(fQ fs rest)[i]?=some (bD fd' wd):=by
    unfold fQ;rw[DA,(List.getElem?_zip_eq_some (z:=(fd',wd))).mpr ⟨hf,hw⟩]
    rfl
   have fin:∀(x:V) (H5:Hp),aH H4 H5->qC H5 x (bD fd' wd)->∃o3 o4 xs',[some (V.ref t),some (V.ref l),some (V.ref vl),some (V.str fd'),some (V.str wd)]= [some (.ref t),some (.ref l),some (.ref vl),o3,o4]/\aH H (aO H5 vl (.lst (.str w::xs++ [x])))/\aO H5 vl (.lst (.str w::xs++ [x])) sl'=some (.lst (rest.map V.str))/\aO H5 vl (.lst (.str w::xs++ [x])) vl=some (.lst (.str w::xs'))/\A2 (qC (aO H5 vl (.lst (.str w::xs++ [x])))) xs' ((fQ fs rest).take (i+1)):=by
    intro x H5 g5 rx;have g45:=gT.trans g5;have e5:=g45 _ _ e4;refine ⟨_,_,xs++ [x],rfl,?_,?_,af,?_⟩
    ·intro a o ea;rw[aB fun z=>by rw[z,nv] at ea;cases ea]
     exact g45 _ _ (g3 _ _ ea)
    ·rw[aB ns];exact g45 _ _ e3
    ·rw[List.take_add_one,il];exact (r.imp fun _ _ q=>(q.same g45).upd e5).snoc (rx.upd e5)
   have xl:(V.str w::xs).length<sizeLine:=by
    rw[DD,r.1,DX];unfold fQ;rw[D4,List.length_zip];omega
   refine ⟨_,rfl,.inl ⟨rfl,_,aE.of (gT _ _ e4)⟩,_,rfl,_,rfl,fd',wd,rfl,wb.2 wd (D7 _ (D5 hw)),fo fd' (D5 hf),fun z H5 g5=>?_,fun v z x H5 g5 rx=>?_⟩
   ·exact ⟨vl,_,_,rfl,rfl,g5 _ _ (gT _ _ e4),xl,fin .non H5 g5 (by rw[z];rfl)⟩
   ·exact ⟨vl,_,_,rfl,rfl,g5 _ _ (gT _ _ e4),xl,fin x H5 g5 (by rw[z];exact rx)⟩
  ·rintro σ H3 ⟨o3,o4,xs,rfl,g3,e3,e4,r⟩;rw[EN (by unfold fQ;simp[List.length_zip])] at r
   exact hN _ _ ⟨o3,o4,xs,rfl,g3,e4,r⟩
 rintro σ H2 ⟨o3,o4,xs,rfl,g2,e2,r⟩;have mx:∀v∈V.str w::xs,Mx K H2 v:=by
  intro v hv;rcases D2.mp hv with rfl|hv
  ·exact .inr (.inl ⟨_,rfl⟩)
  ·obtain ⟨i,e⟩:=DR.mp hv;obtain ⟨o,_,q⟩:=r.at_ e;exact q.mx.1
 refine ⟨_,rfl,vl,_,rfl,rfl,aE.of e2,mx,_,rfl,d2 (fun m=>?_) fun m=>?_⟩
 ·have m':=(uh r).mp (by simpa using m)
  rcases gL en with ⟨_,z⟩|⟨us,_,o⟩
  ·exact q0 z _ g2
  ·rw[o] at m';simp at m'
 ·rcases gL en with ⟨z,_⟩|⟨us,z,o⟩
  ·exact absurd (D7 _ ((uh r).mpr z)) m
  ·rw[o] at r;exact ⟨_,rfl,q1 us z vl _ g2 nv ⟨xs,e2,Ar r⟩⟩
theorem AD {dV:Value} (F:bv K "agree" "agree" yt dV f fd):bh P w K mg base bi 1 f fd ["values"] qD:=by
 have sc:aC ["values"] ["values"] (aw yt):=df (by decide+kernel)
 refine F.ok sc (fun vs H Q E h=>?_) (fun cdv A outer s H vs Q E hr h=>?_)
 ·obtain ⟨_,_,_,rfl,_⟩:=h
  rfl
 obtain ⟨l,w,us,rfl,⟨xs,el,r⟩,⟨v1,v2⟩,q⟩:=h;refine ⟨_,(ac (aJ (PW.pt (bU (av bC (aj ai (pv 0) ad (fun _ _=>rfl)) ax (aA _)) (bM (av dX (aj ai (pv 0) ad (fun _ _=>rfl)) (cf (v:=V.ref Ek) rfl B.FH rfl) (by with_unfolding_all rfl))))) (ah (ay (eI zF (aj ai (pv 0) ad (fun _ _=>rfl)) (aj ai (pv 0) ad (fun _ _=>rfl)) (aA _)))) az) (ac (aJ (av dX (aj ai (pv 0) ad (fun _ _=>rfl)) (cf (v:=V.ref Er) rfl B.F0 rfl) (by with_unfolding_all rfl)) (ah (ay (eI eP (aj ai (pv 0) ad (fun _ _=>rfl)) (aj ai (pv 0) ad (fun _ _=>rfl)) (aA _)))) az) (ah (ay di)))),?_⟩
 try dsimp only[cxK]
 have sl:sizeLine=16777216:=sizeLine_eq;have le:∀N:Ends,N.rt=Q->(w= "or" ∨w= "cut" ∨w= "rest" ∨w= "warm")->uG (wS (uI fun i j=>V.bl (decide (i<=j))) (wS (wU K) (mn 0) (tC (V.int 2))) (wS (wU K) (mn 0) (tC (V.int 3)))) N [some (.ref l)] H:=by
  rintro N en c;obtain ⟨n,lo,hi,r',rfl⟩:=v1 c;obtain ⟨ys,rfl⟩:=xY r;have ea:cL w (.nm n:: .num lo:: .num hi::r')=decide ((lo:Int)<=hi):=by
   show (!(decide (w= "or" ∨w= "cut" ∨w= "rest" ∨w= "warm"))||decide (lo<=hi))=_;rw[decide_eq_true c];simp
  rw[ea] at q;refine ⟨_,rfl,l,_,_,_,rfl,rfl,aE.of el,(aD (j:=2) rfl),_,rfl,l,_,_,_,rfl,rfl,aE.of el,(aD (j:=3) rfl),_,_,rfl,rfl,?_⟩;rw[en];exact q
 refine cut (fun σ H'=>σ= [GT l]/\H=H'/\¬(w= "or" ∨w= "cut" ∨w= "rest" ∨w= "warm")) (fun N hN=>?_) ?_
 ·refine ⟨_,rfl,l,_,_,_,rfl,rfl,aE.of el,(aD (j:=0) rfl),rfl,_,rfl,kv (fun e=>lq (le _ rfl (.inl e))) fun e=>⟨_,rfl,l,_,_,_,rfl,rfl,aE.of el,(aD (j:=0) rfl),Ek,_,rfl,.inr (B.FC.sq _),rfl,ku _,_,rfl,zn (gs:= ["cut","rest","warm"]) (fun m=>le _ rfl (.inr (by simpa using m))) fun m=>hN _ _ ⟨rfl,rfl,fun c=>?_⟩⟩⟩
  rcases c with c|c
  ·exact e c
  ·exact m (by simpa using c)
 rintro σ _ ⟨rfl,rfl,n1⟩;refine cut (fun σ H'=>σ= [GT l]/\H=H'/\¬(w= "after" ∨w= "within" ∨w= "apart")) (fun N hN=>?_) ?_
 ·refine ⟨_,rfl,l,_,_,_,rfl,rfl,aE.of el,(aD (j:=0) rfl),Er,_,rfl,.inr (B.FU.sq _),rfl,ku _,_,rfl,zn (gs:= ["after","within","apart"]) (fun m=>?_) fun m=>hN _ _ ⟨rfl,rfl,fun c=>m (by simpa using c)⟩⟩
  have c:w= "after" ∨w= "within" ∨w= "apart" :=by simpa using m
  obtain ⟨a,b,r',rfl⟩:=v2 c;obtain ⟨ys,rfl⟩:=As r;have ea:cL w (.nm a:: .nm b::r')= !decide (V.str a=V.str b):=by
   show (!(decide (w= "after" ∨w= "within" ∨w= "apart"))||decide (a≠b))=_;rw[decide_eq_true c];simp
  rw[ea] at q;exact ⟨_,rfl,l,_,_,_,rfl,rfl,aE.of el,(aD (j:=1) rfl),_,rfl,l,_,_,_,rfl,rfl,aE.of el,(aD (j:=2) rfl),rfl,q⟩
 rintro σ _ ⟨rfl,rfl,n2⟩;have ea:cL w us=true:=by
  unfold cL
  split
  ·rw[decide_eq_false n1]
   rfl
  ·rw[decide_eq_false n2]
   rfl
  ·rfl
 rw[ea] at q;exact q
theorem AE {dV:Value} (F:bv K "values_of" "values_of" yu dV f fd) (DZ11:Dx P w K mg base bi 1 "words_of" ["row"] [] qi) (DZ15:Dx P w K mg base bi 8 "values_by" ["fields","words"] [] (jx K)) (DZ16:Dx P w K mg base bi 1 "agree" ["values"] [] qD):bh P w K mg base bi 9 f fd ["row"] jy:=by
 have sc:aC ["row","words","values"] ["row"] (aw yu):=df (by decide+kernel)
 refine F.ok sc (fun vs H Q E h=>?_) (fun cdv A outer s H vs Q E hr h=>?_)
 ·obtain ⟨_,rfl,_⟩:=h
  rfl
 obtain ⟨z,rfl,hz,qn,qs⟩:=h;refine ⟨_,(ac (bK 1 sc (b5 DZ11 hr (@aa _ _ _ _ _ (pv 0) ae rfl))) (ac (aJ (PW.pt (bU (av cG (pv 1) bo (aA _)) (bM (av (nJ (K:=K) (w:=w) rfl rfl) (aj ai (pv 1) ad (fun _ _=>rfl)) (cf (v:=V.ref Fs) rfl B.Gj rfl) (by with_unfolding_all rfl))))) (ah (ay bo)) az) (ac (bK 2 sc (b5 DZ15 hr (@aa _ _ _ _ _ (nI (K:=K) (w:=w) rfl rfl (cf (v:=V.ref Fs) rfl B.Gj rfl) (aj ai (pv 1) ad (fun _ _=>rfl)) (fun _ _=>rfl)) (@aa _ _ _ _ _ (pv 1) ae rfl) rfl))) (ac (aJ (PW.pt (bU (av cG (pv 2) bo (aA _)) (bM (bW (bS (b5 DZ16 hr (@aa _ _ _ _ _ (pv 2) ae rfl))))))) (ah (ay bo)) az) (ah (ay (pv 2))))))),?_⟩
 try dsimp only[cxK]
 have sl:sizeLine=16777216:=sizeLine_eq;refine ⟨_,rfl,z,rfl,by omega,fun e H1 g1=>?_,fun e p H1 g1 ep=>?_⟩
 ·exact ⟨_,rfl,rfl,_,rfl,dT rfl (qn (if_pos e) _ g1)⟩
 have wb:B7 (Txt.split z jO):=vB (c:=32) (by omega)
 have nee:=mZ z 32;change H1 p=some (.lst ((Txt.split z jO).map V.str)) at ep;change Txt.split z jO≠ [] at nee;have er:jR z=match Txt.split z jO with
  | []=>none
  |w::rest=>match cu.lookup w with
   |none=>none
   |some fs=>match cE fs rest with
    |none=>none
    |some vs=>if cL w vs=true then some (w,vs) else none:=if_neg e
 rw[er] at qn qs;generalize Txt.split z jO=ws at ep wb nee qn qs;cases ws with
 |nil=>exact absurd rfl nee
 |cons w rest=>
 dsimp only at qn qs;try dsimp only[aR,aS]
 refine cut (fun σ H'=>σ= [some (.str z),GT p,none]/\H1=H'/\∃fs,cu.lookup w=some fs) (fun N hN=>?_) ?_
 ·refine ⟨_,rfl,rfl,_,rfl,dF (fun z=>nomatch z) ⟨_,rfl,p,_,_,_,rfl,rfl,aE.of ep,(aD (j:=0) rfl),Fs,fP,w,rfl,rfl,B.Gf,nP,_,rfl,?_⟩⟩
  show if (!(fP.lookup w).isSome)=true then _ else _
  rw[nQ];cases ef:cu.lookup w with
  |none=>
   rw[ef] at qn;exact qn rfl _ g1
  |some fs=>exact hN _ _ ⟨rfl,rfl,fs,ef⟩
 rintro σ _ ⟨rfl,rfl,fs,ef⟩;rw[ef] at qn qs;dsimp only at qn qs;obtain ⟨fo,fl⟩:=ug ef;refine ⟨_,rfl,p,_,_,_,rfl,rfl,aE.of ep,(aD (j:=0) rfl),Fs,fP,w,_,rfl,rfl,B.Gf,nP,rB ef,fun t tv=>⟨_,rfl,t,p,fs,w,rest,rfl,tv,ep,wb,fo,fl,fun h H2 g2=>?_,fun us h v H2 g2 nv lv=>?_⟩⟩
 ·exact ⟨_,rfl,rfl,_,rfl,dT rfl (qn (by rw[h]) _ (g1.trans g2))⟩
 rw[h] at qn qs;dsimp only at qn qs;try dsimp only[aR,aS]
 refine cut (fun σ H'=>σ= [some (.str z),GT p,GT v]/\H2=H'/\cL w us=true) (fun N hN=>?_) ?_
 ·refine ⟨_,rfl,rfl,_,rfl,dF (fun z=>nomatch z) ⟨_,rfl,v,w,us,rfl,lv,rC ef h,?_⟩⟩
  cases ea:cL w us with
  |false=>exact ⟨_,rfl,qn (if_neg (by rw[ea];decide)) _ (g1.trans g2)⟩
  |true=>exact ⟨_,rfl,hN _ _ ⟨rfl,rfl,ea⟩⟩
 rintro σ _ ⟨rfl,rfl,ea⟩;exact ⟨_,rfl,qs w us (if_pos ea) v _ (g1.trans g2) (g1.free nv) lv⟩
theorem AF {dV:Value} (F:bv K "refuse_twice" "refuse_twice" yw dV f fd):bh P w K mg base bi 1 f fd ["name","told","at"] fz:=by
 have sc:aC ["name","told","at"] ["name","told","at"] (aw yw):=df (by decide+kernel)
 refine F.ok sc (fun vs H Q E h=>?_) (fun cdv A outer s H vs Q E hr h=>?_)
 ·obtain ⟨_,_,_,_,rfl,_⟩:=h
  rfl
 obtain ⟨z,l,ts,a,rfl,el,nz,q⟩:=h;refine ⟨_,(ah (aJ (av dX (pv 0) (pv 1) (by with_unfolding_all rfl)) (ah cM) az)),?_⟩
 try dsimp only[cxK]
 have sl:sizeLine=16777216:=sizeLine_eq;refine ⟨_,rfl,_,rfl,l,_,rfl,.inl (aE.of el),rfl,ku _,_,rfl,zn (gs:=ts) (fun m=>absurd m nz) fun _=>q⟩
theorem AG {dV:Value} (F:bv K "refuse_full" "refuse_full" yx dV f fd):bh P w K mg base bi 1 f fd ["kept","most"] eW:=by
 have sc:aC ["kept","most"] ["kept","most"] (aw yx):=df (by decide+kernel)
 refine F.ok sc (fun vs H Q E h=>?_) (fun cdv A outer s H vs Q E hr h=>?_)
 ·obtain ⟨_,_,_,rfl,_⟩:=h
  rfl
 obtain ⟨l,xs,m,rfl,el,lt,q⟩:=h;refine ⟨_,(ah (aJ (av bC (aI a7 rfl B.Ft boot_len (@aa _ _ _ _ _ (pv 0) ae rfl)) (pv 1) (aA _)) (ah cM) az)),?_⟩;try dsimp only[cxK]
 have sl:sizeLine=16777216:=sizeLine_eq;refine ⟨_,rfl,l,_,rfl,.inl (aE.of el),_,rfl,rfl,_,rfl,j9 (fun e=>absurd e (by omega)) fun _=>q⟩
theorem AH {dV:Value} (F:bv K "place_of" "place_of" yy dV f fd):bh P w K mg base bi 1 f fd ["recipe","name","at"] (gz Ef Ee on Db):=by
 have sc:aC ["recipe","name","at","place","step"] ["recipe","name","at"] (aw yy):=df (by decide+kernel)
 refine F.ok sc (fun vs H Q E h=>?_) (fun cdv A outer s H vs Q E hr h=>?_)
 ·obtain ⟨_,_,_,_,_,_,_,_,rfl,_⟩:=h
  rfl
 obtain ⟨r,z,a,n,p,M,i,s,rfl,⟨lt,ls,lk,⟨dx,er⟩,⟨vt,et,rt⟩,⟨vs,es,rs⟩,⟨vk,ek,rk⟩⟩,ml,hi,rfl,hj,q⟩:=h;refine ⟨_,(ac (cF PassesOwn.never rfl (vm rfl B.FP (@aa _ _ _ _ _ (aL (pv 0) rfl) ae rfl)) (fG rfl (aW (eY 3 sc) (aW (eY 4 sc) dC))) (ah (aJ (av bC (aL (pv 4) rfl) (pv 1) (aA _)) (ah (ay (pv 3))) az))) (ah cM)),?_⟩;try dsimp only[cxK]
 have sl:sizeLine=16777216:=sizeLine_eq;have il:=(DM.mp hi).1;have ls12:=rs.1;refine cut (fun σ H'=>False) (fun N hN=>?_) ?_
 ·refine ⟨_,rfl,r,_,dx,_,_,rfl,er,B.Eh,B.Ej,bI.2.2.2.1,ls,rfl,⟨_,aE.of es⟩,sS (xs:=vs) (fun j σ H'=>∃o3 o4:Option V,σ= [GT r,some (.str s.n),some a,o3,o4]/\aH H H'/\j<=i) ⟨none,none,rfl,.refl _,E1 _⟩ (fun i σ H' _ ⟨_,_,_,g,_⟩=>aE.of (g _ _ es)) ?_ ?_⟩
  ·rintro j y σ H1 T hy ⟨o3,o4,rfl,g1,ji⟩ nT;obtain ⟨x',hx,x,rfl,C,dx,u,sv,ff,ex,cl,sf,_⟩:=rs.at_ hy;have sc0:fD K C:=by
    rcases cl with ⟨_,rfl⟩|⟨_,rfl⟩|⟨_,rfl⟩
    ·exact ⟨B.Fo,B.Fh,B.Fc,B.Fi,B.Fg,B.Ep⟩
    ·exact ⟨B.Fl,B.Fa,B.Eo,B.Fb,B.Ez,B.Em⟩
    ·exact ⟨B.Fj,B.Ex,B.En,B.Ey,B.Ew,B.El⟩
   have g2:=g1.trans (aq nT (.tup [.int (j:Int),.ref x]));refine ⟨T,_,rfl,bX.of af,rfl,_,_,rfl,_,_,rfl,rfl,?_⟩;generalize aO H1 T (.tup [.int (j:Int),.ref x])=H2 at g2⊢;have ex2:=g2 _ _ ex;refine ⟨_,rfl,x,C,dx,ff,_,rfl,ex2,sc0.cl,sc0.name,sf.name,_,rfl,rfl,_,rfl,kv (fun e=>?_) fun e=>?_⟩
   ·have:j=i:=Classical.byContradiction fun n=>hj j x' (by omega) hx e
    subst this;exact ⟨_,rfl,q _ g2⟩
   ·refine ⟨_,_,rfl,g2,?_⟩;have:j≠i:=fun z=>by
     subst z;rw[hi] at hx;cases hx;exact e rfl
    omega
  ·rintro σ H1 ⟨_,_,_,_,ji⟩;omega
 rintro σ _ z;exact z.elim
theorem AI {dV:Value} (F:bv K "put_take" "put_take" yz dV f fd) (DZ18:Dx P w K mg base bi 1 "refuse_twice" ["name","told","at"] [] fz) (DZ19:Dx P w K mg base bi 1 "refuse_full" ["kept","most"] [] eW):bh P w K mg base bi 2 f fd ["recipe","at","values"] (kN Ef Ee on Db):=by
 have sc:aC ["recipe","at","values"] ["recipe","at","values"] (aw yz):=df (by decide+kernel)
 refine F.ok sc (fun vs H Q E h=>?_) (fun cdv A outer s H vs Q E hr h=>?_)
 ·obtain ⟨_,_,_,_,_,_,_,_,_,_,_,_,_,rfl,_⟩:=h
  rfl
 obtain ⟨r,l,a,G,n,p,lt,ls,lk,ks,M,g,am,rfl,rm,⟨xs,el,rl⟩,nt,ml,q⟩:=h;refine ⟨_,(ac (aV (b5 DZ18 hr (@aa _ _ _ _ _ (aj ai (pv 2) ad (fun _ _=>rfl)) (@aa _ _ _ _ _ (fW (own:= "take") (ys:= []) (js:= []) rfl (xq xn .nil (by decide) rfl rfl rfl rfl rfl rfl rfl rfl) (cv (aL (pv 0) rfl)) (fun C fp s H=>(aj (hJ (K:=K) rfl) (pv 0) ad (fun _ _=>rfl)))) (@aa _ _ _ _ _ (pv 1) ae rfl) rfl) rfl))) (ac (aV (b5 DZ19 hr (@aa _ _ _ _ _ (aL (pv 0) rfl) (@aa _ _ _ _ _ (eS rfl B.F7) ae rfl) rfl))) (ah (aV (bO DE DG DF a8 (aL (pv 0) rfl) (@aa _ _ _ _ _ (@cH _ _ _ _ _ (@aa _ _ _ _ _ (aj ai (pv 2) ad (fun _ _=>rfl)) (@aa _ _ _ _ _ (aj ai (pv 2) ad (fun _ _=>rfl)) ae rfl) rfl)) ae rfl)))))),?_⟩
 try dsimp only[cxK]
 have sl:sizeLine=16777216:=sizeLine_eq;obtain ⟨x1,xs,rfl,e1,rl⟩:=a6 rl;obtain ⟨x2,xs,rfl,⟨t2,rfl,_,et2⟩,rl⟩:=a6 rl;cases e1;obtain ⟨dx,er⟩:=rm.er;obtain ⟨vt,et,rt⟩:=id rm.et;refine ⟨_,rfl,l,_,_,_,rfl,rfl,aE.of el,(aD (j:=1) rfl),_,rfl,r,_,dx,_,_,rfl,er,B.Eh,B.Ev,bI.2.2.1,lt,rfl,⟨_,aE.of et⟩,m6 (xs:=vt) (fun x y=>∃(t:Addr) (z:Str),x= .ref t/\(∃b,H t=some (.tup [.str z,.ref b]))/\y= .str z) (aE.of et) (by have:=rt.1;omega) (fun x hx H3 g3 Q' hQ=>?_) (fun p1 ys H4 np hl ht g4 e4=>?_)⟩
 ·obtain ⟨i,hi⟩:=DR.mp hx;obtain ⟨k,hk,t,b,rfl,_,_,et',eb⟩:=rt.at_ hi;exact ⟨_,rfl,t,_,_,_,rfl,rfl,bX.of (g3 _ _ et'),rfl,hQ _ _ ⟨t,k.1,rfl,⟨b,et'⟩,rfl⟩ (.refl _)⟩
 have ey:ys=(M.takes.map fun k=>k.1).map V.str:=by
  refine List.ext_getElem? fun i=>?_
  by_cases il:i<ys.length
  ·have iv:i<vt.length:=by omega
   obtain ⟨k,hk,t,b,ev,_,_,et',_⟩:=rt.at_ (D1 iv);obtain ⟨t',z,ev',⟨b',et''⟩,ez⟩:=ht i _ _ (D1 iv) (D1 il);rw[ev] at ev';cases ev';rw[et'] at et'';cases et'';rw[D1 il,ez,DA,DA,hk]
   rfl
  ·have:=rt.1;rw[List.getElem?_eq_none (by omega),List.getElem?_eq_none (by simp;omega)]
 subst ey;have tl:=rt.1;refine ⟨_,rfl,g,p1,_,a,rfl,e4,(fun m=>?_),_,rfl,r,_,dx,_,_,rfl,(g4 _ _ er),B.Eh,B.Ev,bI.2.2.1,lt,vt,12,rfl,g4 _ _ et,by omega,_,rfl,r,_,dx,_,_,rfl,(g4 _ _ er),B.Eh,B.Ev,bI.2.2.1,.inl ⟨rfl,_,aE.of (g4 _ _ et)⟩,_,rfl,l,_,_,_,rfl,rfl,aE.of (g4 _ _ el),(aD (j:=1) rfl),_,rfl,l,_,_,_,rfl,rfl,aE.of (g4 _ _ el),(aD (j:=2) rfl),by show 2<=sizeLine;decide,fun t nt'=>?_⟩
 ·obtain ⟨x,hx,ex⟩:=DI.mp m;exact nt x hx ex
 have g5:=g4.trans (aq nt' (.tup [.str g,.ref t2]));have e5:aO H4 t (.tup [.str g,.ref t2]) t=some (.tup [.str g,.ref t2]):=af;generalize aO H4 t (.tup [.str g,.ref t2])=H5 at g5 e5⊢;exact ⟨lt,_,_,rfl,rfl,g5 _ _ et,by omega,q _ ((rm.same g5).take (g5 _ _ et) ⟨t,t2,rfl,trivial,trivial,e5,g5 _ _ et2⟩)⟩
theorem AJ {dV:Value} (F:bv K "put_link" "put_link" yA dV f fd) (DZ19:Dx P w K mg base bi 1 "refuse_full" ["kept","most"] [] eW) (DZ20:Dx P w K mg base bi 1 "place_of" ["recipe","name","at"] [] (gz Ef Ee on Db)):bh P w K mg base bi 2 f fd ["recipe","at","values"] (kO Ef Ee on Db):=by
 have sc:aC ["recipe","at","values","one","other","turns"] ["recipe","at","values"] (aw yA):=df (by decide+kernel)
 refine F.ok sc (fun vs H Q E h=>?_) (fun cdv A outer s H vs Q E hr h=>?_)
 ·obtain ⟨_,_,_,_,_,_,_,_,_,_,_,_,_,_,_,_,_,rfl,_⟩:=h
  rfl
 obtain ⟨r,l,a,G,n,p,lt,ls,lk,ks,M,w,x,y,t,i,j,rfl,rm,⟨xs,el,rl⟩,t0,sl1,⟨⟨s1,hi,rfl⟩,mi⟩,⟨⟨s2,hj,rfl⟩,mj⟩,ml,q⟩:=h;refine ⟨_,(ac (bK 3 sc (b5 DZ20 hr (@aa _ _ _ _ _ (pv 0) (@aa _ _ _ _ _ (aj ai (pv 2) ad (fun _ _=>rfl)) (@aa _ _ _ _ _ (pv 1) ae rfl) rfl) rfl))) (ac (bK 4 sc (b5 DZ20 hr (@aa _ _ _ _ _ (pv 0) (@aa _ _ _ _ _ (aj ai (pv 2) ad (fun _ _=>rfl)) (@aa _ _ _ _ _ (pv 1) ae rfl) rfl) rfl))) (ac (aV (b5 DZ19 hr (@aa _ _ _ _ _ (aL (pv 0) rfl) (@aa _ _ _ _ _ (eS rfl B.F9) ae rfl) rfl))) (ac (bK 5 sc (eO (av bC (aj ai (pv 2) ad (fun _ _=>rfl)) ax (aA _)) (aj ai (pv 2) ad (fun _ _=>rfl)) ad)) (ah (aV (bO DE DG DF a8 (aL (pv 0) rfl) (@aa _ _ _ _ _ (@cH _ _ _ _ _ (@aa _ _ _ _ _ (aj ai (pv 2) ad (fun _ _=>rfl)) (@aa _ _ _ _ _ (pv 3) (@aa _ _ _ _ _ (pv 4) (@aa _ _ _ _ _ (pv 5) ae rfl) rfl) rfl) rfl)) ae rfl)))))))),?_⟩
 try dsimp only[cxK]
 have sl:sizeLine=16777216:=sizeLine_eq;obtain ⟨x1,xs,rfl,e1,rl1⟩:=a6 rl;obtain ⟨x2,xs,rfl,e2,rl2⟩:=a6 rl1;cases e1;cases e2;obtain ⟨dx,er⟩:=rm.er;obtain ⟨vk,ek,rk⟩:=id rm.ek;refine ⟨_,rfl,_,rfl,l,_,_,_,rfl,rfl,aE.of el,(aD (j:=1) rfl),_,rfl,r,s1.n,a,n,p,M,i,s1,rfl,rm.a,sl1,hi,rfl,mi,fun H1 g1=>?_⟩
 refine ⟨_,rfl,_,rfl,l,_,_,_,rfl,rfl,aE.of (g1 _ _ el),(aD (j:=2) rfl),_,rfl,r,s2.n,a,n,p,M,j,s2,rfl,(rm.same g1).a,sl1,hj,rfl,mj,fun H2 g2=>?_⟩
 have g12:=g1.trans g2;have kl:=rk.1;refine ⟨_,rfl,r,_,dx,_,_,rfl,(g12 _ _ er),B.Eh,B.Ff,bI.2.2.2.2,lk,vk,24,rfl,g12 _ _ ek,by omega,?_⟩
 dsimp only;change L2.mq (rY _ _) _ _ [some (.ref r),some a,some (.ref l),some (vN i),some (vN j),none] _;refine cut (fun σ H'=>σ= [GT r,some a,GT l,some (vN i),some (vN j),some (vN t)]/\H2=H') (fun N hN=>?_) ?_
 ·refine ⟨_,rfl,l,_,_,_,rfl,rfl,aE.of (g12 _ _ el),(aD (j:=0) rfl),rfl,_,rfl,kv (fun e=>?_) fun e=>?_⟩
  ·change A2 _ xs (if w= "within" then [Fv.num t] else []) at rl2
   rw[if_pos e] at rl2;obtain ⟨x3,xs,rfl,e3,rl3⟩:=a6 rl2;cases e3;exact ⟨_,rfl,l,_,_,_,rfl,rfl,aE.of (g12 _ _ el),(aD (j:=3) rfl),hN _ _ ⟨rfl,rfl⟩⟩
  ·cases t0 e;exact hN _ _ ⟨rfl,rfl⟩
 rintro σ _ ⟨rfl,rfl⟩;refine ⟨_,rfl,r,_,dx,_,_,rfl,(g12 _ _ er),B.Eh,B.Ff,bI.2.2.2.2,.inl ⟨rfl,_,aE.of (g12 _ _ ek)⟩,_,rfl,l,_,_,_,rfl,rfl,aE.of (g12 _ _ el),(aD (j:=0) rfl),_,rfl,_,rfl,_,rfl,by show 4<=sizeLine;decide,fun t' nt'=>?_⟩
 have g5:=g12.trans (aq nt' (.tup [.str w,vN i,vN j,vN t]));have e5:aO H2 t' (.tup [.str w,vN i,vN j,vN t]) t'=some (.tup [.str w,vN i,vN j,vN t]):=af;generalize aO H2 t' (.tup [.str w,vN i,vN j,vN t])=H5 at g5 e5⊢;exact ⟨lk,_,_,rfl,rfl,g5 _ _ ek,by omega,q _ ((rm.same g5).link (g5 _ _ ek) ⟨t',rfl,trivial,e5⟩)⟩
theorem AK {dV:Value} (F:bv K "__init__" "Step.__init__" v9 dV f fd):bh P w K mg base bi 1 f fd ["self","name","least","most","uses","second"] (i3 K):=by
 have sc:aC ["self","name","least","most","uses","second"] ["self","name","least","most","uses","second"] (aw v9):=df (by decide+kernel)
 refine F.ok sc (fun vs H Q E h=>?_) (fun cdv A outer s H vs Q E hr h=>?_)
 ·obtain ⟨_,_,_,_,_,_,_,_,_,_,rfl,_⟩:=h
  rfl
 obtain ⟨a,C,dx,nm,l,m,uv,sv,us,c,rfl,e0,sc0,hu,hs,q⟩:=h;refine ⟨_,(ac (dM (pv 0) (pv 1) rfl) (ac (dM (pv 0) (pv 2) rfl) (ac (dM (pv 0) (pv 3) rfl) (ac (dM (pv 0) (eO (av cG (pv 4) bo (aA _)) (@aZ _ _ _ _ ae) (aK dk rfl B.Fy boot_list (@aa _ _ _ _ _ (pv 4) ae rfl))) rfl) (ah (dM (pv 0) (eO (av cG (pv 5) bo (aA _)) bo (@cH _ _ _ _ _ (@aa _ _ _ _ _ (aj aY (pv 5) ad (fun _ _=>rfl)) (@aa _ _ _ _ _ (aj aY (pv 5) ad (fun _ _=>rfl)) (@aa _ _ _ _ _ (aK dk rfl B.Fy boot_list (@aa _ _ _ _ _ (aj aY (pv 5) ad (fun _ _=>rfl)) ae rfl)) ae rfl) rfl) rfl))) rfl)))))),?_⟩
 try dsimp only[cxK]
 refine ⟨_,rfl,_,rfl,a,C,dx,_,rfl,e0,sc0.cl,sc0.name,by decide,?_⟩
 refine ⟨_,rfl,_,rfl,a,C,dx,_,rfl,af,sc0.cl,sc0.least,(by have:=aX "name" (.str nm) [];simp at this;omega),?_⟩
 refine ⟨_,rfl,_,rfl,a,C,dx,_,rfl,af,sc0.cl,sc0.most,(by have:=aX "name" (.str nm) [];have:=aX "least" (.int l) (aM "name" (.str nm) []);simp at*;omega),?_⟩
 have k0:=(((Kept.refl H a).put (.ins C dx (aM "name" (.str nm) []))).put (.ins C dx (aM "least" (.int l) (aM "name" (.str nm) [])))).put (.ins C dx (aM "most" (.int m) (aM "least" (.int l) (aM "name" (.str nm) []))));have ea:(aO (aO (aO H a (.ins C dx (aM "name" (.str nm) []))) a (.ins C dx (aM "least" (.int l) (aM "name" (.str nm) [])))) a (.ins C dx (aM "most" (.int m) (aM "least" (.int l) (aM "name" (.str nm) []))))) a=some (.ins C dx (aM "most" (.int m) (aM "least" (.int l) (aM "name" (.str nm) [])))):=af;have fr0:∀{b:Addr},(aO (aO (aO H a (.ins C dx (aM "name" (.str nm) []))) a (.ins C dx (aM "least" (.int l) (aM "name" (.str nm) [])))) a (.ins C dx (aM "most" (.int m) (aM "least" (.int l) (aM "name" (.str nm) []))))) b=none->H b=none:=fun {b} hb=>by
  have n:b≠a:=fun z=>by rw[z,af] at hb;cases hb
  rw[aB n,aB n,aB n] at hb;exact hb
 generalize aO (aO (aO H a (.ins C dx (aM "name" (.str nm) []))) a (.ins C dx (aM "least" (.int l) (aM "name" (.str nm) [])))) a (.ins C dx (aM "most" (.int m) (aM "least" (.int l) (aM "name" (.str nm) []))))=H1 at k0 ea fr0⊢;have l3:(aM "most" (.int m) (aM "least" (.int l) (aM "name" (.str nm) []))).length<=3:=by
  have h1:=aX "name" (.str nm) [];have h2:=aX "least" (.int l) (aM "name" (.str nm) []);have h3:=aX "most" (.int m) (aM "least" (.int l) (aM "name" (.str nm) []));simp at h1;omega
 obtain ⟨f3,ef3⟩:∃f3,f3=aM "most" (.int m) (aM "least" (.int l) (aM "name" (.str nm) [])):=⟨_,rfl⟩;rw[<-ef3] at ea l3;have ne:∀{b:Addr} {zs:List V},H b=some (.lst zs)->b≠a:=fun hb z=>by subst z;rw[e0] at hb;cases hb
 have neT:∀{b:Addr} {zs:List V},H b=some (.tup zs)->b≠a:=fun hb z=>by subst z;rw[e0] at hb;cases hb
 try dsimp only[aR,aS]
 refine cut (fun σ H'=>Kept H H' a/\σ= [GT a,some (.str nm),some (.int l),some (.int m),some uv,some sv]/\∃u,u≠a/\H u=none/\H' u=some (.lst (us.map V.ref))/\H' a=some (.ins C dx (aM "uses" (.ref u) f3))/\∀b,H' b=none->H b=none) (fun N hN=>?_) ?_
 ·rcases hu with ⟨rfl,rfl⟩|⟨lu,rfl,eu⟩
  ·refine ⟨_,rfl,rfl,_,rfl,dT rfl ⟨by show 0<=sizeLine;decide,fun u nu=>?_⟩⟩
   have ua:u≠a:=fun z=>by rw[z,ea] at nu;cases nu
   refine ⟨_,rfl,a,C,dx,_,rfl,(by rw[aB (Ne.symm ua)];exact ea),sc0.cl,sc0.uses,by omega,hN _ _ ⟨(k0.new nu _).put _,rfl,u,ua,fr0 nu,by rw[aB ua];exact af,af,fun b hb=>?_⟩⟩
   have n1:b≠a:=fun z=>by rw[z,af] at hb;cases hb
   have n2:b≠u:=fun z=>by rw[z,aB ua,af] at hb;cases hb
   rw[aB n1,aB n2] at hb;exact fr0 hb
  ·refine ⟨_,rfl,rfl,_,rfl,dF (fun z=>nomatch z) ⟨_,rfl,lu,_,rfl,.inl (aE.of (k0 _ _ eu (ne eu))),fun u nu=>?_⟩⟩
   have ua:u≠a:=fun z=>by rw[z,ea] at nu;cases nu
   refine ⟨_,rfl,a,C,dx,_,rfl,(by rw[aB (Ne.symm ua)];exact ea),sc0.cl,sc0.uses,by omega,hN _ _ ⟨(k0.new nu _).put _,rfl,u,ua,fr0 nu,by rw[aB ua];exact af,af,fun b hb=>?_⟩⟩
   have n1:b≠a:=fun z=>by rw[z,af] at hb;cases hb
   have n2:b≠u:=fun z=>by rw[z,aB ua,af] at hb;cases hb
   rw[aB n1,aB n2] at hb;exact fr0 hb
 rintro σ H2 ⟨k2,rfl,u,ua,nu,eu,ea2,fr2⟩;have l4:=aX "uses" (.ref u) f3
 match c,hs with
 |none,hs=>
  have hs':sv= .non:=hs;subst hs';refine ⟨_,rfl,rfl,_,rfl,dT rfl ⟨_,rfl,a,C,dx,_,rfl,ea2,sc0.cl,sc0.second,by omega,?_⟩⟩
  exact q u .non _ (k2.put _) ua nu (by rw[aB ua];exact eu) rfl (by rw[af,ef3];rfl)
 |some (x,y,vs),hs=>
  obtain ⟨t,l2,rfl,et,el⟩:=hs;have et2:=k2 _ _ et (neT et);have el2:=k2 _ _ el (ne el);refine ⟨_,rfl,rfl,_,rfl,dF (fun z=>nomatch z) ?_⟩
  refine ⟨_,rfl,_,_,_,_,rfl,rfl,bX.of et2,rfl,_,rfl,_,_,_,_,rfl,rfl,bX.of et2,rfl,_,rfl,_,_,_,_,rfl,rfl,bX.of et2,rfl,l2,_,rfl,.inl (aE.of el2),fun lc nc=>⟨by show 3<=sizeLine;decide,fun tc ntc=>?_⟩⟩
  have lca:lc≠a:=fun z=>by rw[z,ea2] at nc;cases nc
  have lcu:lc≠u:=fun z=>by rw[z,eu] at nc;cases nc
  have gc:=aq nc (.lst (vs.map V.ref));have gt:=aq ntc (.tup [.int x,.int y,.ref lc]);have tca:tc≠a:=fun z=>by rw[z,gc _ _ ea2] at ntc;cases ntc
  have tcu:tc≠u:=fun z=>by rw[z,gc _ _ eu] at ntc;cases ntc
  refine ⟨_,rfl,a,C,dx,_,rfl,gt _ _ (gc _ _ ea2),sc0.cl,sc0.second,by omega,?_⟩
  refine q u (.ref tc) _ (((k2.new nc _).new ntc _).put _) ua nu (by rw[aB ua];exact gt _ _ (gc _ _ eu)) ⟨tc,lc,rfl,by rw[aB tca];exact af,by rw[aB lca];exact gt _ _ af,fr2 _ (gc.free ntc),fr2 _ nc⟩ (by rw[af,ef3];rfl)
theorem AL {dV:Value} (F:bv K "__init__" "Warm.__init__" wa dV f fd) (DZ23:mT P w K mg base bi 1 Fw ["self","name","least","most","uses","second"] [.non,.non] (i3 K)):bh P w K mg base bi 2 f fd ["self","name","least","most","fill","uses","second"] (lP K):=by
 have sc:aC ["self","name","least","most","fill","uses","second"] ["self","name","least","most","fill","uses","second"] (aw wa):=df (by decide+kernel)
 refine F.ok sc (fun vs H Q E h=>?_) (fun cdv A outer s H vs Q E hr h=>?_)
 ·obtain ⟨_,_,_,_,_,_,_,_,_,_,_,rfl,_⟩:=h
  rfl
 obtain ⟨a,C,dx,nm,l,m,fl,uv,sv,us,c,rfl,e0,sc0,nf,hu,hs,q⟩:=h;refine ⟨_,(ac (aV (zU B.FN DZ23 hr (by decide) rfl B.Gu (@aa _ _ _ _ _ (pv 0) (@aa _ _ _ _ _ (pv 1) (@aa _ _ _ _ _ (pv 2) (@aa _ _ _ _ _ (pv 3) (@aa _ _ _ _ _ (pv 5) (@aa _ _ _ _ _ (pv 6) ae rfl) rfl) rfl) rfl) rfl) rfl))) (ah (dM (pv 0) (pv 4) rfl))),?_⟩
 try dsimp only[cxK]
 refine ⟨_,rfl,_,rfl,_,rfl,_,rfl,_,rfl,_,rfl,a,C,dx,nm,l,m,uv,sv,us,c,rfl,e0,sc0,hu,hs,fun u s H1 k1 ua nu eu hs1 ea=>?_⟩
 refine ⟨_,rfl,_,rfl,a,C,dx,_,rfl,ea,sc0.cl,nf,(by have:=f8 (nm:= .str nm) (l:= .int l) (m:= .int m) (u:= .ref u) (s:=s);omega),?_⟩
 exact q u s _ (k1.put _) ua nu (by rw[aB ua];exact eu) (hs1.self ea) af
theorem AM {dV:Value} (F:bv K "__init__" "Recipe.__init__" yB dV f fd):bh P w K mg base bi 1 f fd ["self","name","plates","takes","steps","links"] (tS K):=by
 have sc:aC ["self","name","plates","takes","steps","links"] ["self","name","plates","takes","steps","links"] (aw yB):=df (by decide+kernel)
 refine F.ok sc (fun vs H Q E h=>?_) (fun cdv A outer s H vs Q E hr h=>?_)
 ·obtain ⟨_,_,_,_,_,_,_,_,_,_,_,rfl,_⟩:=h
  rfl
 obtain ⟨a,C,dx,lt,ls,lk,nm,p,xt,xs,xk,rfl,e0,sc0,et,es,ek,q⟩:=h;refine ⟨_,(ac (dM (pv 0) (pv 1) rfl) (ac (dM (pv 0) (pv 2) rfl) (ac (dM (pv 0) (aK dk rfl B.Fy boot_list (@aa _ _ _ _ _ (pv 3) ae rfl)) rfl) (ac (dM (pv 0) (aK dk rfl B.Fy boot_list (@aa _ _ _ _ _ (pv 4) ae rfl)) rfl) (ah (dM (pv 0) (aK dk rfl B.Fy boot_list (@aa _ _ _ _ _ (pv 5) ae rfl)) rfl)))))),?_⟩;try dsimp only[cxK]
 have ne:∀{b:Addr} {zs:List V},H b=some (.lst zs)->b≠a:=fun hb z=>by subst z;rw[e0] at hb;cases hb
 refine ⟨_,rfl,_,rfl,a,C,dx,_,rfl,e0,sc0.cl,sc0.name,by decide,?_⟩
 refine ⟨_,rfl,_,rfl,a,C,dx,_,rfl,af,sc0.cl,sc0.plates,(by have:=aX "name" nm [];simp at this;omega),?_⟩
 have k0:=((Kept.refl H a).put (.ins C dx (aM "name" nm []))).put (.ins C dx (aM "plates" p (aM "name" nm [])));have ea:(aO (aO H a (.ins C dx (aM "name" nm []))) a (.ins C dx (aM "plates" p (aM "name" nm [])))) a=some (.ins C dx (aM "plates" p (aM "name" nm []))):=af;have f0:∀b,(aO (aO H a (.ins C dx (aM "name" nm []))) a (.ins C dx (aM "plates" p (aM "name" nm [])))) b=none->H b=none:=fun b hb=>by
  have n1:b≠a:=fun z=>by rw[z,af] at hb;cases hb
  rwa [aB n1,aB n1] at hb
 generalize aO (aO H a (.ins C dx (aM "name" nm []))) a (.ins C dx (aM "plates" p (aM "name" nm [])))=H1 at k0 ea f0⊢;have l2:(aM "plates" p (aM "name" nm [])).length<=2:=by
  have h1:=aX "name" nm [];have h2:=aX "plates" p (aM "name" nm []);simp at h1;omega
 obtain ⟨f2,ef2⟩:∃f2,f2=aM "plates" p (aM "name" nm []):=⟨_,rfl⟩;rw[<-ef2] at ea l2;have et1:=k0 _ _ et (ne et);refine ⟨_,rfl,lt,xt,rfl,.inl (aE.of et1),fun la na=>?_⟩
 have laa:la≠a:=fun z=>by rw[z,ea] at na;cases na
 refine ⟨_,rfl,a,C,dx,_,rfl,(by rw[aB (Ne.symm laa)];exact ea),sc0.cl,sc0.takes,by omega,?_⟩
 have k1:=(k0.new na (.lst xt)).put (.ins C dx (aM "takes" (.ref la) f2));have ea1:(aO (aO H1 la (.lst xt)) a (.ins C dx (aM "takes" (.ref la) f2))) a=some (.ins C dx (aM "takes" (.ref la) f2)):=af;have ela1:(aO (aO H1 la (.lst xt)) a (.ins C dx (aM "takes" (.ref la) f2))) la=some (.lst xt):=by rw[aB laa];exact af
 have f1:∀b,(aO (aO H1 la (.lst xt)) a (.ins C dx (aM "takes" (.ref la) f2))) b=none->H b=none:=fun b hb=>by
  have n1:b≠a:=fun z=>by rw[z,af] at hb;cases hb
  have n2:b≠la:=fun z=>by rw[z,ela1] at hb;cases hb
  rw[aB n1,aB n2] at hb;exact f0 b hb
 generalize aO (aO H1 la (.lst xt)) a (.ins C dx (aM "takes" (.ref la) f2))=H2 at k1 ea1 ela1 f1⊢;have l3:=aX "takes" (.ref la) f2;obtain ⟨f3,ef3⟩:∃f3,f3=aM "takes" (.ref la) f2:=⟨_,rfl⟩;rw[<-ef3] at ea1 l3;have es1:=k1 _ _ es (ne es);refine ⟨_,rfl,ls,xs,rfl,.inl (aE.of es1),fun lb nb=>?_⟩
 have lba:lb≠a:=fun z=>by rw[z,ea1] at nb;cases nb
 have lbl:la≠lb:=fun z=>by rw[<-z,ela1] at nb;cases nb
 refine ⟨_,rfl,a,C,dx,_,rfl,(by rw[aB (Ne.symm lba)];exact ea1),sc0.cl,sc0.steps,by omega,?_⟩
 have k2:=(k1.new nb (.lst xs)).put (.ins C dx (aM "steps" (.ref lb) f3));have ea2:(aO (aO H2 lb (.lst xs)) a (.ins C dx (aM "steps" (.ref lb) f3))) a=some (.ins C dx (aM "steps" (.ref lb) f3)):=af;have elb2:(aO (aO H2 lb (.lst xs)) a (.ins C dx (aM "steps" (.ref lb) f3))) lb=some (.lst xs):=by rw[aB lba];exact af
 have ela2:(aO (aO H2 lb (.lst xs)) a (.ins C dx (aM "steps" (.ref lb) f3))) la=some (.lst xt):=by rw[aB laa,aB lbl];exact ela1
 have f2':∀b,(aO (aO H2 lb (.lst xs)) a (.ins C dx (aM "steps" (.ref lb) f3))) b=none->H b=none:=fun b hb=>by
  have n1:b≠a:=fun z=>by rw[z,af] at hb;cases hb
  have n2:b≠lb:=fun z=>by rw[z,elb2] at hb;cases hb
  rw[aB n1,aB n2] at hb;exact f1 b hb
 generalize aO (aO H2 lb (.lst xs)) a (.ins C dx (aM "steps" (.ref lb) f3))=H3 at k2 ea2 elb2 ela2 f2'⊢;have l4:=aX "steps" (.ref lb) f3;obtain ⟨f4,ef4⟩:∃f4,f4=aM "steps" (.ref lb) f3:=⟨_,rfl⟩;rw[<-ef4] at ea2 l4;have ek1:=k2 _ _ ek (ne ek);refine ⟨_,rfl,lk,xk,rfl,.inl (aE.of ek1),fun lc nc=>?_⟩
 have lca:lc≠a:=fun z=>by rw[z,ea2] at nc;cases nc
 have lcb:lb≠lc:=fun z=>by rw[<-z,elb2] at nc;cases nc
 have lcl:la≠lc:=fun z=>by rw[<-z,ela2] at nc;cases nc
 refine ⟨_,rfl,a,C,dx,_,rfl,(by rw[aB (Ne.symm lca)];exact ea2),sc0.cl,sc0.links,by omega,?_⟩
 refine q la lb lc _ laa lba lca (f0 _ na) (f1 _ nb) (f2' _ nc) (by simp[lbl,lcl,lcb]) ((k2.new nc (.lst xk)).put _) (by rw[aB laa,aB lcl];exact ela2) (by rw[aB lba,aB lcb];exact elb2) (by rw[aB lca];exact af) ?_
 rw[af,ef4,ef3,ef2]
 rfl
theorem AN {dV:Value} (F:bv K "recipe_begun" "recipe_begun" yC dV f fd) (DZ25:mT P w K mg base bi 1 FO ["self","name","plates","takes","steps","links"] [] (tS K)):bh P w K mg base bi 3 f fd ["values"] (jA Ef Ee on Db):=by
 have sc:aC ["values"] ["values"] (aw yC):=df (by decide+kernel)
 refine F.ok sc (fun vs H Q E h=>?_) (fun cdv A outer s H vs Q E hr h=>?_)
 ·obtain ⟨_,_,_,rfl,_⟩:=h
  rfl
 obtain ⟨l,n,p,rfl,⟨xs,el,rl⟩,q⟩:=h;refine ⟨_,(ac (aJ (PW.pt (bU (av cG (pv 0) bo (aA _)) (bM (av eP (aj ai (pv 0) ad (fun _ _=>rfl)) ax (aA _))))) (ah cM) az) (ah (ay (xw B.Gm DZ25 hr (by decide) rfl B.Gc (@aa _ _ _ _ _ (aj ai (pv 0) ad (fun _ _=>rfl)) (@aa _ _ _ _ _ (aj ai (pv 0) ad (fun _ _=>rfl)) (@aa _ _ _ _ _ (@aZ _ _ _ _ ae) (@aa _ _ _ _ _ (@aZ _ _ _ _ ae) (@aa _ _ _ _ _ (@aZ _ _ _ _ ae) ae rfl) rfl) rfl) rfl) rfl))))),?_⟩
 try dsimp only[cxK]
 have sl:sizeLine=16777216:=sizeLine_eq;obtain ⟨x1,xs,rfl,e1,rl⟩:=a6 rl;obtain ⟨x2,xs,rfl,e2,rl⟩:=a6 rl;cases e1;cases e2;refine cut (fun σ H'=>σ= [GT l]/\H=H') (fun N hN=>?_) ?_
 ·exact ⟨_,rfl,rfl,_,rfl,dF (fun z=>nomatch z) ⟨_,rfl,l,_,_,_,rfl,rfl,aE.of el,(aD (j:=0) rfl),rfl,_,rfl,nF rfl (hN _ _ ⟨rfl,rfl⟩)⟩⟩
 rintro σ _ ⟨rfl,rfl⟩;refine ⟨_,rfl,l,_,_,_,rfl,rfl,aE.of el,(aD (j:=1) rfl),_,rfl,l,_,_,_,rfl,rfl,aE.of el,(aD (j:=2) rfl),by show 0<=sizeLine;decide,fun b0 nb0=>⟨by show 0<=sizeLine;decide,fun b1 nb1=>⟨by show 0<=sizeLine;decide,fun b2 nb2=>fun rb dxb nr nd nrd=>?_⟩⟩⟩
 have k0:=aq nb0 (.lst []);have k1:=aq nb1 (.lst []);have k2:=aq nb2 (.lst []);have gm:=hU (C:=Db) nr nd;have gk:=(k0.trans k1).trans k2;refine ⟨rb,_,dxb,b0,b1,b2,.str n,vN p,[],[],[],rfl,af,⟨B.Eh,B.Fu,B.Fn,B.Ev,B.Ej,B.Ff⟩,gm _ _ (k2 _ _ (k1 _ _ af)),gm _ _ (k2 _ _ af),gm _ _ af,fun t' s' u' H15 ta sa ua nt ns nu nd3 kp et7 es7 eu7 er=>⟨rfl,?_⟩⟩
 have gg:=gk.trans gm;exact q rb t' s' u' _ (ya (gk.trans (f9 nr nd kp)) (gk.free nr) (gg.free nt) (gg.free ns) (gg.free nu) ta sa ua nd3 er et7 es7 eu7)
theorem AO {dV:Value} (F:bv K "step_of" "step_of" yD dV f fd) (DZ23:mT P w K mg base bi 1 Fw ["self","name","least","most","uses","second"] [.non,.non] (i3 K)) (DZ24:mT P w K mg base bi 2 FF ["self","name","least","most","fill","uses","second"] [.non,.non] (lP K)):bh P w K mg base bi 4 f fd ["values"] (nR Ef Ee on):=by
 have sc:aC ["values"] ["values"] (aw yD):=df (by decide+kernel)
 refine F.ok sc (fun vs H Q E h=>?_) (fun cdv A outer s H vs Q E hr h=>?_)
 ·obtain ⟨_,_,_,_,_,_,rfl,_⟩:=h
  rfl
 obtain ⟨l,w,n,lo,hi,f,rfl,⟨xs,el,rl⟩,wd,fo,q⟩:=h;refine ⟨_,(ac (aJ (av bC (aj ai (pv 0) ad (fun _ _=>rfl)) ax (aA _)) (ah (ay (lE B.GE DZ23 hr (by decide) rfl B.GC (@aa _ _ _ _ _ (aj ai (pv 0) ad (fun _ _=>rfl)) (@aa _ _ _ _ _ (aj ai (pv 0) ad (fun _ _=>rfl)) (@aa _ _ _ _ _ (aj ai (pv 0) ad (fun _ _=>rfl)) ae rfl) rfl) rfl)))) az) (ac (aJ (av bC (aj ai (pv 0) ad (fun _ _=>rfl)) ax (aA _)) (ah (ay (lE B.Gz DZ24 hr (by decide) rfl B.Gi (@aa _ _ _ _ _ (aj ai (pv 0) ad (fun _ _=>rfl)) (@aa _ _ _ _ _ (aj ai (pv 0) ad (fun _ _=>rfl)) (@aa _ _ _ _ _ (aj ai (pv 0) ad (fun _ _=>rfl)) (@aa _ _ _ _ _ (aj ai (pv 0) ad (fun _ _=>rfl)) ae rfl) rfl) rfl) rfl)))) az) (ah (ay (lE B.GA DZ23 hr (by decide) rfl B.Gv (@aa _ _ _ _ _ (aj ai (pv 0) ad (fun _ _=>rfl)) (@aa _ _ _ _ _ (aj ai (pv 0) ad (fun _ _=>rfl)) (@aa _ _ _ _ _ (aj ai (pv 0) ad (fun _ _=>rfl)) ae rfl) rfl) rfl)))))),?_⟩
 try dsimp only[cxK]
 have sl:sizeLine=16777216:=sizeLine_eq;obtain ⟨x1,xs1,rfl,e1,rl1⟩:=a6 rl;obtain ⟨x2,xs2,rfl,e2,rl2⟩:=a6 rl1;obtain ⟨x3,xs3,rfl,e3,rl3⟩:=a6 rl2;cases e1;cases e2;cases e3;have own2:∀{x u:Addr},H x=none->H u=none->∀a∈(So.mk x u none).own,H a=none:=fun h1 h2 a ha=>by
  simp only[So.own,Option.toList,D2,D6,or_false] at ha;rcases ha with rfl|rfl
  ·exact h1
  ·exact h2
 have own_nd:∀{x u:Addr},u≠x->(So.mk x u none).own.Nodup:=fun h=>by
  simp[So.own,h.symm]
 refine cut (fun σ H'=>σ= [GT l]/\H=H'/\w≠ "cut") (fun N hN=>?_) ?_
 ·refine ⟨_,rfl,l,_,_,_,rfl,rfl,aE.of el,(aD (j:=0) rfl),rfl,_,rfl,kv (fun e=>?_) fun e=>hN _ _ ⟨rfl,rfl,e⟩⟩
  subst e
  match f,fo with
  |some am,z=>exact absurd z.1 (by decide)
  |none,_=>
  refine ⟨_,rfl,l,_,_,_,rfl,rfl,aE.of el,(aD (j:=1) rfl),_,rfl,l,_,_,_,rfl,rfl,aE.of el,(aD (j:=2) rfl),_,rfl,l,_,_,_,rfl,rfl,aE.of el,(aD (j:=3) rfl),fun x dx nx nd nxd=>⟨x,_,dx,_,_,_,.non,.non,[],none,rfl,af,⟨B.Fo,B.Fh,B.Fc,B.Fi,B.Fg,B.Ep⟩,.inl ⟨rfl,rfl⟩,rfl,fun u6 s6 H6 k6 ux nu eu hs6 ex=>⟨rfl,?_⟩⟩⟩
  have gm:=hU (C:=Ef) nx nd;have g6:=f9 nx nd k6;have hs6:s6= .non:=hs6;subst hs6;exact q ⟨x,u6,none⟩ _ g6 ⟨_,dx,_,_,ex,.inl ⟨rfl,rfl⟩,jr,DU f8 (by decide),trivial,⟨[],eu,A2.nil⟩,rfl⟩ (own2 nx (gm.free nu)) (own_nd ux)
 rintro σ _ ⟨rfl,rfl,n1⟩;refine cut (fun σ H'=>σ= [GT l]/\H=H'/\w≠ "warm") (fun N hN=>?_) ?_
 ·refine ⟨_,rfl,l,_,_,_,rfl,rfl,aE.of el,(aD (j:=0) rfl),rfl,_,rfl,kv (fun e=>?_) fun e=>hN _ _ ⟨rfl,rfl,e⟩⟩
  subst e
  match f,fo,rl3,q with
  |none,z,_,_=>exact absurd rfl z
  |some am,_,rl3,q=>
  obtain ⟨x4,xs4,rfl,⟨tf,rfl,_,etf⟩,rl4⟩:=a6 rl3;refine ⟨_,rfl,l,_,_,_,rfl,rfl,aE.of el,(aD (j:=1) rfl),_,rfl,l,_,_,_,rfl,rfl,aE.of el,(aD (j:=2) rfl),_,rfl,l,_,_,_,rfl,rfl,aE.of el,(aD (j:=3) rfl),_,rfl,l,_,_,_,rfl,rfl,aE.of el,(aD (j:=4) rfl),fun x dx nx nd nxd=>⟨x,_,dx,_,_,_,_,.non,.non,[],none,rfl,af,⟨B.Fj,B.Ex,B.En,B.Ey,B.Ew,B.El⟩,B.Fx,.inl ⟨rfl,rfl⟩,rfl,fun u6 s6 H6 k6 ux nu eu hs6 ex=>⟨rfl,?_⟩⟩⟩
  have gm:=hU (C:=on) nx nd;have g6:=f9 nx nd k6;have hs6:s6= .non:=hs6;subst hs6;exact q ⟨x,u6,none⟩ _ g6 ⟨_,dx,_,_,ex,.inr (.inr ⟨rfl,rfl⟩),tL,DU (aX "fill" (.ref tf) (gD (.str n) (vN lo) (vN hi) (.ref u6) .non)) (DU (Nat.succ_le_succ f8) (show 6<=10 by decide)),⟨tf,oZ,g6 _ _ etf⟩,⟨[],eu,A2.nil⟩,rfl⟩ (own2 nx (gm.free nu)) (own_nd ux)
 rintro σ _ ⟨rfl,rfl,n2⟩;have e:w= "rest" :=by
  rcases wd with e|e|e
  ·exact absurd e n1
  ·exact e
  ·exact absurd e n2
 subst e
 match f,fo with
 |some am,z=>exact absurd z.1 (by decide)
 |none,_=>
  refine ⟨_,rfl,l,_,_,_,rfl,rfl,aE.of el,(aD (j:=1) rfl),_,rfl,l,_,_,_,rfl,rfl,aE.of el,(aD (j:=2) rfl),_,rfl,l,_,_,_,rfl,rfl,aE.of el,(aD (j:=3) rfl),fun x dx nx nd nxd=>⟨x,_,dx,_,_,_,.non,.non,[],none,rfl,af,⟨B.Fl,B.Fa,B.Eo,B.Fb,B.Ez,B.Em⟩,.inl ⟨rfl,rfl⟩,rfl,fun u6 s6 H6 k6 ux nu eu hs6 ex=>⟨rfl,?_⟩⟩⟩
  have gm:=hU (C:=Ee) nx nd;have g6:=f9 nx nd k6;have hs6:s6= .non:=hs6;subst hs6;exact q ⟨x,u6,none⟩ _ g6 ⟨_,dx,_,_,ex,.inr (.inl ⟨rfl,rfl⟩),jr,DU f8 (by decide),trivial,⟨[],eu,A2.nil⟩,rfl⟩ (own2 nx (gm.free nu)) (own_nd ux)
theorem AQ {dV:Value} (F:bv K "put_step" "put_step" yE dV f fd) (DZ18:Dx P w K mg base bi 1 "refuse_twice" ["name","told","at"] [] fz) (DZ19:Dx P w K mg base bi 1 "refuse_full" ["kept","most"] [] eW) (DZ27:Dx P w K mg base bi 4 "step_of" ["values"] [] (nR Ef Ee on)):bh P w K mg base bi 5 f fd ["recipe","at","values"] (kP Ef Ee on Db):=by
 have sc:aC ["recipe","at","values"] ["recipe","at","values"] (aw yE):=df (by decide+kernel)
 refine F.ok sc (fun vs H Q E h=>?_) (fun cdv A outer s H vs Q E hr h=>?_)
 ·obtain ⟨_,_,_,_,_,_,_,_,_,_,_,_,_,_,_,_,rfl,_⟩:=h
  rfl
 obtain ⟨r,l,a,G,n,p,lt,ls,lk,ks,M,w,z,lo,hi,f,rfl,rm,lv,wd,fo,nz,ml,q⟩:=h;refine ⟨_,(ac (aV (b5 DZ18 hr (@aa _ _ _ _ _ (aj ai (pv 2) ad (fun _ _=>rfl)) (@aa _ _ _ _ _ (fW (own:= "step") (ys:= []) (js:= []) rfl (xq xn .nil (by decide) rfl rfl rfl rfl rfl rfl rfl rfl) (cv (aL (pv 0) rfl)) (fun C fp s H=>(vz (K:=K) rfl (pv 0) rfl))) (@aa _ _ _ _ _ (pv 1) ae rfl) rfl) rfl))) (ac (aV (b5 DZ19 hr (@aa _ _ _ _ _ (aL (pv 0) rfl) (@aa _ _ _ _ _ (eS rfl B.F8) ae rfl) rfl))) (ah (aV (bO DE DG DF a8 (aL (pv 0) rfl) (@aa _ _ _ _ _ (b5 DZ27 hr (@aa _ _ _ _ _ (pv 2) ae rfl)) ae rfl)))))),?_⟩
 try dsimp only[cxK]
 have sl:sizeLine=16777216:=sizeLine_eq;have scOf:∀{w:Str} {C:Addr},iM Ef Ee on w C->fD K C:=fun h=>by
  rcases h with ⟨_,rfl⟩|⟨_,rfl⟩|⟨_,rfl⟩
  ·exact ⟨B.Fo,B.Fh,B.Fc,B.Fi,B.Fg,B.Ep⟩
  ·exact ⟨B.Fl,B.Fa,B.Eo,B.Fb,B.Ez,B.Em⟩
  ·exact ⟨B.Fj,B.Ex,B.En,B.Ey,B.Ew,B.El⟩
 obtain ⟨xs,el,rl⟩:=id lv;obtain ⟨x1,xs1,rfl,e1,rl1⟩:=a6 rl;cases e1;obtain ⟨dx,er⟩:=rm.er;have es:=rm.es;have kl:=rm.len;refine ⟨_,rfl,l,_,_,_,rfl,rfl,aE.of el,(aD (j:=1) rfl),_,rfl,r,_,dx,_,_,rfl,er,B.Eh,B.Ej,bI.2.2.2.1,ls,rfl,⟨_,aE.of es⟩,i0 (re V.str) (fun _=>False) (fun i=>hV M.steps i) (aE.of es) (by rw[D4];omega) (fun a h=>h.elim) (fun i y hy H2 g Q' hQ=>?_) fun p1 H4 np g4 hp=>?_⟩
 ·rw[DA] at hy;obtain ⟨k,hk,rfl⟩:=DV.mp hy;have il:i<M.steps.length:=by have:=aU hk;omega
  have hs:=D1 il;rw[bP hs] at hQ;obtain ⟨C,dxk,sv,ff,ex,hC,sf,_⟩:=rm.ss i k _ hk hs;exact ⟨_,rfl,k.x,C,dxk,ff,_,rfl,g _ _ ex,(scOf hC).cl,(scOf hC).name,sf.name,hQ _ _ (.refl _) rfl⟩
 obtain ⟨vs,ep,rp⟩:=hp;have ey:vs=(M.steps.map fun s=>s.n).map V.str:=by
  have e:=map_getD (fun z:Str=>z) (M.steps.map fun s=>s.n) ""
  rw[D4,List.map_id'] at e;rw[rp.val,D4,kl];exact congrArg (List.map V.str) e
 subst ey;refine ⟨_,rfl,z,p1,_,a,rfl,ep,(fun m=>?_),_,rfl,r,_,dx,_,_,rfl,(g4 _ _ er),B.Eh,B.Ej,bI.2.2.2.1,ls,_,12,rfl,g4 _ _ es,by rw[D4];omega,_,rfl,r,_,dx,_,_,rfl,(g4 _ _ er),B.Eh,B.Ej,bI.2.2.2.1,.inl ⟨rfl,_,aE.of (g4 _ _ es)⟩,_,rfl,l,w,z,lo,hi,f,rfl,lv.same g4,wd,fo,fun k H5 g5 sm nk ndk=>?_⟩
 ·obtain ⟨x,hx,ex⟩:=DI.mp m;exact nz x hx ex
 have g45:=g4.trans g5;exact ⟨ls,_,_,rfl,rfl,g45 _ _ es,by rw[D4];omega,q k _ (rm.step g45 sm (fun a ha=>g4.free (nk a ha)) ndk)⟩
theorem AR {dV:Value} (F:bv K "put_second" "put_second" yF dV f fd) (DZ20:Dx P w K mg base bi 1 "place_of" ["recipe","name","at"] [] (gz Ef Ee on Db)):bh P w K mg base bi 2 f fd ["recipe","at","values"] (iQ Ef Ee on Db):=by
 have sc:aC ["recipe","at","values","step"] ["recipe","at","values"] (aw yF):=df (by decide+kernel)
 refine F.ok sc (fun vs H Q E h=>?_) (fun cdv A outer s H vs Q E hr h=>?_)
 ·obtain ⟨_,_,_,_,_,_,_,_,_,_,_,_,_,_,_,_,rfl,_⟩:=h
  rfl
 obtain ⟨r,l,a,G,n,p,lt,ls,lk,ks,M,z,lo,hi,i,s,rfl,rm,⟨xs,el,rl⟩,sl1,⟨⟨s1,hi1,rfl⟩,mi⟩,hi2,es0,q⟩:=h;refine ⟨_,(ac (bK 3 sc (aj ai (aL (pv 0) rfl) (b5 DZ20 hr (@aa _ _ _ _ _ (pv 0) (@aa _ _ _ _ _ (aj ai (pv 2) ad (fun _ _=>rfl)) (@aa _ _ _ _ _ (pv 1) ae rfl) rfl) rfl)) (fun _ _=>rfl))) (ac (aJ (av iW (aL (pv 3) rfl) bo (aA _)) (ah cM) az) (ah (dM (pv 3) (@cH _ _ _ _ _ (@aa _ _ _ _ _ (aj ai (pv 2) ad (fun _ _=>rfl)) (@aa _ _ _ _ _ (aj ai (pv 2) ad (fun _ _=>rfl)) (@aa _ _ _ _ _ (@aZ _ _ _ _ ae) ae rfl) rfl) rfl)) rfl)))),?_⟩
 try dsimp only[cxK]
 have sl:sizeLine=16777216:=sizeLine_eq;have scOf:∀{w:Str} {C:Addr},iM Ef Ee on w C->fD K C:=fun h=>by
  rcases h with ⟨_,rfl⟩|⟨_,rfl⟩|⟨_,rfl⟩
  ·exact ⟨B.Fo,B.Fh,B.Fc,B.Fi,B.Fg,B.Ep⟩
  ·exact ⟨B.Fl,B.Fa,B.Eo,B.Fb,B.Ez,B.Em⟩
  ·exact ⟨B.Fj,B.Ex,B.En,B.Ey,B.Ew,B.El⟩
 have e9:=DS (hi1.symm.trans hi2);subst e9;obtain ⟨x1,xs1,rfl,e1,rl1⟩:=a6 rl;obtain ⟨x2,xs2,rfl,e2,rl2⟩:=a6 rl1;obtain ⟨x3,xs3,rfl,e3,rl3⟩:=a6 rl2;cases e1;cases e2;cases e3;obtain ⟨dx,er⟩:=rm.er;have es:=rm.es;have kl:=rm.len;have il:=aU hi1;have hk:=D1 (l:=ks) (i:=i) (by omega)
 generalize ks[i]=k at hk;refine ⟨_,rfl,r,_,dx,_,_,rfl,er,B.Eh,B.Ej,bI.2.2.2.1,_,rfl,_,rfl,l,_,_,_,rfl,rfl,aE.of el,(aD (j:=1) rfl),_,rfl,r,s1.n,a,n,p,M,i,s1,rfl,rm.a,sl1,hi1,rfl,mi,fun H1 g1=>?_⟩
 have rm1:=rm.same g1;have hkx:(ks.map fun k=>V.ref k.x)[i]?=some (.ref k.x):=by rw[DA,hk];rfl
 have sm:=rm1.ss i k s1 hk hi1;obtain ⟨C,dxk,sv,ff,hx,hC,sf,l10,hf,hu,hsv⟩:=id sm;rw[es0] at hsv
 match kso:k.sec,hsv with
 |none,hsv=>
 have hsv:sv= .non:=hsv;subst hsv;refine ⟨ls,_,_,_,rfl,rfl,aE.of (g1 _ _ es),(aD hkx),?_⟩;dsimp only[aR,aS];refine cut (fun σ H'=>σ= [GT r,some a,GT l,GT k.x]/\H1=H') (fun N hN=>?_) ?_
 ·exact ⟨_,rfl,k.x,C,dxk,ff,_,rfl,hx,(scOf hC).cl,(scOf hC).second,sf.second,rfl,_,rfl,nF rfl (hN _ _ ⟨rfl,rfl⟩)⟩
 rintro σ _ ⟨rfl,rfl⟩;refine ⟨_,rfl,l,_,_,_,rfl,rfl,aE.of (g1 _ _ el),(aD (j:=2) rfl),_,rfl,l,_,_,_,rfl,rfl,aE.of (g1 _ _ el),(aD (j:=3) rfl),by show 0<=sizeLine;decide,fun nl nnl=>⟨by show 3<=sizeLine;decide,fun nt nnt=>?_⟩⟩
 have g2:=aq nnl (.lst []);have g3:=aq nnt (.tup [vN lo,vN hi,.ref nl]);have g23:=g2.trans g3;have en:=g3 _ _ (af (H:=H1) (a:=nl) (o:= .lst []));have et:=af (H:=aO H1 nl (.lst [])) (a:=nt) (o:= .tup [vN lo,vN hi,.ref nl]);refine ⟨_,rfl,k.x,C,dxk,ff,rfl,g23 _ _ hx,(scOf hC).cl,(scOf hC).second,by omega,?_⟩
 have sm':=SM.second (cC:=Ef) (cR:=Ee) (cW:=on) hx hC sf l10 hf hu g23 nnl en et;have nd':=rm1.own_nd (D5 hk);refine q _ _ (rm1.set hk hi1 (pF g23 (by simp[So.own])) sm' rfl (fun b hb=>?_) ?_)
 ·simp only[So.own,Option.toList,D2,D6,or_false] at hb;rcases hb with rfl|rfl|rfl
  ·exact .inl (by simp[So.own])
  ·exact .inl (by simp[So.own])
  ·exact .inr nnl
 ·simp only[So.own,De,D2,not_or] at nd';have n1:k.x≠nl:=aQ hx nnl;obtain ⟨vu,eu,_⟩:=hu;have n2:k.u≠nl:=aQ eu nnl;simp[So.own,Option.toList,nd'.1.1,n1,n2]
theorem AS {dV:Value} (F:bv K "put_use" "put_use" yG dV f fd) (DZ18:Dx P w K mg base bi 1 "refuse_twice" ["name","told","at"] [] fz) (DZ19:Dx P w K mg base bi 1 "refuse_full" ["kept","most"] [] eW) (DZ20:Dx P w K mg base bi 1 "place_of" ["recipe","name","at"] [] (gz Ef Ee on Db)):bh P w K mg base bi 2 f fd ["recipe","at","values"] (nS Ef Ee on Db):=by
 have sc:aC ["recipe","at","values","step","uses"] ["recipe","at","values"] (aw yG):=df (by decide+kernel)
 refine F.ok sc (fun vs H Q E h=>?_) (fun cdv A outer s H vs Q E hr h=>?_)
 ·obtain ⟨_,_,_,_,_,_,_,_,_,_,_,_,_,_,_,_,_,rfl,_⟩:=h
  rfl
 obtain ⟨r,l,a,G,n,p,lt,ls,lk,ks,M,o,z,u,i,s,us,rfl,rm,⟨xs,el,rl⟩,sl1,⟨⟨s1,hi1,rfl⟩,mi⟩,hi2,hus,nz,ul,q⟩:=h;refine ⟨_,(ac (bK 3 sc (aj ai (aL (pv 0) rfl) (b5 DZ20 hr (@aa _ _ _ _ _ (pv 0) (@aa _ _ _ _ _ (aj ai (pv 2) ad (fun _ _=>rfl)) (@aa _ _ _ _ _ (pv 1) ae rfl) rfl) rfl)) (fun _ _=>rfl))) (ac (bK 4 sc (aL (pv 3) rfl)) (ac (aJ (av bC (aj ai (pv 2) ad (fun _ _=>rfl)) ax (aA _)) (ac (aJ (av cG (aL (pv 3) rfl) bo (aA _)) (ah cM) az) (ah (bK 4 sc (aj aY (aL (pv 3) rfl) ad (fun _ _=>rfl))))) az) (ac (aV (b5 DZ18 hr (@aa _ _ _ _ _ (aj ai (pv 2) ad (fun _ _=>rfl)) (@aa _ _ _ _ _ (fW (own:= "use") (ys:= []) (js:= []) rfl (xq xn .nil (by decide) rfl rfl rfl rfl rfl rfl rfl rfl) (cv (pv 4)) (fun C fp s H=>(aj (hJ (K:=K) rfl) (pv 0) ad (fun _ _=>rfl)))) (@aa _ _ _ _ _ (pv 1) ae rfl) rfl) rfl))) (ac (aV (b5 DZ19 hr (@aa _ _ _ _ _ (pv 4) (@aa _ _ _ _ _ (eS rfl B.Ge) ae rfl) rfl))) (ah (aV (bO DE DG DF a8 (pv 4) (@aa _ _ _ _ _ (@cH _ _ _ _ _ (@aa _ _ _ _ _ (aj ai (pv 2) ad (fun _ _=>rfl)) (@aa _ _ _ _ _ (aj ai (pv 2) ad (fun _ _=>rfl)) (@aa _ _ _ _ _ (aj ai (pv 2) ad (fun _ _=>rfl)) ae rfl) rfl) rfl)) ae rfl))))))))),?_⟩
 try dsimp only[cxK]
 have sl:sizeLine=16777216:=sizeLine_eq;have scOf:∀{w:Str} {C:Addr},iM Ef Ee on w C->fD K C:=fun h=>by
  rcases h with ⟨_,rfl⟩|⟨_,rfl⟩|⟨_,rfl⟩
  ·exact ⟨B.Fo,B.Fh,B.Fc,B.Fi,B.Fg,B.Ep⟩
  ·exact ⟨B.Fl,B.Fa,B.Eo,B.Fb,B.Ez,B.Em⟩
  ·exact ⟨B.Fj,B.Ex,B.En,B.Ey,B.Ew,B.El⟩
 have e9:=DS (hi1.symm.trans hi2);subst e9;obtain ⟨x1,xs1,rfl,e1,rl1⟩:=a6 rl;obtain ⟨x2,xs2,rfl,e2,rl2⟩:=a6 rl1;obtain ⟨x3,xs3,rfl,e3,rl3⟩:=a6 rl2;obtain ⟨x4,xs4,rfl,e4,rl4⟩:=a6 rl3;cases e1;cases e2;cases e3;cases e4;obtain ⟨dx,er⟩:=rm.er;have es:=rm.es;have kl:=rm.len;have il:=aU hi1;have hk:=D1 (l:=ks) (i:=i) (by omega)
 generalize ks[i]=k at hk;refine ⟨_,rfl,r,_,dx,_,_,rfl,er,B.Eh,B.Ej,bI.2.2.2.1,_,rfl,_,rfl,l,_,_,_,rfl,rfl,aE.of el,(aD (j:=1) rfl),_,rfl,r,s1.n,a,n,p,M,i,s1,rfl,rm.a,sl1,hi1,rfl,mi,fun H1 g1=>?_⟩
 have rm1:=rm.same g1;have hkx:(ks.map fun k=>V.ref k.x)[i]?=some (.ref k.x):=by rw[DA,hk];rfl
 have sm:=rm1.ss i k s1 hk hi1;have ndk:=rm1.own_nd (D5 hk);obtain ⟨C,dxk,sv,ff,hx,hC,sf,l10,hf,hu,hsv⟩:=id sm;refine ⟨ls,_,_,_,rfl,rfl,aE.of (g1 _ _ es),(aD hkx),_,rfl,k.x,C,dxk,ff,_,rfl,hx,(scOf hC).cl,(scOf hC).uses,sf.uses,?_⟩;dsimp only[aR,aS];have mkx:k.x∈k.own:=by simp[So.own]
 have mku:k.u∈k.own:=by simp[So.own]
 refine cut (fun σ H'=>∃ua,σ= [GT r,some a,GT l,GT k.x,GT ua]/\H1=H'/\Uz H1 ua us/\∀(H2:Hp) (t:Addr) (vs:List V),H1 ua=some (.lst vs)->aH H1 H2->H2 t=some (.tup (qt u))->Q .non (aO H2 ua (.lst (vs++ [.ref t])))) (fun N hN=>?_) ?_
 ·refine ⟨_,rfl,l,_,_,_,rfl,rfl,aE.of (g1 _ _ el),(aD (j:=0) rfl),rfl,_,rfl,kv (fun e=>?_) fun e=>?_⟩
  ·have ho:o=true:=by
    cases o with
    |true=>rfl
    |false=>exact absurd e (by decide)
   subst ho;rw[if_pos rfl] at hus;obtain ⟨lo,hi,hs1⟩:=hus
   match kso:k.sec,s1.sec,hs1,hsv with
   |some l2,_,rfl,hsv=>
   obtain ⟨t2,rfl,et2,hu2⟩:=hsv;refine ⟨_,rfl,k.x,C,dxk,ff,_,rfl,hx,(scOf hC).cl,(scOf hC).second,sf.second,rfl,_,rfl,dF (fun z=>nomatch z) ⟨_,rfl,k.x,C,dxk,ff,_,rfl,hx,(scOf hC).cl,(scOf hC).second,sf.second,t2,_,_,_,rfl,rfl,bX.of et2,rfl,hN _ _ ⟨l2,rfl,rfl,hu2,fun H2 t vs ev g et=>?_⟩⟩⟩
   have hs1':s1.sec=some (lo,hi,us):=by assumption
   exact q _ _ _ (by rw[if_pos rfl];exact ⟨lo,hi,hs1',rfl⟩) (rm1.set hk hi1 (pF g (by simp[So.own,kso])) (sm.orw ndk kso hs1' ev g et) rfl (fun b hb=> .inl hb) ndk)
  ·have ho:o=false:=by
    cases o with
    |false=>rfl
    |true=>exact absurd rfl e
   subst ho;have hus:s1.uses=us:=hus;subst hus;refine hN _ _ ⟨k.u,rfl,rfl,hu,fun H2 t vs ev g et=>?_⟩
   exact q _ _ _ rfl (rm1.set hk hi1 (pF g mku) (sm.use ndk ev g et) rfl (fun b hb=> .inl hb) ndk)
 rintro σ _ ⟨ua,rfl,rfl,⟨vs,ev,rv⟩,fin⟩;have vl:=rv.1;have el1:=g1 _ _ el;refine ⟨_,rfl,l,_,_,_,rfl,rfl,aE.of el1,(aD (j:=2) rfl),_,rfl,ua,rfl,⟨_,aE.of ev⟩,i0 (re V.str) (fun _=>False) (fun i=>((us.map fun x=>x.1).getD i ("" :Str))) (aE.of ev) (by omega) (fun a h=>h.elim) (fun i y hy H2 g Q' hQ=>?_) fun p1 H4 np g4 hp=>?_⟩
 ·obtain ⟨x,hx',t,rfl,_,et⟩:=rv.at_ hy;have e1:(us.map fun x=>x.1).getD i ("" :Str)=x.1:=by simp[List.getD,hx']
  rw[e1] at hQ;exact ⟨_,rfl,t,_,_,_,rfl,rfl,bX.of (g _ _ et),rfl,hQ _ _ (.refl _) rfl⟩
 obtain ⟨ws,ep,rp⟩:=hp;have ey:ws=(us.map fun x=>x.1).map V.str:=by
  have e:=map_getD (fun z:Str=>z) (us.map fun x=>x.1) ""
  rw[D4,List.map_id'] at e;rw[rp.val,vl];exact congrArg (List.map V.str) e
 subst ey;refine ⟨_,rfl,u.1,p1,_,a,rfl,ep,(fun m=>?_),_,rfl,ua,vs,12,rfl,g4 _ _ ev,by omega,_,rfl,.inl ⟨rfl,_,aE.of (g4 _ _ ev)⟩,_,rfl,l,_,_,_,rfl,rfl,aE.of (g4 _ _ el1),(aD (j:=2) rfl),_,rfl,l,_,_,_,rfl,rfl,aE.of (g4 _ _ el1),(aD (j:=3) rfl),_,rfl,l,_,_,_,rfl,rfl,aE.of (g4 _ _ el1),(aD (j:=4) rfl),by show 3<=sizeLine;decide,fun t nt=>?_⟩
 ·obtain ⟨x,hx',ex⟩:=DI.mp m;exact nz x hx' ex
 have g5:=g4.trans (aq nt (.tup (qt u)));exact ⟨ua,_,_,rfl,rfl,g5 _ _ ev,by omega,fin _ t vs ev g5 af⟩
theorem AT {dV:Value} (F:bv K "put_row" "put_row" yH dV f fd) (DZ21:Dx P w K mg base bi 2 "put_take" ["recipe","at","values"] [] (kN Ef Ee on Db)) (DZ22:Dx P w K mg base bi 2 "put_link" ["recipe","at","values"] [] (kO Ef Ee on Db)) (DZ28:Dx P w K mg base bi 5 "put_step" ["recipe","at","values"] [] (kP Ef Ee on Db)) (DZ29:Dx P w K mg base bi 2 "put_second" ["recipe","at","values"] [] (iQ Ef Ee on Db)) (DZ30:Dx P w K mg base bi 2 "put_use" ["recipe","at","values"] [] (nS Ef Ee on Db)):bh P w K mg base bi 6 f fd ["recipe","at","values"] (nV Ef Ee on Db):=by
 have sc:aC ["recipe","at","values"] ["recipe","at","values"] (aw yH):=df (by decide+kernel)
 refine F.ok sc (fun vs H Q E h=>?_) (fun cdv A outer s H vs Q E hr h=>?_)
 ·obtain ⟨_,_,_,_,_,_,_,_,_,_,_,_,_,rfl,_⟩:=h
  rfl
 obtain ⟨r,l,a,G,n,p,lt,ls,lk,ks,M,M',rr,rfl,rm,lv,ro,bd,hp,q⟩:=h;refine ⟨_,(ah (aJ (av bC (aj ai (pv 2) ad (fun _ _=>rfl)) ax (aA _)) (ah (aV (b5 DZ21 hr (@aa _ _ _ _ _ (pv 0) (@aa _ _ _ _ _ (pv 1) (@aa _ _ _ _ _ (pv 2) ae rfl) rfl) rfl)))) (ah (aJ (av dX (aj ai (pv 2) ad (fun _ _=>rfl)) (cf (v:=V.ref Ek) rfl B.FH rfl) (by with_unfolding_all rfl)) (ah (aV (b5 DZ28 hr (@aa _ _ _ _ _ (pv 0) (@aa _ _ _ _ _ (pv 1) (@aa _ _ _ _ _ (pv 2) ae rfl) rfl) rfl)))) (ah (aJ (av bC (aj ai (pv 2) ad (fun _ _=>rfl)) ax (aA _)) (ah (aV (b5 DZ29 hr (@aa _ _ _ _ _ (pv 0) (@aa _ _ _ _ _ (pv 1) (@aa _ _ _ _ _ (pv 2) ae rfl) rfl) rfl)))) (ah (aJ (av dX (aj ai (pv 2) ad (fun _ _=>rfl)) (cf (v:=V.ref Fd) rfl B.Gb rfl) (by with_unfolding_all rfl)) (ah (aV (b5 DZ30 hr (@aa _ _ _ _ _ (pv 0) (@aa _ _ _ _ _ (pv 1) (@aa _ _ _ _ _ (pv 2) ae rfl) rfl) rfl)))) (ah (aV (b5 DZ22 hr (@aa _ _ _ _ _ (pv 0) (@aa _ _ _ _ _ (pv 1) (@aa _ _ _ _ _ (pv 2) ae rfl) rfl) rfl)))))))))))),?_⟩
 try dsimp only[cxK]
 have sl:sizeLine=16777216:=sizeLine_eq;have ml:=bd.s;have tl:=bd.t;have k24:=bd.k;obtain ⟨xs,el,rl⟩:=id lv;refine ⟨_,rfl,l,_,_,_,rfl,rfl,aE.of el,(aD (j:=0) rfl),rfl,_,rfl,kv (fun e=>?_) fun n1=>⟨_,rfl,l,_,_,_,rfl,rfl,aE.of el,(aD (j:=0) rfl),Ek,_,rfl,.inr (B.FC.sq _),rfl,ku _,_,rfl,zn (gs:= ["cut","rest","warm"]) (fun e=>?_) fun n2=>⟨_,rfl,l,_,_,_,rfl,rfl,aE.of el,(aD (j:=0) rfl),rfl,_,rfl,kv (fun e=>?_) fun n3=>⟨_,rfl,l,_,_,_,rfl,rfl,aE.of el,(aD (j:=0) rfl),Fd,_,rfl,.inr (B.FZ.sq _),rfl,ku _,_,rfl,zn (gs:= ["with","orwith"]) (fun e=>?_) fun n4=>?_⟩⟩⟩⟩
 ·obtain ⟨g,am,rfl⟩:=vY ro e;obtain ⟨h1,h2,rfl⟩:=fA hp;exact ⟨_,rfl,_,rfl,_,rfl,r,l,a,G,n,p,lt,ls,lk,ks,M,g,am,rfl,rm,lv,h1,by omega,fun H' rm'=>q ks _ rm'⟩
 ·obtain ⟨w,z,lo,hi,f,rfl⟩:=vZ ro e;obtain ⟨h1,h2,rfl⟩:=fB hp;exact ⟨_,rfl,_,rfl,_,rfl,r,l,a,G,n,p,lt,ls,lk,ks,M,w,z,lo,hi,f,rfl,rm,lv,ro.1,ro.2.2.2,h1,by omega,fun k H' rm'=>q _ _ rm'⟩
 ·obtain ⟨z,lo,hi,rfl⟩:=yb ro e;obtain ⟨i,s,h1,h2,h3,rfl⟩:=fS hp;exact ⟨_,rfl,_,rfl,_,rfl,r,l,a,G,n,p,lt,ls,lk,ks,M,z,lo,hi,i,s,rfl,rm,lv,by omega,h1,h2,h3,fun ks' H' rm'=>q _ _ rm'⟩
 ·obtain ⟨o,z,u,rfl⟩:=yc ro e;cases o with
  |false=>
   obtain ⟨i,s,h1,h2,h3,h4,rfl⟩:=fT hp;refine ⟨_,rfl,_,rfl,_,rfl,r,l,a,G,n,p,lt,ls,lk,ks,M,false,z,u,i,s,s.uses,rfl,rm,lv,by omega,h1,h2,rfl,h3,(by have:=(bd.us s (D5 h2)).1;omega),fun ks' s' H' e' rm'=>?_⟩
   have e':s'=_:=e';subst e';exact q _ _ rm'
  |true=>
   obtain ⟨i,s,lo,hi,us,h1,h2,h3,h4,h5,rfl⟩:=fU hp;refine ⟨_,rfl,_,rfl,_,rfl,r,l,a,G,n,p,lt,ls,lk,ks,M,true,z,u,i,s,us,rfl,rm,lv,by omega,h1,h2,⟨lo,hi,h3⟩,h4,(by have:=(bd.us s (D5 h2)).2 _ h3;dsimp only at this;omega),fun ks' s' H' e' rm'=>?_⟩
   obtain ⟨lo',hi',e1,rfl⟩:=e';rw[h3] at e1;cases e1;exact q _ _ rm'
 ·obtain ⟨w,x,y,t,rfl⟩:=v4 ro n1 n2 n3 n4;obtain ⟨i,j,h1,h2,h3,rfl⟩:=fC hp;exact ⟨_,rfl,_,rfl,_,rfl,r,l,a,G,n,p,lt,ls,lk,ks,M,w,x,y,t,i,j,rfl,rm,lv,ro.2.2.2.2.2,by omega,h1,h2,by omega,fun H' rm'=>q _ _ rm'⟩
theorem AU {dV:Value} (F:bv K "read_recipe" "read_recipe" yI dV f fd) (DZ17:Dx P w K mg base bi 9 "values_of" ["row"] [] jy) (DZ26:Dx P w K mg base bi 3 "recipe_begun" ["values"] [] (jA Ef Ee on Db)) (DZ31:Dx P w K mg base bi 6 "put_row" ["recipe","at","values"] [] (nV Ef Ee on Db)):bh P w K mg base bi 10 f fd ["text"] (kQ Ef Ee on Db):=by
 have sc:aC ["text","rows","recipe","at","row","values"] ["text"] (aw yI):=df (by decide+kernel)
 refine F.ok sc (fun vs H Q E h=>?_) (fun cdv A outer s H vs Q E hr h=>?_)
 ·obtain ⟨_,_,_,_,rfl,_⟩:=h
  rfl
 obtain ⟨n,p,rs,M,rfl,nm,p1,p2,ro,r1,hp,q⟩:=h;refine ⟨_,(ac (aJ (bW (bS (aI (bZ (K:=K) rfl) rfl B.Eg boot_isinstance (@aa _ _ _ _ _ (pv 0) (@aa _ _ _ _ _ (b6 (v:= .ty "str") rfl B.Es boot_str rfl) ae rfl) rfl)))) (ah cM) az) (ac (bK 1 sc (bO Dp PySem.F.slot_str_split PySem.F.type_str_split jf (pv 0) (@aa _ _ _ _ _ ax ae rfl))) (ac (bK 2 sc (b5 DZ26 hr (@aa _ _ _ _ _ (b5 DZ17 hr (@aa _ _ _ _ _ (aj ai (pv 1) ad (fun _ _=>rfl)) ae rfl)) ae rfl))) (ac (cF PassesOwn.never rfl (uk rfl B.FP (cN fb (pv 1) (cT ad) eJ)) (fG rfl (aW (eY 3 sc) (aW (eY 4 sc) dC))) (ac (bK 5 sc (b5 DZ17 hr (@aa _ _ _ _ _ (pv 4) ae rfl))) (ac (aJ (PW.pt (bU (av cG (pv 5) bo (aA _)) (bM (av bC (aj ai (pv 5) ad (fun _ _=>rfl)) ax (aA _))))) (ah cM) az) (ah (aV (b5 DZ31 hr (@aa _ _ _ _ _ (pv 2) (@aa _ _ _ _ _ (pv 3) (@aa _ _ _ _ _ (pv 5) ae rfl) rfl) rfl))))))) (ah (ay (pv 2))))))),?_⟩
 try dsimp only[cxK]
 have sl:sizeLine=16777216:=sizeLine_eq;have esp:=kR nm p2 ro;have tl:=qF nm p2 ro r1;generalize Txt.join md (bj n p::rs.map eG)=txt at esp tl⊢;refine cut (fun σ H'=>σ= [some (.str txt),none,none,none,none,none]/\H=H') (fun N hN=>?_) ?_
 ·exact ⟨_,rfl,_,_,_,true,rfl,.str _,rfl,_,rfl,cq (hN _ _ ⟨rfl,rfl⟩)⟩
 rintro σ _ ⟨rfl,rfl⟩;refine ⟨_,rfl,rfl,txt,10,rfl,rfl,by omega,fun rl nrl=>?_⟩
 have gp:=aq nrl (.lst ((Txt.split txt md).map V.str));have ep:aO H rl (.lst ((Txt.split txt md).map V.str)) rl=some (.lst ((bj n p::rs.map eG).map V.str)):=by rw[af,esp]
 dsimp only[aR,aS];change L2.mq _ _ _ _ (aO H rl (.lst ((Txt.split txt md).map V.str)));generalize aO H rl (.lst ((Txt.split txt md).map V.str))=H1 at gp ep⊢;clear esp tl;obtain ⟨ht1,ht2⟩:=io nm p2;refine cut (fun σ H'=>∃r lt ls lk,σ= [some (.str txt),GT rl,GT r,none,none,none]/\RM Ef Ee on Db H1 H' r n p lt ls lk [] ⟨[],[],[]⟩) (fun N hN=>?_) ?_
 ·refine ⟨_,rfl,rl,_,_,_,rfl,rfl,aE.of ep,(aD (j:=0) rfl),bj n p,rfl,by omega,fun e=>?_,fun w us e p5 H5 g5 np5 lv=>?_⟩
  ·rw[kI nm p1 p2] at e;cases e
  ·rw[kI nm p1 p2] at e;cases e;exact ⟨p5,n,p,rfl,lv,fun r lt ls lk H6 rm=>hN _ _ ⟨r,lt,ls,lk,rfl,rm.low g5⟩⟩
 rintro σ H2 ⟨r,lt,ls,lk,rfl,rm⟩;refine cut (fun σ H'=>∃(o3 o4 o5:Option V) (ks:List So),σ= [some (.str txt),GT rl,GT r,o3,o4,o5]/\RM Ef Ee on Db H1 H' r n p lt ls lk ks M) (fun N hN=>?_) ?_
 ·refine ⟨_,rfl,_,rfl,rl,_,rfl,aE.of (rm.fr _ _ ep),fun sl1 ns1=>?_⟩
  have ecd:dN ((bj n p::rs.map eG).map V.str) (some (1:Int)) none=(rs.map eG).map V.str:=by
   have:=iH (xs:=(bj n p::rs.map eG).map V.str) (c:=1);exact this
  rw[ecd];have gs:=aq ns1 (.lst ((rs.map eG).map V.str));have e1:aO H2 sl1 (.lst ((rs.map eG).map V.str)) sl1=some (.lst ((rs.map eG).map V.str)):=af;have rm1:=rm.same gs;have nso:sl1∉cc r lt ls lk []:=fun z=>rm.all _ z ns1
  generalize aO H2 sl1 (.lst ((rs.map eG).map V.str))=H3 at gs e1 rm1⊢;refine ⟨sl1,rfl,⟨_,aE.of e1⟩,rF (xs:=(rs.map eG).map V.str) (fun i σ H'=>∃(o3 o4 o5:Option V) (ks:List So) (M1:Md),σ= [some (.str txt),GT rl,GT r,o3,o4,o5]/\RM Ef Ee on Db (less H3 (cc r lt ls lk [])) H' r n p lt ls lk ks M1/\bA ⟨[],[],[]⟩ (rs.take i)= .ok M1) ⟨none,none,none,[],⟨[],[],[]⟩,rfl,rm1.top,rfl⟩ (fun i σ H' _ h=>?_) ?_ ?_⟩
  ·obtain ⟨_,_,_,_,_,_,rm2,_⟩:=h;exact aE.of (rm2.fr _ _ (by rw[fu nso];exact e1))
  ·rintro i y σ H4 T hy ⟨o3,o4,o5,ks,M1,rfl,rm2,hM⟩ nT;rw[DA,DA] at hy;obtain ⟨z,hz,rfl⟩:=DV.mp hy;obtain ⟨rr,hr',rfl⟩:=DV.mp hz;have ok:=ro rr (D5 hr');have rm3:=rm2.same (aq nT (.tup [.int ((i:Int)+1),.str (eG rr)]));refine ⟨T,_,rfl,bX.of af,rfl,_,_,rfl,_,_,rfl,rfl,?_⟩;generalize aO H4 T (.tup [.int ((i:Int)+1),.str (eG rr)])=H5 at rm3⊢;have tl:=(l7 ok).2;refine ⟨_,rfl,eG rr,rfl,by omega,fun e=>?_,fun w us e p5 H6 g6 np5 lv=>?_⟩
   ·rw[lZ ok] at e;cases e
   rw[lZ ok] at e;have e':pB rr=(w,us):=DS e;obtain ⟨M1',k1,bd,k2⟩:=rG hp i;rw[hM] at k1;cases k1;have ed:rs.drop i=rr::rs.drop (i+1):=by
    have il:=aU hr';rw[EY il];rw[D1 il] at hr';rw[DS hr']
   rw[ed] at k2;obtain ⟨M2,k3,k4⟩:=ip k2;have hM2:bA ⟨[],[],[]⟩ (rs.take (i+1))= .ok M2:=by
    rw[List.take_add_one,hr',eX hM];simp only[Option.toList,bA,k3]
   have nd:=uo ok;rw[e'] at nd;obtain ⟨xs,el,_⟩:=id lv;have lv':LV H6 p5 (pB rr).1 (pB rr).2:=by rw[e'];exact lv
   dsimp only[aR,aS];refine cut (fun σ H'=>σ= [some (.str txt),GT rl,GT r,some (.int ((i:Int)+1)),some (.str (eG rr)),GT p5]/\H6=H') (fun N hN=>?_) ?_
   ·exact ⟨_,rfl,rfl,_,rfl,dF (fun z=>nomatch z) ⟨_,rfl,p5,_,_,_,rfl,rfl,aE.of el,(aD (j:=0) rfl),rfl,_,rfl,kv (fun z=>absurd z nd) fun _=>hN _ _ ⟨rfl,rfl⟩⟩⟩
   rintro σ _ ⟨rfl,rfl⟩;exact ⟨_,rfl,_,rfl,_,rfl,r,p5,_,_,n,p,lt,ls,lk,ks,M1,M2,rr,rfl,rm3.same g6,lv',ok,bd,k3,fun ks' H7 rm7=>⟨_,_,_,ks',M2,rfl,rm7,hM2⟩⟩
  ·rintro σ H5 ⟨o3,o4,o5,ks,M1,rfl,rm2,hM⟩;rw[D4,D4,EH,hp] at hM;cases hM;exact hN _ _ ⟨o3,o4,o5,ks,rfl,rm2.low (rm1.less)⟩
 rintro σ H3 ⟨o3,o4,o5,ks,rfl,rm3⟩;exact ⟨_,rfl,q r lt ls lk ks _ (rm3.low gp)⟩
theorem AV {dV:Value} (F:bv K "word" "Cut.word" yJ dV f fd):bh P w K mg base bi 1 f fd ["self"] (fj "cut"):=by
 have sc:aC ["self"] ["self"] (aw yJ):=df (by decide+kernel)
 refine F.ok sc (fun vs H Q E h=>?_) (fun cdv A outer s H vs Q E hr h=>?_)
 ·obtain ⟨_,rfl,_⟩:=h
  rfl
 obtain ⟨x,rfl,q⟩:=h;refine ⟨_,(ah (ay ax)),?_⟩;try dsimp only[cxK]
 exact q
theorem AW {dV:Value} (F:bv K "word" "Warm.word" yK dV f fd):bh P w K mg base bi 1 f fd ["self"] (fj "warm"):=by
 have sc:aC ["self"] ["self"] (aw yK):=df (by decide+kernel)
 refine F.ok sc (fun vs H Q E h=>?_) (fun cdv A outer s H vs Q E hr h=>?_)
 ·obtain ⟨_,rfl,_⟩:=h
  rfl
 obtain ⟨x,rfl,q⟩:=h;refine ⟨_,(ah (ay ax)),?_⟩;try dsimp only[cxK]
 exact q
theorem AX {dV:Value} (F:bv K "word" "Rest.word" yL dV f fd):bh P w K mg base bi 1 f fd ["self"] (fj "rest"):=by
 have sc:aC ["self"] ["self"] (aw yL):=df (by decide+kernel)
 refine F.ok sc (fun vs H Q E h=>?_) (fun cdv A outer s H vs Q E hr h=>?_)
 ·obtain ⟨_,rfl,_⟩:=h
  rfl
 obtain ⟨x,rfl,q⟩:=h;refine ⟨_,(ah (ay ax)),?_⟩;try dsimp only[cxK]
 exact q
theorem AY {dV:Value} (F:bv K "row_of" "row_of" yM dV f fd):bh P w K mg base bi 1 f fd ["things"] ie:=by
 have sc:aC ["things"] ["things"] (aw yM):=df (by decide+kernel)
 refine F.ok sc (fun vs H Q E h=>?_) (fun cdv A outer s H vs Q E hr h=>?_)
 ·obtain ⟨_,_,rfl,_⟩:=h
  rfl
 obtain ⟨l,ts,rfl,el,l20,ok,q⟩:=h;refine ⟨_,(ah (ay (bO Dp EQ EO gZ ax (@aa _ _ _ _ _ (fW (own:= "thing") (ys:= []) (js:= []) rfl (xq xn .nil (by decide) rfl rfl rfl rfl rfl rfl rfl rfl) (cv (pv 0)) (fun C fp s H=>(aK rf rfl B.Es boot_str (@aa _ _ _ _ _ (pv 0) ae rfl)))) ae rfl)))),?_⟩
 try dsimp only[cxK]
 have sl:sizeLine=16777216:=sizeLine_eq;refine ⟨rfl,_,rfl,l,rfl,⟨_,aE.of el⟩,i0 (re V.str) (fun _=>False) (fun i=>uE (ts.getD i (.n 0))) (aE.of el) (by rw[D4];omega) (fun a h=>h.elim) (fun i y hy H2 g Q' hQ=>?_) fun p H' np g hp=>?_⟩
 ·rw[DA] at hy;obtain ⟨x,hx,rfl⟩:=DV.mp hy;rw[tI hx] at hQ;have kx:=ok x (D5 hx);cases x with
  |t z=>exact ⟨_,rfl,.inr ⟨z,rfl,hQ _ _ (.refl _) rfl⟩⟩
  |n k=>
   refine ⟨_,rfl,.inl ⟨_,rfl,cJ kx,?_⟩⟩;rw[gX];exact hQ _ _ (.refl _) rfl
 ·obtain ⟨vs,ep,rp⟩:=hp;have e1:vs=(ts.map uE).map V.str:=by rw[rp.val,D4,map_getD uE ts (.n 0)]
  rw[e1] at ep;refine ⟨_,p,_,rfl,rfl,aE.of ep,by decide,?_,q _ g⟩
  have:=gf (m:=60) (ws:=ts.map uE) fun w hw=>by
   obtain ⟨x,hx,rfl⟩:=DI.mp hw;exact vH (ok x hx)
  rw[D4] at this⊢;omega
theorem AZ {dV:Value} (F:bv K "rows_of_uses" "rows_of_uses" yN dV f fd) (DZ36:Dx P w K mg base bi 1 "row_of" ["things"] [] ie):bh P w K mg base bi 2 f fd ["word","name","uses"] gn:=by
 have sc:aC ["word","name","uses"] ["word","name","uses"] (aw yN):=df (by decide+kernel)
 refine F.ok sc (fun vs H Q E h=>?_) (fun cdv A outer s H vs Q E hr h=>?_)
 ·obtain ⟨_,_,_,_,rfl,_⟩:=h
  rfl
 obtain ⟨w,n,u,us,rfl,⟨vs,eu,r⟩,ub,wl,nl,q⟩:=h;refine ⟨_,(ah (ay (fW (own:= "use") (ys:= ["word","name"]) (js:= [0,1]) rfl (xq (Bv (Bv xn)) (.cons rfl (.cons rfl .nil)) (by decide) rfl rfl rfl rfl rfl rfl rfl rfl) (cv (pv 2)) (fun C fp s H=>(b5 DZ36 hr (@aa _ _ _ _ _ (@aZ _ _ _ _ (@aa _ _ _ _ _ (pv 1) (@aa _ _ _ _ _ (pv 2) (@aa _ _ _ _ _ (aj (hJ (K:=K) rfl) (pv 0) ad (fun _ _=>rfl)) (@aa _ _ _ _ _ (aj (hJ (K:=K) rfl) (pv 0) ad (fun _ _=>rfl)) (@aa _ _ _ _ _ (aj (hJ (K:=K) rfl) (pv 0) ad (fun _ _=>rfl)) ae rfl) rfl) rfl) rfl) rfl)) ae rfl)))))),?_⟩
 try dsimp only[cxK]
 have sl:sizeLine=16777216:=sizeLine_eq;have lu:=ub.1;have lv:=r.1;refine ⟨_,rfl,u,rfl,⟨_,aE.of eu⟩,i0 (re V.str) (fun _=>False) (fun i=>jB (cD w n (us.getD i ("",0,0)))) (aE.of eu) (by omega) (fun a h=>h.elim) (fun i y hy H2 g Q' hQ=>?_) fun p H' np g hp=>?_⟩
 ·obtain ⟨x,hx,t,rfl,_,et⟩:=r.at_ hy;rw[tI hx] at hQ;obtain ⟨nm,m1,m8,h9⟩:=ub.2 x (D5 hx);have et2:=g _ _ et;refine ⟨_,rfl,_,rfl,_,rfl,t,_,_,_,rfl,rfl,bX.of et2,rfl,_,rfl,t,_,_,_,rfl,rfl,bX.of et2,rfl,_,rfl,t,_,_,_,rfl,rfl,bX.of et2,rfl,by show 5<=sizeLine;decide,fun d nd=>?_⟩
  have g3:=aq nd (.lst [.str w,.str n,.str x.1,vN x.2.1,vN x.2.2]);refine ⟨d,[.t w,.t n,.t x.1,.n x.2.1,.n x.2.2],rfl,af,(by show 5<=20;decide),fun y hy=>?_,fun H4 g4=>hQ _ _ (g3.trans g4) rfl⟩
  have:=nm.len;simp only[D2,D6,or_false] at hy;rcases hy with rfl|rfl|rfl|rfl|rfl<;>(simp only[jQ];omega)
 ·obtain ⟨zs,ep,rp⟩:=hp;have e1:zs=(us.map fun u=>jB (cD w n u)).map V.str:=by rw[rp.val,lv,map_getD (fun u=>jB (cD w n u)) us ("",0,0)]
  rw[e1] at ep;exact q p _ g np ep
theorem A0 {dV:Value} (F:bv K "rows_of_step" "rows_of_step" yO dV f fd) (DZ6:Dx P w K mg base bi 2 "amount_text" ["amount"] [] (qf K)) (DZ33:mT P w K mg base bi 1 FM ["self"] [] (fj "cut")) (DZ34:mT P w K mg base bi 1 FL ["self"] [] (fj "warm")) (DZ35:mT P w K mg base bi 1 FK ["self"] [] (fj "rest")) (DZ36:Dx P w K mg base bi 1 "row_of" ["things"] [] ie) (DZ37:Dx P w K mg base bi 2 "rows_of_uses" ["word","name","uses"] [] gn):bh P w K mg base bi 3 f fd ["step"] (jv Ef Ee on):=by
 have sc:aC ["step","things","rows"] ["step"] (aw yO):=df (by decide+kernel)
 refine F.ok sc (fun vs H Q E h=>?_) (fun cdv A outer s H vs Q E hr h=>?_)
 ·obtain ⟨_,_,rfl,_⟩:=h
  rfl
 obtain ⟨x,⟨w,n,lo,hi,fl,us,sec⟩,rfl,⟨C,dx,u,sv,ff,ex,hC,sf,hf,hu,hs⟩,bd,q⟩:=h;refine ⟨_,(ac (bK 1 sc (@aZ _ _ _ _ (@aa _ _ _ _ _ (fX (iB (pv 0) DZ33 hr (by decide)) (fX (iB (pv 0) DZ34 hr (by decide)) (iB (pv 0) DZ35 hr (by decide)))) (@aa _ _ _ _ _ (aL (pv 0) rfl) (@aa _ _ _ _ _ (aL (pv 0) rfl) (@aa _ _ _ _ _ (aL (pv 0) rfl) ae rfl) rfl) rfl) rfl))) (ac (aJ (bS (aI (dY (K:=K) rfl) rfl B.Eg boot_isinstance (@aa _ _ _ _ _ (pv 0) (@aa _ _ _ _ _ (cf (v:=V.ref on) rfl B.Gi rfl) ae rfl) rfl))) (ah (aV (bO DE DG DF a8 (pv 1) (@aa _ _ _ _ _ (b5 DZ6 hr (@aa _ _ _ _ _ (aL (pv 0) rfl) ae rfl)) ae rfl)))) az) (ac (bK 2 sc (@aZ _ _ _ _ (@aa _ _ _ _ _ (b5 DZ36 hr (@aa _ _ _ _ _ (pv 1) ae rfl)) ae rfl))) (ac (aV (bO DE PySem.F.slot_list_extend PySem.F.type_list_extend iA (pv 2) (@aa _ _ _ _ _ (b5 DZ37 hr (@aa _ _ _ _ _ ax (@aa _ _ _ _ _ (aL (pv 0) rfl) (@aa _ _ _ _ _ (aL (pv 0) rfl) ae rfl) rfl) rfl)) ae rfl))) (ac (aJ (av iW (aL (pv 0) rfl) bo (aA _)) (ac (aV (bO DE DG DF a8 (pv 2) (@aa _ _ _ _ _ (b5 DZ36 hr (@aa _ _ _ _ _ (@aZ _ _ _ _ (@aa _ _ _ _ _ ax (@aa _ _ _ _ _ (aL (pv 0) rfl) (@aa _ _ _ _ _ (aj aY (aL (pv 0) rfl) ad (fun _ _=>rfl)) (@aa _ _ _ _ _ (aj aY (aL (pv 0) rfl) ad (fun _ _=>rfl)) ae rfl) rfl) rfl) rfl)) ae rfl)) ae rfl))) (ah (aV (bO DE PySem.F.slot_list_extend PySem.F.type_list_extend iA (pv 2) (@aa _ _ _ _ _ (b5 DZ37 hr (@aa _ _ _ _ _ ax (@aa _ _ _ _ _ (aL (pv 0) rfl) (@aa _ _ _ _ _ (aj aY (aL (pv 0) rfl) ad (fun _ _=>rfl)) ae rfl) rfl) rfl)) ae rfl))))) az) (ah (ay (pv 2)))))))),?_⟩
 try dsimp only[cxK]
 have sl:sizeLine=16777216:=sizeLine_eq;dsimp only at ex hC sf hf hu hs;have nmn:Nm n:=bd.nm;have hle:ju lo hi:=bd.le;obtain ⟨h1,h2,h3⟩:=hle;have nl12:=nmn.len;try dsimp only[aR,aS]
 refine cut (fun σ H'=>∃l,σ= [GT x,GT l,none]/\aH H H'/\H l=none/\H' l=some (.lst [V.str w,.str n,vN lo,vN hi])) (fun N hN=>?_) ?_
 ·rcases hC with ⟨rfl,rfl⟩|⟨rfl,rfl⟩|⟨rfl,rfl⟩
  ·have sc0:fD K C:=⟨B.Fo,B.Fh,B.Fc,B.Fi,B.Fg,B.Ep⟩;exact .inl ⟨_,rfl,x,_,dx,ff,rfl,ex,B.Fo,B.Gs,sf.word,_,rfl,_,rfl,x,C,dx,ff,_,rfl,ex,sc0.cl,sc0.name,sf.name,_,rfl,x,C,dx,ff,_,rfl,ex,sc0.cl,sc0.least,sf.least,_,rfl,x,C,dx,ff,_,rfl,ex,sc0.cl,sc0.most,sf.most,by show 4<=sizeLine;decide,fun l nl=>hN _ _ ⟨l,rfl,aq nl _,nl,af⟩⟩
  ·have sc0:fD K C:=⟨B.Fl,B.Fa,B.Eo,B.Fb,B.Ez,B.Em⟩;exact .inr (.inr ⟨_,rfl,x,_,dx,ff,rfl,ex,B.Fl,B.Gq,sf.word,_,rfl,_,rfl,x,C,dx,ff,_,rfl,ex,sc0.cl,sc0.name,sf.name,_,rfl,x,C,dx,ff,_,rfl,ex,sc0.cl,sc0.least,sf.least,_,rfl,x,C,dx,ff,_,rfl,ex,sc0.cl,sc0.most,sf.most,by show 4<=sizeLine;decide,fun l nl=>hN _ _ ⟨l,rfl,aq nl _,nl,af⟩⟩)
  ·have sc0:fD K C:=⟨B.Fj,B.Ex,B.En,B.Ey,B.Ew,B.El⟩;exact .inr (.inl ⟨_,rfl,x,_,dx,ff,rfl,ex,B.Fj,B.Gr,sf.word,_,rfl,_,rfl,x,C,dx,ff,_,rfl,ex,sc0.cl,sc0.name,sf.name,_,rfl,x,C,dx,ff,_,rfl,ex,sc0.cl,sc0.least,sf.least,_,rfl,x,C,dx,ff,_,rfl,ex,sc0.cl,sc0.most,sf.most,by show 4<=sizeLine;decide,fun l nl=>hN _ _ ⟨l,rfl,aq nl _,nl,af⟩⟩)
 rintro σ H1 ⟨l,rfl,g1,nl,e1⟩;have ex1:=g1 _ _ ex;refine cut (fun σ H'=>σ= [GT x,GT l,none]/\aH H H'/\H' l=some (.lst (([V.str w,.str n,vN lo,vN hi]++(dr fl).map V.str)))) (fun N hN=>?_) ?_
 ·rcases hC with ⟨rfl,rfl⟩|⟨rfl,rfl⟩|⟨rfl,rfl⟩
  ·match fl,bd.fl with
   |some a,z=>exact absurd z.1 (show ¬Str.ofString "cut" =Str.ofString "warm" from by decide)
   |none,_=>exact ⟨_,rfl,_,_,_,false,rfl,.ins ex1 B.Fo B.Fm.ha B.Fm.hn B.Fm.htk B.Fm.hm,B.FJ,_,rfl,cq (hN _ _ ⟨rfl,g1,e1⟩)⟩
  ·match fl,bd.fl with
   |some a,z=>exact absurd z.1 (show ¬Str.ofString "rest" =Str.ofString "warm" from by decide)
   |none,_=>exact ⟨_,rfl,_,_,_,false,rfl,.ins ex1 B.Fl B.Eu.ha B.Eu.hn B.Eu.htk B.Eu.hm,B.FE,_,rfl,cq (hN _ _ ⟨rfl,g1,e1⟩)⟩
  ·match fl,bd.fl,hf with
   |none,z,_=>exact absurd rfl z
   |some a,⟨_,ag⟩,⟨tf,lf,ef⟩=>
   exact ⟨_,rfl,_,_,_,true,rfl,.ins ex1 B.Fj B.Et.ha B.Et.hn B.Et.htk B.Et.hm,B.FD,_,rfl,lq ⟨_,rfl,.inl ⟨rfl,_,aE.of e1⟩,_,rfl,x,_,dx,ff,_,rfl,ex1,B.Fj,B.Fx,lf,tf,a.1,a.2,rfl,⟨bX.of (g1 _ _ ef),by have:=ag.rd.pos;omega,(wu (k:=140) (DO ag.bp (by decide))).mono (by decide),(wu (k:=140) (DO ag.bq (by decide))).mono (by decide)⟩,l,_,_,rfl,rfl,e1,(by show 4<sizeLine;decide),hN _ _ ⟨rfl,fJ g1 nl _,af⟩⟩⟩
 rintro σ H2 ⟨rfl,g2,e2⟩;have sc0:fD K C:=by
  rcases hC with ⟨_,rfl⟩|⟨_,rfl⟩|⟨_,rfl⟩
  ·exact ⟨B.Fo,B.Fh,B.Fc,B.Fi,B.Fg,B.Ep⟩
  ·exact ⟨B.Fl,B.Fa,B.Eo,B.Fb,B.Ez,B.Em⟩
  ·exact ⟨B.Fj,B.Ex,B.En,B.Ey,B.Ew,B.El⟩
 have ex2:=g2 _ _ ex;have eth:([V.str w,.str n,vN lo,vN hi]++(dr fl).map V.str)=(([Th.t w,Th.t n,Th.n lo,Th.n hi]++(dr fl).map Th.t).map Cc):=by cases fl<;>rfl
 rw[eth] at e2;have fok:∀y∈(dr fl).map Th.t,jQ y:=fun y hy=>by
  match fl,bd.fl with
  |none,_=>simp[dr] at hy
  |some a,⟨_,ag⟩=>
   simp[dr] at hy;rw[hy];exact DU (dW ag) (by decide)
 have lf:(dr fl).length<=1:=by cases fl<;>simp[dr]
 have ww:w.length<=12:=by rcases bd.wd with e|e|e<;>(have e:w=_:=e;rw[e];decide)
 refine ⟨_,rfl,l,[Th.t w,Th.t n,Th.n lo,Th.n hi]++(dr fl).map Th.t,rfl,e2,(by simp;omega),(fun y hy=>?_),fun H3 g3=>⟨by show 1<=sizeLine;decide,fun rl nrl=>?_⟩⟩
 ·rcases DC.mp hy with hy|hy
  ·simp only[D2,D6,or_false] at hy;rcases hy with rfl|rfl|rfl|rfl<;>(simp only[jQ];omega)
  ·exact fok y hy
 have erow:jB (([Th.t w,Th.t n,Th.n lo,Th.n hi]++(dr fl).map Th.t).map uE)=jB (gH ⟨w,n,lo,hi,fl,us,sec⟩):=by cases fl<;>rfl
 rw[erow];generalize hrw:jB (gH ⟨w,n,lo,hi,fl,us,sec⟩)=z0;have g4:=(g2.trans g3).trans (aq nrl (.lst [.str z0]));have e4:aO H3 rl (.lst [.str z0]) rl=some (.lst ([z0].map V.str)):=af;have nrl0:=(g2.trans g3).free nrl;change L2.mq _ _ _ [some (.ref x),some (.ref l),some (.ref rl)] _;generalize aO H3 rl (.lst [.str z0])=H4 at g4 e4⊢;have ex4:=g4 _ _ ex;have ub:xN us:=bd.us;refine ⟨_,rfl,.inl ⟨rfl,_,aE.of e4⟩,_,rfl,x,C,dx,ff,_,rfl,ex4,sc0.cl,sc0.name,sf.name,_,rfl,x,C,dx,ff,_,rfl,ex4,sc0.cl,sc0.uses,sf.uses,(Str.ofString "with"),n,u,us,rfl,hu.same g4,ub,by decide,nl12,fun l5 H5 g5 nl5 e5=>?_⟩
 have lub:=ub.1;refine ⟨rl,l5,_,_,rfl,rfl,g5 _ _ e4,e5,(by simp;omega),?_⟩
 have g6:=fJ (g4.trans g5) nrl0 (.lst ([z0].map V.str++(us.map fun u=>jB (cD "with" n u)).map V.str))
 have e6:aO H5 rl (.lst ([z0].map V.str++(us.map fun u=>jB (cD "with" n u)).map V.str)) rl=some (.lst ((z0::us.map fun u=>jB (cD "with" n u)).map V.str)):=af
 generalize aO H5 rl (.lst ([z0].map V.str++(us.map fun u=>jB (cD "with" n u)).map V.str))=H6 at g6 e6⊢
 have ex6:=g6 _ _ ex;have hs6:=hs.same g6;obtain ⟨rs,hrs⟩:∃rs:GO,rs=z0::us.map fun u=>jB (cD "with" n u):=⟨_,rfl⟩
 rw[<-hrs] at e6;have lrs:rs.length<=13:=by rw[hrs];simp;omega
 subst hrw
 match sec,hs6,bd.sec,q with
 |none,hs6,_,q=>
  have hs6:sv= .non:=hs6;subst hs6;refine ⟨_,rfl,x,C,dx,ff,_,rfl,ex6,sc0.cl,sc0.second,sf.second,rfl,_,rfl,nF rfl ⟨_,rfl,q rl _ g6 nrl0 ?_⟩⟩;rw[e6,hrs];simp[aT,du]
 |some (lo2,hi2,us2),⟨t2,l2,e,et2,hu2⟩,bs,q=>
  subst e;obtain ⟨⟨k1,k2,k3⟩,ub2⟩:=bs _ rfl;dsimp only at k1 k2 k3 ub2;have lub2:=ub2.1;refine ⟨_,rfl,x,C,dx,ff,_,rfl,ex6,sc0.cl,sc0.second,sf.second,rfl,_,rfl,nT (fun z=>nomatch z) ?_⟩
  refine ⟨_,rfl,.inl ⟨rfl,_,aE.of e6⟩,_,rfl,x,C,dx,ff,_,rfl,ex6,sc0.cl,sc0.name,sf.name,_,rfl,x,C,dx,ff,_,rfl,ex6,sc0.cl,sc0.second,sf.second,t2,_,_,_,rfl,rfl,bX.of et2,rfl,_,rfl,x,C,dx,ff,_,rfl,ex6,sc0.cl,sc0.second,sf.second,t2,_,_,_,rfl,rfl,bX.of et2,rfl,by show 4<=sizeLine;decide,fun d nd=>?_⟩
  have g7:=aq nd (.lst [.str "or",.str n,vN lo2,vN hi2]);refine ⟨d,[.t "or",.t n,.n lo2,.n hi2],rfl,af,(by show 4<=20;decide),(fun y hy=>?_),fun H8 g8=>?_⟩
  ·have:(Str.ofString "or").length=2:=by decide
   simp only[D2,D6,or_false] at hy;rcases hy with rfl|rfl|rfl|rfl<;>(simp only[jQ];omega)
  have g68:=g7.trans g8;rw[show jB ([Th.t "or",Th.t n,Th.n lo2,Th.n hi2].map uE)=jB (eE n lo2 hi2) from rfl]
  refine ⟨rl,_,_,rfl,rfl,g68 _ _ e6,(by simp;omega),?_⟩
  have e9:aO H8 rl (.lst (rs.map V.str++ [.str (jB (eE n lo2 hi2))])) rl=some (.lst ((rs++ [jB (eE n lo2 hi2)]).map V.str)):=by rw[af,DQ];rfl
  have g9:=fJ (g6.trans g68) nrl0 (.lst (rs.map V.str++ [.str (jB (eE n lo2 hi2))]));have ed:H6 d=none:=nd;have g9':∀{b:Addr} {o:HO},H6 b=some o->b≠rl->aO H8 rl (.lst (rs.map V.str++ [.str (jB (eE n lo2 hi2))])) b=some o:=fun hb hn=>by rw[aB hn];exact g68 _ _ hb
  have exl:x≠rl:=fun z=>by rw[z,e6] at ex6;cases ex6
  have etl:t2≠rl:=fun z=>by rw[z,e6] at et2;cases et2
  try dsimp only[aR,aS]
  have ex9:=g9' ex6 exl;have et9:=g9' et2 etl;have hu9:=(hs.same g9);generalize aO H8 rl (.lst (rs.map V.str++ [.str (jB (eE n lo2 hi2))]))=H9 at e9 g9 ex9 et9 hu9⊢;obtain ⟨t3,l3,e,et3,hu3⟩:=hu9;cases e;rw[et3] at et9;cases et9;refine ⟨_,rfl,.inl ⟨rfl,_,aE.of e9⟩,_,rfl,x,C,dx,ff,_,rfl,ex9,sc0.cl,sc0.name,sf.name,_,rfl,x,C,dx,ff,_,rfl,ex9,sc0.cl,sc0.second,sf.second,t2,_,_,_,rfl,rfl,bX.of et3,rfl,(Str.ofString "orwith"),n,l2,us2,rfl,hu3,ub2,by decide,nl12,fun l5 H5 g5 nl5 e5=>?_⟩
  refine ⟨rl,l5,_,_,rfl,rfl,g5 _ _ e9,e5,(by simp;omega),?_⟩
  refine ⟨_,rfl,q rl _ (fJ (g9.trans g5) nrl0 _) nrl0 ?_⟩;rw[af,hrs];simp[aT,du]
theorem A1 {dV:Value} (F:bv K "row_of_link" "row_of_link" yP dV f fd) (DZ36:Dx P w K mg base bi 1 "row_of" ["things"] [] ie):bh P w K mg base bi 2 f fd ["link","steps"] (kz Ef Ee on):=by
 have sc:aC ["link","steps","things"] ["link","steps"] (aw yP):=df (by decide+kernel)
 refine F.ok sc (fun vs H Q E h=>?_) (fun cdv A outer s H vs Q E hr h=>?_)
 ·obtain ⟨_,_,_,_,rfl,_⟩:=h
  rfl
 obtain ⟨t,ls,⟨w,a,b,tn⟩,ss,rfl,et,⟨vs,el,r⟩,nms,ok,q⟩:=h;refine ⟨_,(ac (bK 2 sc (@aZ _ _ _ _ (@aa _ _ _ _ _ (aj aY (pv 0) ad (fun _ _=>rfl)) (@aa _ _ _ _ _ (aL (aj ai (pv 1) (aj aY (pv 0) ad (fun _ _=>rfl)) (fun _ _=>rfl)) rfl) (@aa _ _ _ _ _ (aL (aj ai (pv 1) (aj aY (pv 0) ad (fun _ _=>rfl)) (fun _ _=>rfl)) rfl) ae rfl) rfl) rfl))) (ac (aJ (av bC (aj aY (pv 0) ad (fun _ _=>rfl)) ax (aA _)) (ah (aV (bO DE DG DF a8 (pv 2) (@aa _ _ _ _ _ (aj aY (pv 0) ad (fun _ _=>rfl)) ae rfl)))) az) (ah (ay (b5 DZ36 hr (@aa _ _ _ _ _ (pv 2) ae rfl)))))),?_⟩
 try dsimp only[cxK]
 have sl:sizeLine=16777216:=sizeLine_eq;have scOf:∀{w:Str} {C:Addr},iM Ef Ee on w C->fD K C:=fun h=>by
  rcases h with ⟨_,rfl⟩|⟨_,rfl⟩|⟨_,rfl⟩
  ·exact ⟨B.Fo,B.Fh,B.Fc,B.Fi,B.Fg,B.Ep⟩
  ·exact ⟨B.Fl,B.Fa,B.Eo,B.Fb,B.Ez,B.Em⟩
  ·exact ⟨B.Fj,B.Ex,B.En,B.Ey,B.Ew,B.El⟩
 have la:=ok.a;have lb:=ok.b;dsimp only at la lb;have ha:=D1 la;have hb:=D1 lb;have na:=(nms _ (EB la)).len;have nb:=(nms _ (EB lb)).len;have el3:=ok.w.len;have t5:tn<=100000:=ok.t;unfold cQ at q;dsimp only at q el3;rw[bP ha,bP hb] at q;obtain ⟨va,hva,xa,rfl,Ca,dxa,ua,sva,ffa,exa,hCa,sfa,_⟩:=r.get ha;obtain ⟨vb,hvb,xb,rfl,Cb,dxb,ub,svb,ffb,exb,hCb,sfb,_⟩:=r.get hb;refine ⟨_,rfl,t,_,_,_,rfl,rfl,bX.of et,rfl,_,rfl,_,rfl,t,_,_,_,rfl,rfl,bX.of et,rfl,ls,_,_,_,rfl,rfl,aE.of el,(aD hva),xa,Ca,dxa,ffa,_,rfl,exa,(scOf hCa).cl,(scOf hCa).name,sfa.name,_,rfl,_,rfl,t,_,_,_,rfl,rfl,bX.of et,rfl,ls,_,_,_,rfl,rfl,aE.of el,(aD hvb),xb,Cb,dxb,ffb,_,rfl,exb,(scOf hCb).cl,(scOf hCb).name,sfb.name,by show 3<=sizeLine;decide,fun l nl=>?_⟩
 generalize ss[a].n=za at*;generalize ss[b].n=zb at*;have g1:=aq nl (.lst [.str w,.str za,.str zb]);have e1:aO H l (.lst [.str w,.str za,.str zb]) l=some (.lst [.str w,.str za,.str zb]):=af;try dsimp only[aR,aS]
 refine cut (fun σ H'=>σ= [GT t,GT ls,GT l]/\aH H H'/\H' l=some (.lst (([Th.t w,.t za,.t zb]++if w= "within" then [Th.n tn] else []).map Cc))) (fun N hN=>?_) ?_
 ·refine ⟨_,rfl,t,_,_,_,rfl,rfl,bX.of (g1 _ _ et),rfl,rfl,_,rfl,kv (fun e=>?_) fun e=>hN _ _ ⟨rfl,g1,?_⟩⟩
  ·refine ⟨_,rfl,.inl ⟨rfl,_,aE.of e1⟩,_,rfl,t,_,_,_,rfl,rfl,bX.of (g1 _ _ et),rfl,l,_,_,rfl,rfl,e1,(by show 3<sizeLine;decide),hN _ _ ⟨rfl,fJ g1 nl _,?_⟩⟩
   rw[af,if_pos e]
   rfl
  ·rw[if_neg e];exact e1
 rintro σ H2 ⟨rfl,g2,e2⟩;refine ⟨_,rfl,l,_,rfl,e2,(by split<;>simp),(fun y hy=>?_),fun H3 g3=>?_⟩
 ·rcases DC.mp hy with hy|hy
  ·simp only[D2,D6,or_false] at hy;rcases hy with rfl|rfl|rfl<;>(simp only[jQ];omega)
  ·split at hy
   ·rw[D8.mp hy];simp only[jQ];omega
   ·simp at hy
 ·have e4:([Th.t w,.t za,.t zb]++if w= "within" then [Th.n tn] else []).map uE=cK w za zb tn:=by
   unfold cK
   split<;>rfl
  rw[e4];exact q _ (g2.trans g3)
theorem A3 {dV:Value} (F:bv K "recipe_text" "recipe_text" yQ dV f fd) (DZ6:Dx P w K mg base bi 2 "amount_text" ["amount"] [] (qf K)) (DZ36:Dx P w K mg base bi 1 "row_of" ["things"] [] ie) (DZ38:Dx P w K mg base bi 3 "rows_of_step" ["step"] [] (jv Ef Ee on)) (DZ39:Dx P w K mg base bi 2 "row_of_link" ["link","steps"] [] (kz Ef Ee on)):bh P w K mg base bi 4 f fd ["recipe"] (kA Ef Ee on Db):=by
 have sc:aC ["recipe","rows","take","step","link"] ["recipe"] (aw yQ):=df (by decide+kernel)
 refine F.ok sc (fun vs H Q E h=>?_) (fun cdv A outer s H vs Q E hr h=>?_)
 ·obtain ⟨_,_,_,_,rfl,_⟩:=h
  rfl
 obtain ⟨r,n,p,M,rfl,⟨lt,ls,lk,⟨dx,er⟩,⟨vt,et,rt⟩,⟨vs,es,rs⟩,⟨vk,ek,rk⟩⟩,bd,nm,p1,q⟩:=h;refine ⟨_,(ac (bK 1 sc (@aZ _ _ _ _ (@aa _ _ _ _ _ (b5 DZ36 hr (@aa _ _ _ _ _ (@aZ _ _ _ _ (@aa _ _ _ _ _ ax (@aa _ _ _ _ _ (aL (pv 0) rfl) (@aa _ _ _ _ _ (aL (pv 0) rfl) ae rfl) rfl) rfl)) ae rfl)) ae rfl))) (ac (cF PassesOwn.never rfl (cv (aL (pv 0) rfl)) (eY 2 sc) (ah (aV (bO DE DG DF a8 (pv 1) (@aa _ _ _ _ _ (b5 DZ36 hr (@aa _ _ _ _ _ (@aZ _ _ _ _ (@aa _ _ _ _ _ ax (@aa _ _ _ _ _ (aj aY (pv 2) ad (fun _ _=>rfl)) (@aa _ _ _ _ _ (b5 DZ6 hr (@aa _ _ _ _ _ (aj aY (pv 2) ad (fun _ _=>rfl)) ae rfl)) ae rfl) rfl) rfl)) ae rfl)) ae rfl))))) (ac (cF PassesOwn.never rfl (cv (aL (pv 0) rfl)) (eY 3 sc) (ah (aV (bO DE PySem.F.slot_list_extend PySem.F.type_list_extend iA (pv 1) (@aa _ _ _ _ _ (b5 DZ38 hr (@aa _ _ _ _ _ (pv 3) ae rfl)) ae rfl))))) (ac (cF PassesOwn.never rfl (cv (aL (pv 0) rfl)) (eY 4 sc) (ah (aV (bO DE DG DF a8 (pv 1) (@aa _ _ _ _ _ (b5 DZ39 hr (@aa _ _ _ _ _ (pv 4) (@aa _ _ _ _ _ (aL (pv 0) rfl) ae rfl) rfl)) ae rfl))))) (ah (ay (bO Dp EQ EO gZ ax (@aa _ _ _ _ _ (pv 1) ae rfl)))))))),?_⟩
 try dsimp only[cxK]
 have sl:sizeLine=16777216:=sizeLine_eq;have lt12:=rt.1;have ls12:=rs.1;have lk12:=rk.1;have t12:=bd.t12;have s12:=bd.s12;have k24:=bd.k24;have nlen:=nm.len;have hl4:=kD nm p1;have rlen:=(iP bd hl4).2;rw[DB,DB,DD,D4,D4] at rlen;refine ⟨_,rfl,r,_,dx,_,_,rfl,er,B.Eh,B.Fu,bI.1,_,rfl,r,_,dx,_,_,rfl,er,B.Eh,B.Fn,bI.2.1,by show 3<=sizeLine;decide,fun d nd=>?_⟩
 have g1:=aq nd (.lst [.str "dish",.str n,vN p]);refine ⟨d,[.t "dish",.t n,.n p],rfl,af,(by show 3<=20;decide),(fun y hy=>?_),fun H2 g2=>⟨by show 1<=sizeLine;decide,fun rl nrl=>?_⟩⟩
 ·have:(Str.ofString "dish").length=4:=by decide
  simp only[D2,D6,or_false] at hy;rcases hy with rfl|rfl|rfl<;>(simp only[jQ];omega)
 rw[show jB ([Th.t "dish",Th.t n,Th.n p].map uE)=bj n p from rfl]
 have g3:=(g1.trans g2).trans (aq nrl (.lst [.str (bj n p)]));have e3:aO H2 rl (.lst [.str (bj n p)]) rl=some (.lst ([bj n p].map V.str)):=af;have nrl0:=(g1.trans g2).free nrl;generalize aO H2 rl (.lst [.str (bj n p)])=H3 at g3 e3⊢;have rne:∀{b:Addr} {o:HO},H b=some o->b≠rl:=fun hb z=>by rw[z,nrl0] at hb;cases hb
 clear g1 g2 nd nrl;try dsimp only[aR,aS]
 refine cut (fun σ H'=>(∃o2:Option V,σ= [GT r,GT rl,o2,none,none])/\aH H H'/\H' rl=some (.lst ((bj n p::M.takes.map cS).map V.str))) (fun N hN=>?_) ?_
 ·refine ⟨_,rfl,r,_,dx,_,_,rfl,(g3 _ _ er),B.Eh,B.Ev,bI.2.2.1,lt,rfl,⟨_,aE.of (g3 _ _ et)⟩,dG (xs:=vt) (fun i σ H'=>(∃o2:Option V,σ= [GT r,GT rl,o2,none,none])/\aH H H'/\H' rl=some (.lst ((bj n p::(M.takes.take i).map cS).map V.str))) ⟨⟨none,rfl⟩,g3,e3⟩ (fun i σ H' _ h=>aE.of (h.2.1 _ _ et)) ?_ ?_⟩
  ·rintro i y σ H4 hy ⟨⟨o2,rfl⟩,g4,e4⟩;obtain ⟨x,hx,t,b,rfl,_,_,et',eb⟩:=rt.at_ hy;obtain ⟨nx,ag⟩:=bd.ts x (D5 hx);have il:=aU hx;have xl:=nx.len;have al:=dW ag;refine ⟨_,rfl,.inl ⟨rfl,_,aE.of e4⟩,_,rfl,t,_,_,_,rfl,rfl,bX.of (g4 _ _ et'),rfl,_,rfl,t,_,_,_,rfl,rfl,bX.of (g4 _ _ et'),rfl,b,x.2.1,x.2.2,rfl,⟨bX.of (g4 _ _ eb),by have:=ag.rd.pos;omega,(wu (k:=140) (DO ag.bp (by decide))).mono (by decide),(wu (k:=140) (DO ag.bq (by decide))).mono (by decide)⟩,by show 3<=sizeLine;decide,fun d nd=>?_⟩
   have g5:=aq nd (.lst [.str "take",.str x.1,.str (bG (cO x.2.1 x.2.2))]);refine ⟨d,[.t "take",.t x.1,.t (i4 x.2)],rfl,af,(by show 3<=20;decide),(fun y hy=>?_),fun H6 g6=>⟨rl,_,_,rfl,rfl,g6 _ _ (g5 _ _ e4),(by rw[D4,DD,D4,DX];omega),⟨_,rfl⟩,fJ ((g4.trans g5).trans g6) nrl0 _,?_⟩⟩
   ·have:(Str.ofString "take").length=4:=by decide
    simp only[D2,D6,or_false] at hy;rcases hy with rfl|rfl|rfl<;>(simp only[jQ];omega)
   ·rw[af,zr hx,kE]
    rfl
  ·rintro σ H4 ⟨h1,h2,h3⟩;rw[lt12,EH] at h3;exact hN _ _ ⟨h1,h2,h3⟩
 rintro σ H4 ⟨⟨o2,rfl⟩,g4,e4⟩;clear e3 g3;refine cut (fun σ H'=>(∃o2 o3:Option V,σ= [GT r,GT rl,o2,o3,none])/\aH H H'/\H' rl=some (.lst ((bj n p::M.takes.map cS++(M.steps.map aT).flatten).map V.str))) (fun N hN=>?_) ?_
 ·refine ⟨_,rfl,r,_,dx,_,_,rfl,(g4 _ _ er),B.Eh,B.Ej,bI.2.2.2.1,ls,rfl,⟨_,aE.of (g4 _ _ es)⟩,dG (xs:=vs) (fun i σ H'=>(∃o2 o3:Option V,σ= [GT r,GT rl,o2,o3,none])/\aH H H'/\H' rl=some (.lst ((bj n p::M.takes.map cS++((M.steps.take i).map aT).flatten).map V.str))) ⟨⟨_,none,rfl⟩,g4,by rw[List.take_zero,Du,EW,EF];exact e4⟩ (fun i σ H' _ h=>aE.of (h.2.1 _ _ es)) ?_ ?_⟩
  ·rintro i y σ H5 hy ⟨⟨o2,o3,rfl⟩,g5,e5⟩;obtain ⟨x,hx,xa,rfl,so⟩:=rs.at_ hy;have sb:=bd.ss x (D5 hx);have fl:=(gu (ss:=M.steps.take i) fun s hs=>bd.ss s (List.mem_of_mem_take hs)).2
   have sr:=(fv sb).2;rw[DX] at fl;refine ⟨_,rfl,.inl ⟨rfl,_,aE.of e5⟩,_,rfl,xa,x,rfl,so.same g5,sb,fun l H6 g6 nl e6=>⟨rl,l,_,_,rfl,rfl,g6 _ _ e5,e6,(by rw[D4,D4,DB,DD,D4];omega),⟨_,_,rfl⟩,fJ (g5.trans g6) nrl0 _,?_⟩⟩
   rw[af,CI hx,nD,Da]
  ·rintro σ H5 ⟨h1,h2,h3⟩;rw[ls12,EH] at h3;exact hN _ _ ⟨h1,h2,h3⟩
 rintro σ H5 ⟨⟨o2,o3,rfl⟩,g5,e5⟩;clear e4 g4;refine cut (fun σ H'=>(∃o2 o3 o4:Option V,σ= [GT r,GT rl,o2,o3,o4])/\aH H H'/\H' rl=some (.lst ((bj n p::M.takes.map cS++(M.steps.map aT).flatten++M.links.map (cQ M.steps)).map V.str))) (fun N hN=>?_) ?_
 ·refine ⟨_,rfl,r,_,dx,_,_,rfl,(g5 _ _ er),B.Eh,B.Ff,bI.2.2.2.2,lk,rfl,⟨_,aE.of (g5 _ _ ek)⟩,dG (xs:=vk) (fun i σ H'=>(∃o2 o3 o4:Option V,σ= [GT r,GT rl,o2,o3,o4])/\aH H H'/\H' rl=some (.lst ((bj n p::M.takes.map cS++(M.steps.map aT).flatten++(M.links.take i).map (cQ M.steps)).map V.str))) ⟨⟨_,_,none,rfl⟩,g5,by rw[List.take_zero,Du,EF];exact e5⟩ (fun i σ H' _ h=>aE.of (h.2.1 _ _ ek)) ?_ ?_⟩
  ·rintro i y σ H6 hy ⟨⟨o2,o3,o4,rfl⟩,g6,e6⟩;obtain ⟨x,hx,t,rfl,_,et'⟩:=rk.at_ hy;have il:=aU hx;refine ⟨_,rfl,.inl ⟨rfl,_,aE.of e6⟩,_,rfl,_,rfl,r,_,dx,_,_,rfl,(g6 _ _ er),B.Eh,B.Ej,bI.2.2.2.1,t,ls,x,M.steps,rfl,g6 _ _ et',⟨vs,g6 _ _ es,rs.steps g6⟩,(fun s hs=>(bd.ss s hs).nm),bd.ks x (D5 hx),fun H7 g7=>⟨rl,_,_,rfl,rfl,g7 _ _ e6,(by rw[D4,DB,DB,DD,D4,D4,DX];omega),⟨_,_,_,rfl⟩,fJ (g6.trans g7) nrl0 _,?_⟩⟩
   rw[af,zr hx,kE,Da]
  ·rintro σ H6 ⟨h1,h2,h3⟩;rw[lk12,EH] at h3;exact hN _ _ ⟨h1,h2,h3⟩
 rintro σ H6 ⟨⟨o2,o3,o4,rfl⟩,g6,e6⟩;exact ⟨rfl,_,rfl,_,rl,_,rfl,rfl,aE.of e6,by decide,nC bd hl4,q _ g6⟩
theorem A4 {dV:Value} (F:bv K "_law_cell_at" "_law_cell_at" yR dV f fd):bh P w K mg base bi 1 f fd ["_law_script","_law_k"] (sE K):=by
 have sc:aC ["_law_script","_law_k"] ["_law_script","_law_k"] (aw yR):=df (by decide+kernel)
 refine F.ok sc (fun vs H Q E h=>?_) (fun cdv A outer s H vs Q E hr h=>?_)
 ·obtain ⟨_,_,_,rfl,_⟩:=h
  rfl
 obtain ⟨a,ns,k,rfl,hS,h0,q⟩:=h;refine ⟨_,(ac (aJ (av ja (pv 1) (aI a7 rfl B.Ft boot_len (@aa _ _ _ _ _ (pv 0) ae rfl)) (aA _)) (ah (ay (aj ai (pv 0) (pv 1) (fun _ _=>rfl)))) az) (ah (ay ad))),?_⟩
 try dsimp only[cxK]
 refine ⟨_,rfl,_,rfl,a,_,rfl,.inl hS,_,_,rfl,rfl,_,rfl,d2 (fun c=>?_) (fun c=>?_)⟩
 ·obtain ⟨v,hv⟩:=pW h0 c;exact ⟨_,rfl,_,rfl,a,_,_,_,rfl,rfl,hS,hv,q v⟩
 ·exact q 0
theorem A5 {dV:Value} (F:bv K "_law_whole" "_law_whole" yS dV f fd):bh P w K mg base bi 1 f fd ["_law_found"] gP:=by
 have sc:aC ["_law_found"] ["_law_found"] (aw yS):=df (by decide+kernel)
 refine F.ok sc (fun vs H Q E h=>?_) (fun cdv A outer s H vs Q E hr h=>?_)
 ·obtain ⟨_,rfl,_⟩:=h
  rfl
 obtain ⟨v,rfl,q⟩:=h;refine ⟨_,(ah (ay (oh (aI gO rfl B.Eg boot_isinstance (@aa _ _ _ _ _ (pv 0) (@aa _ _ _ _ _ (b6 (v:= .ty "int") rfl B.Gx boot_int rfl) ae rfl) rfl)) (og (rX (aI gO rfl B.Eg boot_isinstance (@aa _ _ _ _ _ (pv 0) (@aa _ _ _ _ _ (b6 (v:= .ty "bool") rfl B.Gy boot_bool rfl) ae rfl) rfl))))))),?_⟩;try dsimp only[cxK]
 refine ⟨_,rfl,_,_,_,rfl,.ii v,_,rfl,lq ⟨_,rfl,_,_,_,rfl,.ib v,_,rfl,q⟩⟩
theorem A6 {dV:Value} (F:bv K "_law_common" "_law_common" yT dV f fd):bh P w K mg base bi 1 f fd ["_law_one","_law_other"] tH:=by
 have sc:aC ["_law_one","_law_other","_law_rest"] ["_law_one","_law_other"] (aw yT):=df (by decide+kernel)
 refine F.ok sc (fun vs H Q E h=>?_) (fun cdv A outer s H vs Q E hr h=>?_)
 ·obtain ⟨_,_,rfl,_⟩:=h
  rfl
 obtain ⟨a,b,rfl,a0,b0,q⟩:=h;refine ⟨_,(ac (mr PassesOwn.never (av mz (pv 1) ad (aA _)) (ac (bK 2 sc (ar aN (pv 0) (pv 1))) (ac (bK 0 sc (pv 1)) (ah (bK 1 sc (pv 2)))))) (ah (ay (pv 0)))),?_⟩;try dsimp only[cxK]
 refine mw (fun σ H'=>H'=H/\∃(g l:Int) (r:Option V),σ= [some (.int g),some (.int l),r]/\0<=g/\0<=l/\bB g l=bB a b)
  (fun (σ:L2.St) (_:Hp)=>match σ[1]? with|some (some (V.int l))=>l.toNat|_=>0) ⟨rfl,_,_,_,rfl,a0,b0,rfl⟩ ?_ (fun σ H Q Q' m ⟨v,e,i,j,e1,e2,k,hk,h2⟩=>⟨v,e,i,j,e1,e2,k,hk,m _ _ h2⟩)
 rintro σ H' ⟨rfl,g,l,r,rfl,g0,l0,inv⟩;refine ⟨_,rfl,_,_,rfl,rfl,_,rfl,d2 (fun c=>?_) (fun c=>?_)⟩
 ·have lp:0<l:=c;refine ⟨_,rfl,_,rfl,_,_,rfl,rfl,by omega,_,rfl,_,rfl,⟨rfl,l,g.fmod l,_,rfl,l0,DP g lp,?_⟩,?_⟩
  ·rw[j6 lp];exact inv
  ·have h1:=Df g lp;have h2:=DP g lp;show (g.fmod l).toNat<l.toNat;omega
 ·have c:l=0:=by omega
  subst c;rw[j7 g0] at inv;rw[<-inv] at q;exact ⟨_,rfl,q⟩
theorem A7 {dV:Value} (F:bv K "_law_stream" "_law_stream" yU dV f fd):bh P w K mg base bi 1 f fd ["_law_cell","_law_many"] jn:=by
 have sc:aC ["_law_cell","_law_many","_law_number","_law_found","_law_k"] ["_law_cell","_law_many"] (aw yU):=df (by decide+kernel)
 refine F.ok sc (fun vs H Q E h=>?_) (fun cdv A outer s H vs Q E hr h=>?_)
 ·obtain ⟨_,_,rfl,_⟩:=h
  rfl
 obtain ⟨c,m,rfl,m0,m1,q⟩:=h;have s4:(5000:Nat)<=sizeLine:=by decide
 refine ⟨_,(ac (bK 2 sc (ar aN (pv 0) ad)) (ac (bK 3 sc (@aZ _ _ _ _ ae)) (ac (cF PassesOwn.never rfl (iu rfl B.FQ (@aa _ _ _ _ _ (ar bY (pv 1) ad) ae rfl)) (eY 4 sc) (ac (bK 2 sc (ar aN (ar bY (ar bY (ar dn (pv 2) ad) ad) (pv 4)) ad)) (ah (aV (bO DE DG DF a8 (pv 3) (@aa _ _ _ _ _ (ar bR (pv 2) ad) ae rfl)))))) (ah (ay (cN fb (pv 3) (cT ad) eJ)))))),?_⟩;try dsimp only[cxK]
 refine ⟨_,rfl,_,_,rfl,rfl,(by show (2147483647:Int)≠0;decide),?_⟩
 have a0:=DP c (show (0:Int)<2147483647 by decide)
 have a1:=Df c (show (0:Int)<2147483647 by decide)
 refine ⟨by show 0<=sizeLine;decide,fun l nl=>?_⟩
 try dsimp only[aR,aS]
 refine cut (fun σ H'=>∃(xs:List Int) (n:Int) (o4:Option V),σ= [some (.int c),some (.int m),some (.int n),GT l,o4]/\aH H H'/\H' l=some (.lst (xs.map V.int))/\(xs.length:Int)=m+1/\∀x∈xs,0<=x/\x<2^31) (fun N hN=>?_) ?_
 ·refine ⟨_,rfl,_,_,rfl,rfl,_,rfl,by omega,by omega,iw (fun i σ H'=>∃(xs:List Int) (n:Int) (o4:Option V),σ= [some (.int c),some (.int m),some (.int n),GT l,o4]/\aH H H'/\H' l=some (.lst (xs.map V.int))/\xs.length=i/\(∀x∈xs,0<=x/\x<2^31)/\0<=n/\n<2147483647) ⟨[],_,none,rfl,aq nl _,af,rfl,by simp,a0,a1⟩ (fun i σ H2 hi hP=>?_) (fun σ H2 hP=>?_)⟩
  ·obtain ⟨xs,n,o4,rfl,g,e,hl,hx,n0,n1⟩:=hP;have nb:Bd 31 n:=by unfold Bd;omega
   refine ⟨_,rfl,_,_,rfl,rfl,nb.ok (show Bd 16 48271 by unfold Bd;decide),_,_,rfl,rfl,_,rfl,_,_,rfl,rfl,_,_,rfl,rfl,(by show (2147483647:Int)≠0;decide),?_⟩
   have b0:=DP (n*48271+7919+(0+(i:Int))) (show (0:Int)<2147483647 by decide)
   have b1:=Df (n*48271+7919+(0+(i:Int))) (show (0:Int)<2147483647 by decide)
   refine ⟨_,rfl,.inl ⟨rfl,_,aE.of e⟩,_,rfl,_,_,rfl,rfl,⟨by decide,DZ (by decide)⟩,l,_,_,rfl,rfl,e,(by rw[D4];omega),?_⟩
   refine ⟨xs++ [((n*48271+7919+(0+(i:Int))).fmod 2147483647).fdiv 1009],_,_,rfl,fJ g nl _,by rw[af,DQ];rfl,by simp[hl],fun x hx'=>?_,b0,b1⟩
   rcases DC.mp hx' with k|k
   ·exact hx x k
   ·rw[D8] at k;subst k;rw[E8 _ (by decide)]
    omega
  ·obtain ⟨xs,n,o4,rfl,g,e,hl,hx,n0,n1⟩:=hP;exact hN _ _ ⟨xs,n,o4,rfl,g,e,by omega,hx⟩
 rintro σ H' ⟨xs,n,o4,rfl,g,e,hl,hx⟩;refine ⟨_,rfl,_,rfl,l,_,rfl,aE.of e,fun p hp=>?_⟩
 have ec:dN (xs.map V.int) (some 1) none=(xs.drop 1).map V.int:=by
  rw[tw (by rw[D4];omega),List.map_drop]
 rw[ec];exact q p _ (xs.drop 1) (g.trans (aq hp _)) af (by rw[Ds];omega) (fun x hx'=>hx x (List.mem_of_mem_drop hx'))
theorem A8 {dV:Value} (F:bv K "_law_names" "_law_names" yV dV f fd) (DZ44:Dx P w K mg base bi 1 "_law_stream" ["_law_cell","_law_many"] [] jn):bh P w K mg base bi 2 f fd ["_law_cell"] nB:=by
 have sc:aC ["_law_cell","_law_letters","_law_xs","_law_body","_law_size","_law_at","_law_some","_law_k","_law_sign"] ["_law_cell"] (aw yV):=df (by decide+kernel)
 refine F.ok sc (fun vs H Q E h=>?_) (fun cdv A outer s H vs Q E hr h=>?_)
 ·obtain ⟨_,rfl,_⟩:=h
  rfl
 obtain ⟨c,rfl,q⟩:=h;have s4:(5000:Nat)<=sizeLine:=by decide
 refine ⟨_,(ac (k7 (i:=1) sc.nd rfl (Or.inr rfl) ax) (ac (bK 2 sc (b5 DZ44 hr (@aa _ _ _ _ _ (pv 0) (@aa _ _ _ _ _ ad ae rfl) rfl))) (ac (k7 (i:=3) sc.nd rfl (Or.inr rfl) (bO Dp EQ EO gZ ax (@aa _ _ _ _ _ (fW (own:= "_law_x") (ys:= ["_law_letters"]) (js:= [1]) rfl (xq (Bv xn) (.cons rfl .nil) (by decide) rfl rfl rfl rfl rfl rfl rfl rfl) (cv (cN fb (pv 2) eJ (cT ad))) (fun C fp s H=>(aj oG (pv 1) (ar aN (pv 0) ad) (fun _ _=>rfl)))) ae rfl))) (ac (bK 4 sc (ar bY ad (ar aN (aj ai (pv 2) ad (fun _ _=>rfl)) ad))) (ac (bK 5 sc (ar aN (aj ai (pv 2) ad (fun _ _=>rfl)) (pv 4))) (ac (aJ (av bC (ar aN (ar bR (aj ai (pv 2) ad (fun _ _=>rfl)) ad) ad) ad (aA _)) (ah (ay (sQ (hd:=none) (own:= "_law_k") (ys:= ["_law_body"]) (js:= [3]) hr.hd (xq (Bv xn) (.cons rfl .nil) (by decide) rfl rfl rfl rfl rfl rfl rfl rfl) (qZ rfl B.FQ (@aa _ _ _ _ _ ad ae rfl)) (fun C fp s H=>(cN oQ (pv 1) eJ (cT (ar ix ad (ar aN (ar dn ad (pv 0)) ad)))))))) az) (ac (xC (av bC (ar aN (ar bR (aj ai (pv 2) ad (fun _ _=>rfl)) ad) ad) ad (aA _)) (tz (i:=6) sc.nd rfl (Or.inl rfl) (cU (cU (cU (cU (cU (cU (cU (cU (cU (cU (cU (cU vw)))))))))))) (ah (ay (ar lm (cN fb (pv 6) (cT (ar aN (ar bR (aj ai (pv 2) ad (fun _ _=>rfl)) ad) ad)) eJ) (cN fb (pv 6) eJ (cT (ar aN (ar bR (aj ai (pv 2) ad (fun _ _=>rfl)) ad) ad))))))) az) (ac (bK 6 sc (@aZ _ _ _ _ ae)) (ac (cF PassesOwn.never rfl (iu rfl B.FQ (@aa _ _ _ _ _ ad ae rfl)) (eY 7 sc) (ac (bK 8 sc (aj oG (pv 1) (ar aN (ar bY (ar bR (aj ai (pv 2) ad (fun _ _=>rfl)) ad) (ar dn ad (pv 7))) ad) (fun _ _=>rfl))) (ah (aV (bO DE DG DF a8 (pv 6) (@aa _ _ _ _ _ (ar ao (ar ao (cN oQ (pv 3) eJ (cT (pv 5))) (pv 8)) (cN oQ (pv 3) (cT (ar bY (pv 5) ad)) (cT (pv 4)))) ae rfl)))))) (ah (ay (pv 6)))))))))))),?_⟩
 try dsimp only[cxK]
 refine ⟨_,rfl,c,14,rfl,by decide,by decide,fun l H1 xs g1 e1 xl xp=>?_⟩
 have at_:∀j:Int,0<=j->j<14->∃v:Int,ir (xs.map V.int) j=some (.int v):=fun j j0 j1=>pW j0 (by rw[D4];omega)
 obtain ⟨x12,h12⟩:=at_ 12 (by decide) (by decide)
 obtain ⟨x13,h13⟩:=at_ 13 (by decide) (by decide)
 try dsimp only[aR,aS]
 refine cut (fun σ H'=>aH H1 H'/\∃body:Str,body.length=12/\Lt body/\σ= [some (.int c),some (.str ni),GT l,some (.str body),none,none,none,none,none]) (fun N hN=>?_) ?_
 ·refine ⟨rfl,_,rfl,_,rfl,l,_,rfl,aE.of e1,fun p hp=>?_⟩
  have cl:(dN (xs.map V.int) none (some 12)).length=12:=by
   have e0:HT.c6 (xs.map V.int).length 0 none=0:=rfl;have e2:HT.c6 (xs.map V.int).length (xs.map V.int).length (some 12)=12:=by
    unfold HT.c6;rw[D4];simp;omega
   unfold dN;rw[e0,e2,DX,Ds,D4];omega
  have g0:=aq hp (.lst (dN (xs.map V.int) none (some 12)));refine ⟨p,rfl,⟨_,aE.of af⟩,m6 (xs:=dN (xs.map V.int) none (some 12)) (fun _ y=>∃z:Str,y= .str z/\z.length=1/\Lt z) (aE.of af) (by omega) (fun x hx H3 g3 Q' hQ=>?_) (fun p2 ys H' np hl ht g' e'=>?_)⟩
  ·obtain ⟨v,rfl⟩:∃v:Int,x= .int v:=by
    have m:=hx;unfold dN at m;have m:=List.mem_of_mem_drop (List.mem_of_mem_take m);obtain ⟨c,_,e⟩:=DI.mp m;exact ⟨c,e.symm⟩
   have ha:=qo (DP v (show (0:Int)<26 by decide)) (Df v (show (0:Int)<26 by decide))
   exact ⟨_,rfl,_,rfl,_,_,rfl,rfl,(by show (26:Int)≠0;decide),ni,_,_,rfl,rfl,by decide,ha,hQ _ _ ⟨_,rfl,rfl,Lt.one (by have h1:=DP v (show (0:Int)<26 by decide);have h2:=Df v (show (0:Int)<26 by decide);omega)⟩ (.refl _)⟩
  ·obtain ⟨ws,rfl,hw,hwl⟩:=kF (ys:=ys) fun y hy=>by
    obtain ⟨i,hi⟩:=DR.mp hy;have il:=(DM.mp hi).1;exact ht i _ y (D1 (by omega)) hi
   rw[D4] at hl;refine ⟨_,p2,ws,rfl,rfl,aE.of e',by decide,by omega,hN _ _ ⟨g0.trans g',_,?_,Lt.tjoin hwl,rfl⟩⟩
   rw[jm];show _+(ws.length-1)*0=12;omega
 rintro σ H2 ⟨g2,body,bl,bL,rfl⟩;have e2:=g2 _ _ e1;have bz:body.length<=sizeLine:=by omega
 refine ⟨_,rfl,l,_,_,_,rfl,rfl,aE.of e2,h12,_,_,rfl,rfl,(by show (12:Int)≠0;decide),_,_,rfl,rfl,?_⟩
 have z0:=DP x12 (show (0:Int)<12 by decide)
 have z1:=Df x12 (show (0:Int)<12 by decide)
 refine ⟨_,rfl,l,_,_,_,rfl,rfl,aE.of e2,h13,_,rfl,_,_,rfl,rfl,by omega,?_⟩
 refine ⟨_,rfl,l,_,_,_,rfl,rfl,aE.of e2,h12,_,_,rfl,rfl,⟨by decide,DZ (by decide)⟩,_,_,rfl,rfl,(by show (3:Int)≠0;decide),rfl,_,rfl,j9 (fun _=>?_) (fun _=>?_)⟩
 ·refine ⟨12,rfl,by decide,by decide,?_⟩
  refine vh (n:=12) (fun i y=>y= .str (gB body none (some (12-(5*(0+(i:Int))).fmod 12)))) oN.no (by omega) (fun i hi H3 g3 Q' hQ=>?_) (fun p ys H' np hl ht g' e'=>?_)
  ·exact ⟨_,rfl,_,rfl,_,_,rfl,rfl,IntMulOk.of_left (by decide),_,_,rfl,rfl,(by show (12:Int)≠0;decide),_,_,rfl,rfl,_,rfl,body,rfl,bz,hQ _ _ rfl (.refl _)⟩
  ·have ey:=tO (g:=fun i=>gB body none (some (12-(5*(0+(i:Int))).fmod 12))) hl fun i y hy=>ht i y hy
   rw[ey] at e';refine q p _ H' ((g1.trans g2).trans g') e' ⟨by simp,nh fun i j hi hj he=>?_,fun z hz=>?_⟩
   rotate_left
   ·obtain ⟨i,_,rfl⟩:=DI.mp hz;have h1:=DP (5*(0+(i:Int))) (show (0:Int)<12 by decide)
    have h2:=Df (5*(0+(i:Int))) (show (0:Int)<12 by decide)
    have ci:=lQ (z:=body) (n:=12-(5*(0+(i:Int))).fmod 12) (by omega) (by omega)
    exact (bL.cut _ _).nm (by omega) (by omega)
   have f0:=fun i:Nat=>And.intro (DP (5*(0+(i:Int))) (show (0:Int)<12 by decide)) (Df (5*(0+(i:Int))) (show (0:Int)<12 by decide))
   have ci:=lQ (z:=body) (n:=12-(5*(0+(i:Int))).fmod 12) (by have:=f0 i;omega) (by have:=f0 i;omega)
   have cj:=lQ (z:=body) (n:=12-(5*(0+(j:Int))).fmod 12) (by have:=f0 j;omega) (by have:=f0 j;omega)
   rw[he] at ci;have:=tN ⟨i,hi⟩ ⟨j,hj⟩ (ci.symm.trans cj);exact congrArg (·.val) this
 dsimp only[aR,aS];refine cut (fun σ H'=>σ= [some (.int c),some (.str ni),GT l,some (.str body),some (.int (1+x12.fmod 12)),some (.int (x13.fmod (1+x12.fmod 12))),none,none,none]/\H2=H') (fun N hN=>?_) ?_
 ·refine ⟨_,rfl,l,_,_,_,rfl,rfl,aE.of e2,h12,_,_,rfl,rfl,⟨by decide,DZ (by decide)⟩,_,_,rfl,rfl,(by show (3:Int)≠0;decide),rfl,_,rfl,j9 (fun _=>?_) (fun _=>hN _ _ ⟨rfl,rfl⟩)⟩
  refine ⟨by show 12<=sizeLine;decide,fun lw nw=>?_⟩
  obtain ⟨j,ej,jl⟩:=tX (a:=x13.fdiv 12) (n:=12) (by decide)
  have gw:=aq nw (.lst (dA.map V.str));have ew:aO H2 lw (.lst (dA.map V.str)) lw=some (.lst (dA.map V.str)):=af;have ecd:dN (dA.map V.str) (some (j:Int)) none=(dA.drop j).map V.str:=by rw[iH,<-List.map_drop]
  have ect:dN (dA.map V.str) none (some (j:Int))=(dA.take j).map V.str:=by rw[L2.tE (by rw[D4,gv.len];omega),<-List.map_take]
  have lj:(dA.drop j).length<=12/\(dA.take j).length<=12:=⟨by rw[Ds,gv.len];omega,by rw[DX,gv.len];omega⟩
  refine ⟨_,rfl,_,rfl,l,_,_,_,rfl,rfl,aE.of (gw _ _ e2),h13,_,_,rfl,rfl,⟨by decide,DZ (by decide)⟩,_,_,rfl,rfl,(by show (12:Int)≠0;decide),?_⟩
  dsimp only;rw[ej];refine ⟨_,rfl,lw,_,rfl,aE.of ew,fun s1 ns1=>?_⟩
  rw[ecd];have g3:=aq ns1 (.lst ((dA.drop j).map V.str));refine ⟨_,rfl,_,rfl,l,_,_,_,rfl,rfl,aE.of (g3 _ _ (gw _ _ e2)),h13,_,_,rfl,rfl,⟨by decide,DZ (by decide)⟩,_,_,rfl,rfl,(by show (12:Int)≠0;decide),?_⟩
  dsimp only;rw[ej];refine ⟨_,rfl,lw,_,rfl,aE.of (g3 _ _ ew),fun s2 ns2=>?_⟩
  rw[ect];have g4:=aq ns2 (.lst ((dA.take j).map V.str));refine ⟨s1,s2,_,_,rfl,rfl,g4 _ _ af,af,(by rw[D4,D4];omega),fun s3 ns3=>?_⟩
  refine q s3 _ _ ((((g1.trans g2).trans gw).trans g3).trans (g4.trans (aq ns3 _))) ?_ (gv.turn j);rw[af,DQ]
 rintro σ _ ⟨rfl,rfl⟩;refine ⟨by show 0<=sizeLine;decide,fun ls ns=>?_⟩
 have g3:=g2.trans (aq ns (.lst []));try dsimp only[aR,aS]
 obtain ⟨nmA,enA⟩:∃g:Nat->Str,g=fun k:Nat=>gB body none (some (x13.fmod (1+x12.fmod 12)))++(⟨#[97+((x13.fdiv 12+5*(0+(k:Int))).fmod 26).toNat]⟩:Str)++gB body (some (x13.fmod (1+x12.fmod 12)+1)) (some (1+x12.fmod 12)):=⟨_,rfl⟩
 have c1:=DU (fK body none (some (x13.fmod (1+x12.fmod 12)))) (Nat.le_of_eq bl);have c2:=DU (fK body (some (x13.fmod (1+x12.fmod 12)+1)) (some (1+x12.fmod 12))) (Nat.le_of_eq bl);have one:∀c:Nat,(⟨#[c]⟩:Str).length=1:=fun _=>rfl
 refine cut (fun σ H'=>aH H1 H'/\H' ls=some (.lst (((EA 12).map nmA).map V.str))/\∃o7 o8:Option V,σ= [some (.int c),some (.str ni),GT l,some (.str body),some (.int (1+x12.fmod 12)),some (.int (x13.fmod (1+x12.fmod 12))),GT ls,o7,o8]) (fun N hN=>?_) ?_
 ·refine ⟨12,rfl,by decide,by decide,iw (n:=12) (fun i σ H'=>aH H1 H'/\H' ls=some (.lst (((EA i).map nmA).map V.str))/\∃o7 o8:Option V,σ= [some (.int c),some (.str ni),GT l,some (.str body),some (.int (1+x12.fmod 12)),some (.int (x13.fmod (1+x12.fmod 12))),GT ls,o7,o8]) ⟨g3,af,none,none,rfl⟩ (fun i σ H4 hi hP=>?_) (fun σ H4 hP=>hN _ _ hP)⟩
  obtain ⟨g4,els,o7,o8,rfl⟩:=hP;have ha:=qo (DP (x13.fdiv 12+5*(0+(i:Int))) (show (0:Int)<26 by decide)) (Df (x13.fdiv 12+5*(0+(i:Int))) (show (0:Int)<26 by decide))
  refine ⟨_,rfl,_,rfl,l,_,_,_,rfl,rfl,aE.of (g4 _ _ e1),h13,_,_,rfl,rfl,⟨by decide,DZ (by decide)⟩,_,rfl,_,_,rfl,rfl,IntMulOk.of_left (by decide),_,_,rfl,rfl,_,_,rfl,rfl,(by show (26:Int)≠0;decide),ni,_,_,rfl,rfl,by decide,ha,?_⟩
  refine ⟨_,rfl,.inl ⟨rfl,_,aE.of els⟩,_,rfl,_,rfl,_,rfl,body,rfl,bz,_,rfl,_,_,rfl,rfl,(by rw[one];omega),_,rfl,_,rfl,_,_,rfl,rfl,_,rfl,_,rfl,_,rfl,body,rfl,bz,_,_,rfl,rfl,(by rw[Str.length_append,one];omega),ls,_,_,rfl,rfl,els,(by simp;omega),?_⟩
  refine ⟨fJ g4 (g2.free ns) _,?_,_,_,rfl⟩;rw[af,List.range_succ,DQ,DQ,enA]
  rfl
 rintro σ H4 ⟨g4,els,o7,o8,rfl⟩;refine ⟨_,rfl,q ls _ H4 (g1.trans g4) els ⟨by simp,nh fun i j hi hj he=>?_,fun z hz=>?_⟩⟩
 rotate_left
 ·obtain ⟨i,_,rfl⟩:=DI.mp hz;rw[enA];have a0:=DP x13 (show (0:Int)<1+x12.fmod 12 by omega)
  have a1:=Df x13 (show (0:Int)<1+x12.fmod 12 by omega)
  have n1:=DP (x13.fdiv 12+5*(0+(i:Int))) (show (0:Int)<26 by decide)
  have n2:=Df (x13.fdiv 12+5*(0+(i:Int))) (show (0:Int)<26 by decide)
  refine (((bL.cut _ _).app (Lt.one (by omega))).app (bL.cut _ _)).nm ?_ ?_
  ·rw[Str.length_append,Str.length_append,one];omega
  ·rw[Str.length_append,Str.length_append,one,vA a0,tW (by omega) (by omega),bl];omega
 rw[enA] at he;have he':=congrArg sL he;rw[bQ,bQ,bQ,bQ,oV,oV,bx,bx,Da,Da] at he';have h1:=List.append_cancel_left he';have h2:97+((x13.fdiv 12+5*(0+(i:Int))).fmod 26).toNat=97+((x13.fdiv 12+5*(0+(j:Int))).fmod 26).toNat:=by
  injection h1
 have n1:=DP (x13.fdiv 12+5*(0+(i:Int))) (show (0:Int)<26 by decide)
 have n2:=DP (x13.fdiv 12+5*(0+(j:Int))) (show (0:Int)<26 by decide)
 have h3:(x13.fdiv 12+5*(0+(i:Int))).fmod 26=(x13.fdiv 12+5*(0+(j:Int))).fmod 26:=by omega
 rw[Int.fmod_eq_emod_of_nonneg _ (by decide),Int.fmod_eq_emod_of_nonneg _ (by decide)] at h3
 generalize x13.fdiv 12=X at h3;omega
theorem A9 {dV:Value} (F:bv K "_law_amount" "_law_amount" yW dV f fd) (DZ43:Dx P w K mg base bi 1 "_law_common" ["_law_one","_law_other"] [] tH):bh P w K mg base bi 2 f fd ["_law_a","_law_b"] pp:=by
 have sc:aC ["_law_a","_law_b","_law_whole_here","_law_bottom","_law_top","_law_share"] ["_law_a","_law_b"] (aw yW):=df (by decide+kernel)
 refine F.ok sc (fun vs H Q E h=>?_) (fun cdv A outer s H vs Q E hr h=>?_)
 ·obtain ⟨_,_,rfl,_⟩:=h
  rfl
 obtain ⟨a,b,rfl,a0,a1,b0,q⟩:=h;refine ⟨_,(ac (bK 2 sc (ar bY ad (ar aN (ar bR (pv 0) ad) (aj ai (@aZ _ _ _ _ (@aa _ _ _ _ _ ad (@aa _ _ _ _ _ ad (@aa _ _ _ _ _ ad (@aa _ _ _ _ _ ad (@aa _ _ _ _ _ ad ae rfl) rfl) rfl) rfl) rfl)) (ar aN (pv 1) ad) (fun _ _=>rfl))))) (ac (aJ (av bC (ar aN (pv 1) ad) ad (aA _)) (ah (bK 2 sc (ar bY (ar uY ad ad) (pv 0)))) az) (ac (bK 3 sc (ar bY ad (ar aN (pv 1) (aj ai (@aZ _ _ _ _ (@aa _ _ _ _ _ ad (@aa _ _ _ _ _ ad (@aa _ _ _ _ _ ad ae rfl) rfl) rfl)) (ar aN (ar bR (pv 1) ad) ad) (fun _ _=>rfl))))) (ac (bK 4 sc (ar bY ad (ar aN (ar bR (pv 1) ad) (ar ix (pv 3) ad)))) (ac (bK 5 sc (b5 DZ43 hr (@aa _ _ _ _ _ (pv 3) (@aa _ _ _ _ _ (pv 4) ae rfl) rfl))) (ac (bK 4 sc (ar bR (pv 4) (pv 5))) (ac (bK 3 sc (ar bR (pv 3) (pv 5))) (ac (aJ (av bC (ar aN (pv 0) ad) ad (aA _)) (ah (ay (@cH _ _ _ _ _ (@aa _ _ _ _ _ (@cH _ _ _ _ _ (@aa _ _ _ _ _ (pv 2) (@aa _ _ _ _ _ ad ae rfl) rfl)) (@aa _ _ _ _ _ (aK aG rfl B.Es boot_str (@aa _ _ _ _ _ (pv 2) ae rfl)) ae rfl) rfl)))) az) (ac (aJ (av bC (ar aN (pv 0) ad) ad (aA _)) (ah (ay (@cH _ _ _ _ _ (@aa _ _ _ _ _ (@cH _ _ _ _ _ (@aa _ _ _ _ _ (pv 4) (@aa _ _ _ _ _ (pv 3) ae rfl) rfl)) (@aa _ _ _ _ _ (ar ao (ar ao (aK aG rfl B.Es boot_str (@aa _ _ _ _ _ (pv 4) ae rfl)) ax) (aK aG rfl B.Es boot_str (@aa _ _ _ _ _ (pv 3) ae rfl))) ae rfl) rfl)))) az) (ah (ay (@cH _ _ _ _ _ (@aa _ _ _ _ _ (@cH _ _ _ _ _ (@aa _ _ _ _ _ (ar bY (ar dn (pv 2) (pv 3)) (pv 4)) (@aa _ _ _ _ _ (pv 3) ae rfl) rfl)) (@aa _ _ _ _ _ (ar ao (ar ao (ar ao (ar ao (aK aG rfl B.Es boot_str (@aa _ _ _ _ _ (pv 2) ae rfl)) ax) (aK aG rfl B.Es boot_str (@aa _ _ _ _ _ (pv 4) ae rfl))) ax) (aK aG rfl B.Es boot_str (@aa _ _ _ _ _ (pv 3) ae rfl))) ae rfl) rfl))))))))))))),?_⟩
 try dsimp only[cxK]
 have sl:sizeLine=16777216:=sizeLine_eq;have m5:=fm (a:=b) (n:=5) (by decide)
 refine cut (fun σ H'=>∃w:Nat,σ= [some (.int a),some (.int b),some (vN w),none,none,none]/\aH H H'/\1<=w/\w<=5000) (fun N hN=>?_) ?_
 ·refine ⟨_,rfl,_,_,rfl,rfl,⟨by decide,DZ (by decide)⟩,by show 5<=sizeLine;decide,fun l5 n5=>⟨_,rfl,_,_,rfl,rfl,(by show (5:Int)≠0;decide),?_⟩⟩
  obtain ⟨v,hv,v0⟩:∃v:Int,ir [V.int 9,.int 9,.int 9,.int 9,.int 5000] (b.fmod 5)=some (.int v)/\(v=9∨v=5000):=by
   obtain ⟨j,ej,jl⟩:=tX (a:=b) (n:=5) (by decide)
   rw[ej];have jl:j<5:=by omega
   match j,jl with
   |0,_=>exact ⟨9,rfl,.inl rfl⟩
   |1,_=>exact ⟨9,rfl,.inl rfl⟩
   |2,_=>exact ⟨9,rfl,.inl rfl⟩
   |3,_=>exact ⟨9,rfl,.inl rfl⟩
   |4,_=>exact ⟨5000,rfl,.inr rfl⟩
  have m:=fm (a:=a.fdiv 3) (n:=v) (by omega)
  refine ⟨l5,_,_,_,rfl,rfl,aE.of af,hv,_,_,rfl,rfl,by omega,_,_,rfl,rfl,hN _ _ ⟨(1+(a.fdiv 3).fmod v).toNat,?_,aq n5 _,by omega,by omega⟩⟩
  show [some (.int a),some (.int b),some (V.int (1+(a.fdiv 3).fmod v)),none,none,none]=_;rw[show vN (1+(a.fdiv 3).fmod v).toNat=V.int (1+(a.fdiv 3).fmod v) from congrArg V.int (by omega)]
 rintro σ H1 ⟨w0,rfl,g1,w1,w5⟩;refine cut (fun σ H'=>∃w:Nat,σ= [some (.int a),some (.int b),some (vN w),none,none,none]/\H1=H'/\1<=w/\w<10^30) (fun N hN=>?_) ?_
 ·refine ⟨_,rfl,_,_,rfl,rfl,(by show (5:Int)≠0;decide),rfl,_,rfl,j9 (fun _=>?_) fun _=>hN _ _ ⟨w0,rfl,rfl,w1,Dt w5 (by decide+kernel)⟩⟩
  have e29:(10:Int)^(29:Int).toNat=100000000000000000000000000000:=by decide
  have e30:(10:Nat)^30=1000000000000000000000000000000:=by decide+kernel
  refine ⟨_,_,rfl,rfl,⟨by decide,by decide⟩,_,rfl,_,_,rfl,rfl,hN _ _ ⟨(100000000000000000000000000000+a).toNat,?_,rfl,by omega,by omega⟩⟩
  show [some (.int a),some (.int b),some (V.int ((10:Int)^(29:Int).toNat+a)),none,none,none]=_;rw[e29,show vN (100000000000000000000000000000+a).toNat=V.int (100000000000000000000000000000+a) from congrArg V.int (by omega)]
 rintro σ H2 ⟨w,rfl,rfl,wl1,wl⟩;clear w1 w5;refine cut (fun σ H'=>∃y:Nat,σ= [some (.int a),some (.int b),some (vN w),some (vN y),none,none]/\aH H H'/\2<=y/\y<1000) (fun N hN=>?_) ?_
 ·refine ⟨_,rfl,by show 3<=sizeLine;decide,fun l3 n3=>⟨_,rfl,_,_,rfl,rfl,⟨by decide,DZ (by decide)⟩,_,_,rfl,rfl,(by show (3:Int)≠0;decide),?_⟩⟩
  obtain ⟨v,hv,v0⟩:∃v:Int,ir [V.int 11,.int 11,.int 997] ((b.fdiv 5).fmod 3)=some (.int v)/\(v=11∨v=997):=by
   obtain ⟨j,ej,jl⟩:=tX (a:=b.fdiv 5) (n:=3) (by decide)
   rw[ej];have jl:j<3:=by omega
   match j,jl with
   |0,_=>exact ⟨11,rfl,.inl rfl⟩
   |1,_=>exact ⟨11,rfl,.inl rfl⟩
   |2,_=>exact ⟨997,rfl,.inr rfl⟩
  have m:=fm (a:=b) (n:=v) (by omega)
  refine ⟨l3,_,_,_,rfl,rfl,aE.of af,hv,_,_,rfl,rfl,by omega,_,_,rfl,rfl,hN _ _ ⟨(2+b.fmod v).toNat,?_,g1.trans (aq n3 _),by omega,by omega⟩⟩
  show [some (.int a),some (.int b),some (vN w),some (V.int (2+b.fmod v)),none,none]=_;rw[show vN (2+b.fmod v).toNat=V.int (2+b.fmod v) from congrArg V.int (by omega)]
 rintro σ H2 ⟨y,rfl,g2,y2,yl⟩;clear g1;have m:=fm (a:=b.fdiv 11) (n:=(y:Int)-1) (by omega)
 refine ⟨_,rfl,_,_,rfl,rfl,⟨by decide,DZ (by decide)⟩,_,rfl,_,_,rfl,rfl,_,_,rfl,rfl,by omega,_,_,rfl,rfl,?_⟩
 dsimp only[aR,aS];obtain ⟨x,ex⟩:∃x:Nat,1+(b.fdiv 11).fmod ((y:Int)-1)=(x:Int):=⟨(1+(b.fdiv 11).fmod ((y:Int)-1)).toNat,by omega⟩
 rw[ex];obtain ⟨t,b',c,hc,c0,e1,e2,t0,lt,gc,b9,c9⟩:=vK (x:=x) (y:=y) (by omega) (by omega) yl
 have c9':(c:Int)≠0:=by omega
 refine ⟨_,rfl,_,rfl,_,_,rfl,by omega,by omega,?_⟩
 rw[hc];refine ⟨_,rfl,_,rfl,_,_,rfl,rfl,⟨c9',DZ (by omega)⟩,?_⟩
 refine ⟨_,rfl,_,rfl,_,_,rfl,rfl,⟨c9',DZ (by omega)⟩,?_⟩
 dsimp only[aR,aS];rw[e1,e2];have lgw:(w:Int).natAbs.log2<1920:=lg (DO wl (by decide+kernel))
 have lgt:(t:Int).natAbs.log2<1920:=lg (DO (DO lt b9) (by decide+kernel))
 have lgb:(b':Int).natAbs.log2<1920:=lg (DO b9 (by decide+kernel))
 have lw:=cV (n:=w) (k:=29) wl;have l1:=cV (n:=t) (k:=2) (by omega)
 have l2:=cV (n:=b') (k:=2) (by omega)
 have nl:∀n:Nat,(bw n).length=(dg n).length:=fun n=>b8 _
 have ls:(Str.ofString "/").length=1:=by decide
 have lp:(Str.ofString "+").length=1:=by decide
 refine ⟨_,rfl,_,_,rfl,rfl,(by show (3:Int)≠0;decide),rfl,_,rfl,j9 (fun _=>?_) fun _=>⟨_,rfl,_,_,rfl,rfl,(by show (3:Int)≠0;decide),rfl,_,rfl,j9 (fun _=>?_) fun _=>?_⟩⟩
 ·refine ⟨_,rfl,by show 2<=sizeLine;decide,fun ta na=>⟨_,rfl,_,rfl,lgw,?_⟩⟩
  rw[ca];obtain ⟨ag,et⟩:=Ak (w:=w) (by omega) wl
  refine ⟨by show 2<=sizeLine;decide,fun tt nt=>q (w,1) tt ta _ ((g2.trans (aq na _)).trans (aq nt _)) (by rw[af,et]) (aq nt _ _ _ af) ag⟩
 ·refine ⟨_,rfl,_,rfl,by show 2<=sizeLine;decide,fun ta na=>⟨_,rfl,_,rfl,lgt,?_⟩⟩
  rw[ca];refine ⟨_,_,rfl,rfl,(by rw[nl];omega),_,rfl,_,rfl,lgb,?_⟩
  rw[ca];obtain ⟨ag,et⟩:=xO t0 lt gc b9;exact ⟨_,_,rfl,rfl,(by rw[Str.length_append,nl,nl];omega),by show 2<=sizeLine;decide,fun tt nt=>q (t,b') tt ta _ ((g2.trans (aq na _)).trans (aq nt _)) (by rw[af,et]) (aq nt _ _ _ af) ag⟩
 ·have e3:(w:Int)*(b':Int)+(t:Int)=((w*b'+t:Nat):Int):=by simp
  refine ⟨_,rfl,_,rfl,_,_,rfl,rfl,?_,_,rfl,_,_,rfl,rfl,_,rfl,by show 2<=sizeLine;decide,fun ta na=>⟨_,rfl,_,rfl,lgw,?_⟩⟩
  ·exact (wu (k:=140) (DO wl (by decide+kernel))).ok (wu (k:=140) (DO b9 (by decide+kernel)))
  dsimp only at na⊢;rw[ca];refine ⟨_,_,rfl,rfl,(by rw[nl];omega),_,rfl,_,rfl,lgt,?_⟩
  rw[ca];refine ⟨_,_,rfl,rfl,(by rw[Str.length_append,nl,nl];omega),_,_,rfl,rfl,(by rw[Str.length_append,Str.length_append,nl,nl];omega),_,rfl,_,rfl,lgb,?_⟩
  rw[ca];obtain ⟨ag,et⟩:=vJ (w:=w) (by omega) wl t0 lt gc b9
  refine ⟨_,_,rfl,rfl,(by rw[Str.length_append,Str.length_append,Str.length_append,nl,nl,nl];omega),by show 2<=sizeLine;decide,fun tt nt=>q (w*b'+t,b') tt ta _ ((g2.trans (aq na _)).trans (aq nt _)) (by rw[af,et]) (aq nt _ _ _ ?_) ag⟩
  rw[af,e3]
  rfl
theorem Ba {dV:Value} (F:bv K "_law_lengths" "_law_lengths" yX dV f fd):bh P w K mg base bi 1 f fd ["_law_a","_law_b"] pk:=by
 have sc:aC ["_law_a","_law_b","_law_least"] ["_law_a","_law_b"] (aw yX):=df (by decide+kernel)
 refine F.ok sc (fun vs H Q E h=>?_) (fun cdv A outer s H vs Q E hr h=>?_)
 ·obtain ⟨_,_,rfl,_⟩:=h
  rfl
 obtain ⟨a,b,rfl,a0,b0,q⟩:=h;refine ⟨_,(ac (bK 2 sc (ar bY ad (ar aN (pv 0) ad))) (ac (aJ (av bC (ar aN (pv 1) ad) ad (aA _)) (ah (bK 2 sc (ar bY ad (ar aN (pv 0) ad)))) az) (ac (aJ (av bC (ar aN (pv 1) ad) ad (aA _)) (ah (ay (@aZ _ _ _ _ (@aa _ _ _ _ _ (pv 2) (@aa _ _ _ _ _ ad ae rfl) rfl)))) az) (ah (ay (@aZ _ _ _ _ (@aa _ _ _ _ _ (pv 2) (@aa _ _ _ _ _ (ar bY (pv 2) (ar aN (ar bR (pv 1) ad) (ar ix ad (pv 2)))) ae rfl) rfl))))))),?_⟩;try dsimp only[cxK]
 have m9:=fm (a:=a) (n:=9) (by decide)
 have mL:=fm (a:=a) (n:=100000) (by decide)
 refine ⟨_,rfl,_,_,rfl,rfl,(by show (9:Int)≠0;decide),_,_,rfl,rfl,?_⟩
 dsimp only[aR,aS];refine cut (fun σ H'=>∃lo:Nat,σ= [some (.int a),some (.int b),some (vN lo)]/\H=H'/\1<=lo/\lo<=100000) (fun N hN=>?_) ?_
 ·refine ⟨_,rfl,_,_,rfl,rfl,(by show (3:Int)≠0;decide),rfl,_,rfl,j9 (fun _=>?_) fun _=>hN _ _ ⟨(1+a.fmod 9).toNat,?_,rfl,by omega,by omega⟩⟩
  ·refine ⟨_,rfl,_,_,rfl,rfl,(by show (100000:Int)≠0;decide),_,_,rfl,rfl,hN _ _ ⟨(1+a.fmod 100000).toNat,?_,rfl,by omega,by omega⟩⟩
   show [some (V.int a),some (V.int b),some (V.int (1+a.fmod 100000))]=_;rw[show vN (1+a.fmod 100000).toNat=V.int (1+a.fmod 100000) from congrArg V.int (by omega)]
  ·show [some (V.int a),some (V.int b),some (V.int (1+a.fmod 9))]=_;rw[show vN (1+a.fmod 9).toNat=V.int (1+a.fmod 9) from congrArg V.int (by omega)]
 rintro σ H' ⟨lo,rfl,rfl,l1,l5⟩;refine cut (fun σ H'=>σ= [some (.int a),some (.int b),some (vN lo)]/\H=H') (fun N hN=>?_) ?_
 ·refine ⟨_,rfl,_,_,rfl,rfl,(by show (5:Int)≠0;decide),rfl,_,rfl,j9 (fun _=>?_) fun _=>hN _ _ ⟨rfl,rfl⟩⟩
  exact ⟨_,rfl,by show 2<=sizeLine;decide,fun l nl=>q lo 100000 l _ (aq nl _) nl af ⟨l1,l5,D9 _⟩⟩
 rintro σ H' ⟨rfl,rfl⟩;have m:=fm (a:=b.fdiv 3) (n:=100001-(lo:Int)) (by omega)
 refine ⟨_,rfl,_,rfl,_,rfl,_,_,rfl,rfl,⟨by decide,DZ (by decide)⟩,_,rfl,_,_,rfl,rfl,_,_,rfl,rfl,by omega,_,_,rfl,rfl,by show 2<=sizeLine;decide,fun l nl=>?_⟩
 have e:(lo:Int)+(b.fdiv 3).fmod (100001-(lo:Int))=((lo+((b.fdiv 3).fmod (100001-(lo:Int))).toNat:Nat):Int):=by omega
 dsimp only;rw[e];exact q lo _ l _ (aq nl _) nl af ⟨l1,by omega,by omega⟩
theorem Bb {dV:Value} (F:bv K "_law_take" "_law_take" yY dV f fd) (DZ46:Dx P w K mg base bi 2 "_law_amount" ["_law_a","_law_b"] [] pp):bh P w K mg base bi 3 f fd ["_law_model","_law_names_here","_law_xs"] qw:=by
 have sc:aC ["_law_model","_law_names_here","_law_xs","_law_good","_law_amount_here","_law_text"] ["_law_model","_law_names_here","_law_xs"] (aw yY):=df (by decide+kernel)
 refine F.ok sc (fun vs H Q E h=>?_) (fun cdv A outer s H vs Q E hr h=>?_)
 ·obtain ⟨_,_,_,_,_,_,_,_,_,_,_,rfl,_⟩:=h
  rfl
 obtain ⟨G,m,lt,ls,lk,ln,lx,ks,M,zs,room,rfl,ml,ok,en,zz,hx,q⟩:=h;refine ⟨_,(ac (aJ (av bC (aI a7 rfl B.Ft boot_len (@aa _ _ _ _ _ (aj ai (pv 0) ad (fun _ _=>rfl)) ae rfl)) ad (aA _)) (ah (ay ax)) az) (ac (bK 3 sc (aj ai (pv 1) (ar aN (ar bY (ar dn ad (aI a7 rfl B.Ft boot_len (@aa _ _ _ _ _ (aj ai (pv 0) ad (fun _ _=>rfl)) ae rfl))) ad) ad) (fun _ _=>rfl))) (ac (i9 (b5 DZ46 hr (@aa _ _ _ _ _ (aj ai (pv 2) ad (fun _ _=>rfl)) (@aa _ _ _ _ _ (aj ai (pv 2) ad (fun _ _=>rfl)) ae rfl) rfl)) (fG rfl (aW (eY 4 sc) (aW (eY 5 sc) dC)))) (ac (aV (bO DE DG DF a8 (aj ai (pv 0) ad (fun _ _=>rfl)) (@aa _ _ _ _ _ (@cH _ _ _ _ _ (@aa _ _ _ _ _ (pv 3) (@aa _ _ _ _ _ (pv 4) ae rfl) rfl)) ae rfl))) (ah (ay (ar ao (ar ao (ar ao ax (pv 3)) ax) (pv 5)))))))),?_⟩
 try dsimp only[cxK]
 have sl:sizeLine=16777216:=sizeLine_eq;obtain ⟨vt,et,rt⟩:=id ml.et;have lvt:=rt.1;obtain ⟨xs,ex,hxs⟩:=hx.at_;obtain ⟨x1,hx1,x10,x11⟩:=hxs 1 (by decide)
 obtain ⟨x2,hx2,x20,x21⟩:=hxs 2 (by decide)
 refine cut (fun σ H'=>σ= [GT m,GT ln,GT lx,none,none,none]/\H=H'/\M.takes.length<12) (fun N hN=>?_) ?_
 ·refine ⟨_,rfl,m,_,_,_,rfl,rfl,aE.of ml.em,rfl,lt,_,rfl,.inl (aE.of et),rfl,_,rfl,j9 (fun _=>q "" ks M H ml ok (.inl ⟨rfl,rfl⟩)) fun c=>hN _ _ ⟨rfl,rfl,?_⟩⟩
  have:=ok.t12;omega
 rintro σ H' ⟨rfl,rfl,t12⟩;have ei:=xP (5*(vt.length:Int)+1) (5*M.takes.length+1) (by omega)
 obtain ⟨g,hg,ng⟩:=zz.at_ (i:=(5*M.takes.length+1) % 12) (by omega)
 have gl:=ng.len;refine ⟨_,rfl,_,rfl,m,_,_,_,rfl,rfl,aE.of ml.em,rfl,lt,_,rfl,.inl (aE.of et),_,_,rfl,rfl,IntMulOk.of_left (by decide),_,_,rfl,rfl,_,_,rfl,rfl,(by show (12:Int)≠0;decide),ln,_,_,_,rfl,rfl,aE.of en,(by rw[ei];exact qy hg),?_⟩
 dsimp only[aR,aS];refine ⟨_,rfl,lx,_,_,_,rfl,rfl,aE.of ex,hx1,_,rfl,lx,_,_,_,rfl,rfl,aE.of ex,hx2,_,_,rfl,x10,x11,x20,fun am t ta H1 g1 e1 e2 ag=>?_⟩
 refine ⟨_,_,rfl,bX.of e1,rfl,_,_,rfl,_,_,rfl,rfl,?_⟩;have al:=dW ag;have ml1:=ml.same g1;dsimp only[aR,aS];refine ⟨_,rfl,m,_,_,_,rfl,rfl,aE.of ml1.em,rfl,.inl ⟨rfl,_,aE.of (g1 _ _ et)⟩,_,rfl,_,rfl,by show 2<=sizeLine;decide,fun tp ntp=>?_⟩
 have g2:=aq ntp (.tup [.str g,.ref ta]);have ml2:=ml1.same g2;have e12:=g2 _ _ (g1 _ _ et);refine ⟨lt,_,_,rfl,rfl,e12,by omega,?_⟩
 have ml3:=ml2.take (v:= .ref tp) (x:=(g,am)) e12 ⟨tp,ta,rfl,trivial,trivial,af,g2 _ _ e2⟩;have l5:(Str.ofString "take ").length=5:=by decide
 have l1:(Str.ofString " ").length=1:=by decide
 refine ⟨_,rfl,_,_,rfl,rfl,by omega,_,_,rfl,rfl,(by rw[Str.length_append];omega),_,rfl,_,_,rfl,rfl,(by rw[Str.length_append,Str.length_append];omega),?_⟩
 rw[nG];exact q _ _ _ _ ml3 (ok.take hg t12 ag) (.inr ⟨.take g am,rfl,⟨ng,ag⟩,C4 ok zz hg t12⟩)
theorem Bc {dV:Value} (F:bv K "_law_step" "_law_step" yZ dV f fd) (DZ46:Dx P w K mg base bi 2 "_law_amount" ["_law_a","_law_b"] [] pp) (DZ47:Dx P w K mg base bi 1 "_law_lengths" ["_law_a","_law_b"] [] pk):bh P w K mg base bi 3 f fd ["_law_model","_law_names_here","_law_xs","_law_room"] lX:=by
 have sc:aC ["_law_model","_law_names_here","_law_xs","_law_room","_law_word","_law_name","_law_lengths_here","_law_row_here","_law_fill","_law_text"] ["_law_model","_law_names_here","_law_xs","_law_room"] (aw yZ):=df (by decide+kernel)
 refine F.ok sc (fun vs H Q E h=>?_) (fun cdv A outer s H vs Q E hr h=>?_)
 ·obtain ⟨_,_,_,_,_,_,_,_,_,_,_,rfl,_⟩:=h
  rfl
 obtain ⟨G,m,lt,ls,lk,ln,lx,ks,M,zs,room,rfl,r12,ml,ok,en,zz,hx,q⟩:=h;refine ⟨_,(ac (aJ (av bC (aI a7 rfl B.Ft boot_len (@aa _ _ _ _ _ (aj ai (pv 0) ad (fun _ _=>rfl)) ae rfl)) (pv 3) (aA _)) (ah (ay ax)) az) (ac (bK 4 sc (aj ai (@aZ _ _ _ _ (@aa _ _ _ _ _ ax (@aa _ _ _ _ _ ax (@aa _ _ _ _ _ ax ae rfl) rfl) rfl)) (ar aN (aj ai (pv 2) ad (fun _ _=>rfl)) ad) (fun _ _=>rfl))) (ac (bK 5 sc (aj ai (pv 1) (ar aN (ar dn ad (aI a7 rfl B.Ft boot_len (@aa _ _ _ _ _ (aj ai (pv 0) ad (fun _ _=>rfl)) ae rfl))) ad) (fun _ _=>rfl))) (ac (bK 6 sc (b5 DZ47 hr (@aa _ _ _ _ _ (aj ai (pv 2) ad (fun _ _=>rfl)) (@aa _ _ _ _ _ (aj ai (pv 2) ad (fun _ _=>rfl)) ae rfl) rfl))) (ac (bK 7 sc (ar ao (ar ao (ar ao (ar ao (ar ao (ar ao (pv 4) ax) (pv 5)) ax) (aK aG rfl B.Es boot_str (@aa _ _ _ _ _ (aj ai (pv 6) ad (fun _ _=>rfl)) ae rfl))) ax) (aK aG rfl B.Es boot_str (@aa _ _ _ _ _ (aj ai (pv 6) ad (fun _ _=>rfl)) ae rfl)))) (ac (bK 8 sc bo) (ac (aJ (av bC (pv 4) ax (aA _)) (ac (i9 (b5 DZ46 hr (@aa _ _ _ _ _ (aj ai (pv 2) ad (fun _ _=>rfl)) (@aa _ _ _ _ _ (aj ai (pv 2) ad (fun _ _=>rfl)) ae rfl) rfl)) (fG rfl (aW (eY 8 sc) (aW (eY 9 sc) dC)))) (ah (bK 7 sc (ar ao (ar ao (pv 7) ax) (pv 9))))) az) (ac (aV (bO DE DG DF a8 (aj ai (pv 0) ad (fun _ _=>rfl)) (@aa _ _ _ _ _ (@aZ _ _ _ _ (@aa _ _ _ _ _ (pv 4) (@aa _ _ _ _ _ (pv 5) (@aa _ _ _ _ _ (pv 6) (@aa _ _ _ _ _ (pv 8) (@aa _ _ _ _ _ (@aZ _ _ _ _ ae) (@aa _ _ _ _ _ bo ae rfl) rfl) rfl) rfl) rfl) rfl)) ae rfl))) (ah (ay (pv 7))))))))))),?_⟩
 try dsimp only[cxK]
 have sl:sizeLine=16777216:=sizeLine_eq;obtain ⟨xs,ex,hxs⟩:=hx.at_;obtain ⟨x1,hx1,x10,x11⟩:=hxs 1 (by decide)
 obtain ⟨x2,hx2,x20,x21⟩:=hxs 2 (by decide)
 obtain ⟨x3,hx3,x30,x31⟩:=hxs 3 (by decide)
 obtain ⟨x4,hx4,x40,x41⟩:=hxs 4 (by decide)
 obtain ⟨x5,hx5,x50,x51⟩:=hxs 5 (by decide)
 have es:=ml.es;have lks:=ml.len;have lkm:(ks.map fun x=>V.ref x.a).length=M.steps.length:=by rw[D4];exact lks
 refine cut (fun σ H'=>σ= [GT m,GT ln,GT lx,some (vN room),none,none,none,none,none,none]/\H=H'/\M.steps.length<room) (fun N hN=>?_) ?_
 ·refine ⟨_,rfl,m,_,_,_,rfl,rfl,aE.of ml.em,rfl,ls,_,rfl,.inl (aE.of es),_,rfl,rfl,_,rfl,j9 (fun _=>q "" ks M H ml ok (.inl ⟨rfl,rfl⟩)) fun c=>hN _ _ ⟨rfl,rfl,?_⟩⟩
  have:=ok.sr;omega
 rintro σ H' ⟨rfl,rfl,sr⟩;obtain ⟨w,hw,wd⟩:∃w:Str,ir [V.str "cut",.str "rest",.str "warm"] (x1.fmod 3)=some (.str w)/\(w= "cut" ∨w= "rest" ∨w= "warm"):=by
  obtain ⟨j,ej,jl⟩:=tX (a:=x1) (n:=3) (by decide)
  rw[ej];have jl:j<3:=by omega
  match j,jl with
  |0,_=>exact ⟨"cut",rfl,.inl rfl⟩
  |1,_=>exact ⟨"rest",rfl,.inr (.inl rfl)⟩
  |2,_=>exact ⟨"warm",rfl,.inr (.inr rfl)⟩
 have wl:w.length<=12:=uD.len wd;refine ⟨by show 3<=sizeLine;decide,fun l3 n3=>⟨_,rfl,lx,_,_,_,rfl,rfl,aE.of (aq n3 _ _ _ ex),hx1,_,_,rfl,rfl,(by show (3:Int)≠0;decide),l3,_,_,_,rfl,rfl,aE.of af,hw,?_⟩⟩
 have g3:=aq n3 (.lst [.str "cut",.str "rest",.str "warm"]);have ml3:=ml.same g3;have en3:=g3 _ _ en;have ex3:=g3 _ _ ex;generalize aO H l3 (.lst [.str "cut",.str "rest",.str "warm"])=H3 at g3 ml3 en3 ex3⊢;have es3:=ml3.es;have ei:=xP (7*((ks.map fun x=>V.ref x.a).length:Int)) (7*M.steps.length) (by omega)
 obtain ⟨n,hn,nn⟩:=zz.at_ (i:=7*M.steps.length % 12) (by omega)
 have nl:=nn.len;dsimp only[aR,aS];refine ⟨_,rfl,_,rfl,m,_,_,_,rfl,rfl,aE.of ml3.em,rfl,ls,_,rfl,.inl (aE.of es3),_,_,rfl,rfl,IntMulOk.of_left (by decide),_,_,rfl,rfl,(by show (12:Int)≠0;decide),ln,_,_,_,rfl,rfl,aE.of en3,(by rw[ei];exact qy hn),?_⟩
 dsimp only[aR,aS];refine ⟨_,rfl,lx,_,_,_,rfl,rfl,aE.of ex3,hx2,_,rfl,lx,_,_,_,rfl,rfl,aE.of ex3,hx3,_,_,rfl,x20,x30,fun lo hi ll H4 g4 nll ell le=>?_⟩
 obtain ⟨b1,b2,b3⟩:=id le;have l1:(Str.ofString " ").length=1:=by decide
 have ll1:=br (n:=lo) (by omega)
 have ll2:=br (n:=hi) (by omega)
 have ell':H4 ll=some (.lst [vN lo,vN hi]):=ell;dsimp only[aR,aS];refine ⟨_,rfl,_,_,rfl,rfl,by omega,_,rfl,_,_,rfl,rfl,(by rw[Str.length_append];omega),_,_,rfl,rfl,(by simp only[Str.length_append];omega),_,rfl,ll,_,_,_,rfl,rfl,aE.of ell',rfl,_,rfl,cJ (by omega),?_⟩
 rw[ca];refine ⟨_,_,rfl,rfl,(by simp only[Str.length_append];omega),_,_,rfl,rfl,(by simp only[Str.length_append];omega),_,rfl,ll,_,_,_,rfl,rfl,aE.of ell',rfl,_,rfl,cJ (by omega),?_⟩
 rw[ca];refine ⟨_,_,rfl,rfl,(by simp only[Str.length_append];omega),?_⟩
 rw[Al];have jl:(jB [w,n,bw lo,bw hi]).length<=400:=dE (fun z hz=>by
  simp only[D2,D6,or_false] at hz;rcases hz with rfl|rfl|rfl|rfl<;>omega) (by show 4<=6;decide)
 have ml4:=ml3.same g4;dsimp only[aR,aS];refine cut (fun σ H'=>σ= [some (.ref m),some (.ref ln),some (.ref lx),some (vN room),some (.str w),some (.str n),some (.ref ll),some (.str (jB [w,n,bw lo,bw hi])),some .non,none]/\H4=H') (fun N hN=>hN _ _ ⟨rfl,rfl⟩) ?_
 rintro σ _ ⟨rfl,rfl⟩;refine cut (fun σ H'=>∃(fl:Option dh) (f:V) (o:Option V),σ= [GT m,GT ln,GT lx,some (vN room),some (.str w),some (.str n),GT ll,some (.str (eG (.step w n lo hi fl))),some f,o]/\aH H4 H'/\ny w fl/\qu H' f fl) (fun N hN=>?_) ?_
 ·refine ⟨_,rfl,rfl,_,rfl,kv (fun e=>?_) fun e=>hN _ _ ⟨none,.non,none,rfl,.refl _,e,rfl⟩⟩
  refine ⟨_,rfl,lx,_,_,_,rfl,rfl,aE.of (g4 _ _ ex3),hx4,_,rfl,lx,_,_,_,rfl,rfl,aE.of (g4 _ _ ex3),hx5,_,_,rfl,x40,x41,x50,fun am t ta H5 g5 e1 e2 ag=>?_⟩
  have al:=dW ag;refine ⟨_,_,rfl,bX.of e1,rfl,_,_,rfl,_,_,rfl,rfl,?_⟩;dsimp only[aR,aS];refine ⟨_,rfl,_,_,rfl,rfl,(by show (jB [w,n,bw lo,bw hi]).length+1<=_;omega),_,rfl,_,_,rfl,rfl,(by rw[Str.length_append];show (jB [w,n,bw lo,bw hi]).length+1+_<=_;omega),hN _ _ ⟨some am,.ref ta,some (.str (i4 am)),?_,g5,⟨e,ag⟩,ta,rfl,e2⟩⟩
  have cm:=ig (ws:= [w,n,bw lo,bw hi]) (by simp) (i4 am)
  show [some (.ref m),some (.ref ln),some (.ref lx),some (vN room),some (.str w),some (.str n),some (.ref ll),some (.str (jB [w,n,bw lo,bw hi]++Str.ofString " " ++i4 am)),some (.ref ta),some (.str (i4 am))]=_;rw[cm]
  rfl
 rintro σ H5 ⟨fl,f,o,rfl,g5,fo,ff⟩;have ml5:=ml4.same g5;have es5:=ml5.es;refine ⟨_,rfl,m,_,_,_,rfl,rfl,aE.of ml5.em,rfl,.inl ⟨rfl,_,aE.of es5⟩,_,rfl,_,rfl,_,rfl,_,rfl,by show 0<=sizeLine;decide,fun u nu=>⟨by show 6<=sizeLine;decide,fun a na=>?_⟩⟩
 have g6:=aq nu (.lst []);have g7:=aq na (.lst [.str w,.str n,.ref ll,f,.ref u,.non]);have g67:=g6.trans g7;have au:a≠u:=fun z=>by rw[z,af] at na;cases na
 have hs:SL (aO (aO H5 u (.lst [])) a (.lst [.str w,.str n,.ref ll,f,.ref u,.non])) ⟨a,u,none⟩ ⟨w,n,lo,hi,fl,[],none⟩:=by
  refine ⟨ll,f,.non,af,g67 _ _ (g5 _ _ ell),?_,⟨[],g7 _ _ af,A2.nil⟩,rfl⟩;cases fl with
  |none=>exact ff
  |some am=>obtain ⟨ta,e1,e2⟩:=ff;exact ⟨ta,e1,g67 _ _ e2⟩
 have ml8:=ml5.step g67 hs (fun x hx=>by
  simp only[Sk.own,cZ,D2,D6,or_false] at hx;rcases hx with rfl|rfl
  ·exact g6.free na
  ·exact nu) (by simp[Sk.own,cZ,au])
 refine ⟨ls,_,_,rfl,rfl,g67 _ _ es5,by omega,⟨_,rfl,q _ _ _ _ ml8 (ok.step sr ⟨hn,wd,le,fo,⟨by simp,fun i x h=>by simp at h⟩,fun x h=>nomatch h⟩) (.inr ⟨.step w n lo hi fl,rfl,⟨wd,nn,le,fo⟩,C5 ok r12 zz hn sr⟩)⟩⟩
theorem Be {dV:Value} (F:bv K "_law_second" "_law_second" y3 dV f fd) (DZ47:Dx P w K mg base bi 1 "_law_lengths" ["_law_a","_law_b"] [] pk):bh P w K mg base bi 2 f fd ["_law_step_here","_law_xs"] kB:=by
 have sc:aC ["_law_step_here","_law_xs","_law_lengths_here"] ["_law_step_here","_law_xs"] (aw y3):=df (by decide+kernel)
 refine F.ok sc (fun vs H Q E h=>?_) (fun cdv A outer s H vs Q E hr h=>?_)
 ·obtain ⟨_,_,_,rfl,_⟩:=h
  rfl
 obtain ⟨⟨a,u,o⟩,⟨w,n,lo,hi,fl,us,sec⟩,lx,rfl,hs,nd,nl,hx,q0,q1⟩:=h;refine ⟨_,(ac (aJ (av iW (aj ai (pv 0) ad (fun _ _=>rfl)) bo (aA _)) (ah (ay ax)) az) (ac (bK 2 sc (b5 DZ47 hr (@aa _ _ _ _ _ (aj ai (pv 1) ad (fun _ _=>rfl)) (@aa _ _ _ _ _ (aj ai (pv 1) ad (fun _ _=>rfl)) ae rfl) rfl))) (ac (i9 (@aZ _ _ _ _ (@aa _ _ _ _ _ (pv 2) (@aa _ _ _ _ _ (@aZ _ _ _ _ ae) ae rfl) rfl)) (wQ (pv 0) ad set_list)) (ah (ay (ar ao (ar ao (ar ao (ar ao (ar ao ax (aj ai (pv 0) ad (fun _ _=>rfl))) ax) (aK aG rfl B.Es boot_str (@aa _ _ _ _ _ (aj ai (pv 2) ad (fun _ _=>rfl)) ae rfl))) ax) (aK aG rfl B.Es boot_str (@aa _ _ _ _ _ (aj ai (pv 2) ad (fun _ _=>rfl)) ae rfl)))))))),?_⟩
 try dsimp only[cxK]
 have sl:sizeLine=16777216:=sizeLine_eq;obtain ⟨xs,ex,hxs⟩:=hx.at_;obtain ⟨x2,hx2,x20,x21⟩:=hxs 2 (by decide)
 obtain ⟨x3,hx3,x30,x31⟩:=hxs 3 (by decide)
 obtain ⟨l,f,v,ea,el,ef,eu,es⟩:=id hs;dsimp only at ea el ef eu es nl nd
 match o,sec,es with
 |some (b,u2),some (lo2,hi2,us2),⟨l2,e1,e2,e3,e4⟩=>
  subst e1;exact ⟨_,rfl,a,_,_,_,rfl,rfl,aE.of ea,rfl,rfl,_,rfl,nT (fun z=>nomatch z) (q0 _ (.refl _))⟩
 |none,none,es=>
 have es:v= .non:=es;subst es;refine cut (fun σ H'=>σ= [GT a,GT lx,none]/\H=H') (fun N hN=>?_) ?_
 ·exact ⟨_,rfl,a,_,_,_,rfl,rfl,aE.of ea,rfl,rfl,_,rfl,nF rfl (hN _ _ ⟨rfl,rfl⟩)⟩
 rintro σ _ ⟨rfl,rfl⟩;refine ⟨_,rfl,lx,_,_,_,rfl,rfl,aE.of ex,hx2,_,rfl,lx,_,_,_,rfl,rfl,aE.of ex,hx3,_,_,rfl,x20,x30,fun lo2 hi2 ll H1 g1 nll ell le=>?_⟩
 obtain ⟨b1,b2,b3⟩:=id le;have ea1:=g1 _ _ ea;dsimp only[aR,aS];refine ⟨_,rfl,by show 0<=sizeLine;decide,fun u2 nu2=>⟨by show 2<=sizeLine;decide,fun b nb=>?_⟩⟩
 have g2:=aq nu2 (.lst []);have g3:=aq nb (.lst [.ref ll,.ref u2]);have g23:=g2.trans g3;have g13:=g1.trans g23;have eb:aO (aO H1 u2 (.lst [])) b (.lst [.ref ll,.ref u2]) b=some (.lst [.ref ll,.ref u2]):=af;have eu2:aO (aO H1 u2 (.lst [])) b (.lst [.ref ll,.ref u2]) u2=some (.lst []):=g3 _ _ af;have ell3:=g23 _ _ ell;have ub:u2≠b:=fun z=>by rw[<-z,af] at nb;cases nb
 have nb1:=g2.free nb;have ea3:=g23 _ _ ea1;have au2:u2≠a:=fun z=>by rw[z,ea1] at nu2;cases nu2
 have ab:b≠a:=fun z=>by rw[z,ea1] at nb1;cases nb1
 have ellx:ll≠a:=fun z=>by rw[z,ea] at nll;cases nll
 dsimp only[aR,aS];generalize aO (aO H1 u2 (.lst [])) b (.lst [.ref ll,.ref u2])=H3 at g23 g13 eb eu2 ell3 ea3⊢;refine ⟨_,rfl,a,_,_,5,rfl,rfl,ea3,rfl,?_⟩;have hs3:=(lV g13).sl (fun b hb=>nomatch hb) hs fun b _ z=>nomatch z
 have kp:Kp [a] H3 (aO H3 a (.lst [.str w,.str n,.ref l,f,.ref u,.ref b])):=(Kp.refl [a] H3).put (x:=a) (D8.mpr rfl) _;have fq:Fq [a] H3:=gJ ⟨_,ea3,fun i j z=>by simp at z⟩
 have ua:u≠a:=fun z=>by rw[z] at nd;simp[Sk.own] at nd
 have hs4:SL (aO H3 a (.lst [.str w,.str n,.ref l,f,.ref u,.ref b])) ⟨a,u,some (b,u2)⟩ ⟨w,n,lo,hi,fl,us,some (lo2,hi2,[])⟩:=by
  obtain ⟨l',f',v',j1,j2,j3,j4,j5⟩:=hs3;rw[ea3] at j1;cases j1;exact ⟨l,f,.ref b,af,kp.lens fq j2,kp.fill fq j3,kp.rtup fq j4 (by simpa using ua),ll,rfl,by rw[aB ab];exact eb,by rw[aB ellx];exact ell3,[],by rw[aB au2];exact eu2,A2.nil⟩
 have kp2:Kp (⟨a,u,none⟩:Sk).own H (aO H3 a (.lst [.str w,.str n,.ref l,f,.ref u,.ref b])):=fun x o e nx=>by
  rw[aB (fun z=>nx (by rw[z];simp[Sk.own]))]
  exact g13 _ _ e
 dsimp only[aR,aS];change L2.uG _ _ _ (aO H3 a (.lst [.str w,.str n,.ref l,f,.ref u,.ref b]));have ea5:aO H3 a (.lst [.str w,.str n,.ref l,f,.ref u,.ref b]) a=some (.lst [.str w,.str n,.ref l,f,.ref u,.ref b]):=af;have el5:aO H3 a (.lst [.str w,.str n,.ref l,f,.ref u,.ref b]) ll=some (.lst [vN lo2,vN hi2]):=by rw[aB ellx];exact ell3
 have l1:(Str.ofString " ").length=1:=by decide
 have l3:(Str.ofString "or ").length=3:=by decide
 have ll1:=br (n:=lo2) (by omega)
 have ll2:=br (n:=hi2) (by omega)
 refine ⟨_,rfl,a,_,_,_,rfl,rfl,aE.of ea5,rfl,_,_,rfl,rfl,by omega,_,_,rfl,rfl,(by rw[Str.length_append];omega),_,rfl,ll,_,_,_,rfl,rfl,aE.of el5,rfl,_,rfl,cJ (by omega),?_⟩
 rw[ca];refine ⟨_,_,rfl,rfl,(by simp only[Str.length_append];omega),_,_,rfl,rfl,(by simp only[Str.length_append];omega),_,rfl,ll,_,_,_,rfl,rfl,aE.of el5,rfl,_,rfl,cJ (by omega),?_⟩
 rw[ca];refine ⟨_,_,rfl,rfl,(by simp only[Str.length_append];omega),?_⟩
 rw[tZ];refine q1 _ ⟨a,u,some (b,u2)⟩ _ _ kp2 hs4 rfl (fun x hx=>?_) ?_ ⟨lo2,hi2,rfl,le,rfl,rfl⟩
 ·simp only[Sk.own,cZ,D2,D6,or_false] at hx⊢;rcases hx with h|h|h|h
  ·exact .inl (.inl h)
  ·exact .inl (.inr h)
  ·rw[h];exact .inr (g1.free nb1)
  ·rw[h];exact .inr (g1.free nu2)
 ·obtain ⟨vu,eu',_⟩:=eu;have eu1:=g1 _ _ eu';have bu:u≠b:=fun z=>by rw[<-z,eu1] at nb1;cases nb1
  have uu:u≠u2:=fun z=>by rw[<-z,eu1] at nu2;cases nu2
  simp only[Sk.own,cZ,De,D2,D6,or_false,not_or,not_false_eq_true,and_true,List.nodup_nil];exact ⟨⟨ua.symm,ab.symm,au2.symm⟩,⟨bu,uu⟩,ub.symm⟩
theorem Bf {dV:Value} (F:bv K "_law_use" "_law_use" y4 dV f fd):bh P w K mg base bi 1 f fd ["_law_step_here","_law_word","_law_names_here","_law_xs"] tV:=by
 have sc:aC ["_law_step_here","_law_word","_law_names_here","_law_xs","_law_uses","_law_tool","_law_use_here","_law_tail"] ["_law_step_here","_law_word","_law_names_here","_law_xs"] (aw y4):=df (by decide+kernel)
 refine F.ok sc (fun vs H Q E h=>?_) (fun cdv A outer s H vs Q E hr h=>?_)
 ·obtain ⟨_,_,_,_,_,_,rfl,_⟩:=h
  rfl
 obtain ⟨⟨a,u,so⟩,⟨w,n,lo,hi,fl,us,sec⟩,o,ln,lx,zs,rfl,hs,nd,nl,en,zz,ul,ul2,hx,q0,q1⟩:=h;refine ⟨_,(ac (bK 4 sc (aj ai (pv 0) ad (fun _ _=>rfl))) (ac (aJ (av bC (pv 1) ax (aA _)) (ac (aJ (av cG (aj ai (pv 0) ad (fun _ _=>rfl)) bo (aA _)) (ah (ay ax)) az) (ah (bK 4 sc (aj ai (aj ai (pv 0) ad (fun _ _=>rfl)) ad (fun _ _=>rfl))))) az) (ac (aJ (av bC (aI a7 rfl B.Ft boot_len (@aa _ _ _ _ _ (pv 4) ae rfl)) ad (aA _)) (ah (ay ax)) az) (ac (bK 5 sc (aj ai (pv 2) (ar aN (ar bY (ar dn ad (aI a7 rfl B.Ft boot_len (@aa _ _ _ _ _ (pv 4) ae rfl))) ad) ad) (fun _ _=>rfl))) (ac (bK 6 sc (@cH _ _ _ _ _ (@aa _ _ _ _ _ (pv 5) (@aa _ _ _ _ _ (ar bY ad (ar aN (aj ai (pv 3) ad (fun _ _=>rfl)) ad)) (@aa _ _ _ _ _ (aj ai (@aZ _ _ _ _ (@aa _ _ _ _ _ (ar aN (aj ai (pv 3) ad (fun _ _=>rfl)) ad) (@aa _ _ _ _ _ ad (@aa _ _ _ _ _ ad (@aa _ _ _ _ _ ad ae rfl) rfl) rfl) rfl)) (ar aN (aj ai (pv 3) ad (fun _ _=>rfl)) ad) (fun _ _=>rfl)) ae rfl) rfl) rfl))) (ac (aV (bO DE DG DF a8 (pv 4) (@aa _ _ _ _ _ (pv 6) ae rfl))) (ac (bK 7 sc (ar ao (ar ao (ar ao ax (aK aG rfl B.Es boot_str (@aa _ _ _ _ _ (aj aY (pv 6) ad (fun _ _=>rfl)) ae rfl))) ax) (aK aG rfl B.Es boot_str (@aa _ _ _ _ _ (aj aY (pv 6) ad (fun _ _=>rfl)) ae rfl)))) (ah (ay (ar ao (ar ao (ar ao (ar ao (ar ao (pv 1) ax) (aj ai (pv 0) ad (fun _ _=>rfl))) ax) (pv 5)) (pv 7))))))))))),?_⟩
 try dsimp only[cxK]
 have sl:sizeLine=16777216:=sizeLine_eq;obtain ⟨xs,ex,hxs⟩:=hx.at_;obtain ⟨x2,hx2,x20,x21⟩:=hxs 2 (by decide)
 obtain ⟨x3,hx3,x30,x31⟩:=hxs 3 (by decide)
 obtain ⟨x4,hx4,x40,x41⟩:=hxs 4 (by decide)
 obtain ⟨l,f,v,ea,el,ef,eu,es⟩:=id hs;dsimp only at ea el ef eu es nl nd q0 q1 ul ul2;obtain ⟨wd,ewd⟩:∃wd:Str,wd=if o=true then Str.ofString "orwith" else Str.ofString "with" :=⟨_,rfl⟩
 rw[<-ewd] at q1⊢;have wdl:wd.length<=6:=by rw[ewd];cases o<;>decide
 refine ⟨_,rfl,a,_,_,_,rfl,rfl,aE.of ea,rfl,?_⟩;dsimp only[aR,aS];refine cut (fun σ H'=>∃(uu:Addr) (uus:List bN),σ= [GT a,some (.str wd),GT ln,GT lx,GT uu,none,none,none]/\H=H'/\Uz H uu uus/\uus.length<=12/\if o=true then ∃b lo2 hi2,so=some (b,uu)/\sec=some (lo2,hi2,uus) else uu=u/\uus=us) (fun N hN=>?_) ?_
 ·refine ⟨_,rfl,rfl,_,rfl,kv (fun e=>?_) fun e=>hN _ _ ⟨u,us,rfl,rfl,eu,ul,?_⟩⟩
  ·have ho:o=true:=by
    cases o with
    |true=>rfl
    |false=>rw[ewd] at e;exact absurd e (by decide)
   match so,sec,es with
   |none,none,es=>
    have es:v= .non:=es;subst es;exact ⟨_,rfl,a,_,_,_,rfl,rfl,aE.of ea,rfl,rfl,_,rfl,dT rfl (q0 _ (.refl _))⟩
   |some (b,u2),some (lo2,hi2,us2),⟨l2,e1,e2,e3,e4⟩=>
    subst e1;refine ⟨_,rfl,a,_,_,_,rfl,rfl,aE.of ea,rfl,rfl,_,rfl,dF (fun z=>nomatch z) ?_⟩
    exact ⟨_,rfl,a,_,_,_,rfl,rfl,aE.of ea,rfl,b,_,_,_,rfl,rfl,aE.of e2,rfl,hN _ _ ⟨u2,us2,rfl,rfl,e4,ul2 _ rfl,by rw[if_pos ho];exact ⟨b,lo2,hi2,rfl,rfl⟩⟩⟩
  ·have ho:o=false:=by
    cases o with
    |true=>exact absurd (by rw[ewd];rfl) e
    |false=>rfl
   rw[ho];exact ⟨rfl,rfl⟩
 rintro σ _ ⟨uu,uus,rfl,rfl,⟨vu,euu,ru⟩,l12,hO⟩;have lvu:=ru.1;refine cut (fun σ H'=>σ= [GT a,some (.str wd),GT ln,GT lx,GT uu,none,none,none]/\H=H'/\uus.length≠12) (fun N hN=>?_) ?_
 ·exact ⟨_,rfl,uu,_,rfl,.inl (aE.of euu),rfl,_,rfl,j9 (fun _=>q0 _ (.refl _)) fun c=>hN _ _ ⟨rfl,rfl,by omega⟩⟩
 rintro σ _ ⟨rfl,rfl,n12⟩;have ei:=xP (5*(vu.length:Int)+3) (5*uus.length+3) (by omega)
 obtain ⟨g,hg,ng⟩:=zz.at_ (i:=(5*uus.length+3) % 12) (by omega)
 have gl:=ng.len;refine ⟨_,rfl,_,rfl,uu,_,rfl,.inl (aE.of euu),_,_,rfl,rfl,IntMulOk.of_left (by decide),_,_,rfl,rfl,_,_,rfl,rfl,(by show (12:Int)≠0;decide),ln,_,_,_,rfl,rfl,aE.of en,(by rw[ei];exact qy hg),?_⟩
 dsimp only[aR,aS];have m8:=fm (a:=x2) (n:=8) (by decide)
 have m1:=fm (a:=x3) (n:=1001) (by decide)
 obtain ⟨h,hv,h9⟩:∃h:Nat,ir [V.int (x3.fmod 1001),.int 0,.int 1000,.int 180] (x4.fmod 4)=some (vN h)/\h<=1000:=by
  obtain ⟨j,ej,jl⟩:=tX (a:=x4) (n:=4) (by decide)
  rw[ej];have jl:j<4:=by omega
  match j,jl with
  |0,_=>exact ⟨(x3.fmod 1001).toNat,congrArg some (congrArg V.int (by omega)),by omega⟩
  |1,_=>exact ⟨0,rfl,by decide⟩
  |2,_=>exact ⟨1000,rfl,by decide⟩
  |3,_=>exact ⟨180,rfl,by decide⟩
 obtain ⟨k,ek⟩:∃k:Nat,1+x2.fmod 8=(k:Int):=⟨(1+x2.fmod 8).toNat,by omega⟩
 have k1:1<=k/\k<=8:=by omega
 refine ⟨_,rfl,_,rfl,lx,_,_,_,rfl,rfl,aE.of ex,hx2,_,_,rfl,rfl,(by show (8:Int)≠0;decide),_,_,rfl,rfl,_,rfl,lx,_,_,_,rfl,rfl,aE.of ex,hx3,_,_,rfl,rfl,(by show (1001:Int)≠0;decide),by show 4<=sizeLine;decide,fun l4 n4=>⟨_,rfl,lx,_,_,_,rfl,rfl,aE.of (aq n4 _ _ _ ex),hx4,_,_,rfl,rfl,(by show (4:Int)≠0;decide),l4,_,_,_,rfl,rfl,aE.of af,hv,by show 3<=sizeLine;decide,fun tp ntp=>?_⟩⟩
 have g4:=aq n4 (.lst [V.int (x3.fmod 1001),.int 0,.int 1000,.int 180]);dsimp only at ntp⊢;rw[ek];have g5:=g4.trans (aq ntp (.tup [.str g,.int (k:Int),vN h]));have etp:aO (aO H l4 (.lst [V.int (x3.fmod 1001),.int 0,.int 1000,.int 180])) tp (.tup [.str g,.int (k:Int),vN h]) tp=some (.tup (qt (g,k,h))):=af;dsimp only[aR,aS];generalize aO (aO H l4 (.lst [V.int (x3.fmod 1001),.int 0,.int 1000,.int 180])) tp (.tup [.str g,.int (k:Int),vN h])=H5 at g5 etp⊢;have euu5:=g5 _ _ euu;have ea5:=g5 _ _ ea;have hs5:=hs.same g5;refine ⟨_,rfl,.inl ⟨rfl,_,aE.of euu5⟩,_,rfl,uu,_,_,rfl,rfl,euu5,by omega,?_⟩
 have refsu:∃vs,H5 uu=some (.lst vs)/\∀i j:Int,vs≠ [.int i,.int j]:=iZ.refs (f:=qt) (P:=An) ⟨vu,euu5,ru.imp fun _ _ q=>xE q g5⟩
 have fq:=gJ refsu;have kp:=(Kp.refl [uu] H5).put (x:=uu) (D8.mpr rfl) (.lst (vu++ [.ref tp]));have etp6:=kp.tup fq etp;have hu6:Uz (aO H5 uu (.lst (vu++ [.ref tp]))) uu (uus++ [(g,k,h)]):=⟨_,af,(ru.imp fun v x ⟨t,e1,e2,e3⟩=>⟨t,e1,e2,kp.tup fq (g5 _ _ e3)⟩).snoc ⟨tp,rfl,trivial,etp6⟩⟩
 have ndo:=nd;simp only[Sk.own,De,D2,not_or] at ndo;have uua:a≠uu:=fun z=>by
  cases o with
  |false=>exact ndo.1.1 (z.trans hO.1)
  |true=>
   obtain ⟨b,lo2,hi2,e1,_⟩:=hO;rw[e1] at ndo;exact ndo.1.2 (by rw[z];simp[cZ])
 have ea6:aO H5 uu (.lst (vu++ [.ref tp])) a=some (.lst [.str w,.str n,.ref l,f,.ref u,v]):=by rw[aB uua];exact ea5
 have uin:uu∈(⟨a,u,so⟩:Sk).own:=by
  cases o with
  |false=>rw[hO.1];simp[Sk.own]
  |true=>
   obtain ⟨b,lo2,hi2,e1,_⟩:=hO;rw[e1];simp[Sk.own,cZ]
 have kp2:Kp (⟨a,u,so⟩:Sk).own H (aO H5 uu (.lst (vu++ [.ref tp]))):=(vM g5).put uin _;have hs6:∃s',SL (aO H5 uu (.lst (vu++ [.ref tp]))) ⟨a,u,so⟩ s'/\if o=true then ∃lo2 hi2 us2,sec=some (lo2,hi2,us2)/\us2.length≠12/\zs[(5*us2.length+3) % 12]?=some g/\s'=⟨w,n,lo,hi,fl,us,some (lo2,hi2,us2++ [(g,k,h)])⟩ else us.length≠12/\zs[(5*us.length+3) % 12]?=some g/\s'=⟨w,n,lo,hi,fl,us++ [(g,k,h)],sec⟩:=by
  obtain ⟨l',f',v',j1,j2,j3,j4,j5⟩:=hs5;dsimp only at j1 j2 j3 j4 j5;rw[ea5] at j1;cases j1;cases o with
  |false=>
   obtain ⟨rfl,rfl⟩:=hO;refine ⟨⟨w,n,lo,hi,fl,uus++ [(g,k,h)],sec⟩,⟨l,f,v,ea6,kp.lens fq j2,kp.fill fq j3,hu6,kp.secL fq j5 fun b hb=>?_⟩,n12,hg,rfl⟩
   rw[D8];exact fun z=>ndo.2.1 (z▸hb)
  |true=>
   obtain ⟨b,lo2,hi2,rfl,rfl⟩:=hO;obtain ⟨l2,e1,e2,e3,e4⟩:=j5;simp only[cZ,D2,D6,or_false,not_or,De] at ndo;have bu:b≠uu:=ndo.2.2.1;refine ⟨⟨w,n,lo,hi,fl,us,some (lo2,hi2,uus++ [(g,k,h)])⟩,⟨l,f,v,ea6,kp.lens fq j2,kp.fill fq j3,kp.rtup fq j4 (by simpa using ndo.2.1.2),l2,e1,by rw[aB bu];exact e2,kp.lens fq e3,hu6⟩,lo2,hi2,uus,rfl,n12,hg,rfl⟩
 obtain ⟨s',hs6,hO6⟩:=hs6;have etp7:aO H5 uu (.lst (vu++ [.ref tp])) tp=some (.tup [.str g,vN k,vN h]):=etp6;dsimp only[aR,aS];have l1:(Str.ofString " ").length=1:=by decide
 have ll1:=br (n:=k) (by omega)
 have ll2:=br (n:=h) (by omega)
 refine ⟨_,rfl,tp,_,_,_,rfl,rfl,bX.of etp7,rfl,_,rfl,cJ (by omega),?_⟩
 rw[ca];refine ⟨_,_,rfl,rfl,by omega,_,_,rfl,rfl,(by rw[Str.length_append];omega),_,rfl,tp,_,_,_,rfl,rfl,bX.of etp7,rfl,_,rfl,cJ (by omega),?_⟩
 rw[ca];refine ⟨_,_,rfl,rfl,(by simp only[Str.length_append];omega),?_⟩
 dsimp only[aR,aS];refine ⟨_,rfl,_,_,rfl,rfl,by omega,_,rfl,a,_,_,_,rfl,rfl,aE.of ea6,rfl,_,_,rfl,rfl,(by rw[Str.length_append];omega),_,_,rfl,rfl,(by simp only[Str.length_append];omega),_,rfl,_,_,rfl,rfl,(by simp only[Str.length_append];omega),_,rfl,_,_,rfl,rfl,(by simp only[Str.length_append];omega),?_⟩
 rw[vL];exact q1 _ ⟨a,u,so⟩ s' _ kp2 hs6 rfl (fun x hx=> .inl hx) nd ⟨(g,k,h),rfl,k1.1,k1.2,h9,hO6⟩
theorem Bg {dV:Value} (F:bv K "_law_link" "_law_link" y6 dV f fd):bh P w K mg base bi 1 f fd ["_law_model","_law_xs"] qx:=by
 have sc:aC ["_law_model","_law_xs","_law_many","_law_at","_law_word","_law_turns","_law_link_here","_law_one","_law_two","_law_row_here"] ["_law_model","_law_xs"] (aw y6):=df (by decide+kernel)
 refine F.ok sc (fun vs H Q E h=>?_) (fun cdv A outer s H vs Q E hr h=>?_)
 ·obtain ⟨_,_,_,_,_,_,_,_,_,_,rfl,_⟩:=h
  rfl
 obtain ⟨G,m,lt,ls,lk,lx,ks,M,zs,room,rfl,r12,ml,ok,zz,hx,q⟩:=h;refine ⟨_,(ac (bK 2 sc (aI a7 rfl B.Ft boot_len (@aa _ _ _ _ _ (aj ai (pv 0) ad (fun _ _=>rfl)) ae rfl))) (ac (aJ (PW.pt (bU (av ja (pv 2) ad (aA _)) (bM (av bC (aI a7 rfl B.Ft boot_len (@aa _ _ _ _ _ (aj ai (pv 0) ad (fun _ _=>rfl)) ae rfl)) ad (aA _))))) (ah (ay ax)) az) (ac (bK 3 sc (ar aN (aj ai (pv 1) ad (fun _ _=>rfl)) (pv 2))) (ac (bK 4 sc (aj ai (@aZ _ _ _ _ (@aa _ _ _ _ _ ax (@aa _ _ _ _ _ ax (@aa _ _ _ _ _ ax ae rfl) rfl) rfl)) (ar aN (aj ai (pv 1) ad (fun _ _=>rfl)) ad) (fun _ _=>rfl))) (ac (bK 5 sc ad) (ac (aJ (av bC (pv 4) ax (aA _)) (ah (bK 5 sc (aj ai (@aZ _ _ _ _ (@aa _ _ _ _ _ (ar aN (aj ai (pv 1) ad (fun _ _=>rfl)) ad) (@aa _ _ _ _ _ ad (@aa _ _ _ _ _ ad (@aa _ _ _ _ _ (ar aN (aj ai (pv 1) ad (fun _ _=>rfl)) ad) ae rfl) rfl) rfl) rfl)) (ar aN (aj ai (pv 1) ad (fun _ _=>rfl)) ad) (fun _ _=>rfl)))) az) (ac (bK 6 sc (@cH _ _ _ _ _ (@aa _ _ _ _ _ (pv 4) (@aa _ _ _ _ _ (pv 3) (@aa _ _ _ _ _ (ar aN (ar bY (ar bY (pv 3) ad) (ar aN (aj ai (pv 1) ad (fun _ _=>rfl)) (ar ix (pv 2) ad))) (pv 2)) (@aa _ _ _ _ _ (pv 5) ae rfl) rfl) rfl) rfl))) (ac (aJ (PW.pt (n9 (av bC (ar aN (aj ai (pv 1) ad (fun _ _=>rfl)) ad) ad (aA _)) (kY (av (tD hr.units0) (aj ai (pv 0) ad (fun _ _=>rfl)) (@aZ _ _ _ _ ae) (aA _))))) (ah (bK 6 sc (aj ai (aj ai (pv 0) ad (fun _ _=>rfl)) (wc r8 ad) (fun _ _=>rfl)))) az) (ac (bK 7 sc (aj ai (aj ai (aj ai (pv 0) ad (fun _ _=>rfl)) (aj aY (pv 6) ad (fun _ _=>rfl)) (fun _ _=>rfl)) ad (fun _ _=>rfl))) (ac (bK 8 sc (aj ai (aj ai (aj ai (pv 0) ad (fun _ _=>rfl)) (aj aY (pv 6) ad (fun _ _=>rfl)) (fun _ _=>rfl)) ad (fun _ _=>rfl))) (ac (bK 9 sc (ar ao (ar ao (ar ao (ar ao (aj aY (pv 6) ad (fun _ _=>rfl)) ax) (pv 7)) ax) (pv 8))) (ac (aJ (av bC (aj aY (pv 6) ad (fun _ _=>rfl)) ax (aA _)) (ah (bK 9 sc (ar ao (ar ao (pv 9) ax) (aK aG rfl B.Es boot_str (@aa _ _ _ _ _ (aj aY (pv 6) ad (fun _ _=>rfl)) ae rfl))))) az) (ac (aV (bO DE DG DF a8 (aj ai (pv 0) ad (fun _ _=>rfl)) (@aa _ _ _ _ _ (pv 6) ae rfl))) (ah (ay (pv 9)))))))))))))))),?_⟩
 try dsimp only[cxK]
 have sl:sizeLine=16777216:=sizeLine_eq;obtain ⟨xs,ex,hxs⟩:=hx.at_;obtain ⟨x1,hx1,x10,x11⟩:=hxs 1 (by decide)
 obtain ⟨x2,hx2,x20,x21⟩:=hxs 2 (by decide)
 obtain ⟨x3,hx3,x30,x31⟩:=hxs 3 (by decide)
 obtain ⟨x4,hx4,x40,x41⟩:=hxs 4 (by decide)
 obtain ⟨x5,hx5,x50,x51⟩:=hxs 5 (by decide)
 have es:=ml.es;have lks:=ml.len;have k24:=ok.k24;have sr:=ok.sr;have lkm:(ks.map fun x=>V.ref x.a).length=M.steps.length:=by rw[D4];exact lks
 obtain ⟨vk,ek,rk⟩:=id ml.ek;have lvk:=rk.1;refine ⟨_,rfl,m,_,_,_,rfl,rfl,aE.of ml.em,rfl,ls,_,rfl,.inl (aE.of es),?_⟩;dsimp only[aR,aS];rw[lkm];obtain ⟨many,em⟩:∃many,many=M.steps.length:=⟨_,rfl⟩;rw[<-em];refine cut (fun σ H'=>σ= [GT m,GT lx,some (vN many),none,none,none,none,none,none,none]/\H=H'/\2<=many/\M.links.length<24) (fun N hN=>?_) ?_
 ·refine ⟨_,rfl,_,_,rfl,rfl,_,rfl,d2 (fun _=>q "" ks M H ml ok (.inl ⟨rfl,rfl⟩)) fun c=>⟨_,rfl,m,_,_,_,rfl,rfl,aE.of ml.em,rfl,lk,_,rfl,.inl (aE.of ek),rfl,_,rfl,j9 (fun _=>q "" ks M H ml ok (.inl ⟨rfl,rfl⟩)) fun c2=>hN _ _ ⟨rfl,rfl,?_,by omega⟩⟩⟩
  omega
 rintro σ _ ⟨rfl,rfl,m2,l24⟩;obtain ⟨at_,ea,al⟩:=tX (a:=x2) (n:=(many:Int)) (by omega)
 refine ⟨_,rfl,lx,_,_,_,rfl,rfl,aE.of ex,hx2,_,rfl,_,_,rfl,rfl,by omega,?_⟩
 dsimp only[aR,aS];rw[ea];obtain ⟨w,hw,wd⟩:∃w:Str,ir [V.str "after",.str "within",.str "apart"] (x1.fmod 3)=some (.str w)/\(w= "after" ∨w= "within" ∨w= "apart"):=by
  obtain ⟨j,ej,jl⟩:=tX (a:=x1) (n:=3) (by decide)
  rw[ej];have jl:j<3:=by omega
  match j,jl with
  |0,_=>exact ⟨"after",rfl,.inl rfl⟩
  |1,_=>exact ⟨"within",rfl,.inr (.inl rfl)⟩
  |2,_=>exact ⟨"apart",rfl,.inr (.inr rfl)⟩
 have wl:w.length<=12:=zo.len wd;refine ⟨by show 3<=sizeLine;decide,fun l3 n3=>⟨_,rfl,lx,_,_,_,rfl,rfl,aE.of (aq n3 _ _ _ ex),hx1,_,_,rfl,rfl,(by show (3:Int)≠0;decide),l3,_,_,_,rfl,rfl,aE.of af,hw,?_⟩⟩
 have g3:=aq n3 (.lst [.str "after",.str "within",.str "apart"]);dsimp only[aR,aS];generalize aO H l3 (.lst [.str "after",.str "within",.str "apart"])=H3 at g3⊢;have ex3:=g3 _ _ ex;refine cut (fun σ H'=>σ= [GT m,GT lx,some (vN many),some (vN at_),some (.str w),some (vN 0),none,none,none,none]/\H3=H') (fun N hN=>hN _ _ ⟨rfl,rfl⟩) ?_
 rintro σ _ ⟨rfl,rfl⟩;have m1:=fm (a:=x4) (n:=100001) (by decide)
 have m9:=fm (a:=x4) (n:=9) (by decide)
 refine cut (fun σ H'=>∃tn:Nat,σ= [GT m,GT lx,some (vN many),some (vN at_),some (.str w),some (vN tn),none,none,none,none]/\aH H3 H'/\tn<=100000/\(w≠ "within" ->tn=0)) (fun N hN=>?_) ?_
 ·refine ⟨_,rfl,rfl,_,rfl,kv (fun e=>?_) fun e=>hN _ _ ⟨0,rfl,.refl _,by decide,fun _=>rfl⟩⟩
  refine ⟨_,rfl,lx,_,_,_,rfl,rfl,aE.of ex3,hx4,_,_,rfl,rfl,(by show (100001:Int)≠0;decide),_,rfl,lx,_,_,_,rfl,rfl,aE.of ex3,hx4,_,_,rfl,rfl,(by show (9:Int)≠0;decide),by show 4<=sizeLine;decide,fun l4 n4=>?_⟩
  obtain ⟨tn,hv,h9⟩:∃h:Nat,ir [V.int (x4.fmod 100001),.int 0,.int 100000,.int (x4.fmod 9)] (x5.fmod 4)=some (vN h)/\h<=100000:=by
   obtain ⟨j,ej,jl⟩:=tX (a:=x5) (n:=4) (by decide)
   rw[ej];have jl:j<4:=by omega
   match j,jl with
   |0,_=>exact ⟨(x4.fmod 100001).toNat,congrArg some (congrArg V.int (by omega)),by omega⟩
   |1,_=>exact ⟨0,rfl,by decide⟩
   |2,_=>exact ⟨100000,rfl,by decide⟩
   |3,_=>exact ⟨(x4.fmod 9).toNat,congrArg some (congrArg V.int (by omega)),by omega⟩
  exact ⟨_,rfl,lx,_,_,_,rfl,rfl,aE.of (aq n4 _ _ _ ex3),hx5,_,_,rfl,rfl,(by show (4:Int)≠0;decide),l4,_,_,_,rfl,rfl,aE.of af,hv,hN _ _ ⟨tn,rfl,aq n4 _,h9,fun z=>absurd e z⟩⟩
 rintro σ H4 ⟨tn,rfl,g4,t5,t0⟩;have g34:=g3.trans g4;have ex4:=g4 _ _ ex3;have mo:=fm (a:=x3) (n:=(many:Int)-1) (by omega)
 obtain ⟨ot,eo,ol⟩:=tX (a:=(at_:Int)+1+x3.fmod ((many:Int)-1)) (n:=(many:Int)) (by omega)
 have oa:ot≠at_:=fun z=>by
  rw[z,Int.fmod_eq_emod_of_nonneg _ (by omega)] at eo
  have e:=Int.emod_add_mul_ediv ((at_:Int)+1+x3.fmod ((many:Int)-1)) (many:Int);generalize ((at_:Int)+1+x3.fmod ((many:Int)-1))/(many:Int)=qq at e;rw[eo] at e;rcases Int.lt_trichotomy qq 0 with h|h|h
  ·have:(many:Int)*qq<=(many:Int)*(-1):=Int.mul_le_mul_of_nonneg_left (by omega) (by omega)
   omega
  ·rw[h] at e;omega
  ·have:(many:Int)*1<=(many:Int)*qq:=Int.mul_le_mul_of_nonneg_left (by omega) (by omega)
   omega
 refine ⟨_,rfl,_,rfl,_,rfl,_,_,rfl,rfl,_,rfl,lx,_,_,_,rfl,rfl,aE.of ex4,hx3,_,rfl,_,_,rfl,rfl,_,_,rfl,rfl,by omega,_,_,rfl,rfl,_,rfl,_,_,rfl,rfl,by omega,_,rfl,by show 4<=sizeLine;decide,fun t nt=>?_⟩
 dsimp only[aR,aS] at nt⊢;rw[eo];have g5:=g34.trans (aq nt (.tup [.str w,vN at_,vN ot,vN tn]));have et:aO H4 t (.tup [.str w,vN at_,vN ot,vN tn]) t=some (.tup (rg (w,at_,ot,tn))):=af;have ex5:=(aq nt (.tup [.str w,vN at_,vN ot,vN tn])) _ _ ex4;change L2.mq _ _ _ [some (.ref m),some (.ref lx),some (vN many),some (vN at_),some (.str w),some (vN tn),some (.ref t),none,none,none] (aO H4 t (.tup [.str w,vN at_,vN ot,vN tn]));generalize aO H4 t (.tup [.str w,vN at_,vN ot,vN tn])=H5 at g5 et ex5⊢;have ml5:=ml.same g5;refine cut (fun σ H'=>∃(t:Addr) (k:ky),σ= [GT m,GT lx,some (vN many),some (vN at_),some (.str w),some (vN tn),GT t,none,none,none]/\aH H5 H'/\H' t=some (.tup (rg k))/\zp many k) (fun N hN=>?_) ?_
 ·have now:∀H',aH H5 H'->N [some (.ref m),some (.ref lx),some (vN many),some (vN at_),some (.str w),some (vN tn),some (.ref t),none,none,none] H':=fun H' g=>hN _ _ ⟨t,(w,at_,ot,tn),rfl,g,g _ _ et,⟨wd,(by show at_<many;omega),(by show ot<many;omega),oa.symm,t5,t0⟩⟩
  refine ⟨_,rfl,lx,_,_,_,rfl,rfl,aE.of ex5,hx5,_,_,rfl,rfl,(by show (6:Int)≠0;decide),rfl,_,rfl,j9 (fun _=>?_) fun _=>now _ (.refl _)⟩
  refine ⟨_,rfl,m,_,_,_,rfl,rfl,aE.of ml5.em,rfl,by show 0<=sizeLine;decide,fun l0 n0=>?_⟩
  have g6:=aq n0 (.lst []);have ek6:=g6 _ _ (g5 _ _ ek);refine ⟨lk,l0,_,rfl,rfl,aE.of ek6,aE.of af,_,rfl,?_⟩;cases hv:vk with
  |nil=>exact now _ g6
  |cons v0 vr=>
   have ne:vk≠ []:=by rw[hv];simp
   obtain ⟨vl,hl⟩:∃vl,vk.getLast?=some vl:=by
    cases h:vk.getLast? with
    |none=>exact absurd (List.getLast?_eq_none_iff.mp h) ne
    |some x=>exact ⟨x,rfl⟩
   have hl':vk[vk.length-1]?=some vl:=by rw[<-List.getLast?_eq_getElem?];exact hl
   obtain ⟨k,hk,t',rfl,_,et'⟩:=rk.at_ hl';rw[hv] at hl ek6;refine ⟨_,rfl,m,_,_,_,rfl,rfl,aE.of (g6 _ _ ml5.em),rfl,_,rfl,lk,_,_,_,rfl,rfl,aE.of ek6,(atT hl),hN _ _ ⟨t',k,rfl,g6,g6 _ _ (g5 _ _ et'),by rw[em];exact ok.ks k (D5 hk)⟩⟩
 rintro σ H6 ⟨t',⟨w',a',b',tn'⟩,rfl,g6,et',lo⟩;have et6:H6 t'=some (.tup [.str w',vN a',vN b',vN tn']):=et';have la:a'<many:=lo.a;have lb:b'<many:=lo.b;have wl':w'.length<=12:=lo.w.len;have tl':tn'<=100000:=lo.t;have ml6:=ml5.same g6;have es6:=ml6.es;have ha:=D1 (l:=M.steps) (i:=a') (by omega)
 have hb:=D1 (l:=M.steps) (i:=b') (by omega)
 have ka:=D1 (l:=ks) (i:=a') (by omega)
 have kb:=D1 (l:=ks) (i:=b') (by omega)
 obtain ⟨sa,hsa⟩:∃sa,M.steps[a']?=some sa:=⟨_,ha⟩;obtain ⟨sb,hsb⟩:∃sb,M.steps[b']?=some sb:=⟨_,hb⟩;obtain ⟨ska,hka⟩:∃sa,ks[a']?=some sa:=⟨_,ka⟩;obtain ⟨skb,hkb⟩:∃sb,ks[b']?=some sb:=⟨_,kb⟩;clear ha hb ka kb;obtain ⟨_,_,_,ea6,_⟩:=ml6.ss a' _ _ hka hsa;obtain ⟨_,_,_,eb6,_⟩:=ml6.ss b' _ _ hkb hsb;have na:=zz.mem (ok.ss a' _ hsa).nm;have nb:=zz.mem (ok.ss b' _ hsb).nm;have nal:=na.len;have nbl:=nb.len;have ata:ir (ks.map fun x=>V.ref x.a) (a':Int)=some (.ref ska.a):=aD (by rw[DA,hka];rfl)
 have atb:ir (ks.map fun x=>V.ref x.a) (b':Int)=some (.ref skb.a):=aD (by rw[DA,hkb];rfl)
 refine ⟨_,rfl,m,_,_,_,rfl,rfl,aE.of ml6.em,rfl,_,rfl,t',_,_,_,rfl,rfl,bX.of et6,rfl,ls,_,_,_,rfl,rfl,aE.of es6,ata,ska.a,_,_,_,rfl,rfl,aE.of ea6,rfl,?_⟩;dsimp only[aR,aS];refine ⟨_,rfl,m,_,_,_,rfl,rfl,aE.of ml6.em,rfl,_,rfl,t',_,_,_,rfl,rfl,bX.of et6,rfl,ls,_,_,_,rfl,rfl,aE.of es6,atb,skb.a,_,_,_,rfl,rfl,aE.of eb6,rfl,?_⟩;dsimp only[aR,aS];have l1:(Str.ofString " ").length=1:=by decide
 refine ⟨_,rfl,t',_,_,_,rfl,rfl,bX.of et6,rfl,_,_,rfl,rfl,by omega,_,rfl,_,_,rfl,rfl,(by rw[Str.length_append];omega),_,_,rfl,rfl,(by simp only[Str.length_append];omega),_,rfl,_,_,rfl,rfl,(by simp only[Str.length_append];omega),?_⟩
 rw[Ao];have jl:(jB [w',sa.n,sb.n]).length<=400:=dE (fun z hz=>by
  simp only[D2,D6,or_false] at hz;rcases hz with rfl|rfl|rfl<;>omega) (by show 3<=6;decide)
 have ll1:=br (n:=tn') (by omega)
 dsimp only[aR,aS];refine cut (fun σ H'=>σ= [GT m,GT lx,some (vN many),some (vN at_),some (.str w),some (vN tn),GT t',some (.str sa.n),some (.str sb.n),some (.str (eG (.link w' sa.n sb.n tn')))]/\H6=H') (fun N hN=>?_) ?_
 ·refine ⟨_,rfl,t',_,_,_,rfl,rfl,bX.of et6,rfl,rfl,_,rfl,kv (fun e=>?_) fun e=>hN _ _ ⟨?_,rfl⟩⟩
  ·refine ⟨_,rfl,_,_,rfl,rfl,(by rw[l1];omega),_,rfl,t',_,_,_,rfl,rfl,bX.of et6,rfl,_,rfl,cJ (by omega),?_⟩
   rw[ca];refine ⟨_,_,rfl,rfl,(by rw[Str.length_append,l1];omega),hN _ _ ⟨?_,rfl⟩⟩
   rw[ig (by simp)]
   have e5:eG (.link w' sa.n sb.n tn')=jB ([w',sa.n,sb.n]++ [bw tn']):=by
    show jB (cK w' sa.n sb.n tn')=_;unfold cK;rw[if_pos e]
   rw[e5]
   rfl
  ·have e5:eG (.link w' sa.n sb.n tn')=jB [w',sa.n,sb.n]:=by
    show jB (cK w' sa.n sb.n tn')=_;unfold cK;rw[if_neg e,EF]
   rw[e5]
   rfl
 rintro σ _ ⟨rfl,rfl⟩;have ek6:=g6 _ _ (g5 _ _ ek);refine ⟨_,rfl,m,_,_,_,rfl,rfl,aE.of ml6.em,rfl,.inl ⟨rfl,_,aE.of ek6⟩,_,rfl,lk,_,_,rfl,rfl,ek6,by omega,⟨_,rfl,?_⟩⟩
 have ab:sa.n≠sb.n:=fun z=>by
  have k1:=(ok.ss a' _ hsa).nm;have k2:=(ok.ss b' _ hsb).nm;rw[<-z] at k2;have:=zz.inj k1 k2;have:=lo.ab;have h5:a'≠b':=lo.ab;omega
 rw[em] at lo;exact q _ _ _ _ (ml6.link ek6 ⟨t',rfl,trivial,et'⟩) (ok.link l24 lo) (.inr ⟨.link w' sa.n sb.n tn',rfl,⟨lo.w,na,nb,ab,tl',lo.t0⟩,C7 ok r12 zz hsa hsb (by omega)⟩)
theorem Bh {dV:Value} (F:bv K "_law_row" "_law_row" y8 dV f fd) (DZ44:Dx P w K mg base bi 1 "_law_stream" ["_law_cell","_law_many"] [] jn) (DZ48:Dx P w K mg base bi 3 "_law_take" ["_law_model","_law_names_here","_law_xs"] [] qw) (DZ49:Dx P w K mg base bi 3 "_law_step" ["_law_model","_law_names_here","_law_xs","_law_room"] [] lX) (DZ50:Dx P w K mg base bi 2 "_law_second" ["_law_step_here","_law_xs"] [] kB) (DZ51:Dx P w K mg base bi 1 "_law_use" ["_law_step_here","_law_word","_law_names_here","_law_xs"] [] tV) (DZ52:Dx P w K mg base bi 1 "_law_link" ["_law_model","_law_xs"] [] qx):bh P w K mg base bi 4 f fd ["_law_model","_law_names_here","_law_cell","_law_room"] tU:=by
 have sc:aC ["_law_model","_law_names_here","_law_cell","_law_room","_law_xs","_law_way","_law_step_here"] ["_law_model","_law_names_here","_law_cell","_law_room"] (aw y8):=df (by decide+kernel)
 refine F.ok sc (fun vs H Q E h=>?_) (fun cdv A outer s H vs Q E hr h=>?_)
 ·obtain ⟨_,_,_,_,_,_,_,_,_,_,_,rfl,_⟩:=h
  rfl
 obtain ⟨G,m,lt,ls,lk,ln,c,ks,M,zs,room,rfl,r12,ml,ok,en,zz,q⟩:=h;refine ⟨_,(ac (bK 4 sc (b5 DZ44 hr (@aa _ _ _ _ _ (pv 2) (@aa _ _ _ _ _ ad ae rfl) rfl))) (ac (bK 5 sc (ar aN (aj ai (pv 4) ad (fun _ _=>rfl)) ad)) (ac (aJ (av bC (pv 5) ad (aA _)) (ah (ay (b5 DZ48 hr (@aa _ _ _ _ _ (pv 0) (@aa _ _ _ _ _ (pv 1) (@aa _ _ _ _ _ (pv 4) ae rfl) rfl) rfl)))) az) (ac (aJ (PW.pt (bU (av ja (pv 5) ad (aA _)) (bM (av (tq hr.units0) (aj ai (pv 0) ad (fun _ _=>rfl)) (@aZ _ _ _ _ ae) (aA _))))) (ah (ay (b5 DZ49 hr (@aa _ _ _ _ _ (pv 0) (@aa _ _ _ _ _ (pv 1) (@aa _ _ _ _ _ (pv 4) (@aa _ _ _ _ _ (pv 3) ae rfl) rfl) rfl) rfl)))) az) (ac (aJ (av mz (pv 5) ad (aA _)) (ah (ay (b5 DZ52 hr (@aa _ _ _ _ _ (pv 0) (@aa _ _ _ _ _ (pv 4) ae rfl) rfl)))) az) (ac (bK 6 sc (aj ai (aj ai (pv 0) ad (fun _ _=>rfl)) (ar aN (aj ai (pv 4) ad (fun _ _=>rfl)) (aI a7 rfl B.Ft boot_len (@aa _ _ _ _ _ (aj ai (pv 0) ad (fun _ _=>rfl)) ae rfl))) (fun _ _=>rfl))) (ac (aJ (av bC (pv 5) ad (aA _)) (ah (ay (b5 DZ50 hr (@aa _ _ _ _ _ (pv 6) (@aa _ _ _ _ _ (pv 4) ae rfl) rfl)))) az) (ah (ay (b5 DZ51 hr (@aa _ _ _ _ _ (pv 6) (@aa _ _ _ _ _ (aj ai (@aZ _ _ _ _ (@aa _ _ _ _ _ ax (@aa _ _ _ _ _ ax ae rfl) rfl)) (ar ix (pv 5) ad) (fun _ _=>rfl)) (@aa _ _ _ _ _ (pv 1) (@aa _ _ _ _ _ (pv 4) ae rfl) rfl) rfl) rfl))))))))))),?_⟩
 try dsimp only[cxK]
 have sl:sizeLine=16777216:=sizeLine_eq;refine ⟨_,rfl,c,6,rfl,by decide,by decide,fun lx H1 xs0 g1 e1 xl xp=>?_⟩
 have hx:tT H1 lx:=⟨xs0,e1,by omega,xp⟩
 have ml1:=ml.same g1;have en1:=g1 _ _ en;clear ml en e1;obtain ⟨xs,ex,hxs⟩:=hx.at_;obtain ⟨x0,hx0,x00,x01⟩:=hxs 0 (by decide)
 obtain ⟨x5,hx5,x50,x51⟩:=hxs 5 (by decide)
 obtain ⟨way,ew,wl⟩:=tX (a:=x0) (n:=8) (by decide)
 have es:=ml1.es;have lks:=ml1.len;have lkm:(ks.map fun x=>V.ref x.a).length=M.steps.length:=by rw[D4];exact lks
 dsimp only[aR,aS];refine ⟨_,rfl,lx,_,_,_,rfl,rfl,aE.of ex,hx0,_,_,rfl,rfl,(by show (8:Int)≠0;decide),?_⟩
 dsimp only[aR,aS];rw[ew];refine cut (fun σ H'=>σ= [GT m,GT ln,some (.int c),some (vN room),GT lx,some (vN way),none]/\H1=H') (fun N hN=>?_) ?_
 ·exact ⟨_,rfl,rfl,_,rfl,j9 (fun _=>⟨_,rfl,_,rfl,_,rfl,G,m,lt,ls,lk,ln,lx,ks,M,zs,room,rfl,ml1,ok,en1,zz,hx,q⟩) fun _=>hN _ _ ⟨rfl,rfl⟩⟩
 rintro σ _ ⟨rfl,rfl⟩;refine cut (fun σ H'=>σ= [GT m,GT ln,some (.int c),some (vN room),GT lx,some (vN way),none]/\aH H1 H'/\3<=way/\M.steps≠ []) (fun N hN=>?_) ?_
 ·have now:∀H',aH H1 H'->_:=fun H' (g:aH H1 H')=>(⟨_,rfl,_,rfl,_,rfl,_,rfl,G,m,lt,ls,lk,ln,lx,ks,M,zs,room,rfl,r12,ml1.same g,ok,g _ _ en1,zz,hx.same g,q⟩:L2.uG (L2.mD lX [] E0 (L2.jU (L2.mn 0) (L2.jU (L2.mn 1) (L2.jU (L2.mn 4) (L2.jU (L2.mn 3) L2.uN))))) {nx:=N,rt:=Q} [some (.ref m),some (.ref ln),some (.int c),some (vN room),some (.ref lx),some (vN way),none] H')
  refine ⟨_,rfl,_,_,rfl,rfl,_,rfl,d2 (fun _=>now _ (.refl _)) fun c3=>⟨_,rfl,m,_,_,_,rfl,rfl,aE.of ml1.em,rfl,by show 0<=sizeLine;decide,fun l0 n0=>?_⟩⟩
  have g2:=aq n0 (.lst []);refine ⟨ls,l0,_,rfl,rfl,aE.of (g2 _ _ es),aE.of af,_,rfl,?_⟩;cases hk:ks with
  |nil=>exact now _ g2
  |cons k0 kr=>exact hN _ _ ⟨rfl,g2,by omega,fun z=>by rw[z,hk] at lks;simp at lks⟩
 rintro σ H2 ⟨rfl,g2,w3,ne⟩;have ml2:=ml1.same g2;have en2:=g2 _ _ en1;have hx2:=hx.same g2;have ex2:=g2 _ _ ex;have es2:=ml2.es;clear ml1 en1 hx ex es g1;refine cut (fun σ H'=>σ= [GT m,GT ln,some (.int c),some (vN room),GT lx,some (vN way),none]/\H2=H'/\way<=5) (fun N hN=>?_) ?_
 ·exact ⟨_,rfl,_,_,rfl,rfl,_,rfl,d2 (fun _=>⟨_,rfl,_,rfl,G,m,lt,ls,lk,lx,ks,M,zs,room,rfl,r12,ml2,ok,zz,hx2,q⟩) fun c5=>hN _ _ ⟨rfl,rfl,by omega⟩⟩
 rintro σ _ ⟨rfl,rfl,w5⟩;have pos:0<M.steps.length:=List.length_pos_iff.mpr ne;obtain ⟨i,ei,il⟩:=tX (a:=x5) (n:=(M.steps.length:Int)) (by omega)
 obtain ⟨st,hst⟩:∃st,M.steps[i]?=some st:=⟨_,D1 (by omega)⟩
 obtain ⟨sk,hsk⟩:∃sk,ks[i]?=some sk:=⟨_,D1 (by omega)⟩
 have hs:=ml2.ss i sk st hsk hst;have so:=ok.ss i st hst;have nn:=zz.mem so.nm;have ndk:sk.own.Nodup:=by
  have nd:=ml2.nd;unfold cy at nd;simp only[De] at nd;exact (List.pairwise_flatten.mp nd.2.2.2.2).1 _ (DI.mpr ⟨sk,D5 hsk,rfl⟩)
 have ati:ir (ks.map fun x=>V.ref x.a) (i:Int)=some (.ref sk.a):=aD (by rw[DA,hsk];rfl)
 refine ⟨_,rfl,m,_,_,_,rfl,rfl,aE.of ml2.em,rfl,_,rfl,lx,_,_,_,rfl,rfl,aE.of ex2,hx5,_,rfl,m,_,_,_,rfl,rfl,aE.of ml2.em,rfl,ls,_,rfl,.inl (aE.of es2),_,_,rfl,rfl,(by rw[lkm];omega),?_⟩
 dsimp only[aR,aS];rw[lkm,ei];refine ⟨ls,_,_,_,rfl,rfl,aE.of es2,ati,?_⟩;dsimp only[aR,aS];refine cut (fun σ H'=>σ= [GT m,GT ln,some (.int c),some (vN room),GT lx,some (vN way),GT sk.a]/\H2=H'/\4<=way) (fun N hN=>?_) ?_
 ·refine ⟨_,rfl,rfl,_,rfl,j9 (fun _=>⟨_,rfl,_,rfl,sk,st,lx,rfl,hs,ndk,nn.len,hx2,fun H' g=>q "" ks M H' (ml2.same g) ok (.inl ⟨rfl,rfl⟩),?_⟩) fun _=>hN _ _ ⟨rfl,rfl,by omega⟩⟩
  rintro z k' s' H' kp hs' ea nk nd ⟨lo,hi,e,le,rfl,rfl⟩;exact q _ _ _ _ (ml2.set hsk hst kp hs' ea nk nd) (ok.set ⟨so.nm,so.wd,so.le,so.fl,so.us,fun x hx=>by cases hx;exact ⟨le,by simp,fun i x h=>by simp at h⟩⟩) (.inr ⟨.sec st.n lo hi,rfl,⟨nn,le⟩,vC ok r12 zz hst e⟩)
 rintro σ _ ⟨rfl,rfl,w4⟩;obtain ⟨o,ho⟩:∃o:Bool,ir [V.str "with",.str "orwith"] ((way:Int)-4)=some (.str (if o=true then "orwith" else "with")):=by
  have:way=4∨way=5:=by omega
  rcases this with rfl|rfl
  ·exact ⟨false,rfl⟩
  ·exact ⟨true,rfl⟩
 refine ⟨_,rfl,by show 2<=sizeLine;decide,fun l2 n2=>?_⟩
 have g3:=aq n2 (.lst [.str "with",.str "orwith"]);have ml3:=ml2.same g3;refine ⟨_,rfl,_,_,rfl,rfl,l2,_,_,_,rfl,rfl,aE.of af,ho,_,rfl,_,rfl,sk,st,o,ln,lx,zs,rfl,hs.same g3,ndk,nn.len,g3 _ _ en2,zz,so.us.1,(fun x hx=>(so.sec x hx).2.1),hx2.same g3,(fun H' g=>q "" ks M H' (ml3.same g) ok (.inl ⟨rfl,rfl⟩)),?_⟩
 rintro z k' s' H' kp hs' ea nk nd ⟨u,rfl,u1,u8,u9,hO⟩;cases o with
 |false=>
  obtain ⟨n12,hg,rfl⟩:=hO;exact q _ _ _ _ (ml3.set hsk hst kp hs' ea nk nd) (ok.set ⟨so.nm,so.wd,so.le,so.fl,so.us.snoc n12 hg ⟨u1,u8,u9⟩,so.sec⟩) (.inr ⟨.use false st.n u,rfl,⟨nn,zz.mem hg,u1,u8,u9⟩,C6 ok r12 zz hst hg n12⟩)
 |true=>
  obtain ⟨lo,hi,us,e,n12,hg,rfl⟩:=hO;exact q _ _ _ _ (ml3.set hsk hst kp hs' ea nk nd) (ok.set ⟨so.nm,so.wd,so.le,so.fl,so.us,fun x hx=>by cases hx;exact ⟨(so.sec _ e).1,(so.sec _ e).2.snoc n12 hg ⟨u1,u8,u9⟩⟩⟩) (.inr ⟨.use true st.n u,rfl,⟨nn,zz.mem hg,u1,u8,u9⟩,vD ok r12 zz hst e hg n12⟩)
theorem Bi {dV:Value} (F:bv K "_law_amount_text" "_law_amount_text" y9 dV f fd):bh P w K mg base bi 1 f fd ["_law_amount_here"] pq:=by
 have sc:aC ["_law_amount_here","_law_whole_here","_law_top"] ["_law_amount_here"] (aw y9):=df (by decide+kernel)
 refine F.ok sc (fun vs H Q E h=>?_) (fun cdv A outer s H vs Q E hr h=>?_)
 ·obtain ⟨_,_,rfl,_⟩:=h
  rfl
 obtain ⟨t,⟨p,b⟩,rfl,et,ag,q⟩:=h;refine ⟨_,(ac (bK 1 sc (ar bR (aj aY (pv 0) ad (fun _ _=>rfl)) (aj aY (pv 0) ad (fun _ _=>rfl)))) (ac (bK 2 sc (ar aN (aj aY (pv 0) ad (fun _ _=>rfl)) (aj aY (pv 0) ad (fun _ _=>rfl)))) (ac (aJ (av bC (pv 2) ad (aA _)) (ah (ay (aK aG rfl B.Es boot_str (@aa _ _ _ _ _ (pv 1) ae rfl)))) az) (ac (aJ (av bC (pv 1) ad (aA _)) (ah (ay (ar ao (ar ao (aK aG rfl B.Es boot_str (@aa _ _ _ _ _ (pv 2) ae rfl)) ax) (aK aG rfl B.Es boot_str (@aa _ _ _ _ _ (aj aY (pv 0) ad (fun _ _=>rfl)) ae rfl))))) az) (ah (ay (ar ao (ar ao (ar ao (ar ao (aK aG rfl B.Es boot_str (@aa _ _ _ _ _ (pv 1) ae rfl)) ax) (aK aG rfl B.Es boot_str (@aa _ _ _ _ _ (pv 2) ae rfl))) ax) (aK aG rfl B.Es boot_str (@aa _ _ _ _ _ (aj aY (pv 0) ad (fun _ _=>rfl)) ae rfl))))))))),?_⟩
 try dsimp only[cxK]
 have sl:sizeLine=16777216:=sizeLine_eq;have et2:H t=some (.tup [vN p,vN b]):=et;have b0:0<b:=ag.rd.pos;have b9:b<1000:=ag.bq;have p9:p<10^40:=ag.bp;have b0':(b:Int)≠0:=by omega
 refine ⟨_,rfl,t,_,_,_,rfl,rfl,bX.of et2,rfl,_,rfl,t,_,_,_,rfl,rfl,bX.of et2,rfl,_,_,rfl,rfl,⟨b0',DZ (by omega)⟩,?_⟩
 dsimp only[aR,aS];rw[jh];refine ⟨_,rfl,t,_,_,_,rfl,rfl,bX.of et2,rfl,_,rfl,t,_,_,_,rfl,rfl,bX.of et2,rfl,_,_,rfl,rfl,b0',?_⟩;dsimp only[aR,aS];rw[t8];have lw:p/b<10^40:=Dt (Nat.div_le_self p b) p9;have lt:p % b<1000:=DO (Nat.mod_lt p b0) b9;have lgw:((p/b:Nat):Int).natAbs.log2<1920:=lg (DO lw (by decide+kernel))
 have lgt:((p % b:Nat):Int).natAbs.log2<1920:=lg (DO lt (by decide+kernel))
 have lgb:(b:Int).natAbs.log2<1920:=lg (DO b9 (by decide+kernel))
 have l0:=cV (n:=p/b) (k:=39) lw;have l1:=cV (n:=p % b) (k:=2) lt;have l2:=cV (n:=b) (k:=2) b9;have nl:∀n:Nat,(bw n).length=(dg n).length:=fun n=>b8 _
 have ls:(Str.ofString "/").length=1:=by decide
 have lp:(Str.ofString "+").length=1:=by decide
 have ea:i4 (p,b)=bG (if p % b=0 then dg (p/b) else if p/b=0 then dg (p % b)++47::dg b else dg (p/b)++43::(dg (p % b)++47::dg b)):=rfl
 rw[ea] at q;refine ⟨_,rfl,rfl,_,rfl,j9 (fun c=>?_) fun c=>?_⟩
 ·rw[if_pos (by omega)] at q
  refine ⟨_,rfl,_,rfl,lgw,?_⟩;rw[ca];exact q
 rw[if_neg (by omega)] at q
 refine ⟨_,rfl,rfl,_,rfl,j9 (fun c2=>?_) fun c2=>?_⟩
 ·rw[if_pos (by omega)] at q
  refine ⟨_,rfl,_,rfl,lgt,?_⟩;rw[ca];refine ⟨_,_,rfl,rfl,(by rw[nl];omega),_,rfl,t,_,_,_,rfl,rfl,bX.of et2,rfl,_,rfl,lgb,?_⟩
  rw[ca];refine ⟨_,_,rfl,rfl,(by rw[Str.length_append,nl,nl];omega),?_⟩
  have e:bG (dg (p % b)++47::dg b)=bw (p % b)++Str.ofString "/" ++bw b:=by
   show _=bG (dg (p % b))++Str.ofString "/" ++bG (dg b);rw[cP,bV,bV,Da]
   rfl
  rw[e] at q;exact q
 ·rw[if_neg (by omega)] at q
  refine ⟨_,rfl,_,rfl,lgw,?_⟩;rw[ca];refine ⟨_,_,rfl,rfl,(by rw[nl];omega),_,rfl,_,rfl,lgt,?_⟩
  rw[ca];refine ⟨_,_,rfl,rfl,(by rw[Str.length_append,nl,nl];omega),_,_,rfl,rfl,(by rw[Str.length_append,Str.length_append,nl,nl];omega),_,rfl,t,_,_,_,rfl,rfl,bX.of et2,rfl,_,rfl,lgb,?_⟩
  rw[ca];refine ⟨_,_,rfl,rfl,(by rw[Str.length_append,Str.length_append,Str.length_append,nl,nl,nl];omega),?_⟩
  have e:bG (dg (p/b)++43::(dg (p % b)++47::dg b))=bw (p/b)++Str.ofString "+" ++bw (p % b)++Str.ofString "/" ++bw b:=by
   show _=bG (dg (p/b))++Str.ofString "+" ++bG (dg (p % b))++Str.ofString "/" ++bG (dg b);rw[cP,fh,bV,bV,bV,bV]
   congr 1
   simp
  rw[e] at q;exact q
theorem Bj {dV:Value} (F:bv K "_law_use_rows" "_law_use_rows" zc dV f fd):bh P w K mg base bi 1 f fd ["_law_word","_law_name","_law_uses"] gn:=by
 have sc:aC ["_law_word","_law_name","_law_uses","_law_rows","_law_tool","_law_many","_law_heat"] ["_law_word","_law_name","_law_uses"] (aw zc):=df (by decide+kernel)
 refine F.ok sc (fun vs H Q E h=>?_) (fun cdv A outer s H vs Q E hr h=>?_)
 ·obtain ⟨_,_,_,_,rfl,_⟩:=h
  rfl
 obtain ⟨w,n,u,us,rfl,⟨vs,eu,r⟩,ub,wl,nl,q⟩:=h;refine ⟨_,(ac (bK 3 sc (@aZ _ _ _ _ ae)) (ac (cF PassesOwn.never rfl (cv (pv 2)) (fG rfl (aW (eY 4 sc) (aW (eY 5 sc) (aW (eY 6 sc) dC)))) (ah (aV (bO DE DG DF a8 (pv 3) (@aa _ _ _ _ _ (ar ao (ar ao (ar ao (ar ao (ar ao (ar ao (ar ao (ar ao (pv 0) ax) (pv 1)) ax) (pv 4)) ax) (aK aG rfl B.Es boot_str (@aa _ _ _ _ _ (pv 5) ae rfl))) ax) (aK aG rfl B.Es boot_str (@aa _ _ _ _ _ (pv 6) ae rfl))) ae rfl))))) (ah (ay (pv 3))))),?_⟩;try dsimp only[cxK]
 have sl:sizeLine=16777216:=sizeLine_eq;have lu:=ub.1;have lv:=r.1;have l1:(Str.ofString " ").length=1:=by decide
 refine ⟨by show 0<=sizeLine;decide,fun rl nrl=>?_⟩
 have g1:=aq nrl (.lst []);have e1:aO H rl (.lst []) rl=some (.lst []):=af;dsimp only[aR,aS];generalize aO H rl (.lst [])=H1 at g1 e1⊢;refine cut (fun σ H'=>(∃o1 o2 o3:Option V,σ= [some (.str w),some (.str n),GT u,GT rl,o1,o2,o3])/\aH H H'/\H' rl=some (.lst ((us.map fun u=>jB (cD w n u)).map V.str))) (fun N hN=>?_) ?_
 ·refine ⟨_,rfl,u,rfl,⟨_,aE.of (g1 _ _ eu)⟩,dG (xs:=vs) (fun i σ H'=>(∃o1 o2 o3:Option V,σ= [some (.str w),some (.str n),GT u,GT rl,o1,o2,o3])/\aH H H'/\H' rl=some (.lst (((us.take i).map fun u=>jB (cD w n u)).map V.str))) ⟨⟨none,none,none,rfl⟩,g1,e1⟩ (fun i σ H' _ h=>aE.of (h.2.1 _ _ eu)) ?_ ?_⟩
  ·rintro i y σ H2 hy ⟨⟨o1,o2,o3,rfl⟩,g2,e2⟩;obtain ⟨x,hx,t,rfl,_,et⟩:=r.at_ hy;obtain ⟨nm,m1,m8,h9⟩:=ub.2 x (D5 hx);have et2:H2 t=some (.tup [.str x.1,vN x.2.1,vN x.2.2]):=g2 _ _ et;have nml:=nm.len;have il:=aU hx;have ll1:=br (n:=x.2.1) (by omega)
   have ll2:=br (n:=x.2.2) (by omega)
   refine ⟨t,_,rfl,bX.of et2,rfl,_,_,rfl,_,_,rfl,_,_,rfl,rfl,?_⟩;dsimp only[aR,aS];refine ⟨_,rfl,.inl ⟨rfl,_,aE.of e2⟩,_,rfl,_,_,rfl,rfl,by omega,_,rfl,_,_,rfl,rfl,(by rw[Str.length_append];omega),_,_,rfl,rfl,(by simp only[Str.length_append];omega),_,rfl,_,_,rfl,rfl,(by simp only[Str.length_append];omega),_,_,rfl,rfl,(by simp only[Str.length_append];omega),_,rfl,_,rfl,cJ (by omega),?_⟩
   rw[ca];refine ⟨_,_,rfl,rfl,(by simp only[Str.length_append];omega),_,_,rfl,rfl,(by simp only[Str.length_append];omega),_,rfl,_,rfl,cJ (by omega),?_⟩
   rw[ca];refine ⟨_,_,rfl,rfl,(by simp only[Str.length_append];omega),?_⟩
   rw[Ce];refine ⟨rl,_,_,rfl,rfl,e2,(by rw[D4,D4,DX];omega),⟨_,_,_,rfl⟩,fJ g2 nrl _,?_⟩
   rw[af,zr hx,kE]
   rfl
  ·rintro σ H2 ⟨h1,h2,h3⟩;rw[lv,EH] at h3;exact hN _ _ ⟨h1,h2,h3⟩
 rintro σ H2 ⟨⟨o1,o2,o3,rfl⟩,g2,e2⟩;exact ⟨_,rfl,q rl _ g2 nrl e2⟩
theorem Bk {dV:Value} (F:bv K "_law_step_rows" "_law_step_rows" ze dV f fd) (DZ54:Dx P w K mg base bi 1 "_law_amount_text" ["_law_amount_here"] [] pq) (DZ55:Dx P w K mg base bi 1 "_law_use_rows" ["_law_word","_law_name","_law_uses"] [] gn):bh P w K mg base bi 2 f fd ["_law_step_here"] iN:=by
 have sc:aC ["_law_step_here","_law_word","_law_name","_law_lengths_here","_law_fill","_law_uses","_law_second_here","_law_row_here","_law_rows"] ["_law_step_here"] (aw ze):=df (by decide+kernel)
 refine F.ok sc (fun vs H Q E h=>?_) (fun cdv A outer s H vs Q E hr h=>?_)
 ·obtain ⟨_,_,rfl,_⟩:=h
  rfl
 obtain ⟨⟨a,u,so⟩,⟨w,n,lo,hi,fl,us,sec⟩,rfl,⟨ll,f,v,ea,el,hf,hu,hs⟩,bd,q⟩:=h;refine ⟨_,(ac (i9 (pv 0) (tY rfl (aW (eY 1 sc) (aW (eY 2 sc) (aW (eY 3 sc) (aW (eY 4 sc) (aW (eY 5 sc) (aW (eY 6 sc) dC)))))))) (ac (bK 7 sc (ar ao (ar ao (ar ao (ar ao (ar ao (ar ao (pv 1) ax) (pv 2)) ax) (aK aG rfl B.Es boot_str (@aa _ _ _ _ _ (aj ai (pv 3) ad (fun _ _=>rfl)) ae rfl))) ax) (aK aG rfl B.Es boot_str (@aa _ _ _ _ _ (aj ai (pv 3) ad (fun _ _=>rfl)) ae rfl)))) (ac (aJ (av bC (pv 1) ax (aA _)) (ah (bK 7 sc (ar ao (ar ao (pv 7) ax) (b5 DZ54 hr (@aa _ _ _ _ _ (pv 4) ae rfl))))) az) (ac (bK 8 sc (ar lm (@aZ _ _ _ _ (@aa _ _ _ _ _ (pv 7) ae rfl)) (b5 DZ55 hr (@aa _ _ _ _ _ ax (@aa _ _ _ _ _ (pv 2) (@aa _ _ _ _ _ (pv 5) ae rfl) rfl) rfl)))) (ac (aJ (av iW (pv 6) bo (aA _)) (ac (aV (bO DE DG DF a8 (pv 8) (@aa _ _ _ _ _ (ar ao (ar ao (ar ao (ar ao (ar ao ax (pv 2)) ax) (aK aG rfl B.Es boot_str (@aa _ _ _ _ _ (aj ai (aj ai (pv 6) ad (fun _ _=>rfl)) ad (fun _ _=>rfl)) ae rfl))) ax) (aK aG rfl B.Es boot_str (@aa _ _ _ _ _ (aj ai (aj ai (pv 6) ad (fun _ _=>rfl)) ad (fun _ _=>rfl)) ae rfl))) ae rfl))) (ah (bK 8 sc (ar lm (pv 8) (b5 DZ55 hr (@aa _ _ _ _ _ ax (@aa _ _ _ _ _ (pv 2) (@aa _ _ _ _ _ (aj ai (pv 6) ad (fun _ _=>rfl)) ae rfl) rfl) rfl)))))) az) (ah (ay (pv 8)))))))),?_⟩
 try dsimp only[cxK]
 have sl:sizeLine=16777216:=sizeLine_eq;dsimp only at ea el hf hu hs;have nmn:Nm n:=bd.nm;have nl12:=nmn.len;have wl:w.length<=12:=bd.wd.len;have hle:ju lo hi:=bd.le;obtain ⟨h1,h2,h3⟩:=hle;have ub:xN us:=bd.us;have lub:=ub.1;have l1:(Str.ofString " ").length=1:=by decide
 have ll1:=br (n:=lo) (by omega)
 have ll2:=br (n:=hi) (by omega)
 have el':H ll=some (.lst [vN lo,vN hi]):=el;refine ⟨_,rfl,a,_,rfl,aE.of ea,rfl,_,_,rfl,_,_,rfl,_,_,rfl,_,_,rfl,_,_,rfl,_,_,rfl,rfl,?_⟩;dsimp only[aR,aS];refine ⟨_,rfl,_,_,rfl,rfl,by omega,_,rfl,_,_,rfl,rfl,(by rw[Str.length_append];omega),_,_,rfl,rfl,(by simp only[Str.length_append];omega),_,rfl,ll,_,_,_,rfl,rfl,aE.of el',rfl,_,rfl,cJ (by omega),?_⟩
 rw[ca];refine ⟨_,_,rfl,rfl,(by simp only[Str.length_append];omega),_,_,rfl,rfl,(by simp only[Str.length_append];omega),_,rfl,ll,_,_,_,rfl,rfl,aE.of el',rfl,_,rfl,cJ (by omega),?_⟩
 rw[ca];refine ⟨_,_,rfl,rfl,(by simp only[Str.length_append];omega),?_⟩
 rw[Al];have jl:(jB [w,n,bw lo,bw hi]).length<=400:=dE (fun z hz=>by
  simp only[D2,D6,or_false] at hz;rcases hz with rfl|rfl|rfl|rfl<;>omega) (by show 4<=6;decide)
 dsimp only[aR,aS];refine cut (fun σ H'=>σ= [GT a,some (.str w),some (.str n),GT ll,some f,GT u,some v,some (.str (jB (gH ⟨w,n,lo,hi,fl,us,sec⟩))),none]/\H=H') (fun N hN=>?_) ?_
 ·refine ⟨_,rfl,rfl,_,rfl,kv (fun e=>?_) fun e=>?_⟩
  ·match fl,bd.fl,hf with
   |none,z,_=>exact absurd e z
   |some am,⟨_,ag⟩,⟨t,e1,e2⟩=>
    subst e1;have al:=dW ag;refine ⟨_,rfl,_,_,rfl,rfl,by omega,_,rfl,t,am,rfl,e2,ag,_,_,rfl,rfl,(by rw[Str.length_append];omega),hN _ _ ⟨?_,rfl⟩⟩
    rw[ig (by simp)]
    rfl
  ·match fl,bd.fl with
   |some am,z=>exact absurd z.1 e
   |none,_=>exact hN _ _ ⟨rfl,rfl⟩
 rintro σ _ ⟨rfl,rfl⟩;have z4:=iO bd;generalize hrw:jB (gH ⟨w,n,lo,hi,fl,us,sec⟩)=z0 at z4⊢;refine ⟨_,rfl,by show 1<=sizeLine;decide,fun d nd=>?_⟩
 have g1:=aq nd (.lst [.str z0]);refine ⟨_,rfl,_,rfl,Str.ofString "with",n,u,us,rfl,hu.same g1,ub,by decide,nl12,fun l5 H5 g5 nl5 e5=>?_⟩
 have g15:=g1.trans g5;refine ⟨d,l5,_,_,rfl,rfl,g5 _ _ af,e5,(by rw[D4,D4];show 1+_<=_;omega),fun rl nrl=>?_⟩
 obtain ⟨rs,hrs⟩:∃rs:GO,rs=z0::us.map fun u=>jB (cD "with" n u):=⟨_,rfl⟩
 have lrs:rs.length<=13:=by rw[hrs];simp;omega
 have er: [V.str z0]++(us.map fun u=>jB (cD "with" n u)).map V.str=rs.map V.str:=by rw[hrs];rfl
 rw[er];have g6:=g15.trans (aq nrl (.lst (rs.map V.str)));have e6:aO H5 rl (.lst (rs.map V.str)) rl=some (.lst (rs.map V.str)):=af;have nrl0:=g15.free nrl;dsimp only[aR,aS];generalize aO H5 rl (.lst (rs.map V.str))=H6 at g6 e6⊢
 match so,sec,hs,bd.sec,q with
 |none,none,hs,_,q=>
  have hs:v= .non:=hs;subst hs;refine ⟨_,rfl,rfl,_,rfl,nF rfl ⟨_,rfl,q rl _ g6 nrl0 ?_⟩⟩;rw[e6,hrs,<-hrw];simp[aT,du]
 |some (b,u2),some (lo2,hi2,us2),⟨l2,e1,e2,e3,e4⟩,bs,q=>
  subst e1;obtain ⟨⟨k1,k2,k3⟩,ub2⟩:=bs _ rfl;dsimp only at k1 k2 k3 ub2;have lub2:=ub2.1;have mm1:=br (n:=lo2) (by omega)
  have mm2:=br (n:=hi2) (by omega)
  have l3:(Str.ofString "or ").length=3:=by decide
  have e26:=g6 _ _ e2;have e36:H6 l2=some (.lst [vN lo2,vN hi2]):=g6 _ _ e3;refine ⟨_,rfl,rfl,_,rfl,nT (fun z=>nomatch z) ?_⟩
  refine ⟨_,rfl,.inl ⟨rfl,_,aE.of e6⟩,_,rfl,_,_,rfl,rfl,by omega,_,_,rfl,rfl,(by rw[Str.length_append];omega),_,rfl,b,_,_,_,rfl,rfl,aE.of e26,rfl,l2,_,_,_,rfl,rfl,aE.of e36,rfl,_,rfl,cJ (by omega),?_⟩
  rw[ca];refine ⟨_,_,rfl,rfl,(by simp only[Str.length_append];omega),_,_,rfl,rfl,(by simp only[Str.length_append];omega),_,rfl,b,_,_,_,rfl,rfl,aE.of e26,rfl,l2,_,_,_,rfl,rfl,aE.of e36,rfl,_,rfl,cJ (by omega),?_⟩
  rw[ca];refine ⟨_,_,rfl,rfl,(by simp only[Str.length_append];omega),?_⟩
  rw[tZ];refine ⟨rl,_,_,rfl,rfl,e6,(by rw[D4];omega),?_⟩
  have g7:=fJ g6 nrl0 (.lst (rs.map V.str++ [.str (jB ["or",n,bw lo2,bw hi2])]));have e7:aO H6 rl (.lst (rs.map V.str++ [.str (jB ["or",n,bw lo2,bw hi2])])) rl=some (.lst ((rs++ [jB ["or",n,bw lo2,bw hi2]]).map V.str)):=by rw[af,kE]
  dsimp only[aR,aS];generalize aO H6 rl (.lst (rs.map V.str++ [.str (jB ["or",n,bw lo2,bw hi2])]))=H7 at g7 e7⊢;refine ⟨_,rfl,_,rfl,_,rfl,b,_,_,_,rfl,rfl,aE.of (g7 _ _ e2),rfl,Str.ofString "orwith",n,u2,us2,rfl,e4.same g7,ub2,by decide,nl12,fun l8 H8 g8 nl8 e8=>?_⟩
  have g78:=g7.trans g8;refine ⟨rl,l8,_,_,rfl,rfl,g8 _ _ e7,e8,(by rw[D4,D4,D4,DB];show _+1+_<=_;omega),fun p np=>⟨_,rfl,q p _ (g78.trans (aq np _)) (g78.free np) ?_⟩⟩
  rw[af,hrs,<-hrw];simp[aT,du,eE]
theorem Bl {dV:Value} (F:bv K "_law_written" "_law_written" zf dV f fd) (DZ54:Dx P w K mg base bi 1 "_law_amount_text" ["_law_amount_here"] [] pq) (DZ56:Dx P w K mg base bi 2 "_law_step_rows" ["_law_step_here"] [] iN):bh P w K mg base bi 3 f fd ["_law_head","_law_model"] kC:=by
 have sc:aC ["_law_head","_law_model","_law_rows","_law_good","_law_amount_here","_law_step_here","_law_word","_law_at","_law_other","_law_turns","_law_row_here"] ["_law_head","_law_model"] (aw zf):=df (by decide+kernel)
 refine F.ok sc (fun vs H Q E h=>?_) (fun cdv A outer s H vs Q E hr h=>?_)
 ·obtain ⟨_,_,_,_,_,_,_,_,rfl,_⟩:=h
  rfl
 obtain ⟨G,h0,m,lt,ls,lk,ks,M,rfl,ml,bd,q⟩:=h;refine ⟨_,(ac (bK 2 sc (@aZ _ _ _ _ (@aa _ _ _ _ _ (pv 0) ae rfl))) (ac (cF PassesOwn.never rfl (cv (aj ai (pv 1) ad (fun _ _=>rfl))) (fG rfl (aW (eY 3 sc) (aW (eY 4 sc) dC))) (ah (aV (bO DE DG DF a8 (pv 2) (@aa _ _ _ _ _ (ar ao (ar ao (ar ao ax (pv 3)) ax) (b5 DZ54 hr (@aa _ _ _ _ _ (pv 4) ae rfl))) ae rfl))))) (ac (cF PassesOwn.never rfl (cv (aj ai (pv 1) ad (fun _ _=>rfl))) (eY 5 sc) (ah (bK 2 sc (ar lm (pv 2) (b5 DZ56 hr (@aa _ _ _ _ _ (pv 5) ae rfl)))))) (ac (cF PassesOwn.never rfl (cv (aj ai (pv 1) ad (fun _ _=>rfl))) (fG rfl (aW (eY 6 sc) (aW (eY 7 sc) (aW (eY 8 sc) (aW (eY 9 sc) dC))))) (ac (bK 10 sc (ar ao (ar ao (ar ao (ar ao (pv 6) ax) (aj ai (aj ai (aj ai (pv 1) ad (fun _ _=>rfl)) (pv 7) (fun _ _=>rfl)) ad (fun _ _=>rfl))) ax) (aj ai (aj ai (aj ai (pv 1) ad (fun _ _=>rfl)) (pv 8) (fun _ _=>rfl)) ad (fun _ _=>rfl)))) (ac (aJ (av bC (pv 6) ax (aA _)) (ah (bK 10 sc (ar ao (ar ao (pv 10) ax) (aK aG rfl B.Es boot_str (@aa _ _ _ _ _ (pv 9) ae rfl))))) az) (ah (aV (bO DE DG DF a8 (pv 2) (@aa _ _ _ _ _ (pv 10) ae rfl))))))) (ah (ay (pv 2))))))),?_⟩
 try dsimp only[cxK]
 have sl:sizeLine=16777216:=sizeLine_eq;obtain ⟨vt,et,rt⟩:=id ml.et;obtain ⟨vk,ek,rk⟩:=id ml.ek;have es:=ml.es;have lks:=ml.len;have lkm:(ks.map fun x=>V.ref x.a).length=M.steps.length:=by rw[D4];exact lks
 have lt12:=rt.1;have lk12:=rk.1;have t12:=bd.t12;have s12:=bd.s12;have k24:=bd.k24;have fl26:=(gu bd.ss).2;have l1:(Str.ofString " ").length=1:=by decide
 have l5:(Str.ofString "take ").length=5:=by decide
 refine ⟨_,rfl,by show 1<=sizeLine;decide,fun rl nrl0=>?_⟩
 have g3:=aq nrl0 (.lst [.str h0]);have e3:aO H rl (.lst [.str h0]) rl=some (.lst ([h0].map V.str)):=af;dsimp only[aR,aS];generalize aO H rl (.lst [.str h0])=H3 at g3 e3⊢;refine cut (fun σ H'=>(∃o1 o2:Option V,σ= [some (.str h0),GT m,GT rl,o1,o2,none,none,none,none,none,none])/\aH H H'/\H' rl=some (.lst ((h0::M.takes.map cS).map V.str))) (fun N hN=>?_) ?_
 ·refine ⟨_,rfl,m,_,_,_,rfl,rfl,aE.of (g3 _ _ ml.em),rfl,lt,rfl,⟨_,aE.of (g3 _ _ et)⟩,dG (xs:=vt) (fun i σ H'=>(∃o1 o2:Option V,σ= [some (.str h0),GT m,GT rl,o1,o2,none,none,none,none,none,none])/\aH H H'/\H' rl=some (.lst ((h0::(M.takes.take i).map cS).map V.str))) ⟨⟨none,none,rfl⟩,g3,e3⟩ (fun i σ H' _ h=>aE.of (h.2.1 _ _ et)) ?_ ?_⟩
  ·rintro i y σ H4 hy ⟨⟨o1,o2,rfl⟩,g4,e4⟩;obtain ⟨x,hx,t,b,rfl,_,_,et',eb⟩:=rt.at_ hy;obtain ⟨nx,ag⟩:=bd.ts x (D5 hx);have il:=aU hx;have xl:=nx.len;have al:=dW ag;refine ⟨t,_,rfl,bX.of (g4 _ _ et'),rfl,_,_,rfl,_,_,rfl,rfl,?_⟩;dsimp only[aR,aS];refine ⟨_,rfl,.inl ⟨rfl,_,aE.of e4⟩,_,rfl,_,_,rfl,rfl,by omega,_,_,rfl,rfl,(by rw[Str.length_append];omega),_,rfl,b,x.2,rfl,g4 _ _ eb,ag,_,_,rfl,rfl,(by simp only[Str.length_append];omega),?_⟩
   rw[nG];refine ⟨rl,_,_,rfl,rfl,e4,(by rw[D4,DD,D4,DX];omega),⟨_,_,rfl⟩,fJ g4 nrl0 _,?_⟩
   rw[af,zr hx,kE]
   rfl
  ·rintro σ H4 ⟨h1,h2,h3⟩;rw[lt12,EH] at h3;exact hN _ _ ⟨h1,h2,h3⟩
 rintro σ H4 ⟨⟨o1,o2,rfl⟩,g4,e4⟩;clear e3 g3;refine cut (fun σ H'=>∃rl:Addr,H rl=none/\(∃o1 o2 o3:Option V,σ= [some (.str h0),GT m,GT rl,o1,o2,o3,none,none,none,none,none])/\aH H H'/\H' rl=some (.lst ((h0::M.takes.map cS++(M.steps.map aT).flatten).map V.str))) (fun N hN=>?_) ?_
 ·refine ⟨_,rfl,m,_,_,_,rfl,rfl,aE.of (g4 _ _ ml.em),rfl,ls,rfl,⟨_,aE.of (g4 _ _ es)⟩,dG (xs:=ks.map fun x=>V.ref x.a) (fun i σ H'=>∃rl:Addr,H rl=none/\(∃o1 o2 o3:Option V,σ= [some (.str h0),GT m,GT rl,o1,o2,o3,none,none,none,none,none])/\aH H H'/\H' rl=some (.lst ((h0::M.takes.map cS++((M.steps.take i).map aT).flatten).map V.str))) ⟨rl,nrl0,⟨_,_,none,rfl⟩,g4,by rw[List.take_zero,Du,EW,EF];exact e4⟩ (fun i σ H' _ h=>by obtain ⟨_,_,_,g,_⟩:=h;exact aE.of (g _ _ es)) ?_ ?_⟩
  ·rintro i y σ H5 hy ⟨rl,nrl,⟨o1,o2,o3,rfl⟩,g5,e5⟩;rw[DA] at hy;obtain ⟨k,hk,rfl⟩:=DV.mp hy;have il:=aU hk;obtain ⟨x,hx⟩:∃x,M.steps[i]?=some x:=⟨_,D1 (by omega)⟩
   have sb:=bd.ss x (D5 hx);have fl:=(gu (ss:=M.steps.take i) fun s hs=>bd.ss s (List.mem_of_mem_take hs)).2
   have sr:=(fv sb).2;rw[DX] at fl;refine ⟨_,rfl,_,rfl,k,x,rfl,(ml.ss i k x hk hx).same g5,sb,fun l H6 g6 nl e6=>?_⟩
   have g56:=g5.trans g6;refine ⟨rl,l,_,_,rfl,rfl,g6 _ _ e5,e6,(by rw[D4,D4,DB,DD,D4];omega),fun p np=>⟨p,g56.free np,⟨_,_,_,rfl⟩,g56.trans (aq np _),?_⟩⟩
   rw[af,CI hx,nD,Da]
  ·rintro σ H5 ⟨rl,nrl,h1,h2,h3⟩;rw[lkm,EH] at h3;exact hN _ _ ⟨rl,nrl,h1,h2,h3⟩
 rintro σ H5 ⟨rl,nrl,⟨o1,o2,o3,rfl⟩,g5,e5⟩;clear e4 g4 nrl0;refine cut (fun σ H'=>(∃o1 o2 o3 o4 o5 o6 o7 o8:Option V,σ= [some (.str h0),GT m,GT rl,o1,o2,o3,o4,o5,o6,o7,o8])/\aH H H'/\H' rl=some (.lst ((h0::M.takes.map cS++(M.steps.map aT).flatten++M.links.map (cQ M.steps)).map V.str))) (fun N hN=>?_) ?_
 ·refine ⟨_,rfl,m,_,_,_,rfl,rfl,aE.of (g5 _ _ ml.em),rfl,lk,rfl,⟨_,aE.of (g5 _ _ ek)⟩,dG (xs:=vk) (fun i σ H'=>(∃o1 o2 o3 o4 o5 o6 o7 o8:Option V,σ= [some (.str h0),GT m,GT rl,o1,o2,o3,o4,o5,o6,o7,o8])/\aH H H'/\H' rl=some (.lst ((h0::M.takes.map cS++(M.steps.map aT).flatten++(M.links.take i).map (cQ M.steps)).map V.str))) ⟨⟨_,_,_,none,none,none,none,none,rfl⟩,g5,by rw[List.take_zero,Du,EF];exact e5⟩ (fun i σ H' _ h=>aE.of (h.2.1 _ _ ek)) ?_ ?_⟩
  ·rintro i y σ H6 hy ⟨⟨o1,o2,o3,o4,o5,o6,o7,o8,rfl⟩,g6,e6⟩;obtain ⟨⟨w,a,b,tn⟩,hx,t,rfl,_,et'⟩:=rk.at_ hy;have il:=aU hx;have ok:=bd.ks _ (D5 hx);have la:a<M.steps.length:=ok.a;have lb:b<M.steps.length:=ok.b;have wl:w.length<=12:=ok.w.len;have tl:tn<=100000:=ok.t;have et6:H6 t=some (.tup [.str w,vN a,vN b,vN tn]):=g6 _ _ et';obtain ⟨sa,hsa⟩:∃sa,M.steps[a]?=some sa:=⟨_,D1 la⟩;obtain ⟨sb,hsb⟩:∃sb,M.steps[b]?=some sb:=⟨_,D1 lb⟩;obtain ⟨ska,hka⟩:∃sa,ks[a]?=some sa:=⟨_,D1 (by omega)⟩
   obtain ⟨skb,hkb⟩:∃sb,ks[b]?=some sb:=⟨_,D1 (by omega)⟩
   obtain ⟨_,_,_,ea6,_⟩:=(ml.ss a _ _ hka hsa).same g6;obtain ⟨_,_,_,eb6,_⟩:=(ml.ss b _ _ hkb hsb).same g6;have nal:=(bd.ss _ (D5 hsa)).nm.len;have nbl:=(bd.ss _ (D5 hsb)).nm.len;have ata:ir (ks.map fun x=>V.ref x.a) (a:Int)=some (.ref ska.a):=aD (by rw[DA,hka];rfl)
   have atb:ir (ks.map fun x=>V.ref x.a) (b:Int)=some (.ref skb.a):=aD (by rw[DA,hkb];rfl)
   have em6:=g6 _ _ ml.em;have es6:=g6 _ _ es;have ll1:=br (n:=tn) (by omega)
   have elk:cQ M.steps (w,a,b,tn)=jB (cK w sa.n sb.n tn):=by
    unfold cQ;rw[bP hsa,bP hsb]
   refine ⟨t,_,rfl,bX.of et6,rfl,_,_,rfl,_,_,rfl,_,_,rfl,_,_,rfl,rfl,?_⟩;dsimp only[aR,aS];refine ⟨_,rfl,_,_,rfl,rfl,by omega,_,rfl,m,_,_,_,rfl,rfl,aE.of em6,rfl,_,rfl,ls,_,_,_,rfl,rfl,aE.of es6,ata,ska.a,_,_,_,rfl,rfl,aE.of ea6,rfl,_,_,rfl,rfl,(by rw[Str.length_append];omega),_,_,rfl,rfl,(by simp only[Str.length_append];omega),_,rfl,m,_,_,_,rfl,rfl,aE.of em6,rfl,_,rfl,ls,_,_,_,rfl,rfl,aE.of es6,atb,skb.a,_,_,_,rfl,rfl,aE.of eb6,rfl,_,_,rfl,rfl,(by simp only[Str.length_append];omega),?_⟩
   rw[Ao];have jl:(jB [w,sa.n,sb.n]).length<=400:=dE (fun z hz=>by
    simp only[D2,D6,or_false] at hz;rcases hz with rfl|rfl|rfl<;>omega) (by show 3<=6;decide)
   dsimp only[aR,aS];refine cut (fun σ H'=>σ= [some (.str h0),GT m,GT rl,o1,o2,o3,some (.str w),some (vN a),some (vN b),some (vN tn),some (.str (cQ M.steps (w,a,b,tn)))]/\H6=H') (fun N hN=>?_) ?_
   ·refine ⟨_,rfl,rfl,_,rfl,kv (fun e=>?_) fun e=>hN _ _ ⟨?_,rfl⟩⟩
    ·refine ⟨_,rfl,_,_,rfl,rfl,(by rw[l1];omega),_,rfl,_,rfl,cJ (by omega),?_⟩
     rw[ca];refine ⟨_,_,rfl,rfl,(by rw[Str.length_append,l1];omega),hN _ _ ⟨?_,rfl⟩⟩
     rw[ig (by simp)]
     have e5:cQ M.steps (w,a,b,tn)=jB ([w,sa.n,sb.n]++ [bw tn]):=by
      rw[elk];unfold cK;rw[if_pos e]
     rw[e5]
     rfl
    ·have e5:cQ M.steps (w,a,b,tn)=jB [w,sa.n,sb.n]:=by
      rw[elk];unfold cK;rw[if_neg e,EF]
     rw[e5]
     rfl
   rintro σ _ ⟨rfl,rfl⟩;refine ⟨_,rfl,.inl ⟨rfl,_,aE.of e6⟩,_,rfl,rl,_,_,rfl,rfl,e6,(by rw[D4,DB,DB,DD,D4,D4,DX];omega),⟨_,_,_,_,_,_,_,_,rfl⟩,fJ g6 nrl _,?_⟩
   rw[af,zr hx,kE,Da]
  ·rintro σ H6 ⟨h1,h2,h3⟩;rw[lk12,EH] at h3;exact hN _ _ ⟨h1,h2,h3⟩
 rintro σ H6 ⟨⟨o1,o2,o3,o4,o5,o6,o7,o8,rfl⟩,g6,e6⟩;exact ⟨_,rfl,q rl _ g6 nrl e6⟩
theorem Bm {dV:Value} (F:bv K "_law_step_same" "_law_step_same" zg dV f fd) (DZ33:mT P w K mg base bi 1 FM ["self"] [] (fj "cut")) (DZ34:mT P w K mg base bi 1 FL ["self"] [] (fj "warm")) (DZ35:mT P w K mg base bi 1 FK ["self"] [] (fj "rest")) (DZ42:Dx P w K mg base bi 1 "_law_whole" ["_law_found"] [] gP):bh P w K mg base bi 2 f fd ["_law_found","_law_due"] (jI Ef Ee on):=by
 have sc:aC ["_law_found","_law_due","_law_word","_law_name","_law_lengths_here","_law_fill","_law_uses","_law_second_here","_law_kinds"] ["_law_found","_law_due"] (aw zg):=df (by decide+kernel)
 refine F.ok sc (fun vs H Q E h=>?_) (fun cdv A outer s H vs Q E hr h=>?_)
 ·obtain ⟨_,_,_,rfl,_⟩:=h
  rfl
 obtain ⟨x,⟨a,u,so⟩,⟨w,n,lo,hi,fl,us,sec⟩,rfl,⟨C,dx,xu,sv,ff,ex,hC,sf,hfF,hxu,hsv⟩,⟨ll,f,v,ea,el,hf,hu,hs⟩,wd,fo,q⟩:=h;refine ⟨_,(ac (i9 (pv 1) (tY rfl (aW (eY 2 sc) (aW (eY 3 sc) (aW (eY 4 sc) (aW (eY 5 sc) (aW (eY 6 sc) (aW (eY 7 sc) dC)))))))) (ac (bK 8 sc (@aZ _ _ _ _ (@aa _ _ _ _ _ (aI (dY (K:=K) rfl) rfl B.Eg boot_isinstance (@aa _ _ _ _ _ (pv 0) (@aa _ _ _ _ _ (cf (v:=V.ref Ef) rfl B.GC rfl) ae rfl) rfl)) (@aa _ _ _ _ _ (aI (dY (K:=K) rfl) rfl B.Eg boot_isinstance (@aa _ _ _ _ _ (pv 0) (@aa _ _ _ _ _ (cf (v:=V.ref Ee) rfl B.Gv rfl) ae rfl) rfl)) (@aa _ _ _ _ _ (aI (dY (K:=K) rfl) rfl B.Eg boot_isinstance (@aa _ _ _ _ _ (pv 0) (@aa _ _ _ _ _ (cf (v:=V.ref on) rfl B.Gi rfl) ae rfl) rfl)) ae rfl) rfl) rfl))) (ac (aJ (PW.pt (bU (bW (bS (aI (dY (K:=K) rfl) rfl B.Eg boot_isinstance (@aa _ _ _ _ _ (pv 0) (@aa _ _ _ _ _ (cf (v:=V.ref Fe) rfl B.Gu rfl) ae rfl) rfl)))) (bM (av (sR hr.units0) (pv 8) (@aZ _ _ _ _ (@aa _ _ _ _ _ (eI bC (pv 2) ax (aA _)) (@aa _ _ _ _ _ (eI bC (pv 2) ax (aA _)) (@aa _ _ _ _ _ (eI bC (pv 2) ax (aA _)) ae rfl) rfl) rfl)) (aA _))))) (ah (ay di)) az) (ac (aJ (PW.pt (bU (bW (bS (aI (bZ (K:=K) rfl) rfl B.Eg boot_isinstance (@aa _ _ _ _ _ (aL (pv 0) rfl) (@aa _ _ _ _ _ (b6 (v:= .ty "str") rfl B.Es boot_str rfl) ae rfl) rfl)))) (bU (av eP (aL (pv 0) rfl) (pv 3) (aA _)) (bM (av eP (fX (iB (pv 0) DZ33 hr (by decide)) (fX (iB (pv 0) DZ34 hr (by decide)) (iB (pv 0) DZ35 hr (by decide)))) (pv 2) (aA _)))))) (ah (ay di)) az) (ac (aJ (PW.pt (bU (bW (bS (b5 DZ42 hr (@aa _ _ _ _ _ (aL (pv 0) rfl) ae rfl)))) (bU (bW (bS (b5 DZ42 hr (@aa _ _ _ _ _ (aL (pv 0) rfl) ae rfl)))) (bM (av (sR hr.units0) (@aZ _ _ _ _ (@aa _ _ _ _ _ (aL (pv 0) rfl) (@aa _ _ _ _ _ (aL (pv 0) rfl) ae rfl) rfl)) (pv 4) (aA _)))))) (ah (ay di)) az) (ac (aJ (PW.pt (n9 (av bC (pv 2) ax (aA _)) (kY (PW.pt (bU (bW (bS (aI (bZ (K:=K) rfl) rfl B.Eg boot_isinstance (@aa _ _ _ _ _ (aL (pv 0) rfl) (@aa _ _ _ _ _ (b6 (v:= .ty "tuple") rfl B.Gk boot_tuple rfl) ae rfl) rfl)))) (bM (av (vy 0 (DO (Eb (by decide:0+1<64) _) hr.units)) (aL (pv 0) rfl) (pv 5) (aA _)))))))) (ah (ay di)) az) (ac (aJ (PW.pt (bU (bW (bS (aI (bZ (K:=K) rfl) rfl B.Eg boot_isinstance (@aa _ _ _ _ _ (aL (pv 0) rfl) (@aa _ _ _ _ _ (b6 (v:= .ty "list") rfl B.Fy boot_list rfl) ae rfl) rfl)))) (bM (av (ph 1 (DO (Eb (by decide:1+1<64) _) hr.units)) (aL (pv 0) rfl) (pv 6) (aA _))))) (ah (ay di)) az) (ac (aJ (av cG (pv 7) bo (aA _)) (ah (ay (eI cG (aL (pv 0) rfl) bo (aA _)))) az) (ah (ay (oh (aI (bZ (K:=K) rfl) rfl B.Eg boot_isinstance (@aa _ _ _ _ _ (aL (pv 0) rfl) (@aa _ _ _ _ _ (b6 (v:= .ty "tuple") rfl B.Gk boot_tuple rfl) ae rfl) rfl)) (og (eI (vx 2 (DO (Eb (by decide:2+1<64) _) hr.units)) (aL (pv 0) rfl) (@cH _ _ _ _ _ (@aa _ _ _ _ _ (aj ai (aj ai (pv 7) ad (fun _ _=>rfl)) ad (fun _ _=>rfl)) (@aa _ _ _ _ _ (aj ai (aj ai (pv 7) ad (fun _ _=>rfl)) ad (fun _ _=>rfl)) (@aa _ _ _ _ _ (aj ai (pv 7) ad (fun _ _=>rfl)) ae rfl) rfl) rfl)) (aA _)))))))))))))),?_⟩
 try dsimp only[cxK]
 have sl:sizeLine=16777216:=sizeLine_eq;have scOf:∀{w:Str} {C:Addr},iM Ef Ee on w C->fD K C:=fun h=>by
  rcases h with ⟨_,rfl⟩|⟨_,rfl⟩|⟨_,rfl⟩
  ·exact ⟨B.Fo,B.Fh,B.Fc,B.Fi,B.Fg,B.Ep⟩
  ·exact ⟨B.Fl,B.Fa,B.Eo,B.Fb,B.Ez,B.Em⟩
  ·exact ⟨B.Fj,B.Ex,B.En,B.Ey,B.Ew,B.El⟩
 dsimp only at ea el hf hu hs ex hC sf hfF hxu hsv wd fo;have el':H ll=some (.lst [vN lo,vN hi]):=el;have sc0:=scOf hC;refine ⟨_,rfl,a,_,rfl,aE.of ea,rfl,_,_,rfl,_,_,rfl,_,_,rfl,_,_,rfl,_,_,rfl,_,_,rfl,rfl,?_⟩;dsimp only[aR,aS];refine cut (fun σ H'=>∃kl,σ= [GT x,GT a,some (.str w),some (.str n),GT ll,some f,GT u,some v,GT kl]/\aH H H'/\H' kl=some (.lst (rQ w))) (fun N hN=>?_) ?_
 ·rcases hC with ⟨rfl,rfl⟩|⟨rfl,rfl⟩|⟨rfl,rfl⟩
  ·refine ⟨_,rfl,_,_,_,true,rfl,.ins ex B.Fo B.Fm.ha B.Fm.hn B.Fm.htk B.Fm.hm,B.Gd,_,rfl,_,_,_,false,rfl,.ins ex B.Fo B.Fm.ha B.Fm.hn B.Fm.htk B.Fm.hm,B.F6,_,rfl,_,_,_,false,rfl,.ins ex B.Fo B.Fm.ha B.Fm.hn B.Fm.htk B.Fm.hm,B.FJ,by show 3<=sizeLine;decide,fun kl nkl=>hN _ _ ⟨kl,rfl,aq nkl _,?_⟩⟩
   rw[af,yi]
  ·refine ⟨_,rfl,_,_,_,false,rfl,.ins ex B.Fl B.Eu.ha B.Eu.hn B.Eu.htk B.Eu.hm,B.F4,_,rfl,_,_,_,true,rfl,.ins ex B.Fl B.Eu.ha B.Eu.hn B.Eu.htk B.Eu.hm,B.FY,_,rfl,_,_,_,false,rfl,.ins ex B.Fl B.Eu.ha B.Eu.hn B.Eu.htk B.Eu.hm,B.FE,by show 3<=sizeLine;decide,fun kl nkl=>hN _ _ ⟨kl,rfl,aq nkl _,?_⟩⟩
   rw[af,v7]
  ·refine ⟨_,rfl,_,_,_,false,rfl,.ins ex B.Fj B.Et.ha B.Et.hn B.Et.htk B.Et.hm,B.F3,_,rfl,_,_,_,false,rfl,.ins ex B.Fj B.Et.ha B.Et.hn B.Et.htk B.Et.hm,B.FW,_,rfl,_,_,_,true,rfl,.ins ex B.Fj B.Et.ha B.Et.hn B.Et.htk B.Et.hm,B.FD,by show 3<=sizeLine;decide,fun kl nkl=>hN _ _ ⟨kl,rfl,aq nkl _,?_⟩⟩
   rw[af,v8]
 rintro σ H1 ⟨kl,rfl,g1,ekl⟩;have ex1:=g1 _ _ ex;refine cut (fun σ H'=>σ= [GT x,GT a,some (.str w),some (.str n),GT ll,some f,GT u,some v,GT kl]/\aH H H') (fun N hN=>?_) ?_
 ·rcases hC with ⟨rfl,rfl⟩|⟨rfl,rfl⟩|⟨rfl,rfl⟩
  ·refine ⟨_,rfl,_,_,_,true,rfl,.ins ex1 B.Fo B.Fm.ha B.Fm.hn B.Fm.htk B.Fm.hm,B.F5,_,rfl,cq ⟨_,rfl,_,rfl,rfl,_,rfl,rfl,_,rfl,rfl,by show 3<=sizeLine;decide,fun l nl=>⟨kl,l,rQ "cut",rfl,rfl,aE.of ((aq nl _) _ _ ekl),aE.of af,pJ _,_,rfl,cq (hN _ _ ⟨rfl,g1.trans (aq nl _)⟩)⟩⟩⟩
  ·refine ⟨_,rfl,_,_,_,true,rfl,.ins ex1 B.Fl B.Eu.ha B.Eu.hn B.Eu.htk B.Eu.hm,B.FX,_,rfl,cq ⟨_,rfl,_,rfl,rfl,_,rfl,rfl,_,rfl,rfl,by show 3<=sizeLine;decide,fun l nl=>⟨kl,l,rQ "rest",rfl,rfl,aE.of ((aq nl _) _ _ ekl),aE.of af,pJ _,_,rfl,cq (hN _ _ ⟨rfl,g1.trans (aq nl _)⟩)⟩⟩⟩
  ·refine ⟨_,rfl,_,_,_,true,rfl,.ins ex1 B.Fj B.Et.ha B.Et.hn B.Et.htk B.Et.hm,B.FV,_,rfl,cq ⟨_,rfl,_,rfl,rfl,_,rfl,rfl,_,rfl,rfl,by show 3<=sizeLine;decide,fun l nl=>⟨kl,l,rQ "warm",rfl,rfl,aE.of ((aq nl _) _ _ ekl),aE.of af,pJ _,_,rfl,cq (hN _ _ ⟨rfl,g1.trans (aq nl _)⟩)⟩⟩⟩
 rintro σ H2 ⟨rfl,g2⟩;have ex2:=g2 _ _ ex;refine cut (fun σ H'=>σ= [GT x,GT a,some (.str w),some (.str n),GT ll,some f,GT u,some v,GT kl]/\H2=H') (fun N hN=>?_) ?_
 ·rcases hC with ⟨rfl,rfl⟩|⟨rfl,rfl⟩|⟨rfl,rfl⟩
  ·exact ⟨_,rfl,x,C,dx,ff,_,rfl,ex2,sc0.cl,sc0.name,sf.name,_,_,_,true,rfl,.str _,rfl,_,rfl,cq ⟨_,rfl,x,C,dx,ff,_,rfl,ex2,sc0.cl,sc0.name,sf.name,_,rfl,rfl,_,rfl,nF rfl (.inl ⟨_,rfl,x,_,dx,ff,rfl,ex2,B.Fo,B.Gs,sf.word,_,rfl,_,rfl,rfl,_,rfl,nF rfl (hN _ _ ⟨rfl,rfl⟩)⟩)⟩⟩
  ·exact ⟨_,rfl,x,C,dx,ff,_,rfl,ex2,sc0.cl,sc0.name,sf.name,_,_,_,true,rfl,.str _,rfl,_,rfl,cq ⟨_,rfl,x,C,dx,ff,_,rfl,ex2,sc0.cl,sc0.name,sf.name,_,rfl,rfl,_,rfl,nF rfl (.inr (.inr ⟨_,rfl,x,_,dx,ff,rfl,ex2,B.Fl,B.Gq,sf.word,_,rfl,_,rfl,rfl,_,rfl,nF rfl (hN _ _ ⟨rfl,rfl⟩)⟩))⟩⟩
  ·exact ⟨_,rfl,x,C,dx,ff,_,rfl,ex2,sc0.cl,sc0.name,sf.name,_,_,_,true,rfl,.str _,rfl,_,rfl,cq ⟨_,rfl,x,C,dx,ff,_,rfl,ex2,sc0.cl,sc0.name,sf.name,_,rfl,rfl,_,rfl,nF rfl (.inr (.inl ⟨_,rfl,x,_,dx,ff,rfl,ex2,B.Fj,B.Gr,sf.word,_,rfl,_,rfl,rfl,_,rfl,nF rfl (hN _ _ ⟨rfl,rfl⟩)⟩))⟩⟩
 rintro σ _ ⟨rfl,rfl⟩;refine cut (fun σ H'=>σ= [GT x,GT a,some (.str w),some (.str n),GT ll,some f,GT u,some v,GT kl]/\aH H H') (fun N hN=>?_) ?_
 ·refine ⟨_,rfl,x,C,dx,ff,_,rfl,ex2,sc0.cl,sc0.least,sf.least,(lo:Int),rfl,true,rfl,cq ⟨_,rfl,x,C,dx,ff,_,rfl,ex2,sc0.cl,sc0.most,sf.most,(hi:Int),rfl,true,rfl,cq ⟨_,rfl,x,C,dx,ff,_,rfl,ex2,sc0.cl,sc0.least,sf.least,_,rfl,x,C,dx,ff,_,rfl,ex2,sc0.cl,sc0.most,sf.most,by show 2<=sizeLine;decide,fun l nl=>?_⟩⟩⟩
  have g3:=aq nl (.lst [vN lo,vN hi]);refine ⟨_,rfl,l,ll,[vN lo,vN hi],rfl,rfl,aE.of af,aE.of (g3 _ _ (g2 _ _ el')),fun z hz=>?_,_,rfl,cq (hN _ _ ⟨rfl,g2.trans g3⟩)⟩
  simp only[D2,D6,or_false] at hz;rcases hz with rfl|rfl<;>trivial
 clear ekl g2 ex2;rintro σ H3 ⟨rfl,g3⟩;have ex3:=g3 _ _ ex;refine cut (fun σ H'=>σ= [GT x,GT a,some (.str w),some (.str n),GT ll,some f,GT u,some v,GT kl]/\H3=H') (fun N hN=>?_) ?_
 ·refine ⟨_,rfl,rfl,_,rfl,kv (fun e=>?_) fun e=>hN _ _ ⟨rfl,rfl⟩⟩
  subst e;have eC:C=on:=by
   rcases hC with ⟨z,_⟩|⟨z,_⟩|⟨_,z⟩
   ·exact absurd z (by decide)
   ·exact absurd z (by decide)
   ·exact z
  subst eC
  match fl,fo,hf,hfF with
  |none,z,_,_=>exact absurd rfl z
  |some am,_,⟨tf,ef,etf⟩,⟨tg,lg,etg⟩=>
  subst ef;exact ⟨_,rfl,x,C,dx,ff,_,rfl,ex3,sc0.cl,B.Fx,lg,_,_,_,true,rfl,.tup (g3 _ _ etg),rfl,_,rfl,cq ⟨_,rfl,x,C,dx,ff,_,rfl,ex3,sc0.cl,B.Fx,lg,_,rfl,tg,tf,_,_,rfl,rfl,bX.of (g3 _ _ etg),bX.of (g3 _ _ etf),jq (uz am),_,rfl,cq (hN _ _ ⟨rfl,rfl⟩)⟩⟩
 rintro σ _ ⟨rfl,rfl⟩;refine cut (fun σ H'=>σ= [GT x,GT a,some (.str w),some (.str n),GT ll,some f,GT u,some v,GT kl]/\H3=H') (fun N hN=>?_) ?_
 ·obtain ⟨xs1,e1,r1⟩:=hxu.same g3;obtain ⟨xs2,e2,r2⟩:=hu.same g3;exact ⟨_,rfl,x,C,dx,ff,_,rfl,ex3,sc0.cl,sc0.uses,sf.uses,_,_,_,true,rfl,.lst e1,rfl,_,rfl,cq ⟨_,rfl,x,C,dx,ff,_,rfl,ex3,sc0.cl,sc0.uses,sf.uses,_,rfl,xu,u,_,_,rfl,rfl,aE.of e1,aE.of e2,uA r1 r2,_,rfl,cq (hN _ _ ⟨rfl,rfl⟩)⟩⟩
 rintro σ _ ⟨rfl,rfl⟩;have hs3:tR H3 v so sec:=(lV g3).secL (fun b hb=>nomatch hb) (show tR H v so sec from hs) fun b _ z=>nomatch z
 have hsv3:=hsv.same g3
 match so,sec,hs3,hsv3 with
 |none,none,hs3,hsv3=>
  have hs3:v= .non:=hs3;have hsv3:sv= .non:=hsv3;subst hs3 hsv3;exact ⟨_,rfl,rfl,_,rfl,dT rfl ⟨_,rfl,x,C,dx,ff,_,rfl,ex3,sc0.cl,sc0.second,sf.second,rfl,q _ g3⟩⟩
 |some (b,u2),some (lo2,hi2,us2),⟨l2,e1,e2,e3,⟨v2,e4,r4⟩⟩,⟨t2,l5,f1,f2,⟨v5,f3,r5⟩⟩=>
  subst e1 f1;have e3':H3 l2=some (.lst [vN lo2,vN hi2]):=e3;refine ⟨_,rfl,rfl,_,rfl,dF (fun z=>nomatch z) ?_⟩
  refine ⟨_,rfl,x,C,dx,ff,_,rfl,ex3,sc0.cl,sc0.second,sf.second,_,_,_,true,rfl,.tup f2,rfl,_,rfl,?_⟩;refine lq ⟨_,rfl,x,C,dx,ff,_,rfl,ex3,sc0.cl,sc0.second,sf.second,_,rfl,b,_,_,_,rfl,rfl,aE.of e2,rfl,l2,_,_,_,rfl,rfl,aE.of e3',rfl,_,rfl,b,_,_,_,rfl,rfl,aE.of e2,rfl,l2,_,_,_,rfl,rfl,aE.of e3',rfl,_,rfl,b,_,_,_,rfl,rfl,aE.of e2,rfl,by show 3<=sizeLine;decide,fun tc ntc=>?_⟩
  have g4:=aq ntc (.tup [vN lo2,vN hi2,.ref u2]);have r4':=r4.imp fun _ _ q=>xE (R:=eH qt) q g4
  have r5':=r5.imp fun _ _ q=>xE (R:=eH qt) q g4
  exact ⟨t2,tc,_,_,rfl,rfl,bX.of (g4 _ _ f2),bX.of af,⟨.inl (.inl ⟨rfl,trivial⟩),.inl (.inl ⟨rfl,trivial⟩),.inr ⟨l5,u2,_,_,rfl,rfl,.inr ⟨aE.of (g4 _ _ f3),aE.of (g4 _ _ e4)⟩,uA r5' r4'⟩,trivial⟩,q _ (g3.trans g4)⟩
theorem Bo {dV:Value} (F:bv K "_law_same" "_law_same" zh dV f fd) (DZ42:Dx P w K mg base bi 1 "_law_whole" ["_law_found"] [] gP) (DZ58:Dx P w K mg base bi 2 "_law_step_same" ["_law_found","_law_due"] [] (jI Ef Ee on)):bh P w K mg base bi 3 f fd ["_law_recipe","_law_name","_law_plates","_law_model"] (qG Ef Ee on Db):=by
 have sc:aC ["_law_recipe","_law_name","_law_plates","_law_model","_law_k"] ["_law_recipe","_law_name","_law_plates","_law_model"] (aw zh):=df (by decide+kernel)
 refine F.ok sc (fun vs H Q E h=>?_) (fun cdv A outer s H vs Q E hr h=>?_)
 ·obtain ⟨_,_,_,_,_,_,_,_,_,_,rfl,_⟩:=h
  rfl
 obtain ⟨r,n,p,G,m,lt,ls,lk,ks,M,rfl,⟨rt,rs,rk,⟨dx,er⟩,⟨vt,et,at_⟩,⟨vs,es,as⟩,⟨vk,ek,ak⟩⟩,ml,bd,q⟩:=h;refine ⟨_,(ac (aJ (PW.pt (bU (bW (bS (aI (dY (K:=K) rfl) rfl B.Eg boot_isinstance (@aa _ _ _ _ _ (pv 0) (@aa _ _ _ _ _ (cf (v:=V.ref Db) rfl B.Gc rfl) ae rfl) rfl)))) (bU (bW (bS (aI (bZ (K:=K) rfl) rfl B.Eg boot_isinstance (@aa _ _ _ _ _ (aL (pv 0) rfl) (@aa _ _ _ _ _ (b6 (v:= .ty "str") rfl B.Es boot_str rfl) ae rfl) rfl)))) (bM (av eP (aL (pv 0) rfl) (pv 1) (aA _)))))) (ah (ay di)) az) (ac (aJ (PW.pt (bU (bW (bS (b5 DZ42 hr (@aa _ _ _ _ _ (aL (pv 0) rfl) ae rfl)))) (bM (av eP (aL (pv 0) rfl) (pv 2) (aA _))))) (ah (ay di)) az) (ac (aJ (PW.pt (bU (bW (bS (aI (bZ (K:=K) rfl) rfl B.Eg boot_isinstance (@aa _ _ _ _ _ (aL (pv 0) rfl) (@aa _ _ _ _ _ (b6 (v:= .ty "list") rfl B.Fy boot_list rfl) ae rfl) rfl)))) (bM (av (ph 2 (DO (Eb (by decide:2+1<64) _) hr.units)) (aL (pv 0) rfl) (aj ai (pv 3) ad (fun _ _=>rfl)) (aA _))))) (ah (ay di)) az) (ac (aJ (PW.pt (bU (bW (bS (aI (bZ (K:=K) rfl) rfl B.Eg boot_isinstance (@aa _ _ _ _ _ (aL (pv 0) rfl) (@aa _ _ _ _ _ (b6 (v:= .ty "list") rfl B.Fy boot_list rfl) ae rfl) rfl)))) (bM (av (ph 1 (DO (Eb (by decide:1+1<64) _) hr.units)) (aL (pv 0) rfl) (aj ai (pv 3) ad (fun _ _=>rfl)) (aA _))))) (ah (ay di)) az) (ac (aJ (PW.pt (bU (bW (bS (aI (bZ (K:=K) rfl) rfl B.Eg boot_isinstance (@aa _ _ _ _ _ (aL (pv 0) rfl) (@aa _ _ _ _ _ (b6 (v:= .ty "list") rfl B.Fy boot_list rfl) ae rfl) rfl)))) (bM (av eP (aI a7 rfl B.Ft boot_len (@aa _ _ _ _ _ (aL (pv 0) rfl) ae rfl)) (aI a7 rfl B.Ft boot_len (@aa _ _ _ _ _ (aj ai (pv 3) ad (fun _ _=>rfl)) ae rfl)) (aA _))))) (ah (ay di)) az) (ac (cF PassesOwn.never rfl (iu rfl B.FQ (@aa _ _ _ _ _ (aI a7 rfl B.Ft boot_len (@aa _ _ _ _ _ (aj ai (pv 3) ad (fun _ _=>rfl)) ae rfl)) ae rfl)) (eY 4 sc) (ah (aJ (bW (bS (b5 DZ58 hr (@aa _ _ _ _ _ (aj ai (aL (pv 0) rfl) (pv 4) (fun _ _=>rfl)) (@aa _ _ _ _ _ (aj ai (aj ai (pv 3) ad (fun _ _=>rfl)) (pv 4) (fun _ _=>rfl)) ae rfl) rfl)))) (ah (ay di)) az))) (ah (ay di)))))))),?_⟩
 try dsimp only[cxK]
 have sl:sizeLine=16777216:=sizeLine_eq;have em:=ml.em;have ms:=ml.es;have kl:=ml.len;have s12:=bd.s12;have lvs:=as.1;obtain ⟨wt,mt,bt⟩:=id ml.et;obtain ⟨wk,mk,bk⟩:=id ml.ek;refine cut (fun σ H'=>σ= [GT r,some (.str n),some (vN p),GT m,none]/\H=H') (fun N hN=>?_) ?_
 ·exact ⟨_,rfl,_,_,_,true,rfl,.ins er B.Eh B.FA.ha B.FA.hn B.FA.htk B.FA.hm,B.FI,_,rfl,cq ⟨_,rfl,r,_,dx,_,_,rfl,er,B.Eh,B.Fu,bI.1,_,_,_,true,rfl,.str _,rfl,_,rfl,cq ⟨_,rfl,r,_,dx,_,_,rfl,er,B.Eh,B.Fu,bI.1,_,rfl,rfl,_,rfl,nF rfl (hN _ _ ⟨rfl,rfl⟩)⟩⟩⟩
 rintro σ _ ⟨rfl,rfl⟩;refine cut (fun σ H'=>σ= [GT r,some (.str n),some (vN p),GT m,none]/\H=H') (fun N hN=>?_) ?_
 ·exact ⟨_,rfl,r,_,dx,_,_,rfl,er,B.Eh,B.Fn,bI.2.1,(p:Int),rfl,true,rfl,cq ⟨_,rfl,r,_,dx,_,_,rfl,er,B.Eh,B.Fn,bI.2.1,_,rfl,rfl,_,rfl,nF rfl (hN _ _ ⟨rfl,rfl⟩)⟩⟩
 rintro σ _ ⟨rfl,rfl⟩;refine cut (fun σ H'=>σ= [GT r,some (.str n),some (vN p),GT m,none]/\H=H') (fun N hN=>?_) ?_
 ·exact ⟨_,rfl,r,_,dx,_,_,rfl,er,B.Eh,B.Ev,bI.2.2.1,_,_,_,true,rfl,.lst et,rfl,_,rfl,cq ⟨_,rfl,r,_,dx,_,_,rfl,er,B.Eh,B.Ev,bI.2.2.1,_,rfl,m,_,_,_,rfl,rfl,aE.of em,rfl,rt,lt,_,_,rfl,rfl,aE.of et,aE.of mt,uB at_ bt,_,rfl,cq (hN _ _ ⟨rfl,rfl⟩)⟩⟩
 rintro σ _ ⟨rfl,rfl⟩;refine cut (fun σ H'=>σ= [GT r,some (.str n),some (vN p),GT m,none]/\H=H') (fun N hN=>?_) ?_
 ·exact ⟨_,rfl,r,_,dx,_,_,rfl,er,B.Eh,B.Ff,bI.2.2.2.2,_,_,_,true,rfl,.lst ek,rfl,_,rfl,cq ⟨_,rfl,r,_,dx,_,_,rfl,er,B.Eh,B.Ff,bI.2.2.2.2,_,rfl,m,_,_,_,rfl,rfl,aE.of em,rfl,rk,lk,_,_,rfl,rfl,aE.of ek,aE.of mk,yh ak bk,_,rfl,cq (hN _ _ ⟨rfl,rfl⟩)⟩⟩
 rintro σ _ ⟨rfl,rfl⟩;refine cut (fun σ H'=>σ= [GT r,some (.str n),some (vN p),GT m,none]/\H=H') (fun N hN=>?_) ?_
 ·refine ⟨_,rfl,r,_,dx,_,_,rfl,er,B.Eh,B.Ej,bI.2.2.2.1,_,_,_,true,rfl,.lst es,rfl,_,rfl,cq ⟨_,rfl,r,_,dx,_,_,rfl,er,B.Eh,B.Ej,bI.2.2.2.1,rs,_,rfl,.inl (aE.of es),_,rfl,m,_,_,_,rfl,rfl,aE.of em,rfl,ls,_,rfl,.inl (aE.of ms),rfl,_,rfl,nF ?_ (hN _ _ ⟨rfl,rfl⟩)⟩⟩;rw[D4,lvs,kl]
 rintro σ _ ⟨rfl,rfl⟩;refine cut (fun σ H'=>(∃o,σ= [GT r,some (.str n),some (vN p),GT m,o])/\aH H H') (fun N hN=>?_) ?_
 ·refine ⟨_,rfl,m,_,_,_,rfl,rfl,aE.of em,rfl,ls,_,rfl,.inl (aE.of ms),_,rfl,by rw[D4];omega,by rw[D4];omega,iw (fun i σ H'=>(∃o,σ= [GT r,some (.str n),some (vN p),GT m,o])/\aH H H') ⟨⟨none,rfl⟩,.refl _⟩ ?_ ?_⟩
  ·rintro i σ H2 il ⟨⟨o,rfl⟩,g2⟩;rw[D4] at il;rw[show (0:Int)+(i:Int)=(i:Int) by omega]
   have hs:=D1 (l:=M.steps) (i:=i) (by omega)
   have hk:=D1 il;generalize M.steps[i]=s1 at hs;generalize ks[i]=k1 at hk;obtain ⟨v1,hv,x1,rfl,so⟩:=as.get hs;have hkx:(ks.map fun x=>V.ref x.a)[i]?=some (.ref k1.a):=by rw[DA,hk];rfl
   have sb:=bd.ss s1 (D5 hs);exact ⟨_,rfl,r,_,dx,_,_,rfl,(g2 _ _ er),B.Eh,B.Ej,bI.2.2.2.1,_,rfl,rs,_,_,_,rfl,rfl,aE.of (g2 _ _ es),(aD hv),_,rfl,m,_,_,_,rfl,rfl,aE.of (g2 _ _ em),rfl,_,rfl,ls,_,_,_,rfl,rfl,aE.of (g2 _ _ ms),(aD hkx),x1,k1,s1,rfl,so.same g2,(ml.ss i k1 s1 hk hs).same g2,sb.wd,sb.fl,fun H3 g3=>⟨_,rfl,cq ⟨⟨_,rfl⟩,g2.trans g3⟩⟩⟩
  ·rintro σ H2 h;exact hN _ _ h
 rintro σ H1 ⟨⟨o,rfl⟩,g1⟩;exact q _ g1
theorem Bp {dV:Value} (F:bv K "law" "law" ma dV f fd) (DZ32:Dx P w K mg base bi 10 "read_recipe" ["text"] [] (kQ Ef Ee on Db)) (DZ40:Dx P w K mg base bi 4 "recipe_text" ["recipe"] [] (kA Ef Ee on Db)) (DZ41:Dx P w K mg base bi 1 "_law_cell_at" ["_law_script","_law_k"] [] (sE K)) (DZ45:Dx P w K mg base bi 2 "_law_names" ["_law_cell"] [] nB) (DZ53:Dx P w K mg base bi 4 "_law_row" ["_law_model","_law_names_here","_law_cell","_law_room"] [] tU) (DZ57:Dx P w K mg base bi 3 "_law_written" ["_law_head","_law_model"] [] kC) (DZ59:Dx P w K mg base bi 3 "_law_same" ["_law_recipe","_law_name","_law_plates","_law_model"] [] (qG Ef Ee on Db)):bh P w K mg base bi 20 f fd ["_law_script"] (pV K):=by
 have sc:aC ["_law_script","_law_names_here","_law_plates","_law_head","_law_model","_law_rows","_law_cell","_law_row_here","_law_due","_law_recipe","_law_found","_law_again"] ["_law_script"] (aw ma):=df (by decide+kernel)
 refine F.ok sc (fun vs H Q E h=>?_) (fun cdv A outer s H vs Q E hr h=>?_)
 ·obtain ⟨_,_,rfl,_⟩:=h
  rfl
 obtain ⟨a,ns,rfl,hS,h63,q⟩:=h;refine ⟨_,(ac (bK 1 sc (b5 DZ45 hr (@aa _ _ _ _ _ (b5 DZ41 hr (@aa _ _ _ _ _ (pv 0) (@aa _ _ _ _ _ ad ae rfl) rfl)) ae rfl))) (ac (bK 2 sc (ar bY ad (ar aN (b5 DZ41 hr (@aa _ _ _ _ _ (pv 0) (@aa _ _ _ _ _ ad ae rfl) rfl)) ad))) (ac (bK 3 sc (ar ao (ar ao (ar ao ax (aj ai (pv 1) ad (fun _ _=>rfl))) ax) (aK aG rfl B.Es boot_str (@aa _ _ _ _ _ (pv 2) ae rfl)))) (ac (bK 4 sc (@aZ _ _ _ _ (@aa _ _ _ _ _ (@aZ _ _ _ _ ae) (@aa _ _ _ _ _ (@aZ _ _ _ _ ae) (@aa _ _ _ _ _ (@aZ _ _ _ _ ae) ae rfl) rfl) rfl))) (ac (bK 5 sc (@aZ _ _ _ _ (@aa _ _ _ _ _ (pv 3) ae rfl))) (ac (cF PassesOwn.never rfl (cv (cN fb (pv 0) (cT ad) (cT ad))) (eY 6 sc) (ac (bK 7 sc (b5 DZ53 hr (@aa _ _ _ _ _ (pv 4) (@aa _ _ _ _ _ (pv 1) (@aa _ _ _ _ _ (pv 6) (@aa _ _ _ _ _ ad ae rfl) rfl) rfl) rfl))) (ah (aJ (av eP (pv 7) ax (aA _)) (ah (aV (bO DE DG DF a8 (pv 5) (@aa _ _ _ _ _ (pv 7) ae rfl)))) az)))) (ac (bK 8 sc (b5 DZ57 hr (@aa _ _ _ _ _ (pv 3) (@aa _ _ _ _ _ (pv 4) ae rfl) rfl))) (ac (bK 9 sc (b5 DZ32 hr (@aa _ _ _ _ _ (bO Dp EQ EO gZ ax (@aa _ _ _ _ _ (pv 5) ae rfl)) ae rfl))) (ac (bK 10 sc (b5 DZ40 hr (@aa _ _ _ _ _ (pv 9) ae rfl))) (ac (aJ (PW.pt (bU (bW (bS (aI (bZ (K:=K) rfl) rfl B.Eg boot_isinstance (@aa _ _ _ _ _ (pv 10) (@aa _ _ _ _ _ (b6 (v:= .ty "str") rfl B.Es boot_str rfl) ae rfl) rfl)))) (bM (av eP (pv 10) (bO Dp EQ EO gZ ax (@aa _ _ _ _ _ (pv 8) ae rfl)) (aA _))))) (ah (ay di)) az) (ac (aJ (av (vS (wf hr)) (aI iR rfl B.Gg PyProof.Rows.Boot.«sorted» (@aa _ _ _ _ _ (bO Dp PySem.F.slot_str_split PySem.F.type_str_split jf (pv 10) (@aa _ _ _ _ _ ax ae rfl)) ae rfl)) (aI iR rfl B.Gg PyProof.Rows.Boot.«sorted» (@aa _ _ _ _ _ (pv 5) ae rfl)) (aA _)) (ah (ay di)) az) (ac (bK 11 sc (b5 DZ32 hr (@aa _ _ _ _ _ (pv 10) ae rfl))) (ac (aJ (PW.pt (bU (bW (bS (b5 DZ59 hr (@aa _ _ _ _ _ (pv 11) (@aa _ _ _ _ _ (aj ai (pv 1) ad (fun _ _=>rfl)) (@aa _ _ _ _ _ (pv 2) (@aa _ _ _ _ _ (pv 4) ae rfl) rfl) rfl) rfl)))) (bM (bW (bS (b5 DZ59 hr (@aa _ _ _ _ _ (pv 9) (@aa _ _ _ _ _ (aj ai (pv 1) ad (fun _ _=>rfl)) (@aa _ _ _ _ _ (pv 2) (@aa _ _ _ _ _ (pv 4) ae rfl) rfl) rfl) rfl))))))) (ah (ay di)) az) (ah (ay (eI bC (b5 DZ40 hr (@aa _ _ _ _ _ (pv 11) ae rfl)) (pv 10) (aA _))))))))))))))))),?_⟩
 try dsimp only[cxK]
 have sl:sizeLine=16777216:=sizeLine_eq;refine ⟨_,rfl,a,ns,0,rfl,hS,by decide,fun c0=>⟨c0,rfl,fun ln zs H1 g1 en zz=>?_⟩⟩
 dsimp only[aR,aS];obtain ⟨z2,hz2,nz2⟩:=zz.at_ (i:=2) (by decide)
 have z2l:=nz2.len;have atz2:=qy hz2;refine cut (fun σ H'=>∃pl:Nat,σ= [GT a,GT ln,some (vN pl),none,none,none,none,none,none,none,none,none]/\H1=H'/\1<=pl/\pl<=1000) (fun N hN=>?_) ?_
 ·refine ⟨_,rfl,a,ns,1,rfl,g1.seq hS,by decide,fun c1=>⟨_,_,rfl,rfl,(by show (1000:Int)≠0;decide),_,_,rfl,rfl,?_⟩⟩
  have m1:=fm (a:=c1) (n:=1000) (by decide)
  refine hN _ _ ⟨(1+c1.fmod 1000).toNat,?_,rfl,by omega,by omega⟩
  show [some (.ref a),some (.ref ln),some (V.int (1+c1.fmod 1000)),none,none,none,none,none,none,none,none,none]=_;rw[show vN (1+c1.fmod 1000).toNat=V.int (1+c1.fmod 1000) from congrArg V.int (by omega)]
 rintro σ _ ⟨pl,rfl,rfl,p1,p2⟩;have l1:(Str.ofString " ").length=1:=by decide
 have l5:(Str.ofString "dish ").length=5:=by decide
 have lp:=br (n:=pl) (by omega)
 obtain ⟨hl3,hl4⟩:=io nz2 p2;refine cut (fun σ H'=>σ= [GT a,GT ln,some (vN pl),some (.str (bj z2 pl)),none,none,none,none,none,none,none,none]/\H1=H') (fun N hN=>?_) ?_
 ·refine ⟨_,rfl,ln,_,_,_,rfl,rfl,aE.of en,atz2,_,_,rfl,rfl,by omega,_,_,rfl,rfl,(by rw[Str.length_append];omega),_,rfl,_,rfl,cJ (by omega),?_⟩
  rw[ca];refine ⟨_,_,rfl,rfl,(by rw[Str.length_append,Str.length_append];omega),?_⟩
  rw[t6];exact hN _ _ ⟨rfl,rfl⟩
 rintro σ _ ⟨rfl,rfl⟩;refine cut (fun σ H'=>∃m lt ls lk,σ= [GT a,GT ln,some (vN pl),some (.str (bj z2 pl)),GT m,none,none,none,none,none,none,none]/\ML H1 H' m lt ls lk [] ⟨[],[],[]⟩) (fun N hN=>?_) ?_
 ·refine ⟨by show 0<=sizeLine;decide,fun lt nlt=>⟨by show 0<=sizeLine;decide,fun ls nls=>⟨by show 0<=sizeLine;decide,fun lk nlk=>⟨by show 3<=sizeLine;decide,fun m nm=>hN _ _ ⟨m,lt,ls,lk,rfl,xQ nlt nls nlk nm⟩⟩⟩⟩⟩
 rintro σ H3 ⟨m,lt,ls,lk,rfl,ml0⟩;refine ⟨_,rfl,by show 1<=sizeLine;decide,fun rl nrl=>?_⟩
 dsimp only[aR,aS];have gr:=aq nrl (.lst [.str (bj z2 pl)]);have er:aO H3 rl (.lst [.str (bj z2 pl)]) rl=some (.lst ((bj z2 pl::([]:List Rr).map eG).map V.str)):=af;have ml1:=ml0.same gr;have nro:rl∉cy m lt ls lk []:=fun z=>ml0.all _ z nrl
 have nrl1:H1 rl=none:=ml0.fr.free nrl;change L2.mq _ _ _ [some (.ref a),some (.ref ln),some (vN pl),some (.str (bj z2 pl)),some (.ref m),some (.ref rl),none,none,none,none,none,none] (aO H3 rl (.lst [.str (bj z2 pl)]));generalize aO H3 rl (.lst [.str (bj z2 pl)])=H4 at gr er ml1⊢;obtain ⟨cs,hcs,l60⟩:∃cs:List Int,dN (ns.map V.int) (some 2) (some 62)=cs.map V.int/\cs.length<=60:=rO 2 62;refine cut (fun σ H'=>∃(o6 o7:Option V) (ks:List Sk) (M:Md) (rs:List Rr),σ= [GT a,GT ln,some (vN pl),some (.str (bj z2 pl)),GT m,GT rl,o6,o7,none,none,none,none]/\ML H1 H' m lt ls lk ks M/\gh zs 12 M/\H' rl=some (.lst ((bj z2 pl::rs.map eG).map V.str))/\wH "" rs M 60) (fun N hN=>?_) ?_
 ·refine ⟨_,rfl,_,rfl,_,rfl,a,_,rfl,(g1.trans ml1.fr).seq hS,fun p np=>?_⟩
  rw[hcs];have gp:=aq np (.lst (cs.map V.int));have ep:aO H4 p (.lst (cs.map V.int)) p=some (.lst (cs.map V.int)):=af;have ml2:=ml1.same gp;have er2:=gp _ _ er;have npr:p≠rl:=fun z=>by rw[z,er] at np;cases np
  generalize aO H4 p (.lst (cs.map V.int))=H5 at gp ep ml2 er2⊢;have npo:p∉rl::cy m lt ls lk []:=fun z=>by
   rcases D2.mp z with z|z
   ·exact npr z
   ·exact ml1.all _ z np
  obtain ⟨G0,hG⟩:∃G0,G0=less H5 (rl::cy m lt ls lk []):=⟨_,rfl⟩;have gl:aH H1 G0:=fun b o e=>by
   rw[hG,fu fun hx=>?_]
   ·exact ml2.fr _ _ e
   ·rcases D2.mp hx with z|z
    ·rw[z,nrl1] at e;cases e
    ·have:=ml2.nw b z;rw[e] at this;cases this
  have g0p:G0 p=some (.lst (cs.map V.int)):=by rw[hG,fu npo];exact ep
  have g0r:G0 rl=none:=by rw[hG];exact if_pos (by simp)
  have ml3:ML G0 H5 m lt ls lk [] ⟨[],[],[]⟩:={ml2 with fr:=by rw[hG];exact iI _ _,nw:=fun x hx=>by rw[hG];exact if_pos (D7 _ hx)}
  refine ⟨p,rfl,⟨_,aE.of ep⟩,dG (xs:=cs.map V.int) (fun i σ H'=>∃(o6 o7:Option V) (ks:List Sk) (M:Md) (rs:List Rr),σ= [GT a,GT ln,some (vN pl),some (.str (bj z2 pl)),GT m,GT rl,o6,o7,none,none,none,none]/\ML G0 H' m lt ls lk ks M/\gh zs 12 M/\H' rl=some (.lst ((bj z2 pl::rs.map eG).map V.str))/\wH "" rs M i/\rl∉cy m lt ls lk ks) ⟨none,none,[],⟨[],[],[]⟩,[],rfl,ml3,gh.nil _ _,er2,⟨rfl,fun r hr=>(nomatch hr),E1 _⟩,nro⟩ (fun i σ H' _ h=>?_) ?_ ?_⟩
  ·obtain ⟨_,_,_,_,_,_,ml,_⟩:=h;exact aE.of (ml.fr _ _ g0p)
  ·rintro i y σ H6 hy ⟨o6,o7,ks,M,rs,rfl,ml,ok,er6,rt,nro6⟩;have il:=aU hy;rw[D4] at il;rw[DA] at hy;obtain ⟨c,_,rfl⟩:=DV.mp hy;have en6:H6 ln=some (.lst (zs.map V.str)):=ml.fr _ _ (gl _ _ en);refine ⟨_,rfl,_,rfl,_,rfl,_,m,lt,ls,lk,ln,c,ks,M,zs,12,rfl,by decide,ml.top,ok,en6,zz,fun z ks' M' H7 ml' ok' tk=>?_⟩
   have er7:H7 rl=some (.lst ((bj z2 pl::rs.map eG).map V.str)):=ml'.fr _ _ (by rw[fu nro6];exact er6)
   have nro7:rl∉cy m lt ls lk ks':=fun z=>by
    have:=ml'.nw _ z;rw[fu nro6,er6] at this;cases this
   have ml7:=ml'.low ml.less;dsimp only[aR,aS];rcases tk with ⟨rfl,rfl⟩|⟨rr,rfl,ro,hp⟩
   ·exact ⟨_,rfl,rfl,_,rfl,nF rfl ⟨_,_,ks',M',rs,rfl,ml7,ok',er7,rt.skip,nro7⟩⟩
   ·have rl60:=rt.ln;refine ⟨_,rfl,rfl,_,rfl,nT (fun z=>ye ro (V.str.inj z)) ⟨_,rfl,.inl ⟨rfl,_,aE.of er7⟩,_,rfl,rl,_,_,rfl,rfl,er7,(by rw[D4,DD,D4];omega),_,_,ks',M',rs++ [rr],rfl,ml7.out er7 g0r nro7,ok',?_,rt.put ro hp,nro7⟩⟩
    rw[af];simp
  ·rintro σ H6 ⟨o6,o7,ks,M,rs,rfl,ml,ok,er6,rt,nro6⟩;rw[D4] at rt;exact hN _ _ ⟨o6,o7,ks,M,rs,rfl,ml.low gl,ok,er6,⟨rt.pt,rt.ok,DU rt.ln l60⟩⟩
 rintro σ H5 ⟨o6,o7,ks,M,rs,rfl,ml,ok,er5,⟨pt,ro,rl60⟩⟩;have bd:=ok.bd zz (by decide)
 clear ml0 ml1 er gr;refine cut (fun σ H'=>∃dl,σ= [GT a,GT ln,some (vN pl),some (.str (bj z2 pl)),GT m,GT rl,o6,o7,GT dl,none,none,none]/\aH H5 H'/\H' dl=some (.lst ((i6 z2 pl M).map V.str))) (fun N hN=>?_) ?_
 ·exact ⟨_,rfl,_,rfl,_,bj z2 pl,m,lt,ls,lk,ks,M,rfl,ml,bd,fun l H' g nl e=>hN _ _ ⟨l,rfl,g,e⟩⟩
 rintro σ H6 ⟨dl,rfl,g6,ed⟩;refine cut (fun σ H'=>∃r1:Addr,σ= [GT a,GT ln,some (vN pl),some (.str (bj z2 pl)),GT m,GT rl,o6,o7,GT dl,GT r1,none,none]/\aH H6 H'/\vG Ef Ee on Db H' r1 z2 pl M) (fun N hN=>?_) ?_
 ·refine ⟨rfl,_,rfl,_,rl,_,rfl,rfl,aE.of (g6 _ _ er5),by decide,yj hl4 ro (by omega),z2,pl,rs,M,rfl,nz2,p1,p2,ro,by omega,pt,fun r2 lt2 ls2 lk2 ks2 H' rm=>hN _ _ ⟨r2,rfl,rm.fr,rm.a⟩⟩
 rintro σ H7 ⟨r1,rfl,g7,ra1⟩;refine cut (fun σ H'=>σ= [GT a,GT ln,some (vN pl),some (.str (bj z2 pl)),GT m,GT rl,o6,o7,GT dl,GT r1,some (.str (gI z2 pl M)),none]/\aH H7 H') (fun N hN=>?_) ?_
 ·exact ⟨_,rfl,r1,z2,pl,M,rfl,ra1,bd,nz2,p2,fun H' g=>hN _ _ ⟨rfl,g⟩⟩
 rintro σ H8 ⟨rfl,g8⟩;have g58:=(g6.trans g7).trans g8;have ra1:=ra1.same g8;have ed8:=g8 _ _ (g7 _ _ ed);refine cut (fun σ H'=>σ= [GT a,GT ln,some (vN pl),some (.str (bj z2 pl)),GT m,GT rl,o6,o7,GT dl,GT r1,some (.str (gI z2 pl M)),none]/\H8=H') (fun N hN=>?_) ?_
 ·exact ⟨_,rfl,_,_,_,true,rfl,.str _,rfl,_,rfl,cq ⟨_,rfl,rfl,_,rfl,_,dl,_,rfl,rfl,aE.of ed8,by decide,nC bd hl4,rfl,_,rfl,nF rfl (hN _ _ ⟨rfl,rfl⟩)⟩⟩
 rintro σ _ ⟨rfl,rfl⟩;have eT:gI z2 pl M=Txt.join md (bj z2 pl::(cA M).map eG):=by
  unfold gI;rw[pH]
 have roM:=ur zz ok;have perm:=rP (h:=bj z2 pl) pt;have lenM:(cA M).length=rs.length:=(kW pt).length_eq;have esp:Txt.split (gI z2 pl M) md=bj z2 pl::(cA M).map eG:=by
  rw[eT];exact kR nz2 p2 roM
 have lT:(gI z2 pl M).length<=500000:=by
  rw[eT];exact qF nz2 p2 roM (by omega)
 refine cut (fun σ H'=>σ= [GT a,GT ln,some (vN pl),some (.str (bj z2 pl)),GT m,GT rl,o6,o7,GT dl,GT r1,some (.str (gI z2 pl M)),none]/\aH H8 H') (fun N hN=>?_) ?_
 ·refine ⟨_,rfl,rfl,gI z2 pl M,10,rfl,rfl,by omega,fun sp nsp=>?_⟩
  have g9:=aq nsp (.lst ((Txt.split (gI z2 pl M) md).map V.str));have e9:aO H8 sp (.lst ((Txt.split (gI z2 pl M) md).map V.str)) sp=some (.lst ((bj z2 pl::(cA M).map eG).map V.str)):=by rw[af,esp]
  refine ⟨sp,_,rfl,e9,by rw[DD,D4];omega,fun q1 y1 n1 k1 s1=>?_⟩
  have g10:=aq n1 (.lst (y1.map V.str));have er9:=g10 _ _ (g9 _ _ (g58 _ _ er5));refine ⟨_,rfl,rl,_,rfl,er9,by rw[DD,D4];omega,fun q2 y2 n2 k2 s2=>?_⟩
  have g11:=aq n2 (.lst (y2.map V.str));have ey:y1=y2:=So.m3 s1 s2 (k1.trans (perm.trans k2.symm));refine ⟨q1,q2,y1,y2,rfl,rfl,g11 _ _ af,af,_,rfl,?_⟩;rw[decide_eq_true ey];exact hN _ _ ⟨rfl,(g9.trans g10).trans g11⟩
 rintro σ H9 ⟨rfl,g9⟩;have ra9:=ra1.same g9;refine cut (fun σ H'=>∃r2:Addr,σ= [GT a,GT ln,some (vN pl),some (.str (bj z2 pl)),GT m,GT rl,o6,o7,GT dl,GT r1,some (.str (gI z2 pl M)),GT r2]/\aH H9 H'/\vG Ef Ee on Db H' r2 z2 pl M) (fun N hN=>?_) ?_
 ·exact ⟨_,rfl,z2,pl,cA M,M,congrArg (fun z=> [V.str z]) eT,nz2,p1,p2,roM,by omega,ut zz ok,fun r2 lt2 ls2 lk2 ks2 H' rm=>hN _ _ ⟨r2,rfl,rm.fr,rm.a⟩⟩
 rintro σ H10 ⟨r2,rfl,g10,ra2⟩;have g5t:=(g58.trans g9).trans g10;have ml10:=ml.same g5t;have en10:H10 ln=some (.lst (zs.map V.str)):=ml10.fr _ _ en;refine cut (fun σ H'=>σ= [GT a,GT ln,some (vN pl),some (.str (bj z2 pl)),GT m,GT rl,o6,o7,GT dl,GT r1,some (.str (gI z2 pl M)),GT r2]/\aH H10 H') (fun N hN=>?_) ?_
 ·refine ⟨_,rfl,_,rfl,ln,_,_,_,rfl,rfl,aE.of en10,atz2,_,rfl,_,rfl,r2,z2,pl,_,m,lt,ls,lk,ks,M,rfl,ra2,ml10,bd,fun H11 g11=>⟨_,rfl,cq ⟨_,rfl,_,rfl,ln,_,_,_,rfl,rfl,aE.of (g11 _ _ en10),atz2,_,rfl,_,rfl,r1,z2,pl,_,m,lt,ls,lk,ks,M,rfl,(ra9.same g10).same g11,ml10.same g11,bd,fun H12 g12=>⟨_,rfl,cq (hN _ _ ⟨rfl,g11.trans g12⟩)⟩⟩⟩⟩
 rintro σ H11 ⟨rfl,g11⟩;refine ⟨_,rfl,r2,z2,pl,M,rfl,ra2.same g11,bd,nz2,p2,fun H12 g12=>⟨_,rfl,rfl,?_⟩⟩
 show Q (.bl (decide (V.str (gI z2 pl M)=V.str (gI z2 pl M)))) H12;rw[decide_eq_true rfl];exact q _
end
theorem zi {l:PySem.W.OpenLaw} {w:World} {K:D3} {h:Heap} {mg:GL} {fa hq hr hs en ht hu hv hw hx hy eo ep eq er es et eu ev ew ex ey ez e0 e1 e2 e3 e4 e5 e6 e7 e8 e9 eC eJ eK eM eP eT eW fb fc ff fg fh fl fo fp fq fr fs ft fx fy fz d7 Fp Ef Fs Er Ei Db Ee Ek Fe Fk Fd on Fw FF FO FM FL FK:Addr} (X:K.In h) (G:h.Ns mainGlobals mg) (hfa:mg "law" =some (.ref fa))
  {dV d1:GR} {dX:GN} {ea d3 d4 d5 c9 d6:Value}
  {cm:Tok}
  {al:Tok}
  {co:Tok}
  {am:Tok}
  {aY:Tok}
  {ba:Tok}
  {bC:Tok}
  {bb:Tok}
  {ho:Addr} {f0:Value} {f1:GR} {f2:Nat} {f3:GN} {d8:Tok}
  {eb:Addr} {ec:Value} {ed:GR} {ee:Nat} {ef:GN}
  {eg:Addr} {eh:Value} {ei:GR} {ej:Nat} {ek:GN}
  (hz:bJ K hq "read_figures" Cj .none)
  (h0:bJ K hr "is_whole" Ck .none)
  (h1:bJ K hs "divisor" Cl .none)
  (h2:DN K mainGlobals "fraction" =some (some (.ref en)))
  (h3:FnAt K en "fraction" "fraction" BB (.ref ho))
  (h4:bJ K ht "plus" Cm .none)
  (h5:bJ K hu "round_down" Cn .none)
  (h6:bJ K hv "amount_text" Co .none)
  (h9:bJ K hw "loosely_read_term" Cp .none)
  (hA:bJ K hx "loosely_read" Cq .none)
  (hB:bJ K hy "read_amount" Cr .none)
  (f4:bJ K eo "is_name" yk .none)
  (f5:bJ K ep "words_of" ym .none)
  (fI:bJ K eq "number_of" yn .none)
  (fP:bJ K er "amount_from" yo .none)
  (ga:bJ K es "value_of" yq .none)
  (gc:bJ K et "values_by" yr .none)
  (ge:bJ K eu "agree" yt .none)
  (gg:bJ K ev "values_of" yu .none)
  (gi:bJ K ew "refuse_twice" yw .none)
  (gj:bJ K ex "refuse_full" yx .none)
  (gk:bJ K ey "place_of" yy .none)
  (gl:bJ K ez "put_take" yz .none)
  (gm:bJ K e0 "put_link" yA .none)
  (gn:bJ K e1 "recipe_begun" yC .none)
  (go:bJ K e2 "step_of" yD .none)
  (gp:bJ K e3 "put_step" yE .none)
  (gq:bJ K e4 "put_second" yF .none)
  (gr:bJ K e5 "put_use" yG .none)
  (gs:bJ K e6 "put_row" yH .none)
  (gt:bJ K e7 "read_recipe" yI .none)
  (gv:bJ K e8 "row_of" yM .none)
  (gw:bJ K e9 "rows_of_uses" yN .none)
  (gy:bJ K eC "rows_of_step" yO .none)
  (g0:bJ K eJ "row_of_link" yP .none)
  (g1:bJ K eK "recipe_text" yQ .none)
  (g2:bJ K eM "_law_cell_at" yR .none)
  (g3:bJ K eP "_law_whole" yS .none)
  (g4:bJ K eT "_law_common" yT .none)
  (g5:bJ K eW "_law_stream" yU .none)
  (g6:bJ K fb "_law_names" yV .none)
  (g7:bJ K fc "_law_amount" yW .none)
  (g8:bJ K ff "_law_lengths" yX .none)
  (g9:bJ K fg "_law_take" yY .none)
  (gK:bJ K fh "_law_step" yZ .none)
  (gL:bJ K fl "_law_second" y3 .none)
  (gN:bJ K fo "_law_use" y4 .none)
  (gP:bJ K fp "_law_link" y6 .none)
  (gT:bJ K fq "_law_row" y8 .none)
  (gV:bJ K fr "_law_amount_text" y9 .none)
  (gY:bJ K fs "_law_use_rows" zc .none)
  (gZ:bJ K ft "_law_step_rows" ze .none)
  (ha:bJ K fx "_law_written" zf .none)
  (hb:bJ K fy "_law_step_same" zg .none)
  (hc:bJ K fz "_law_same" zh .none)
  (hd:DN K mainGlobals "law" =some (some (.ref d7)))
  (he:K.lookup d7=some ⟨ea,dV,.func (E3 "law" "law" (dS ma) (dm ma) (aw ma) .none d3 d4 d5 d1 c9 d6),dX⟩) (hf:PySem.W.codeIn K c9 "law" =true) (hg:E4 K (.ref d7)=true)
  (cp:DN K mainGlobals "LETTERS" =some (some (.str "abcdefghijklmnopqrstuvwxyz" cm)))
  (an:DN K mainGlobals "MOST_LETTERS" =some (some (.int 12 al)))
  (cs:DN K mainGlobals "FIGURES" =some (some (.str "0123456789" co)))
  (ao:DN K mainGlobals "MOST_FIGURES" =some (some (.int 30 am)))
  (bc:DN K mainGlobals "MOST_TAKES" =some (some (.int 12 aY)))
  (bd:DN K mainGlobals "MOST_STEPS" =some (some (.int 12 ba)))
  (bL:DN K mainGlobals "MOST_USES" =some (some (.int 12 bC)))
  (be:DN K mainGlobals "MOST_LINKS" =some (some (.int 24 bb)))
  (d9:DN K mainGlobals "abs" =some none)
  (dh:DN K mainGlobals "bool" =some none)
  (bN:DN K mainGlobals "enumerate" =some none)
  (dA:DN K mainGlobals "int" =some none)
  (bf:DN K mainGlobals "isinstance" =some none)
  (dC:DN K mainGlobals "len" =some none)
  (dj:DN K mainGlobals "list" =some none)
  (cC:DN K mainGlobals "range" =some none)
  (c2:DN K mainGlobals "sorted" =some none)
  (dK:DN K mainGlobals "str" =some none)
  (cE:DN K mainGlobals "tuple" =some none)
  (dQ:DN K mainGlobals "zip" =some none)
  (c3:DN K mainGlobals "BOUNDS" =some (some (.ref Fp)))
  (dR:DN K mainGlobals "Cut" =some (some (.ref Ef)))
  (cG:DN K mainGlobals "FORMS" =some (some (.ref Fs)))
  (bg:DN K mainGlobals "LINK_WORDS" =some (some (.ref Er)))
  (ch:DN K mainGlobals "NoAmount" =some (some (.ref Ei)))
  (c4:DN K mainGlobals "Recipe" =some (some (.ref Db)))
  (dk:DN K mainGlobals "Rest" =some (some (.ref Ee)))
  (bk:DN K mainGlobals "STEP_WORDS" =some (some (.ref Ek)))
  (dl:DN K mainGlobals "Step" =some (some (.ref Fe)))
  (bl:DN K mainGlobals "StoveError" =some (some (.ref Fk)))
  (bR:DN K mainGlobals "USE_WORDS" =some (some (.ref Fd)))
  (dn:DN K mainGlobals "Warm" =some (some (.ref on)))
  (atZ23:Dm K (.ref Fe) "__init__" =some (some (.ref Fw)))
  (hh:FnAt K Fw "__init__" "Step.__init__" v9 (.ref eb))
  (atZ24:Dm K (.ref on) "__init__" =some (some (.ref FF)))
  (hi:FnAt K FF "__init__" "Warm.__init__" wa (.ref eg))
  (hj:tJ K Db FO "__init__" "Recipe.__init__" yB .none)
  (hk:tJ K Ef FM "word" "Cut.word" yJ .none)
  (hm:tJ K on FL "word" "Warm.word" yK .none)
  (hn:tJ K Ee FK "word" "Rest.word" yL .none)
  (hp:K.lookup ho=some ⟨f0,f1,.seq #[.int 1 d8] f2,f3⟩)
  (el:K.lookup eb=some ⟨ec,ed,.seq #[.none,.none] ee,ef⟩)
  (em:K.lookup eg=some ⟨eh,ei,.seq #[.none,.none] ej,ek⟩)
  (a0:nj K Ek ["cut","rest","warm"])
  (bm:nj K Fd ["with","orwith"])
  (a1:nj K Er ["after","within","apart"])
  (c5:nH w K Fs qH)
  (ct:nH w K Fp nY)
  (ci:PySem.W.excIn K Ei B0 "ValueError.__new__" =true)
  (cj:XI K Ei)
  (cl:XT K Ei)
  (h8:PySem.W.subIn K (.ref Ei) (.ref Ei)=some true)
  (h7:DJ K (.ref Ei) (.ref Fk)=some true)
  (cM:jL K Fe)
  (cP:Mk K Fe Fw)
  (dp:jL K Ef)
  (dq:Mk K Ef Fw)
  (dr:mC K Ef "word" FM)
  (cR:jL K Ee)
  (cW:Mk K Ee Fw)
  (dt:mC K Ee "word" FK)
  (cZ:jL K on)
  (da:Mk K on FF)
  (dw:mC K on "word" FL)
  (cu:jL K Db)
  (c0:Mk K Db FO)
  (bY:aF K Ef "name")
  (bn:aF K Ef "least")
  (cb:aF K Ef "most")
  (cd:aF K Ef "uses")
  (a2:aF K Ef "second")
  (bp:aF K Ee "name")
  (a3:aF K Ee "least")
  (bq:aF K Ee "most")
  (bs:aF K Ee "uses")
  (ap:aF K Ee "second")
  (bt:aF K on "name")
  (a4:aF K on "least")
  (bu:aF K on "most")
  (bz:aF K on "uses")
  (au:aF K on "second")
  (b0:aF K on "fill")
  (az:aF K Db "name")
  (ab:aF K Db "plates")
  (ag:aF K Db "takes")
  (ai:aF K Db "steps")
  (ak:aF K Db "links")
  (ae:xv K Fe "__init__" Fw)
  (db:uC K Fe)
  (dx:uC K Ef)
  (dc:uC K Ee)
  (dd:uC K on)
  (c1:uC K Db)
  (ce:DJ K (.ref Ef) (.ref Ef)=some true)
  (b1:DJ K (.ref Ef) (.ref Ee)=some false)
  (b2:DJ K (.ref Ef) (.ref on)=some false)
  (b3:DJ K (.ref Ef) (.ref Fe)=some true)
  (b4:DJ K (.ref Ee) (.ref Ef)=some false)
  (a5:DJ K (.ref Ee) (.ref Ee)=some true)
  (a7:DJ K (.ref Ee) (.ref on)=some false)
  (a8:DJ K (.ref Ee) (.ref Fe)=some true)
  (b9:DJ K (.ref on) (.ref Ef)=some false)
  (aG:DJ K (.ref on) (.ref Ee)=some false)
  (aN:DJ K (.ref on) (.ref on)=some true)
  (aS:DJ K (.ref on) (.ref Fe)=some true)
  (tx:DJ K (.ref Db) (.ref Db)=some true)
  :∃fd:FuncData,(∀(s:Shared) (v:Value),BindsTo s fd ⟨[v],[]⟩ [("_law_script",v)])/\∀base:Heap,K.In base->base.Ns mainGlobals mg->bh l.prog w K mg base bi 20 fa fd ["_law_script"] (pV K):=by
 have e:=hfa.symm.trans (DY X G hd);cases e;have B:Bn w K mg Fp Ef Fs Er Ei Db Ee Ek Fe Fk Fd on Fw FF FO FM FL FK:=⟨Exists.intro _<|DY X G cp,Exists.intro _<|DY X G an,Exists.intro _<|DY X G cs,Exists.intro _<|DY X G ao,Exists.intro _<|DY X G bc,Exists.intro _<|DY X G bd,Exists.intro _<|DY X G bL,Exists.intro _<|DY X G be,Dr X G d9,Dr X G dh,Dr X G bN,Dr X G dA,Dr X G bf,Dr X G dC,Dr X G dj,Dr X G cC,Dr X G c2,Dr X G dK,Dr X G cE,Dr X G dQ,DY X G c3,DY X G dR,DY X G cG,DY X G bg,DY X G ch,DY X G c4,DY X G dk,DY X G bk,DY X G dl,DY X G bl,DY X G bR,DY X G dn,a0,bm,a1,c5,ct,ci,cj,cl,h8,h7,cM,cP,dp,dq,dr,cR,cW,dt,cZ,da,dw,cu,c0,bY,bn,cb,cd,a2,bp,a3,bq,bs,ap,bt,a4,bu,bz,au,b0,az,ab,ag,ai,ak,ae,db,dx,dc,dd,c1,ce,b1,b2,b3,b4,a5,a7,a8,b9,aG,aN,aS,tx⟩;obtain ⟨_,_,_,_,_,_,_,_,_,lZ3,cZ3,kZ3⟩:=h3;obtain ⟨_,_,_,_,_,_,_,_,_,lZ23,cZ23,kZ23⟩:=hh;obtain ⟨_,_,_,_,_,_,_,_,_,lZ24,cZ24,kZ24⟩:=hi;have FZ3:=gQ (st:=BB) lZ3 cZ3 kZ3;have FZ23:=gQ (st:=v9) lZ23 cZ23 kZ23;have FZ24:=gQ (st:=wa) lZ24 cZ24 kZ24;have Flaw:=gQ (st:=ma) he hf hg;refine ⟨E3 "law" "law" (dS ma) (dm ma) (aw ma) .none d3 d4 d5 d1 c9 d6,?bind,fun base _ _=>?ok⟩
 case bind=>exact fun s v=> .of_eq rfl
 case ok=>
  have z9:Bx l.prog w base:=⟨⟩;have DZ0:=dI z9 X G hz (fun _ _ _ _ _ _=>bT fun _=>rfl) fun F=>Cs B F
  have DZ1:=dI z9 X G h0 (fun _ _ _ _ _ _=>bT fun _=>rfl) fun F=>Ct B F
  have DZ2:=dI z9 X G h1 (fun _ _ _ _ _ _=>cI fun _ _=>rfl) fun F=>Cu B F
  have DZ3:Dx l.prog w K mg base bi 2 "fraction" ["top","bottom"] [.int 1] uZ:=⟨en,_,Cv B FZ3 DZ1 DZ2,DY X G h2,kZ3,FZ3.binds (ps:= ["top","bottom"]) (ds:= []) hp rfl fun _ _ _ _ _ _ us hl=>match us,hl with| [_,_],_=>⟨_,rfl,rfl⟩,⟨[.int 1 d8],FZ3.binds (ps:= ["top","bottom"]) (ds:= [.int 1 d8]) hp rfl fun _ _ _ _ _ _ us hl=>match us,hl with| [_],_=>⟨_,rfl,rfl⟩| [],h=>absurd h (by simp)|_::_::_,h=>absurd h (by simp),.cons ⟨_,rfl⟩ .nil⟩⟩
  have DZ4:=dI z9 X G h4 (fun _ _ _ _ _ _=>cI fun _ _=>rfl) fun F=>Cw B F DZ3
  have DZ5:=dI z9 X G h5 (fun _ _ _ _ _ _=>bT fun _=>rfl) fun F=>Cy B F
  have DZ6:=dI z9 X G h6 (fun _ _ _ _ _ _=>bT fun _=>rfl) fun F=>Cz B F DZ5
  have DZ7:=dI z9 X G h9 (fun _ _ _ _ _ _=>bT fun _=>rfl) fun F=>CA B F DZ0 DZ3
  have DZ8:=dI z9 X G hA (fun _ _ _ _ _ _=>bT fun _=>rfl) fun F=>CB B F DZ4 DZ7
  have XZ9:=dI z9 X G hB (fun _ _ _ _ _ _=>bT fun _=>rfl) fun F=>CC B F DZ6 DZ8
  have DZ9:Dx l.prog w K mg base bi 5 "read_amount" ["text"] [] qg:=XZ9.calm sZ;have DZ10:=dI z9 X G f4 (fun _ _ _ _ _ _=>bT fun _=>rfl) fun F=>Ax B F
  have DZ11:=dI z9 X G f5 (fun _ _ _ _ _ _=>bT fun _=>rfl) fun F=>Ay B F
  have DZ12:=dI z9 X G fI (fun _ _ _ _ _ _=>dO fun _ _ _=>rfl) fun F=>Az B F DZ0
  have DZ13:=dI z9 X G fP (fun _ _ _ _ _ _=>cI fun _ _=>rfl) fun F=>AA B F XZ9
  have DZ14:=dI z9 X G ga (fun _ _ _ _ _ _=>cI fun _ _=>rfl) fun F=>AB B F DZ10 DZ12 DZ13
  have DZ15:=dI z9 X G gc (fun _ _ _ _ _ _=>cI fun _ _=>rfl) fun F=>AC B F DZ14
  have DZ16:=dI z9 X G ge (fun _ _ _ _ _ _=>bT fun _=>rfl) fun F=>AD B F
  have DZ17:=dI z9 X G gg (fun _ _ _ _ _ _=>bT fun _=>rfl) fun F=>AE B F DZ11 DZ15 DZ16
  have DZ18:=dI z9 X G gi (fun _ _ _ _ _ _=>dO fun _ _ _=>rfl) fun F=>AF B F
  have DZ19:=dI z9 X G gj (fun _ _ _ _ _ _=>cI fun _ _=>rfl) fun F=>AG B F
  have DZ20:=dI z9 X G gk (fun _ _ _ _ _ _=>dO fun _ _ _=>rfl) fun F=>AH B F
  have DZ21:=dI z9 X G gl (fun _ _ _ _ _ _=>dO fun _ _ _=>rfl) fun F=>AI B F DZ18 DZ19
  have DZ22:=dI z9 X G gm (fun _ _ _ _ _ _=>dO fun _ _ _=>rfl) fun F=>AJ B F DZ19 DZ20
  have DZ23:mT l.prog w K mg base bi 1 Fw ["self","name","least","most","uses","second"] [.non,.non] (i3 K):=⟨_,AK B FZ23,FZ23.binds (ps:= ["self","name","least","most","uses","second"]) (ds:= []) el rfl fun _ _ _ _ _ _ us hl=>match us,hl with| [_,_,_,_,_,_],_=>⟨_,rfl,rfl⟩,⟨[.none,.none],FZ23.binds (ps:= ["self","name","least","most","uses","second"]) (ds:= [.none,.none]) el rfl fun _ _ _ _ _ _ us hl=>match us,hl with| [_,_,_,_],_=>⟨_,rfl,rfl⟩| [],h=>absurd h (by simp)| [_],h=>absurd h (by simp)| [_,_],h=>absurd h (by simp)| [_,_,_],h=>absurd h (by simp)|_::_::_::_::_::_,h=>absurd h (by simp),.cons rfl (.cons rfl .nil)⟩⟩
  have DZ24:mT l.prog w K mg base bi 2 FF ["self","name","least","most","fill","uses","second"] [.non,.non] (lP K):=⟨_,AL B FZ24 DZ23,FZ24.binds (ps:= ["self","name","least","most","fill","uses","second"]) (ds:= []) em rfl fun _ _ _ _ _ _ us hl=>match us,hl with| [_,_,_,_,_,_,_],_=>⟨_,rfl,rfl⟩,⟨[.none,.none],FZ24.binds (ps:= ["self","name","least","most","fill","uses","second"]) (ds:= [.none,.none]) em rfl fun _ _ _ _ _ _ us hl=>match us,hl with| [_,_,_,_,_],_=>⟨_,rfl,rfl⟩| [],h=>absurd h (by simp)| [_],h=>absurd h (by simp)| [_,_],h=>absurd h (by simp)| [_,_,_],h=>absurd h (by simp)| [_,_,_,_],h=>absurd h (by simp)|_::_::_::_::_::_::_,h=>absurd h (by simp),.cons rfl (.cons rfl .nil)⟩⟩
  have DZ25:=BA z9 hj (fun _ _ _ _ _ _=>xD fun _ _ _ _ _ _=>rfl) fun F=>AM B F
  have DZ26:=dI z9 X G gn (fun _ _ _ _ _ _=>bT fun _=>rfl) fun F=>AN B F DZ25
  have DZ27:=dI z9 X G go (fun _ _ _ _ _ _=>bT fun _=>rfl) fun F=>AO B F DZ23 DZ24
  have DZ28:=dI z9 X G gp (fun _ _ _ _ _ _=>dO fun _ _ _=>rfl) fun F=>AQ B F DZ18 DZ19 DZ27
  have DZ29:=dI z9 X G gq (fun _ _ _ _ _ _=>dO fun _ _ _=>rfl) fun F=>AR B F DZ20
  have DZ30:=dI z9 X G gr (fun _ _ _ _ _ _=>dO fun _ _ _=>rfl) fun F=>AS B F DZ18 DZ19 DZ20
  have DZ31:=dI z9 X G gs (fun _ _ _ _ _ _=>dO fun _ _ _=>rfl) fun F=>AT B F DZ21 DZ22 DZ28 DZ29 DZ30
  have DZ32:=dI z9 X G gt (fun _ _ _ _ _ _=>bT fun _=>rfl) fun F=>AU B F DZ17 DZ26 DZ31
  have DZ33:=BA z9 hk (fun _ _ _ _ _ _=>bT fun _=>rfl) fun F=>AV B F
  have DZ34:=BA z9 hm (fun _ _ _ _ _ _=>bT fun _=>rfl) fun F=>AW B F
  have DZ35:=BA z9 hn (fun _ _ _ _ _ _=>bT fun _=>rfl) fun F=>AX B F
  have DZ36:=dI z9 X G gv (fun _ _ _ _ _ _=>bT fun _=>rfl) fun F=>AY B F
  have DZ37:=dI z9 X G gw (fun _ _ _ _ _ _=>dO fun _ _ _=>rfl) fun F=>AZ B F DZ36
  have DZ38:=dI z9 X G gy (fun _ _ _ _ _ _=>bT fun _=>rfl) fun F=>A0 B F DZ6 DZ33 DZ34 DZ35 DZ36 DZ37
  have DZ39:=dI z9 X G g0 (fun _ _ _ _ _ _=>cI fun _ _=>rfl) fun F=>A1 B F DZ36
  have DZ40:=dI z9 X G g1 (fun _ _ _ _ _ _=>bT fun _=>rfl) fun F=>A3 B F DZ6 DZ36 DZ38 DZ39
  have DZ41:=dI z9 X G g2 (fun _ _ _ _ _ _=>cI fun _ _=>rfl) fun F=>A4 B F
  have DZ42:=dI z9 X G g3 (fun _ _ _ _ _ _=>bT fun _=>rfl) fun F=>A5 B F
  have DZ43:=dI z9 X G g4 (fun _ _ _ _ _ _=>cI fun _ _=>rfl) fun F=>A6 B F
  have DZ44:=dI z9 X G g5 (fun _ _ _ _ _ _=>cI fun _ _=>rfl) fun F=>A7 B F
  have DZ45:=dI z9 X G g6 (fun _ _ _ _ _ _=>bT fun _=>rfl) fun F=>A8 B F DZ44
  have DZ46:=dI z9 X G g7 (fun _ _ _ _ _ _=>cI fun _ _=>rfl) fun F=>A9 B F DZ43
  have DZ47:=dI z9 X G g8 (fun _ _ _ _ _ _=>cI fun _ _=>rfl) fun F=>Ba B F
  have DZ48:=dI z9 X G g9 (fun _ _ _ _ _ _=>dO fun _ _ _=>rfl) fun F=>Bb B F DZ46
  have DZ49:=dI z9 X G gK (fun _ _ _ _ _ _=>lO fun _ _ _ _=>rfl) fun F=>Bc B F DZ46 DZ47
  have DZ50:=dI z9 X G gL (fun _ _ _ _ _ _=>cI fun _ _=>rfl) fun F=>Be B F DZ47
  have DZ51:=dI z9 X G gN (fun _ _ _ _ _ _=>lO fun _ _ _ _=>rfl) fun F=>Bf B F
  have DZ52:=dI z9 X G gP (fun _ _ _ _ _ _=>cI fun _ _=>rfl) fun F=>Bg B F
  have DZ53:=dI z9 X G gT (fun _ _ _ _ _ _=>lO fun _ _ _ _=>rfl) fun F=>Bh B F DZ44 DZ48 DZ49 DZ50 DZ51 DZ52
  have DZ54:=dI z9 X G gV (fun _ _ _ _ _ _=>bT fun _=>rfl) fun F=>Bi B F
  have DZ55:=dI z9 X G gY (fun _ _ _ _ _ _=>dO fun _ _ _=>rfl) fun F=>Bj B F
  have DZ56:=dI z9 X G gZ (fun _ _ _ _ _ _=>bT fun _=>rfl) fun F=>Bk B F DZ54 DZ55
  have DZ57:=dI z9 X G ha (fun _ _ _ _ _ _=>cI fun _ _=>rfl) fun F=>Bl B F DZ54 DZ56
  have DZ58:=dI z9 X G hb (fun _ _ _ _ _ _=>cI fun _ _=>rfl) fun F=>Bm B F DZ33 DZ34 DZ35 DZ42
  have DZ59:=dI z9 X G hc (fun _ _ _ _ _ _=>lO fun _ _ _ _=>rfl) fun F=>Bo B F DZ42 DZ58
  exact Bp B Flaw DZ32 DZ40 DZ41 DZ45 DZ53 DZ57 DZ59
theorem walk {l:PySem.W.OpenLaw} {q:Program} {loose:GO} {XP:GL->Heap->Prop} {YP:World->Heap->Prop} {d:DefRec} {K:Params->D3} (hn:l.most=some 63) (hdf:d.params.defaults= [])
  (hY:∀(w:World) (h:Heap),YP w h->(K w.params).In h)
  (F:∀(w:World) (mg:GL) (fa:Addr) (h:Heap),(K w.params).In h->h.Ns mainGlobals mg->mg d.name=some (.ref fa)->
   ∃fd:FuncData,(∀(s:Shared) (u:Value),BindsTo s fd ⟨[u],[]⟩ [("_law_script",u)])/\∀base:Heap,(K w.params).In base->base.Ns mainGlobals mg->bh l.prog w (K w.params) mg base bi 20 fa fd ["_law_script"] (pV (K w.params))):
  PySem.W.WalkO q loose XP YP l.row.toRowW d [] (fun f vs=>PySem.call f vs):=
 L2.uX (n:=63) (k:=20) (x:= "_law_script") (CX:=fun _=>bi) (sp:=fun w=>pV (K w.params)) hn (by decide) hdf ⟨rfl,by decide,by decide⟩ hY F (fun _ _ a ns hl _ hS=>⟨a,ns,rfl,hS,hl,fun _=>rfl⟩) fun _ _ _ _ _ z=>z
end Lk38
open PySem PySem.W PyProof.Rows
set_option maxRecDepth 100000 in
set_option maxHeartbeats 0 in
theorem PySem.Challenge.cw_stovework_k38_whole_read_again_holds : PySem.Challenge.rw_stovework_k38_whole_read_again.Holds := by
 refine Lk38.hd ?_
 k_fill
 refine Lk38.walk (l:=PySem.Challenge.rw_stovework_k38_whole_read_again) rfl rfl (fun w h Y=>PySem.W.kIn_of Y) ?F
 case F=>
  intro w mg fa h KX G hmg
  refine' Lk38.zi KX G hmg ?a ?b ?c ?d ?e ?f ?g ?h ?i ?j ?k ?l ?m ?n ?o ?p ?q ?r ?s ?t ?u ?v ?w ?x ?y ?z ?A ?B ?C ?D ?E ?F ?G ?H ?I ?J ?K ?L ?M ?N ?O ?P ?Q ?R ?S ?T ?U ?V ?W ?X ?Y ?Z ?aa ?ab ?ac ?ad ?ae ?af ?ag ?ah ?ai ?aj ?ak ?al ?am ?an ?ao ?ap ?aq ?ar ?au ?av ?aw ?ax ?ay ?az ?aA ?aB ?aC ?aD ?aE ?aF ?aG ?aH ?aI ?aJ ?aK ?aL ?aM ?aN ?aO ?aP ?aQ ?aR ?aS ?aT ?aU ?aV ?aW ?aX ?aY ?aZ ?ba ?bb ?bc ?bd ?be ?bf ?bg ?bh ?bi ?bj ?bk ?bl ?bm ?bn ?bo ?bp ?bq ?br ?bs ?bt ?bu ?bv ?bw ?bx ?bz ?bA ?bB ?bC ?bD ?bE ?bF ?bG ?bH ?bI ?bJ ?bK ?bL ?bM ?bN ?bO ?bP ?bQ ?bR ?bS ?bT ?bU ?bV ?bW ?bX ?bY ?bZ ?ca ?cb ?cc ?cd ?ce ?cf ?cg ?ch ?ci ?cj ?ck ?cl
  case a|b|c=>exact ⟨by k_is,_,_,_,_,_,_,_,_,_,by k_is,by k_is,by k_is⟩
  case d=>k_is
  case e=>exact ⟨_,_,_,_,_,_,_,_,_,by k_is,by k_is,by k_is⟩
  case f|g|h|i|j|k|l|m|n|o|p|q|r|s|t|u|v|w|x|y|z|A|B|C|D|E|F|G|H|I|J|K|L|M|N|O|P|Q|R|S|T|U|V|W|X|Y|Z|aa|ab|ac=>exact ⟨by k_is,_,_,_,_,_,_,_,_,_,by k_is,by k_is,by k_is⟩
  case ad|ae|af|ag|ah|ai|aj|ak|al|am|an|ao|ap|aq|ar|au|av|aw|ax|ay|az|aA|aB|aC|aD|aE|aF|aG|aH|aI|aJ|aK|aL|aM|aN|aO|aP=>k_is
  case aQ=>exact ⟨_,_,_,_,_,_,_,_,_,by k_is,by k_is,by k_is⟩
  case aR=>k_is
  case aS=>exact ⟨_,_,_,_,_,_,_,_,_,by k_is,by k_is,by k_is⟩
  case aT|aU|aV|aW=>exact ⟨by k_is,_,_,_,_,_,_,_,_,_,by k_is,by k_is,by k_is⟩
  case aX|aY|aZ=>k_is
  case ba=>exact ⟨_,_,_,by k_is,rfl,rfl,by decide,.cons ⟨_,rfl⟩ (.cons ⟨_,rfl⟩ (.cons ⟨_,rfl⟩ (.nil)))⟩
  case bb=>exact ⟨_,_,_,by k_is,rfl,rfl,by decide,.cons ⟨_,rfl⟩ (.cons ⟨_,rfl⟩ (.nil))⟩
  case bc=>exact ⟨_,_,_,by k_is,rfl,rfl,by decide,.cons ⟨_,rfl⟩ (.cons ⟨_,rfl⟩ (.cons ⟨_,rfl⟩ (.nil)))⟩
  case bd=>exact ⟨by decide,_,_,_,by k_is,⟨rfl,rfl,rfl⟩,rfl,(.cons ⟨_,_,_,by k_is,rfl,rfl,by decide,.cons ⟨_,rfl⟩ (.cons ⟨_,rfl⟩ (.nil))⟩ (.cons ⟨_,_,_,by k_is,rfl,rfl,by decide,.cons ⟨_,rfl⟩ (.cons ⟨_,rfl⟩ (.nil))⟩ (.cons ⟨_,_,_,by k_is,rfl,rfl,by decide,.cons ⟨_,rfl⟩ (.cons ⟨_,rfl⟩ (.cons ⟨_,rfl⟩ (.nil)))⟩ (.cons ⟨_,_,_,by k_is,rfl,rfl,by decide,.cons ⟨_,rfl⟩ (.cons ⟨_,rfl⟩ (.cons ⟨_,rfl⟩ (.nil)))⟩ (.cons ⟨_,_,_,by k_is,rfl,rfl,by decide,.cons ⟨_,rfl⟩ (.cons ⟨_,rfl⟩ (.cons ⟨_,rfl⟩ (.cons ⟨_,rfl⟩ (.nil))))⟩ (.cons ⟨_,_,_,by k_is,rfl,rfl,by decide,.cons ⟨_,rfl⟩ (.cons ⟨_,rfl⟩ (.cons ⟨_,rfl⟩ (.nil)))⟩ (.cons ⟨_,_,_,by k_is,rfl,rfl,by decide,.cons ⟨_,rfl⟩ (.cons ⟨_,rfl⟩ (.cons ⟨_,rfl⟩ (.cons ⟨_,rfl⟩ (.nil))))⟩ (.cons ⟨_,_,_,by k_is,rfl,rfl,by decide,.cons ⟨_,rfl⟩ (.cons ⟨_,rfl⟩ (.cons ⟨_,rfl⟩ (.cons ⟨_,rfl⟩ (.nil))))⟩ (.cons ⟨_,_,_,by k_is,rfl,rfl,by decide,.cons ⟨_,rfl⟩ (.cons ⟨_,rfl⟩ (.nil))⟩ (.cons ⟨_,_,_,by k_is,rfl,rfl,by decide,.cons ⟨_,rfl⟩ (.cons ⟨_,rfl⟩ (.cons ⟨_,rfl⟩ (.nil)))⟩ (.cons ⟨_,_,_,by k_is,rfl,rfl,by decide,.cons ⟨_,rfl⟩ (.cons ⟨_,rfl⟩ (.nil))⟩ .nil)))))))))))⟩
  case be=>exact ⟨by decide,_,_,_,by k_is,⟨rfl,rfl,rfl⟩,rfl,(.cons ⟨_,_,_,by k_is,rfl,rfl,by decide,.cons ⟨_,rfl⟩ (.cons ⟨_,rfl⟩ (.nil))⟩ (.cons ⟨_,_,_,by k_is,rfl,rfl,by decide,.cons ⟨_,rfl⟩ (.cons ⟨_,rfl⟩ (.nil))⟩ (.cons ⟨_,_,_,by k_is,rfl,rfl,by decide,.cons ⟨_,rfl⟩ (.cons ⟨_,rfl⟩ (.nil))⟩ (.cons ⟨_,_,_,by k_is,rfl,rfl,by decide,.cons ⟨_,rfl⟩ (.cons ⟨_,rfl⟩ (.nil))⟩ (.cons ⟨_,_,_,by k_is,rfl,rfl,by decide,.cons ⟨_,rfl⟩ (.cons ⟨_,rfl⟩ (.nil))⟩ (.cons ⟨_,_,_,by k_is,rfl,rfl,by decide,.cons ⟨_,rfl⟩ (.cons ⟨_,rfl⟩ (.nil))⟩ (.cons ⟨_,_,_,by k_is,rfl,rfl,by decide,.cons ⟨_,rfl⟩ (.cons ⟨_,rfl⟩ (.nil))⟩ (.cons ⟨_,_,_,by k_is,rfl,rfl,by decide,.cons ⟨_,rfl⟩ (.cons ⟨_,rfl⟩ (.nil))⟩ .nil))))))))⟩
  case bf=>kernel_rfl
  case bg=>exact ⟨⟨by k_is,by k_is,by k_is⟩,by kernel_rfl,by k_is,by k_is,by k_is,by k_is⟩
  case bh=>exact ⟨by k_is,by kernel_rfl,by k_is⟩
  case bi=>k_is
  case bj=>kernel_rfl
  case bk|bl|bm|bn=>exact ⟨by k_is,by k_is,by k_is,by k_is⟩
  case bo=>exact ⟨by k_is,by k_is,by k_is⟩
  case bp|bq=>exact ⟨by k_is,by k_is,by k_is,by k_is⟩
  case br=>exact ⟨by k_is,by k_is,by k_is⟩
  case bs|bt=>exact ⟨by k_is,by k_is,by k_is,by k_is⟩
  case bu=>exact ⟨by k_is,by k_is,by k_is⟩
  case bv|bw=>exact ⟨by k_is,by k_is,by k_is,by k_is⟩
  case bx|bz|bA|bB|bC|bD|bE|bF|bG|bH|bI|bJ|bK|bL|bM|bN|bO|bP|bQ|bR|bS=>(unfold L2.aF;k_is)
  case bT|bU|bV|bW|bX|bY=>exact ⟨by k_is,by k_is,by k_is,by k_is⟩
  case bZ|ca|cb|cc|cd|ce|cf|cg|ch|ci|cj|ck|cl=>kernel_rfl
