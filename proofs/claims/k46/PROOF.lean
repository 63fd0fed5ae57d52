import PyProof.Rows.All
import Wide.All
import OpenK.AllK
import Wide.FinOn
import Lean
import PyProof.EqAt
import PyProof.EqKinds
import PyProof.TupleCall
import PyProof.NeKinds
import PyProof.StationsW
import PyProof.RulesAs
import PyProof.ExcArgsOwn
import PyProof.CompFree
import PyProof.ExcInit
import PyProof.ConsumeWalk
import PyProof.Rows.SeqGen
import PyProof.StrWalks
import PyProof.SliceStr2
import PyProof.MeetsStr
import KE.KIntText
import PyProof.Rows.FStr
import PyProof.StrCalls6
import PyProof.StrBlockL
import PyProof.ToksMono
import PyProof.WalkInts
import PyProof.Rows.MinMaxN
import PyProof.StrLawsReplace
import PyProof.StrLawsTight
import PyProof.Rows.StrLawsPart
import PyProof.DictWalks
import KE.KEqDict
import KE.KDictLaws
import KE.KRevIter
import PyProof.ListCopy
import PyProof.CollectIter
import PyProof.Rows.SetFrom
import PyProof.Rows.SortShellK
import PyProof.Rows.SortStr
import PyProof.Rows.SortWalk
import KE.KDictSum
import KE.KSortTup
import PyProof.TupleOfSeq
import PyProof.Rows.SortRuns
import PyProof.FactsAll.tuple_2
import PyProof.WalksEnum
import PyProof.EnumMake
import PyProof.EnumFor
import PyProof.ZipIter
import KE.KDictOf
import PyProof.DictItems
import PyProof.FactsAll.dict_itemiterator_1
import PyProof.MeetsSeq3
import PyProof.FactsAll.list_2
import PyProof.Rows.StrRules
import PyProof.Rows.StrMul
import KE.KDictList
import PyProof.Rows.SumAny
import KE.KIsAll
import KE.KItemsList
import PySem.Challenge.RW_stovework_k46_whole_dish_bought
set_option maxHeartbeats 4000000
noncomputable section
abbrev Kq:=PySem.Str->PySem.Str->Option PySem.Addr
abbrev Kr:=PySem.Str->PySem.Str->Int×Int
abbrev Ks:=PySem.Value->PySem.Shared->Prop
abbrev Kt:=PySem.Str->Option PySem.Value
abbrev Ku:=List (PySem.Str×PySem.Str×PySem.Addr)
abbrev Kv:=List (PySem.Str×Int×Int)
abbrev Kw:=List (PySem.Str×List PySem.Str)
abbrev Kx:=List (PySem.Str×PySem.Str)
abbrev Ky:=List (PySem.Addr×PySem.Obj)
abbrev Kz:=Array (Option PySem.Value)
abbrev KA:=List PySem.Str
abbrev KB:=List PySem.Addr
abbrev KC:=List PySem.Value
abbrev KG:=Option PySem.Addr
abbrev KH:=Option PySem.Value
abbrev KI:=PySem.Str×Int×Int
open Array renaming getElem?_toList → HX, length_toList → Hi, getElem?_eq_getElem → ID
open Bool renaming false_ne_true → GQ, false_eq_true → Ia, eq_iff_iff → Ic
open Int renaming fmod_nonneg_of_pos → GO, fmod_lt_of_pos → HD, mul_pos → HU, mul_le_mul_of_nonneg_right → Hs, le_of_lt → Hv, toNat_natCast → IJ, mul_nonneg → IM, dvd_mul_left → Ik
open List renaming getElem?_eq_getElem → G1, length_map → G2, getElem?_eq_some_iff → G3, mem_of_getElem? → G5, getElem?_append_left → G6, getElem?_append_right → G7, length_append → G8, mem_map → G9, getElem?_map → GJ, mem_singleton → GK, mem_cons → GM, mem_append_right → GN, mem_iff_getElem? → GP, getD_eq_getElem?_getD → GS, mem_append → GU, length_singleton → GV, map_append → GW, length_take → GX, mem_cons_of_mem → HA, size_toArray → HF, nodup_cons → HL, not_mem_nil → HQ, length_cons → HS, map_cons → HY, map_map → He, take_append_drop → Hg, getElem?_eq_none → Hh, length_reverse → Hj, take_of_length_le → Hn, mem_cons_self → Ho, mem_append_left → Hu, all_eq_true → Hw, length_pos_iff → Hx, nodup_append → Hz, pairwise_append → IH, eq_nil_of_length_eq_zero → II, take_succ → IL, length_filter_le → IN, mem_filter → IR, length_nil → IS, append_nil → IT, pairwise_map → IV, ext_getElem? → IW, mem_range → IX, lookup → IY, nodup_nil → Ih, filter_cons → Ii, cons_append → Ij, map_congr_left → Il, filterMap_cons → Im, getElem?_take_of_lt → Iq, find?_cons → Ir
open List.Pairwise renaming imp_of_mem → Ig
open Nat renaming le_refl → G4, ne_of_lt → GL, zero_le → HC, lt_of_lt_of_le → HK, le_trans → HN, lt_succ_iff_lt_or_eq → HR, ne_of_gt → IB, lt_succ_of_lt → IC, sub_self → IK, not_lt_zero → IU, eq_zero_or_pos → Ib, lt_irrefl → Ie
open Option renaming map_eq_some_iff → HB, bind_eq_some_iff → HV, isSome_iff_exists → IF, map_some → Io
open Option.some renaming inj → HH
open PyProof renaming noPylong_small → GZ
open PyProof.Rows renaming callWith_type1 → Hl
open PySem renaming mem_of_lookup → Hr
open PySem.F renaming plainAttrs_list → HE, type_list_append → HI, slot_list_append → HJ, plainAttrs_dict → Ip
open PySem.W renaming Frag → G0, nsIn → GR, mg_of → GY, findIn → HG, emptyDict → HP, mg_none_of → HW, keepIn → Hk, fnOf → Hq, kitOne → Hy, kia_one → IA, callWith_K → IE, codeIn → IG, instObj → IP, excIn → IQ, subIn → IZ
open PySem.W.Fast renaming te14364793385576792824 → HZ, te14289696077712309145 → Ha, te11892475500146522536 → Hb, te10274390034422433532 → Hc, te10156331382660048174 → Hd, te6613529449190102663 → Hf
namespace Ht
open PySem PySem.W PyProof.Rows
noncomputable def sj (ok:Thread->Bool) (st:SharedT->Thread->Option (SharedT×Thread)) (n:Nat):SharedT->Thread->Option SharedT:=
 Nat.rec (motive:=fun _=>SharedT->Thread->Option SharedT) (fun _ _=>none) (fun _ ih s t=>
  Bool.rec (motive:=fun _=>Option SharedT)
   (Bool.rec (motive:=fun _=>Option SharedT) none (Option.rec (motive:=fun _=>Option SharedT) none (fun r=>Prod.rec (motive:=fun _=>Option SharedT) (fun s' t'=>ih s' t') r) (st s t)) (ok t))
   (some s) (through t)) n
theorem uq {tb:String->Option Builtin} {p:Program} {w:World} {m:Nat} {ann:KH}:∀{n:Nat} {s s':SharedT} {t:Thread},sj (stepOk m ann) (stepT (denote tb) p w) n s t=some s'->topRun tb p w m ann n s.abs t=some s'.abs
 |0,_,_,_,h=>by cases h
 |n+1,s,s',t,h=>by
  unfold topRun;have h':Bool.rec (motive:=fun _=>Option SharedT)
   (Bool.rec (motive:=fun _=>Option SharedT) none (Option.rec (motive:=fun _=>Option SharedT) none (fun r=>Prod.rec (motive:=fun _=>Option SharedT) (fun s' t'=>sj (stepOk m ann) (stepT (denote tb) p w) n s' t') r) (stepT (denote tb) p w s t)) (stepOk m ann t))
   (some s) (through t)=some s':=h
  cases ht:through t with
  |true=>rw[ht] at h';cases h';rfl
  |false=>
   rw[ht] at h';cases hk:stepOk m ann t with
   |false=>rw[hk] at h';cases h'
   |true=>
    rw[hk] at h';cases hs:stepT (denote tb) p w s t with
    |none=>rw[hs] at h';cases h'
    |some r=>
     obtain ⟨s₂,t₂⟩:=r;rw[hs] at h';dsimp only;rw[stepT_spec hs];exact uq h'
noncomputable def grow (l:List Obj):Nat->BT->Option BT:=
 List.rec (motive:=fun _=>Nat->BT->Option BT) (fun _ t=>some t) (fun o _ ih n t=>
  Bool.rec (motive:=fun _=>Option BT) none (ih (n+1) (t.ins n o)) ((t.ins n o).get n).isSome) l
theorem ur {life:Life}:∀{l:List Obj} {n:Nat} {t t':BT},grow l n t=some t'->absHeap t' (n+l.length) life=⟨(absHeap t n life).objs++l.toArray,life⟩
 | [],n,t,t',h=>by
  cases h;simp[absHeap]
 |o::l,n,t,t',h=>by
  have h':Bool.rec (motive:=fun _=>Option BT) none (grow l (n+1) (t.ins n o)) ((t.ins n o).get n).isSome=some t':=h
  cases e:((t.ins n o).get n).isSome with
  |false=>rw[e] at h';cases h'
  |true=>
   rw[e] at h';have z:=ur (life:=life) h';rw[absHeap_ins e] at z;rw[show n+(o::l).length=n+1+l.length by rw[HS];lia,z]
   simp[Heap.push]
noncomputable def treeOf (s:Shared):Option SharedT:=
 Option.rec (motive:=fun _=>Option SharedT) none (fun t=>some ⟨t,s.heap.objs.size,s.heap.life,s.gens,s.drawn,s.toks,s.os⟩) (grow s.heap.objs.toList 0 .nil)
theorem sk {s:Shared} {s':SharedT} (h:treeOf s=some s'):s'.abs=s:=by
 have h':Option.rec (motive:=fun _=>Option SharedT) none (fun t=>some ⟨t,s.heap.objs.size,s.heap.life,s.gens,s.drawn,s.toks,s.os⟩) (grow s.heap.objs.toList 0 .nil)=some s':=h
 cases e:grow s.heap.objs.toList 0 .nil with
 |none=>rw[e] at h';cases h'
 |some t=>
  rw[e] at h';cases h';have z:=ur (life:=s.heap.life) e;obtain ⟨⟨objs,life⟩,gens,drawn,toks,os⟩:=s;simp only[SharedT.abs];have z':absHeap t objs.size life=⟨objs,life⟩:=by
   simpa [absHeap,BT.list] using z
  rw[z']
noncomputable def wM (ok:Nat->KH->Thread->Bool) (st:SharedT->Thread->Option (SharedT×Thread)) (p:Program) (N:Nat) (s₀:Shared):Option Shared:=
 Bool.rec (motive:=fun _=>Option Shared) none
  ((treeOf s₀).bind fun t₀=>(sj (ok s₀.heap.objs.size (s₀.heap.nsMap mainGlobals "__annotations__")) st N t₀ (topStub p)).bind fun t₁=>
   (fun s₁=>Bool.rec (motive:=fun _=>Option Shared) none (some s₁) (staticsOk (importedModules p.main.body) s₀.heap s₁.heap&&namesBound p s₁.heap&&gensDone s₁&&laidKept s₀.heap s₁.heap)) t₁.abs)
  (s₀.heap.isNs mainGlobals&&s₀.gens.size==0)
theorem wN {tb:String->Option Builtin} {p:Program} {w:World} {N:Nat} {s₀ s:Shared} (h:wM stepOk (stepT (denote tb) p w) p N s₀=some s):topFrom tb p w N s₀=some s:=by
 unfold wM at h;unfold topFrom;cases e:s₀.heap.isNs mainGlobals&&s₀.gens.size==0 with
 |false=>rw[e] at h;cases h
 |true=>
  rw[e] at h;obtain ⟨t₀,e0,h⟩:=HV.mp h;obtain ⟨t₁,e1,h⟩:=HV.mp h;have r:=uq e1;rw[sk e0] at r;dsimp only;rw[r];dsimp only at h;show (match staticsOk (importedModules p.main.body) s₀.heap t₁.abs.heap&&namesBound p t₁.abs.heap&&gensDone t₁.abs&&laidKept s₀.heap t₁.abs.heap with|true=>some t₁.abs|false=>none)=some s
  cases q:staticsOk (importedModules p.main.body) s₀.heap t₁.abs.heap&&namesBound p t₁.abs.heap&&gensDone t₁.abs&&laidKept s₀.heap t₁.abs.heap with
  |false=>rw[q] at h;cases h
  |true=>rw[q] at h;exact h
noncomputable def oR (ok:Nat->KH->Thread->Bool) (st:SharedT->Thread->Option (SharedT×Thread)) (p:Program) (N:Nat) (s₀:Shared):Option Shared:=
 (treeOf s₀).bind fun t₀=>(sj (ok s₀.heap.objs.size (s₀.heap.nsMap mainGlobals "__annotations__")) st N t₀ (topStub p)).map fun t₁=>t₁.abs
noncomputable def yR (p:Program) (s₀ s₁:Shared):Bool:=(s₀.heap.isNs mainGlobals&&s₀.gens.size==0)&&(staticsOk (importedModules p.main.body) s₀.heap s₁.heap&&namesBound p s₁.heap&&gensDone s₁&&laidKept s₀.heap s₁.heap)
theorem wO {tb:String->Option Builtin} {p:Program} {w:World} {N:Nat} {s₀ s:Shared} (h:oR stepOk (stepT (denote tb) p w) p N s₀=some s) (c:yR p s₀ s=true):topFrom tb p w N s₀=some s:=by
 apply wN;unfold oR at h;obtain ⟨t₀,e0,h⟩:=HV.mp h;obtain ⟨t₁,e1,rfl⟩:=HB.mp h;unfold yR at c;rw[Bool.and_eq_true] at c;unfold wM;rw[c.1];show ((treeOf s₀).bind fun t₀=>_)=_
 rw[e0];show ((sj _ _ N t₀ (topStub p)).bind fun t₁=>_)=_
 rw[e1];show (Bool.rec (motive:=fun _=>Option Shared) none (some t₁.abs) (staticsOk (importedModules p.main.body) s₀.heap t₁.abs.heap&&namesBound p t₁.abs.heap&&gensDone t₁.abs&&laidKept s₀.heap t₁.abs.heap):Option Shared)=_
 rw[c.2]
abbrev Look (p:Program) (N:Nat) {α:Type} (f:Shared->Shared->α) (v:World->α):Prop:=∀w:World,((importEnds treeTable (opening p) w N (start (opening p)).1 (start (opening p)).2).bind fun s=>(fenceModules? p s).bind fun s₀=>(oR stepOk (stepT (denote treeTable) p w) p N s₀).map fun s₁=>f s₀ s₁)=some (v w)
theorem Look.at_ {p:Program} {N:Nat} {α:Type} {f:Shared->Shared->α} {v:World->α} (h:Look p N f v) (w:World) {s s₀ s₁:Shared} (a:importEnds treeTable (opening p) w N (start (opening p)).1 (start (opening p)).2=some s) (b:fenceModules? p s=some s₀) (c:oR stepOk (stepT (denote treeTable) p w) p N s₀=some s₁):f s₀ s₁=v w:=by
 have:=h w;rw[a] at this;replace this:((fenceModules? p s).bind fun s₀=>(oR stepOk (stepT (denote treeTable) p w) p N s₀).map fun s₁=>f s₀ s₁)=some (v w):=this
 rw[b] at this;replace this:((oR stepOk (stepT (denote treeTable) p w) p N s₀).map fun s₁=>f s₀ s₁)=some (v w):=this
 rw[c] at this;injection this
theorem wP {p q:Program} {loose:KA} {Xt:Shared->Bool} {α:Type} {Yf:Shared->α} {Ya:World->α} {N:Nat} {g0:Bool} (hc:Look p N (fun s₀ s₁=>yR p s₀ s₁) fun _=>true)
  (h1:Look p N (fun _ s=>openSeen q loose (importedModules p.main.body) Xt g0 s) fun _=>openGood q loose) (h2:Look p N (fun _ s=>Yf s) Ya):LeftO p q loose Xt Yf Ya N g0:=fun w=>by
 obtain ⟨s,a,e⟩:=HV.mp (hc w);obtain ⟨s₀,b,e⟩:=HV.mp e;obtain ⟨s₁,c,e⟩:=HB.mp e;have z:openEnds treeTable p w N=some s₁:=by
  unfold openEnds fencedOpening;rw[a];show (fenceModules? p s).bind _=_;rw[b];exact wO c e
 rw[z];show some (_,_)=some (_,_);rw[h1.at_ w a b c,h2.at_ w a b c]
noncomputable def ut (t:SharedT) (a:Addr):Option Obj:=Bool.rec (motive:=fun _=>Option Obj) none ((fun o=>Bool.rec (motive:=fun _=>Option Obj) (some o) none (Obj.isFreed o)) ((t.tree.get a).getD default)) (Nat.blt a t.n)
theorem vx (t:SharedT) (a:Addr):ut t a=t.abs.heap.get? a:=by
 unfold ut SharedT.abs Heap.get?;dsimp only;rw[absHeap_at];cases h:Nat.blt a t.n with
 |false=>
  rw[if_neg fun z=>by rw[Nat.blt_eq.mpr z] at h;cases h]
 |true=>
  rw[if_pos (Nat.blt_eq.mp h)];obtain ⟨cls,dict,data,slots⟩:=(t.tree.get a).getD default;cases data<;>rfl
theorem vy {p:Program} {N:Nat} {as:KB} {v:World->List (Option Obj)}
  (h:∀w:World,((importEnds treeTable (opening p) w N (start (opening p)).1 (start (opening p)).2).bind fun s=>(fenceModules? p s).bind fun s₀=>(treeOf s₀).bind fun t₀=>(sj (stepOk s₀.heap.objs.size (s₀.heap.nsMap mainGlobals "__annotations__")) (stepT (denote treeTable) p w) N t₀ (topStub p)).map fun t₁=>as.map (ut t₁))=some (v w)):
  Look p N (fun _ s=>as.map s.heap.get?) v:=fun w=>by
 obtain ⟨s,a,e⟩:=HV.mp (h w);obtain ⟨s₀,b,e⟩:=HV.mp e;obtain ⟨t₀,c,e⟩:=HV.mp e;obtain ⟨t₁,d,e⟩:=HB.mp e;rw[a];show (fenceModules? p s).bind _=_;rw[b];show (oR stepOk (stepT (denote treeTable) p w) p N s₀).map _=_;unfold oR;rw[c];show ((sj _ _ N t₀ (topStub p)).map fun t₁=>t₁.abs).map _=_
 rw[d];show some (as.map t₁.abs.heap.get?)=_;rw[<-e,show (as.map (ut t₁))=as.map t₁.abs.heap.get? from Il fun a _=>vx t₁ a]
theorem AZ {p:Program} {N:Nat} {α β γ δ ε ζ η:Type} {f:Shared->Shared->α×β×γ×δ×ε×ζ×η} {v:World->α×β×γ×δ×ε×ζ×η} (h1:Look p N (fun a b=>(f a b).1) fun w=>(v w).1) (h2:Look p N (fun a b=>(f a b).2.2.1) fun w=>(v w).2.2.1)
  (h3:Look p N (fun a b=>(f a b).2.2.2.1) fun w=>(v w).2.2.2.1) (h4:Look p N (fun a b=>(f a b).2.2.2.2.2.1) fun w=>(v w).2.2.2.2.2.1) (h5:Look p N (fun a b=>((f a b).2.1,(f a b).2.2.2.2.1,(f a b).2.2.2.2.2.2)) fun w=>((v w).2.1,(v w).2.2.2.2.1,(v w).2.2.2.2.2.2)):Look p N f v:=fun w=>by
 obtain ⟨s,a,e⟩:=HV.mp (h1 w);obtain ⟨s₀,b,e⟩:=HV.mp e;obtain ⟨s₁,c,e⟩:=HB.mp e;have e1:=h1.at_ w a b c;have e2:=h2.at_ w a b c;have e3:=h3.at_ w a b c;have e4:=h4.at_ w a b c;have e5:=h5.at_ w a b c;rw[a];show (fenceModules? p s).bind _=_;rw[b];show (oR stepOk (stepT (denote treeTable) p w) p N s₀).map _=_;rw[c];obtain ⟨f1,f2⟩:=Prod.mk.inj e5;obtain ⟨f2,f3⟩:=Prod.mk.inj f2;have f4:f s₀ s₁=v w:=Prod.ext e1 (Prod.ext f1 (Prod.ext e2 (Prod.ext e3 (Prod.ext f2 (Prod.ext e4 f3)))));exact congrArg some f4
end Ht
set_option Elab.async false
set_option linter.all false
set_option maxRecDepth 100000
namespace Lk46
open PySem PySem.W PyProof.Rows
noncomputable def qv:Program:={PySem.Challenge.pw_stovework_k46_whole_dish_bought with main:={PySem.Challenge.pw_stovework_k46_whole_dish_bought.main with body:=([0,2,3,4,5,6,7,8,9,11,12,15,16,17,18,19,20,21,23,27,28,30,32,33,34,36,37,38,39,41,43,44,45,47,49,50,51,52,53,54,55,56,57,58,59,60,61,62,63,64,65,66]:List Nat).filterMap fun i=>PySem.Challenge.pw_stovework_k46_whole_dish_bought.main.body[i]?}}
noncomputable def lo:KA:= ["fraction","packs_for","bought_of"]
theorem head {α:Type} {Yf:Shared->α} {Ya:World->α} {YP:World->Heap->Prop} {d:DefRec} {kwd:List (Str×Expr)} (left:LeftO PySem.Challenge.pw_stovework_k46_whole_dish_bought qv lo (fun s=>xlAt qv [] s&&recOk [] s) Yf Ya 8300)
  (hY:∀w s,Yf s=Ya w->YP w s.heap) (hYk:∀w h h',YP w h->(∀b o,h.get? b=some o->h'.get? b=some o)->YP w h') (hd:defOf qv PySem.Challenge.rw_stovework_k46_whole_dish_bought.row.name=some (d,kwd))
  (hp:PySem.Challenge.rw_stovework_k46_whole_dish_bought.row.prog.theDef PySem.Challenge.rw_stovework_k46_whole_dish_bought.row.name=some (d.params,d.body,d.scope)) (hk:kwWritten? d.params.kwonlyargs d.params.kw_defaults=some kwd)
  (said:PySem.Challenge.rw_stovework_k46_whole_dish_bought.row.wellSaid=true) (hw:PySem.Challenge.rw_stovework_k46_whole_dish_bought.row.toRowW.promised) (call:WalkO qv lo (XL qv []) YP PySem.Challenge.rw_stovework_k46_whole_dish_bought.row.toRowW d kwd fun f vs=>PySem.call f vs):PySem.Challenge.rw_stovework_k46_whole_dish_bought.row.Holds:=
 holds_open left hY hYk (fun s e=>xl_of s (Bool.and_eq_true_iff.mp e).1) XL.keeps hd hp hk (fun s e=>recFacts_of (Bool.and_eq_true_iff.mp e).2) rfl said (by decide+kernel) ⟨rfl,rfl,rfl,rfl,rfl,by decide+kernel⟩ hw call
set_option maxHeartbeats 0 in
theorem la:Ht.Look PySem.Challenge.pw_stovework_k46_whole_dish_bought 8300 (fun s₀ s₁=>Ht.yR PySem.Challenge.pw_stovework_k46_whole_dish_bought s₀ s₁) (fun _=>true):=by
 (intro w;rw[Hc,Ha,Hf,Hd,Hb,HZ];kernel_rfl)
set_option maxHeartbeats 0 in
theorem jj:Ht.Look PySem.Challenge.pw_stovework_k46_whole_dish_bought 8300 (fun _ s=>(openSeen qv lo (importedModules PySem.Challenge.pw_stovework_k46_whole_dish_bought.main.body) (fun s=>xlAt qv [] s&&recOk [] s) true s).1) (fun _=>(openGood qv lo).1):=by
 dsimp only[openSeen,openGood]
 (intro w;rw[Hc,Ha,Hf,Hd,Hb,HZ];kernel_rfl)
set_option maxHeartbeats 0 in
theorem AD:Ht.Look PySem.Challenge.pw_stovework_k46_whole_dish_bought 8300 (fun _ s=>(openSeen qv lo (importedModules PySem.Challenge.pw_stovework_k46_whole_dish_bought.main.body) (fun s=>xlAt qv [] s&&recOk [] s) true s).2.2.1) (fun _=>(openGood qv lo).2.2.1):=by
 dsimp only[openSeen,openGood]
 (intro w;rw[Hc,Ha,Hf,Hd,Hb,HZ];kernel_rfl)
set_option maxHeartbeats 0 in
theorem AE:Ht.Look PySem.Challenge.pw_stovework_k46_whole_dish_bought 8300 (fun _ s=>(openSeen qv lo (importedModules PySem.Challenge.pw_stovework_k46_whole_dish_bought.main.body) (fun s=>xlAt qv [] s&&recOk [] s) true s).2.2.2.1) (fun _=>(openGood qv lo).2.2.2.1):=by
 dsimp only[openSeen,openGood]
 (intro w;rw[Hc,Ha,Hf,Hd,Hb,HZ];kernel_rfl)
set_option maxHeartbeats 0 in
theorem Gv:Ht.Look PySem.Challenge.pw_stovework_k46_whole_dish_bought 8300 (fun _ s=>(openSeen qv lo (importedModules PySem.Challenge.pw_stovework_k46_whole_dish_bought.main.body) (fun s=>xlAt qv [] s&&recOk [] s) true s).2.2.2.2.2.1) (fun _=>(openGood qv lo).2.2.2.2.2.1):=by
 dsimp only[openSeen,openGood]
 (intro w;rw[Hc,Ha,Hf,Hd,Hb,HZ];kernel_rfl)
set_option maxHeartbeats 0 in
theorem yS:Ht.Look PySem.Challenge.pw_stovework_k46_whole_dish_bought 8300 (fun _ s=>((openSeen qv lo (importedModules PySem.Challenge.pw_stovework_k46_whole_dish_bought.main.body) (fun s=>xlAt qv [] s&&recOk [] s) true s).2.1,(openSeen qv lo (importedModules PySem.Challenge.pw_stovework_k46_whole_dish_bought.main.body) (fun s=>xlAt qv [] s&&recOk [] s) true s).2.2.2.2.1,(openSeen qv lo (importedModules PySem.Challenge.pw_stovework_k46_whole_dish_bought.main.body) (fun s=>xlAt qv [] s&&recOk [] s) true s).2.2.2.2.2.2)) (fun _=>((openGood qv lo).2.1,(openGood qv lo).2.2.2.2.1,(openGood qv lo).2.2.2.2.2.2)):=by
 dsimp only[openSeen,openGood]
 (intro w;rw[Hc,Ha,Hf,Hd,Hb,HZ];kernel_rfl)
theorem lb:Ht.Look PySem.Challenge.pw_stovework_k46_whole_dish_bought 8300 (fun _ s=>(openSeen qv lo (importedModules PySem.Challenge.pw_stovework_k46_whole_dish_bought.main.body) (fun s=>xlAt qv [] s&&recOk [] s) true s)) (fun _=>(openGood qv lo)):=Ht.AZ jj AD AE Gv yS
end Lk46
local macro_rules| `(tactic|o_head $H)=> `(tactic|(refine Lk46.head (Yf:=PySem.W.Hook.obs $H) (Ya:=PySem.W.Hook.val $H) (YP:=PySem.W.Hook.says $H) ?hl (PySem.W.Hook.of $H) (PySem.W.Hook.keeps $H) (by rfl) (by rfl) (by rfl) (by assumption) ?hw ?hc;(case hl=>(refine Ht.wP Lk46.la Lk46.lb ?c;(case c=>(refine Ht.vy ?c2;(case c2=>(intro w;rw[Hc,Ha,Hf,Hd,Hb,HZ];kernel_rfl))))))))
namespace PySem.W.Fast
noncomputable def tw7639565947234735522:PySem.Program:=PySem.Challenge.pw_stovework_k46_whole_dish_bought
theorem te7639565947234735522:PySem.Challenge.pw_stovework_k46_whole_dish_bought=tw7639565947234735522:=rfl
end PySem.W.Fast
set_option maxHeartbeats 0 in
open_top Lk46.hd for PySem.Challenge.rw_stovework_k46_whole_dish_bought
namespace L2
open PySem PySem.Spec PyProof.Rows
abbrev Key:=Sum Int Str
noncomputable def nB:Key->Value->Bool
 | .inl k,v=>Value.isInt k v
 | .inr x,v=>Value.isStrOf x v
noncomputable def Fc (w:World):Key->Int
 | .inl k=>hashInt k
 | .inr x=>hashStr w x
theorem ca:∀{k:Key} {v:Value},nB k v=true->(∃i t,k=Sum.inl i/\v=Value.int i t)∨(∃x t,k=Sum.inr x/\v=Value.str x t)
 | .inl i,v,h=>by
  obtain ⟨t,e⟩:=Value.isInt_shape (k:=i) (v:=v) h;exact .inl ⟨i,t,rfl,e⟩
 | .inr x,v,h=>by
  obtain ⟨t,e⟩:=Value.isStrOf_shape (x:=x) (v:=v) h;exact .inr ⟨x,t,rfl,e⟩
theorem vz (i:Int) (t:Tok):nB (.inl i) (.int i t)=true:=by simp[nB,Value.isInt]
theorem vA (x:Str) (t:Tok):nB (.inr x) (.str x t)=true:=by simp[nB,Value.isStrOf]
theorem A0 (a b:Int):decide ((Sum.inl a:Key)=Sum.inl b)=(a==b):=by
 by_cases e:a=b
 ·subst e;simp
 ·have h:¬(Sum.inl a:Key)=Sum.inl b:=fun q=>e (Sum.inl.inj q)
  rw[decide_eq_false h];exact (beq_eq_false_iff_ne.mpr e).symm
theorem A1 (a b:Str):decide ((Sum.inr a:Key)=Sum.inr b)=decide (a=b):=by
 by_cases e:a=b
 ·subst e;simp
 ·have h:¬(Sum.inr a:Key)=Sum.inr b:=fun q=>e (Sum.inr.inj q)
  rw[decide_eq_false h,decide_eq_false e]
theorem A2 (a:Int) (b:Str):decide ((Sum.inl a:Key)=Sum.inr b)=false:=decide_eq_false (fun q=>nomatch q)
theorem A3 (a:Str) (b:Int):decide ((Sum.inr a:Key)=Sum.inl b)=false:=decide_eq_false (fun q=>nomatch q)
noncomputable def bE (prog:Program) (w:World):PySem.KeyKind prog w Key where
 is:=nB
 hash:=Fc w
 inj:=fun v a b ha hb=>by
  rcases ca ha with ⟨i,t,rfl,rfl⟩|⟨x,t,rfl,rfl⟩
  ·rcases ca hb with ⟨j,u,rfl,e⟩|⟨y,u,rfl,e⟩
   ·injection e with e1 _;rw[e1]
   ·exact nomatch e
  ·rcases ca hb with ⟨j,u,rfl,e⟩|⟨y,u,rfl,e⟩
   ·exact nomatch e
   ·injection e with e1 _;rw[e1]
 byValue:=fun k v h=>by
  rcases ca h with ⟨i,t,rfl,rfl⟩|⟨x,t,rfl,rfl⟩<;>rfl
 pyHash:=fun hv h=>by
  rcases ca hv with ⟨i,t,rfl,rfl⟩|⟨x,t,rfl,rfl⟩
  ·exact wpAny_pyHash_int h
  ·exact wpAny_pyHash_str h
 eqBool:=fun hu hv h=>by
  rcases ca hu with ⟨i,t,rfl,rfl⟩|⟨x,t,rfl,rfl⟩
  ·rcases ca hv with ⟨j,u,rfl,rfl⟩|⟨y,u,rfl,rfl⟩
   ·rw[A0] at h;exact wpAny_eqBool_int h
   ·rw[A2] at h;exact SeqAt.EqAt.int_str i t y u _ _ _ _ h
  ·rcases ca hv with ⟨j,u,rfl,rfl⟩|⟨y,u,rfl,rfl⟩
   ·rw[A3] at h;exact SeqAt.EqAt.str_int x t j u _ _ _ _ h
   ·rw[A1] at h;exact wpAny_eqBool_str h
 «strs» :=fun k x t v h=>by
  rcases ca h with ⟨i,u,rfl,e⟩|⟨y,u,rfl,e⟩
  ·exact nomatch e
  ·injection e with e1 _
   subst e1;cases v<;>rfl
theorem qd (prog:Program) (w:World) (i:Int) (t:Tok):(bE prog w).is (.inl i) (.int i t)=true:=vz i t
theorem qf (prog:Program) (w:World) (x:Str) (t:Tok):(bE prog w).is (.inr x) (.str x t)=true:=vA x t
inductive V where
 |non|bl (b:Bool)|int (i:Int)|str (x:Str)|byt (b:Array UInt8)|flt (b:UInt64)|ref (a:Addr)|ty (n:String)
 deriving DecidableEq
def RelV:V->Value->Prop
 | .non,u=>u=Value.none
 | .bl b,u=>u=Value.bool b
 | .int i,u=>∃t,u=Value.int i t
 | .str x,u=>∃t,u=Value.str x t
 | .byt b,u=>∃t,u=Value.bytes b t
 | .flt b,u=>∃t,u=Value.float b t
 | .ref a,u=>u=Value.ref a
 | .ty n,u=>u=Value.type n
abbrev aZ:List V->KC->Prop:=Paired RelV
theorem aZ.length {xs:List V} {us:KC} (r:aZ xs us):xs.length=us.length:=Paired.length r
theorem aZ.get:∀{xs:List V} {us:KC} {i:Nat} {x:V},aZ xs us->xs[i]?=some x->∃u,us[i]?=some u/\RelV x u
 |_,_,_,_,.nil,e=>by simp at e
 |_,_,0,_,.cons r _,e=>by simp at e;subst e;exact ⟨_,rfl,r⟩
 |_,_,i+1,x,.cons _ t,e=>by
  obtain ⟨u,h1,h2⟩:=aZ.get (i:=i) (x:=x) t (by simpa using e)
  exact ⟨u,by simpa using h1,h2⟩
theorem aZ.append:∀{xs ys:List V} {us ws:KC},aZ xs us->aZ ys ws->aZ (xs++ys) (us++ws)
 |_,_,_,_,.nil,s=>s
 |_,_,_,_,.cons r t,s=> .cons r (aZ.append t s)
theorem aZ.take:∀{xs:List V} {us:KC} (n:Nat),aZ xs us->aZ (xs.take n) (us.take n)
 |_,_,0,_=> .nil
 |_,_,_+1,.nil=> .nil
 |_,_,n+1,.cons r t=> .cons r (aZ.take n t)
theorem aZ.drop:∀{xs:List V} {us:KC} (n:Nat),aZ xs us->aZ (xs.drop n) (us.drop n)
 |_,_,0,r=>r
 |_,_,_+1,.nil=> .nil
 |_,_,n+1,.cons _ t=>aZ.drop n t
def fW:Option V->KH->Prop
 |some v,some u=>RelV v u
 |none,none=>True
 |_,_=>False
def KV {κ:Type}:List (κ×V)->List (κ×Value)->Prop:=Paired fun (p:κ×V) (q:κ×Value)=>p.1=q.1/\RelV p.2 q.2
noncomputable def kV:Key->V
 | .inl i=> .int i
 | .inr x=> .str x
inductive HO where
  |lst (xs:List V)
  |tup (xs:List V)
  |dK (kvs:List (Key×V))|dT (kvs:List (List Key×V))
  |set (S:Int->Bool) (n:Nat)
  |ins (C dx:Addr) (fs:List (Str×V))
  |own (x:Addr)
  |xd (fs:List (Str×V))
  |met (f x:Addr)
  |rng (lo hi:Int)
  |frz (o:Obj) (u:HO)
  |tbl (ps:Array Value)
  |ext (φ:Heap->Prop)
abbrev Hp:=Addr->Option HO
noncomputable def ay (H:Hp) (a:Addr) (o:HO):Hp:=fun b=>if b=a then some o else H b
theorem ac {H:Hp} {a:Addr} {o:HO}:ay H a o a=some o:=by unfold ay;rw[if_pos rfl]
theorem ak {H:Hp} {a b:Addr} {o:HO} (h:b≠a):ay H a o b=H b:=by unfold ay;rw[if_neg h]
theorem kU {H:Hp} {a:Addr} {o u:HO}:ay (ay H a o) a u=ay H a u:=by
 funext b;unfold ay;split<;>rfl
theorem cV {H:Hp} {a b:Addr} {o u:HO} (h:H a=some o) (h':H b=some u) (d:o≠u):a≠b:=by
 intro e;subst e;rw[h] at h';exact d (HH h')
theorem bj {H:Hp} {a b:Addr} {o:HO} (h:H a=some o) (h':H b=none):a≠b:=by
 intro e;subst e;rw[h] at h';cases h'
section
variable (P:Program) (w:World)
def aY (H:Hp) (h:Heap) (a:Addr):HO->Prop
 | .lst xs=>xs.length<=sizeLine/\∃(its:KC) (n:Nat),aZ xs its/\h.get? a=some {cls:= .type "list",data:= .seq its.toArray n}
 | .tup xs=>xs.length<=sizeLine/\∃its:KC,aZ xs its/\IsTup h a its.toArray
 | .dK kvs=>kvs.length<=sizeLine/\(a==sysModules)=false/\∃vs,KV kvs vs/\h.DictOf (bE P w) a vs
 | .dT kvs=>kvs.length<=sizeLine/\(a==sysModules)=false/\∃xs:List (List Key×Addr×Value),
   Paired (fun (p:List Key×V) (q:List Key×Addr×Value)=>p.1=q.1/\H q.2.1=some (.tup (p.1.map kV))/\RelV p.2 q.2.2) kvs xs/\
   ∃o es ep,h.get? a=some o/\o.ExactDict/\o.data= .dict es ep/\es.toList=xs.map (entryOfKey (tupleKind (bE P w)))/\(xs.map (·.1)).Nodup
 | .set S n=>h.SetOf (intKind P w) a S n
 | .ins C dx fs=>H dx=some (.own a)/\fs.length<=1000/\dx≠a/\h.get? a=some (IP C dx)/\
   ∃mA,h.Ns1 dx mA/\(∀f,fW (fs.lookup f) (mA f))/\PySem.Within mA (fs.map (·.1))
 | .own _=>∃o,h.get? a=some o
 | .xd fs=>∃mA,h.Ns1 a mA/\∀f,fW (fs.lookup f) (mA f)
 | .rng lo hi=>∃t u v,h.get? a=some {cls:= .type "range",data:= .fields #[.int lo t,.int hi u,.int 1 v]}
 | .frz o u=>h.get? a=some o/\aY H h a u
 | .tbl ps=>h.get? a=some {cls:= .none,data:= .fields ps}
 | .met f x=>h.get? a=some (PySem.W.methodObj (.ref f) (.ref x))
 | .ext φ=>φ h/\(∃o,h.get? a=some o)/\∀h1 h2:Heap,φ h1->(∀o,h1.get? a=some o->h2.get? a=some o)->φ h2
def fX (H:Hp) (h:Heap):Prop:=∀a o,H a=some o->aY P w H h a o
end
section
variable {P:Program} {w:World} {H H':Hp} {h h':Heap} {a:Addr} {o:HO}
theorem aY.lt (x:aY P w H h a o):a<h.objs.size:=by
 cases o with
 |lst xs=>obtain ⟨_,_,_,_,e⟩:=x;exact Heap.lt_size e
 |tup xs=>obtain ⟨_,_,_,p⟩:=x;exact p.lt
 |dK kvs=>obtain ⟨_,_,_,_,o,_,_,e,_⟩:=x;exact Heap.lt_size e
 |dT kvs=>obtain ⟨_,_,_,_,o,_,_,e,_⟩:=x;exact Heap.lt_size e
 |set S n=>obtain ⟨o,_,_,_,e,_⟩:=x;exact Heap.lt_size e
 |ins C dx fs=>obtain ⟨_,_,_,e,_⟩:=x;exact Heap.lt_size e
 |own y=>obtain ⟨_,e⟩:=x;exact Heap.lt_size e
 |xd fs=>obtain ⟨_,⟨_,_,_,e,_⟩,_⟩:=x;exact Heap.lt_size e
 |rng lo hi=>obtain ⟨_,_,_,e⟩:=x;exact Heap.lt_size e
 |frz ob u=>obtain ⟨e,_⟩:=x;exact Heap.lt_size e
 |tbl ps=>exact Heap.lt_size (show h.get? a=some _ from x)
 |met f y=>exact Heap.lt_size (show h.get? a=some _ from x)
 |ext φ=>obtain ⟨_,⟨_,e⟩,_⟩:=x;exact Heap.lt_size e
theorem Paired.mapP {α β:Type} {F G:α->β->Prop}:∀{l₁:List α} {l₂:List β},Paired F l₁ l₂->(∀a b,F a b->G a b)->Paired G l₁ l₂
 |_,_,.nil,_=> .nil
 |_,_,.cons r t,f=> .cons (f _ _ r) (Paired.mapP t f)
theorem aY.stay (x:aY P w H h a o) (k:∀b u,(b=a∨H b=some (.own a))->h.get? b=some u->h'.get? b=some u)
  (ho:∀b,H b=some (.own a)->H' b=some (.own a)) (ht:∀b xs,H b=some (.tup xs)->H' b=some (.tup xs)):aY P w H' h' a o:=by
 induction o with
 |lst xs=>obtain ⟨z,its,n,r,e⟩:=x;exact ⟨z,its,n,r,k _ _ (.inl rfl) e⟩
 |tup xs=>obtain ⟨z,its,r,ob,e,c⟩:=x;exact ⟨z,its,r,ob,k _ _ (.inl rfl) e,c⟩
 |dK kvs=>obtain ⟨z,y,vs,r,ob,es,ep,e,c⟩:=x;exact ⟨z,y,vs,r,ob,es,ep,k _ _ (.inl rfl) e,c⟩
 |dT kvs=>
  obtain ⟨z,y,xs,r,ob,es,ep,e,c⟩:=x;exact ⟨z,y,xs,Paired.mapP r fun p q z=>⟨z.1,ht _ _ z.2.1,z.2.2⟩,ob,es,ep,k _ _ (.inl rfl) e,c⟩
 |set S n=>obtain ⟨ob,es,ep,t,e,c⟩:=x;exact ⟨ob,es,ep,t,k _ _ (.inl rfl) e,c⟩
 |ins C dx fs=>
  obtain ⟨d,z,ne,e,mA,⟨od,es,ep,e2,c⟩,r⟩:=x;exact ⟨ho _ d,z,ne,k _ _ (.inl rfl) e,mA,⟨od,es,ep,k _ _ (.inr d) e2,c⟩,r⟩
 |own y=>obtain ⟨ob,e⟩:=x;exact ⟨ob,k _ _ (.inl rfl) e⟩
 |xd fs=>obtain ⟨mA,⟨od,es,ep,e,c⟩,r⟩:=x;exact ⟨mA,⟨od,es,ep,k _ _ (.inl rfl) e,c⟩,r⟩
 |rng lo hi=>obtain ⟨t,u,v,e⟩:=x;exact ⟨t,u,v,k _ _ (.inl rfl) e⟩
 |frz ob u ih=>obtain ⟨e,q⟩:=x;exact ⟨k _ _ (.inl rfl) e,ih q⟩
 |tbl ps=>
  have e:h.get? a=some {cls:= .none,data:= .fields ps}:=x;show h'.get? a=some {cls:= .none,data:= .fields ps};exact k a _ (.inl rfl) e
 |met f y=>
  have e:h.get? a=some (PySem.W.methodObj (.ref f) (.ref y)):=x;show h'.get? a=some (PySem.W.methodObj (.ref f) (.ref y));exact k a _ (.inl rfl) e
 |ext φ=>obtain ⟨p,⟨o,e⟩,st⟩:=x;exact ⟨st _ _ p fun o q=>k _ _ (.inl rfl) q,⟨o,k _ _ (.inl rfl) e⟩,st⟩
theorem fX.lt (x:fX P w H h) (e:H a=some o):a<h.objs.size:=(x a o e).lt
theorem fX.fresh (x:fX P w H h) (e:h.objs.size<=a):H a=none:=by
 cases q:H a with
 |none=>rfl
 |some u=>exact absurd (HK (x.lt q) e) (Ie _)
theorem fX.kept (x:fX P w H h) (k:∀b u,h.get? b=some u->h'.get? b=some u):fX P w H h':=fun a o e=>
 (x a o e).stay (fun b u _ q=>k b u q) (fun _ q=>q) fun _ _ q=>q
theorem fX.laid (x:fX P w H h) (k:∀b u,h.get? b=some u->h'.get? b=some u) (hp:h.objs.size<=a) (new:aY P w (ay H a o) h' a o):fX P w (ay H a o) h':=fun b u e=>by
 have hn:=x.fresh hp
 by_cases hb:b=a
 ·subst hb;rw[ac] at e;cases e;exact new
 ·rw[ak hb] at e;exact (x b u e).stay (fun c v _ q=>k c v q) (fun c q=>by rw[ak (bj q hn)];exact q) fun c xs q=>by rw[ak (bj q hn)];exact q
end
def Rd (H:Hp) (a:Addr) (u:HO):Prop:=H a=some u∨∃o,H a=some (.frz o u)
theorem Rd.ok {P:Program} {w:World} {H:Hp} {h:Heap} {a:Addr} {u:HO} (r:Rd H a u) (x:fX P w H h):aY P w H h a u:=by
 rcases r with r|⟨o,r⟩
 ·exact x a u r
 ·obtain ⟨_,q⟩:=x a _ r;exact q
def CY:Option HO->Prop
 |some (.lst _)=>True
 |some (.dK _)=>True
 |some (.dT _)=>True
 |some (.set _ _)=>True
 |some (.ins _ _ _)=>True
 |some (.ext _)=>True
 |_=>False
section
variable {P:Program} {w:World} {H:Hp} {h h':Heap} {x e:Addr} {o':HO}
theorem fX.write (ok:fX P w H h) (mu:CY (H x)) (he:e=x∨H e=some (.own x)) (k:∀b u,b≠e->h.get? b=some u->h'.get? b=some u) (heo:∃u,h'.get? e=some u)
  (new:aY P w (ay H x o') h' x o'):fX P w (ay H x o') h':=fun b u q=>by
 have nown:∀c y,H c=some (.own y)->c≠x:=fun c y r z=>by subst z;rw[r] at mu;exact mu
 have ntup:∀c xs,H c=some (.tup xs)->c≠x:=fun c xs r z=>by subst z;rw[r] at mu;exact mu
 by_cases hb:b=x
 ·subst hb;rw[ac] at q;cases q;exact new
 ·rw[ak hb] at q
  by_cases hbe:b=e
  ·have q':H b=some (.own x):=by
    rcases he with z|z
    ·exact absurd (hbe.trans z) hb
    ·rw[hbe];exact z
   rw[q] at q';cases q';obtain ⟨v,hv⟩:=heo;exact ⟨v,by rw[hbe];exact hv⟩
  ·refine (ok b u q).stay (fun c v hc r=>k c v ?_ r) (fun c r=>by rw[ak (nown c b r)];exact r) fun c xs r=>by rw[ak (ntup c xs r)];exact r
   rcases hc with rfl|hc
   ·exact hbe
   ·rintro rfl;rcases he with z|z
    ·exact nown c b hc z
    ·rw[hc] at z;cases z;exact hb rfl
end
structure Un (fs ex:KB) (H H':Hp) (h h':Heap):Prop where
 keep:∀b o,h.get? b=some o->H b=none->b∉fs->b∉ex->h'.get? b=some o
 slot:∀b o,h.get? b=some o->H b=none->b∈fs->b∉ex->∃sl,h'.get? b=some {o with slots:=sl}
 free:∀b o,h.get? b=some o->H b=none->b∉ex->H' b=none
 there:∀b o,h.get? b=some o->b∉ex->∃o',h'.get? b=some o'
 tups:∀b xs,H b=some (.tup xs)->H' b=some (.tup xs)
 frzs:∀b o u,H b=some (.frz o u)->H' b=some (.frz o u)
 tbls:∀b ps,H b=some (.tbl ps)->∃more,H' b=some (.tbl (ps++more))
section
variable {fs fs' ex ex':KB} {H H1 H2:Hp} {h h1 h2 h':Heap} {a x e:Addr} {o:HO}
theorem Un.any (u:Un fs ex H H1 h h1) {b:Addr} {ob:Obj} (q:h.get? b=some ob) (n:H b=none) (hx:b∉ex):∃sl,h1.get? b=some {ob with slots:=sl}:=by
 by_cases hb:b∈fs
 ·exact u.slot b ob q n hb hx
 ·exact ⟨ob.slots,u.keep b ob q n hb hx⟩
theorem Un.trans (a:Un fs ex H H1 h h1) (b:Un fs ex H1 H2 h1 h2):Un fs ex H H2 h h2 where
 keep:=fun c ob q n hc hx=>b.keep c ob (a.keep c ob q n hc hx) (a.free c ob q n hx) hc hx
 slot:=fun c ob q n hc hx=>by
  obtain ⟨sl,e1⟩:=a.slot c ob q n hc hx;obtain ⟨sl',e2⟩:=b.slot c _ e1 (a.free c ob q n hx) hc hx;exact ⟨sl',e2⟩
 free:=fun c ob q n hx=>by
  obtain ⟨o',e1⟩:=a.there c ob q hx;exact b.free c o' e1 (a.free c ob q n hx) hx
 there:=fun c ob q hx=>by
  obtain ⟨o',e1⟩:=a.there c ob q hx;exact b.there c o' e1 hx
 tups:=fun c xs q=>b.tups c xs (a.tups c xs q)
 frzs:=fun c ob xs q=>b.frzs c ob xs (a.frzs c ob xs q)
 tbls:=fun c ps q=>by
  obtain ⟨m1,e1⟩:=a.tbls c ps q;obtain ⟨m2,e2⟩:=b.tbls c _ e1;exact ⟨m1++m2,by rw[e2,Array.append_assoc]⟩
theorem Un.kept (k:∀b u,h.get? b=some u->h'.get? b=some u):Un fs ex H H h h':=
 ⟨fun b ob q _ _ _=>k b ob q,fun b ob q _ _ _=>⟨ob.slots,k b ob q⟩,fun _ _ _ n _=>n,fun b ob q _=>⟨ob,k b ob q⟩,fun _ _ q=>q,fun _ _ _ q=>q,fun _ ps q=>⟨#[],by rw[q];simp⟩⟩
theorem Un.refl:Un fs ex H H h h:=Un.kept fun _ _ q=>q
theorem Un.laid (k:∀b u,h.get? b=some u->h'.get? b=some u) (hp:h.objs.size<=a) (hn:H a=none):Un fs ex H (ay H a o) h h' where
 keep:=fun b u q _ _ _=>k b u q
 slot:=fun b u q _ _ _=>⟨u.slots,k b u q⟩
 free:=fun b u q n _=>by rw[ak (GL (HK (Heap.lt_size q) hp))];exact n
 there:=fun b u q _=>⟨u,k b u q⟩
 tups:=fun b xs q=>by rw[ak (bj q hn)];exact q
 frzs:=fun b u xs q=>by rw[ak (bj q hn)];exact q
 tbls:=fun b ps q=>⟨#[],by rw[ak (bj q hn),q];simp⟩
theorem Un.write (mu:CY (H x)) (he:e=x∨H e=some (.own x)) (k:∀b u,b≠e->h.get? b=some u->h'.get? b=some u) (heo:∃u,h'.get? e=some u):Un fs ex H (ay H x o) h h':=by
 have hx:∀b,H b=none->b≠x:=fun b n z=>by subst z;rw[n] at mu;exact mu
 have hb:∀b,H b=none->b≠e:=fun b n z=>by
  subst z;rcases he with r|r
  ·exact hx b n r
  ·rw[n] at r;cases r
 have hm:∀b u,H b=some u->¬CY (some u)->b≠x:=fun b u q nm z=>by subst z;rw[q] at mu;exact nm mu
 refine ⟨fun b u q n _ _=>k b u (hb b n) q,fun b u q n _ _=>⟨u.slots,k b u (hb b n) q⟩,fun b u q n _=>by rw[ak (hx b n)];exact n,fun b u q _=>?_,
  fun b xs q=>by rw[ak (hm b _ q fun z=>z)];exact q,fun b u xs q=>by rw[ak (hm b _ q fun z=>z)];exact q,fun b ps q=>⟨#[],by rw[ak (hm b _ q fun z=>z),q];simp⟩⟩
 by_cases hbe:b=e
 ·subst hbe;exact heo
 ·exact ⟨u,k b u hbe q⟩
end
noncomputable def EY (h:Heap) (H:Hp):KB:=(List.range h.objs.size).filter fun a=>(H a).isSome
noncomputable def oS (h:Heap) (H:Hp):Heap:=PySem.W.hideAll h (EY h H)
theorem vB (h:Heap) (H:Hp):(oS h H).objs.size=h.objs.size:=PySem.W.hideAll_size _ _
theorem wQ {h:Heap} {H:Hp} {b:Addr} {o:Obj} (e:h.get? b=some o) (n:H b=none):(oS h H).get? b=some o:=
 PySem.W.hideAll_get _ e fun hm=>by
  have q:(H b).isSome=true:=(IR.mp hm).2;rw[n] at q;simp at q
theorem yT {h:Heap} {H:Hp} {b:Addr} {o:Obj} (e:(oS h H).get? b=some o):h.get? b=some o/\H b=none:=by
 have e':h.get? b=some o:=PySem.W.of_hideAll (EY h H) e;refine ⟨e',?_⟩;cases q:H b with
 |none=>rfl
 |some x=>
  have hm:b∈EY h H:=IR.mpr ⟨IX.mpr (Heap.lt_size e'),by simp[q]⟩
  have z:(oS h H).get? b=none:=PySem.W.hideAll_none (EY h H) hm;rw[z] at e;cases e
structure Mod (K:G0) (mg:Kt) (base:Heap):Prop where
 kin:K.In base
 glob:base.Ns mainGlobals mg
 blt:∃mb,base.Ns builtinsNs mb/\∀x:Str,x≠ "__name__" ->mb x=bootBuiltins x
 nolimit:base.NoLimit
structure Cx where
 prog:Program
 w:World
 K:G0
 mg:Str->KH
 base:Heap
 A:Around
 N:KA
 s₀:Shared
 H₀:Hp
 env:Env
 outer:List Env
 stack:List Env
 ex:KB
 fn:Str->Bool
 calm:Bool
 pn:Ky
 xe:Value->Shared->Prop
noncomputable def kr (l:List Env):KB:=l.filterMap (·.frame)
abbrev Cx.fs (X:Cx):KB:=kr X.outer
def CZ (sc:Scope) (x:Str):Prop:=sc.names.lookup x=some .local∨sc.names.lookup x=some .cell∨sc.names.lookup x=some .free
def Loc (sc:Scope) (x:Str):Prop:=sc.names.lookup x=some .local∨sc.names.lookup x=some .cell
def Look (env:Env) (h:Heap) (m:Kt) (x:Str) (u:Value):Prop:=
 (env.kindOf x=some .local/\m x=some u)∨((env.kindOf x=some .cell∨env.kindOf x=some .free)/\∃c,env.cells.lookup x=some c/\h.IsCell c (some u))
structure Cx.Ok (X:Cx):Prop where
 mod:Mod X.K X.mg X.base
 kind:X.env.scope.kind= .function
 glob:X.env.globals=mainGlobals
 blt:X.env.builtins=builtinsNs
 above:X.s₀.heap.objs.size<=X.env.locals
 inj:∀x y c,X.env.cells.lookup x=some c->X.env.cells.lookup y=some c->x=y
 has:∀x,(X.env.kindOf x=some .cell∨X.env.kindOf x=some .free)->∃c,X.env.cells.lookup x=some c
 cab:∀x c,X.fn x=true->X.env.cells.lookup x=some c->X.s₀.heap.objs.size<=c
 hd:X.calm=true->X.A.handled=none
 frames:X.A.frames=some X.stack
 stk:X.stack=X.outer∨(X.stack=X.env::X.outer/\X.env.frame=some X.env.locals)
 exf:∀b∈X.ex,b≠X.env.locals/\∀x c,X.env.cells.lookup x=some c->c≠b
 bs:∀b o,X.base.get? b=some o->X.s₀.heap.get? b=some o/\X.H₀ b=none
 bsz:X.base.objs.size<=X.s₀.heap.objs.size
 noex:∀b o,X.base.get? b=some o->b∉X.ex
 exfs:∀b∈X.ex,b∉X.fs
 funs:X.s₀.heap.FunFrames X.base X.outer
 frf:∀b∈X.fs,X.H₀ b=none
structure aG (X:Cx) (pins:Ky) (σ:List (Option V)) (H:Hp) (s:Shared):Prop where
 ok:X.Ok
 os:s.os=X.s₀.os
 bare:AllBare s.gens
 base:Un X.fs X.ex X.H₀ H X.s₀.heap s.heap
 loc:∃m,s.heap.Ns X.env.locals m/\∀(i:Nat) (x:Str) (v:V),X.N[i]?=some x->σ[i]?=some (some v)->CZ X.env.scope x->∃u,RelV v u/\Look X.env s.heap m x u
 cell:∀x c,X.env.cells.lookup x=some c->∃v,s.heap.IsCell c v
 free:H X.env.locals=none
 freeC:∀x c,X.env.cells.lookup x=some c->H c=none
 pin:∀p∈X.pn++pins,s.heap.get? p.1=some p.2/\H p.1=none/\p.1≠X.env.locals/\p.1∉X.fs/\∀v,p.2.data≠ .cell v
 hok:fX X.prog X.w H s.heap
 len:σ.length=X.N.length
section
variable {X:Cx} {pins:Ky} {σ:List (Option V)} {H H':Hp} {s:Shared} {h':Heap}
theorem Cx.Ok.nofr (ok:X.Ok) {b:Addr} {o:Obj} (e:X.base.get? b=some o):b∉X.fs:=fun hb=>by
 have:=(ok.funs.mem hb).1;rw[e] at this;cases this
theorem aG.bs (I:aG X pins σ H s):∀b o,X.base.get? b=some o->s.heap.get? b=some o/\H b=none:=fun b o e=>
 ⟨I.base.keep b o (I.ok.bs b o e).1 (I.ok.bs b o e).2 (I.ok.nofr e) (I.ok.noex b o e),I.base.free b o (I.ok.bs b o e).1 (I.ok.bs b o e).2 (I.ok.noex b o e)⟩
theorem aG.bk (I:aG X pins σ H s):∀b o,X.base.get? b=some o->s.heap.get? b=some o:=fun b o e=>(I.bs b o e).1
theorem aG.mod (I:aG X pins σ H s):Mod X.K X.mg X.base:=I.ok.mod
theorem aG.kIn (I:aG X pins σ H s):X.K.In s.heap:=I.ok.mod.kin.keeps I.bk
theorem aG.lt (I:aG X pins σ H s):X.env.locals<s.heap.objs.size:=let ⟨_,hn,_⟩:=I.loc;hn.lt
theorem aG.sz (I:aG X pins σ H s):X.s₀.heap.objs.size<=s.heap.objs.size:=HN I.ok.above (Nat.le_of_lt I.lt)
theorem aG.nofs (I:aG X pins σ H s) {a:Addr} (h:s.heap.objs.size<=a):a∉X.fs:=fun hb=>by
 obtain ⟨_,o,ho,_⟩:=I.ok.funs.mem hb;exact absurd (HK (Heap.lt_size ho) (HN I.sz h)) (Ie _)
theorem aG.cne (I:aG X pins σ H s):∀x c,X.env.cells.lookup x=some c->c≠X.env.locals:=fun x c e z=>by
 obtain ⟨v,o,ho,hd⟩:=I.cell x c e;obtain ⟨m,⟨o',es,ep,ho',hd',_⟩,_⟩:=I.loc;rw[z,ho'] at ho;cases ho;rw[hd'] at hd;cases hd
theorem aG.funs (I:aG X pins σ H s):s.heap.FunFrames X.base X.outer:=by
 have all:∀(l:List Env),(∀b∈kr l,b∈X.fs)->X.s₀.heap.FunFrames X.base l->s.heap.FunFrames X.base l:=by
  intro l
  induction l with
  |nil=>intro _ _;trivial
  |cons env r ih=>
   intro hs hl;obtain ⟨hk,⟨L,o,hf,hn,ho,hd⟩,hr⟩:=hl;have hL:L∈X.fs:=hs L (by unfold kr;rw[Im,hf];exact Ho)
   obtain ⟨sl,e⟩:=I.base.slot L o ho (I.ok.frf L hL) hL fun z=>I.ok.exfs L z hL
   exact ⟨hk,⟨L,_,hf,hn,e,hd⟩,ih (fun b hb=>hs b (by unfold kr;rw[Im,hf];exact HA _ hb)) hr⟩
 exact all X.outer (fun _ hb=>hb) I.ok.funs
theorem aG.stack (I:aG X pins σ H s):s.heap.FunFrames X.base X.stack:=by
 rcases I.ok.stk with e|⟨e,hf⟩
 ·rw[e];exact I.funs
 ·rw[e];obtain ⟨m,hn,_⟩:=I.loc;refine .cons (by rw[I.ok.kind];decide) hf hn ?_ I.funs
  exact Heap.get?_none_of_le (HN I.ok.bsz I.ok.above)
theorem aG.stkSub (I:aG X pins σ H s):∀b∈kr X.stack,b∈X.env.locals::X.fs:=fun b hb=>by
 rcases I.ok.stk with e|⟨e,hf⟩
 ·rw[e] at hb;exact HA _ hb
 ·rw[e] at hb;unfold kr at hb;rw[Im,hf] at hb;exact hb
theorem aG.stkFree (I:aG X pins σ H s):∀b∈kr X.stack,H b=none:=fun b hb=>by
 rcases GM.mp (I.stkSub b hb) with e|hb
 ·rw[e];exact I.free
 ·obtain ⟨_,o,ho,_⟩:=I.ok.funs.mem hb;exact I.base.free b o ho (I.ok.frf b hb) fun z=>I.ok.exfs b z hb
theorem aG.step {g':Array GenState} {t':Nat} {d':Drawn} {ch:KB} (I:aG X pins σ H s)
  (hch:∀b∈ch,(b∈X.ex∨X.s₀.heap.objs.size<=b)/\b≠X.env.locals/\(∀x c,X.env.cells.lookup x=some c->c≠b)/\∀p∈X.pn++pins,p.1≠b)
  (keep:∀b o,b≠X.env.locals->b∉X.fs->b∉ch->s.heap.get? b=some o->H b=none->h'.get? b=some o)
  (slot:∀b o,b≠X.env.locals->b∈X.fs->b∉ch->s.heap.get? b=some o->H b=none->∃sl,h'.get? b=some {o with slots:=sl}) (free:∀b o,b∉ch->s.heap.get? b=some o->H b=none->H' b=none)
  (there:∀b o,b∉ch->s.heap.get? b=some o->∃o',h'.get? b=some o')
  (tups:∀b xs,H b=some (.tup xs)->H' b=some (.tup xs)) (frzs:∀b o u,H b=some (.frz o u)->H' b=some (.frz o u)) (tbls:∀b ps,H b=some (.tbl ps)->∃more,H' b=some (.tbl (ps++more)))
  (ns:∀m,s.heap.Ns X.env.locals m->h'.Ns X.env.locals m) (hok:fX X.prog X.w H' h') (hg:AllBare g'):
  aG X pins σ H' {s with heap:=h',gens:=g',drawn:=d',toks:=t'}:=by
 have neL:∀b o,X.s₀.heap.get? b=some o->b≠X.env.locals:=fun b o e=>GL (HK (Heap.lt_size e) I.ok.above)
 have neC:∀b o,X.s₀.heap.get? b=some o->b∉X.ex->b∉ch:=fun b o e hx hb=>by
  rcases (hch b hb).1 with z|z
  ·exact hx z
  ·exact absurd (HK (Heap.lt_size e) z) (Ie _)
 have cellK:∀x c,X.env.cells.lookup x=some c->∀v,s.heap.IsCell c v->h'.IsCell c v:=fun x c e v ⟨o,ho,hd⟩=>by
  have nch:c∉ch:=fun z=>(hch c z).2.2.1 x c e rfl
  by_cases hc:c∈X.fs
  ·obtain ⟨sl,q⟩:=slot c o (I.cne x c e) hc nch ho (I.freeC x c e);exact ⟨_,q,hd⟩
  ·exact ⟨o,keep c o (I.cne x c e) hc nch ho (I.freeC x c e),hd⟩
 refine ⟨I.ok,I.os,hg,⟨fun b o e n hb hx=>?_,fun b o e n hb hx=>?_,fun b o e n hx=>?_,fun b o e hx=>?_,fun b xs e=>tups b xs (I.base.tups b xs e),fun b o xs e=>frzs b o xs (I.base.frzs b o xs e),fun b ps e=>?_⟩,?_,fun x c e=>?_,?_,fun x c e=>?_,fun p hp=>?_,hok,I.len⟩
 ·exact keep b o (neL b o e) hb (neC b o e hx) (I.base.keep b o e n hb hx) (I.base.free b o e n hx)
 ·obtain ⟨sl,e1⟩:=I.base.slot b o e n hb hx;obtain ⟨sl',e2⟩:=slot b _ (neL b o e) hb (neC b o e hx) e1 (I.base.free b o e n hx);exact ⟨sl',e2⟩
 ·obtain ⟨o',e1⟩:=I.base.there b o e hx;exact free b o' (neC b o e hx) e1 (I.base.free b o e n hx)
 ·obtain ⟨o',e1⟩:=I.base.there b o e hx;exact there b o' (neC b o e hx) e1
 ·obtain ⟨m1,e1⟩:=I.base.tbls b ps e;obtain ⟨m2,e2⟩:=tbls b _ e1;exact ⟨m1++m2,by rw[e2,Array.append_assoc]⟩
 ·obtain ⟨m,hn,hl⟩:=I.loc;refine ⟨m,ns m hn,fun i x v e1 e2 e3=>?_⟩
  obtain ⟨u,r,l⟩:=hl i x v e1 e2 e3;refine ⟨u,r,?_⟩;rcases l with l|⟨k,c,e,z⟩
  ·exact .inl l
  ·exact .inr ⟨k,c,e,cellK x c e _ z⟩
 ·obtain ⟨v,z⟩:=I.cell x c e;exact ⟨v,cellK x c e v z⟩
 ·obtain ⟨m,⟨o,_,_,ho,_⟩,_⟩:=I.loc;exact free _ o (fun z=>(hch _ z).2.1 rfl) ho I.free
 ·obtain ⟨v,o,ho,hd⟩:=I.cell x c e;exact free c o (fun z=>(hch c z).2.2.1 x c e rfl) ho (I.freeC x c e)
 ·obtain ⟨e,n,ne,nf,d⟩:=I.pin p hp;have nch:p.1∉ch:=fun z=>(hch p.1 z).2.2.2 p hp rfl
  exact ⟨keep p.1 p.2 ne nf nch e n,free p.1 p.2 nch e n,ne,nf,d⟩
theorem aG.un {t':Nat} (I:aG X pins σ H s) (u:Un X.fs [] H H' s.heap h') (hok:fX X.prog X.w H' h'):aG X pins σ H' {s with heap:=h',toks:=t'}:=by
 obtain ⟨m,⟨o,es,ep,ho,r⟩,_⟩:=id I.loc;obtain ⟨sl,hL⟩:=u.any ho I.free (by simp)
 exact I.step (g':=s.gens) (d':=s.drawn) (ch:= []) (fun _ z=>nomatch z) (fun b o _ hb _ e n=>u.keep b o e n hb (by simp)) (fun b o _ hb _ e n=>u.slot b o e n hb (by simp)) (fun b o _ e n=>u.free b o e n (by simp)) (fun b o _ e=>u.there b o e (by simp)) u.tups u.frzs u.tbls (fun m' hm=>by
  obtain ⟨o',es',ep',ho',r'⟩:=hm;rw[ho] at ho';cases ho';exact ⟨_,es',ep',hL,r'⟩) hok I.bare
theorem aG.call {g':Array GenState} {t':Nat} {d':Drawn} {ch:KB} (I:aG X pins σ H s) (u:Un (kr X.stack) ch H H' s.heap h') (hok:fX X.prog X.w H' h') (hg:AllBare g')
  (hch:∀b∈ch,(b∈X.ex∨X.s₀.heap.objs.size<=b)/\b≠X.env.locals/\(∀x c,X.env.cells.lookup x=some c->c≠b)/\∀p∈X.pn++pins,p.1≠b):
  aG X pins σ H' {s with heap:=h',gens:=g',drawn:=d',toks:=t'}:=by
 obtain ⟨m,⟨o,es,ep,ho,r⟩,_⟩:=id I.loc;obtain ⟨sl,hL⟩:=u.any ho I.free fun z=>(hch _ z).2.1 rfl
 exact I.step (ch:=ch) hch (fun b o hL hb hc e n=>u.keep b o e n (fun z=>(GM.mp (I.stkSub b z)).elim hL hb) hc) (fun b o _ _ hc e n=>u.any e n hc) (fun b o hc e n=>u.free b o e n hc) (fun b o hc e=>u.there b o e hc) u.tups u.frzs u.tbls (fun m' hm=>by
  obtain ⟨o',es',ep',ho',r'⟩:=hm;rw[ho] at ho';cases ho';exact ⟨_,es',ep',hL,r'⟩) hok hg
theorem aG.turned {t':Nat} {it:Addr} (I:aG X pins σ H s) (k:∀b o,b≠it->s.heap.get? b=some o->h'.get? b=some o) (hn:H it=none) (hL:it≠X.env.locals)
  (h1:it∈X.ex∨X.s₀.heap.objs.size<=it) (h2:∀x c,X.env.cells.lookup x=some c->c≠it) (h3:∀p∈X.pn++pins,p.1≠it):aG X pins σ H {s with heap:=h',toks:=t'}:=by
 have nit:∀b u,H b=some u->b≠it:=fun b u e z=>by rw[z,hn] at e;cases e
 refine I.step (g':=s.gens) (d':=s.drawn) (ch:= [it]) (fun b hb=>?_) (fun b o _ _ hc e _=>k b o (fun z=>hc (by simp[z])) e) (fun b o _ _ hc e _=>⟨o.slots,k b o (fun z=>hc (by simp[z])) e⟩) (fun _ _ _ _ n=>n)
  (fun b o hc e=>⟨o,k b o (fun z=>hc (by simp[z])) e⟩) (fun _ _ e=>e) (fun _ _ _ e=>e) (fun b ps e=>⟨#[],by rw[e];simp⟩) (fun m hm=>?_) (fun b u e=>?_) I.bare
 ·have e:b=it:=by simpa using hb
  subst e;exact ⟨h1,hL,h2,h3⟩
 ·obtain ⟨o,es,ep,ho,r⟩:=hm;exact ⟨o,es,ep,k _ o (Ne.symm hL) ho,r⟩
 ·refine (I.hok b u e).stay (fun c v hc q=>k c v ?_ q) (fun _ q=>q) fun _ _ q=>q
  rcases hc with z|z
  ·rw[z];exact nit b u e
  ·exact nit c _ z
theorem aG.tok (I:aG X pins σ H s) (t:Nat):aG X pins σ H {s with toks:=t}:=I.un (h':=s.heap) (t':=t) Un.refl I.hok
theorem aG.kept {t':Nat} (I:aG X pins σ H s) (k:∀b u,s.heap.get? b=some u->h'.get? b=some u):aG X pins σ H {s with heap:=h',toks:=t'}:=I.un (Un.kept k) (I.hok.kept k)
theorem aG.laid {a:Addr} {o:HO} {t':Nat} (I:aG X pins σ H s) (k:∀b u,s.heap.get? b=some u->h'.get? b=some u) (hp:s.heap.objs.size<=a) (new:aY X.prog X.w (ay H a o) h' a o):
  aG X pins σ (ay H a o) {s with heap:=h',toks:=t'}:=I.un (Un.laid k hp (I.hok.fresh hp)) (I.hok.laid k hp new)
theorem aG.write {x e:Addr} {o:HO} {t':Nat} (I:aG X pins σ H s) (mu:CY (H x)) (he:e=x∨H e=some (.own x)) (k:∀b u,b≠e->s.heap.get? b=some u->h'.get? b=some u) (heo:∃u,h'.get? e=some u)
  (new:aY X.prog X.w (ay H x o) h' x o):aG X pins σ (ay H x o) {s with heap:=h',toks:=t'}:=I.un (Un.write mu he k heo) (I.hok.write mu he k heo new)
theorem aG.pins_of {pins':Ky} (I:aG X pins σ H s) (h:∀p∈pins',s.heap.get? p.1=some p.2/\H p.1=none/\p.1≠X.env.locals/\p.1∉X.fs/\∀v,p.2.data≠ .cell v):aG X pins' σ H s:=
 ⟨I.ok,I.os,I.bare,I.base,I.loc,I.cell,I.free,I.freeC,fun p hp=>(GU.mp hp).elim (fun z=>I.pin p (Hu _ z)) (h p),I.hok,I.len⟩
theorem lH {N:KA} (hN:N.Nodup) {i j:Nat} {x:Str} (a:N[i]?=some x) (b:N[j]?=some x):i=j:=by
 obtain ⟨h1,e1⟩:=G3.mp a;obtain ⟨h2,e2⟩:=G3.mp b;exact (List.getElem_inj hN).mp (e1.trans e2.symm)
theorem nC {M:Model} {A:Around} {E:Ks} {i:Nat} {x:Str} {v:V} {u:Value} {Q:Unit->Shared->Prop} (I:aG X pins σ H s) (hN:X.N.Nodup) (hi:X.N[i]?=some x) (hx:Loc X.env.scope x) (r:RelV v u)
  (h:∀s',aG X pins (σ.set i (some v)) H s'->(∃a,Heap.SameBut a s.heap s'.heap/\(a=X.env.locals∨X.env.cells.lookup x=some a))->Q () s') (hf:X.fn x=true∨X.env.scope.names.lookup x=some .local:=by first|exact .inl rfl|exact .inr rfl|assumption):wpAny M A (storeName X.env x u) Q E s:=by
 obtain ⟨m,hn,hl⟩:=id I.loc;have hcls:(X.env.scope.kind== .class||(X.env.scope.kind== .module&&X.env.locals !=X.env.globals))=false:=by rw[I.ok.kind];rfl
 have hiσ:i<σ.length:=by rw[I.len];exact (G3.mp hi).1
 have cne:=I.cne;have tracked:∀{a:Addr} {h':Heap},(∃o,s.heap.get? a=some o/\H a=none)->Heap.SameBut a s.heap h'->fX X.prog X.w H h':=fun {a h'} ha hs b ob e=>by
  obtain ⟨_,_,hfree⟩:=ha;refine (I.hok b ob e).stay (fun c w' hc q=>(hs.2 c ?_).trans q) (fun _ q=>q) fun _ _ q=>q
  rintro rfl;rcases hc with rfl|hc
  ·rw[hfree] at e;cases e
  ·rw[hfree] at hc;cases hc
 rcases hx with hk|hk
 ·refine wpAny_storeName_local hk hn (fun h' hn' hs=>?_) hcls
  obtain ⟨oL,_,_,hoL,_⟩:=id hn;refine h _ ⟨I.ok,I.os,I.bare,⟨fun b o e n hb hx=>?_,fun b o e n hb hx=>?_,I.base.free,fun b o e hx=>?_,I.base.tups,I.base.frzs,I.base.tbls⟩,⟨_,hn',fun j y v' e1 e2 e3=>?_⟩,fun y c e=>?_,I.free,I.freeC,fun p hp=>?_,tracked ⟨oL,hoL,I.free⟩ hs,by simpa using I.len⟩ ⟨_,hs,.inl rfl⟩
  ·exact (hs.2 b (GL (HK (Heap.lt_size e) I.ok.above))).trans (I.base.keep b o e n hb hx)
  ·obtain ⟨sl,e1⟩:=I.base.slot b o e n hb hx;exact ⟨sl,(hs.2 b (GL (HK (Heap.lt_size e) I.ok.above))).trans e1⟩
  ·obtain ⟨o',e1⟩:=I.base.there b o e hx;exact ⟨o',(hs.2 b (GL (HK (Heap.lt_size e) I.ok.above))).trans e1⟩
  ·by_cases hj:j=i
   ·subst hj;rw[hi] at e1;cases e1;rw[List.getElem?_set_self hiσ] at e2;cases e2;exact ⟨u,r,.inl ⟨hk,by simp⟩⟩
   ·rw[List.getElem?_set_ne (Ne.symm hj)] at e2;obtain ⟨u',r',q⟩:=hl j y v' e1 e2 e3;refine ⟨u',r',?_⟩;rcases q with ⟨k,e⟩|⟨k,c,e,z⟩
    ·refine .inl ⟨k,?_⟩;have:y≠x:=fun e=>hj (lH hN e1 (e▸hi))
     simp[this,e]
    ·exact .inr ⟨k,c,e,z.sameBut hs (cne y c e)⟩
  ·obtain ⟨w',z⟩:=I.cell y c e;exact ⟨w',z.sameBut hs (cne y c e)⟩
  ·obtain ⟨e,n,ne,nf,d⟩:=I.pin p hp;exact ⟨(hs.2 p.1 ne).trans e,n,ne,nf,d⟩
 ·have hfn:X.fn x=true:=by
   rcases hf with z|z
   ·exact z
   ·rw[z] at hk;cases hk
  obtain ⟨c,hc⟩:=I.ok.has x (.inl hk);obtain ⟨w',z⟩:=I.cell x c hc;refine wpAny_storeName_cell I.ok.kind hk hc z (fun h' hc' hs=>?_)
  obtain ⟨oc,hoc,hocd⟩:=id z;refine h {s with heap:=h'} ⟨I.ok,I.os,I.bare,⟨fun b o e n hb hx=>?_,fun b o e n hb hx=>?_,I.base.free,fun b o e hx=>?_,I.base.tups,I.base.frzs,I.base.tbls⟩,⟨m,hn.sameBut hs (Ne.symm (cne x c hc)),fun j y v' e1 e2 e3=>?_⟩,fun y c' e=>?_,I.free,I.freeC,fun p hp=>?_,tracked ⟨oc,hoc,I.freeC x c hc⟩ hs,by simpa using I.len⟩ ⟨c,hs,.inr hc⟩
  ·exact (hs.2 b (GL (HK (Heap.lt_size e) (I.ok.cab x c hfn hc)))).trans (I.base.keep b o e n hb hx)
  ·obtain ⟨sl,e1⟩:=I.base.slot b o e n hb hx;exact ⟨sl,(hs.2 b (GL (HK (Heap.lt_size e) (I.ok.cab x c hfn hc)))).trans e1⟩
  ·obtain ⟨o',e1⟩:=I.base.there b o e hx;exact ⟨o',(hs.2 b (GL (HK (Heap.lt_size e) (I.ok.cab x c hfn hc)))).trans e1⟩
  ·by_cases hj:j=i
   ·subst hj;rw[hi] at e1;cases e1;rw[List.getElem?_set_self hiσ] at e2;cases e2;exact ⟨u,r,.inr ⟨.inl hk,c,hc,hc'⟩⟩
   ·rw[List.getElem?_set_ne (Ne.symm hj)] at e2;obtain ⟨u',r',q⟩:=hl j y v' e1 e2 e3;refine ⟨u',r',?_⟩;rcases q with q|⟨k,c',e,z'⟩
    ·exact .inl q
    ·refine .inr ⟨k,c',e,z'.sameBut hs ?_⟩;rintro rfl;exact hj (lH hN e1 (I.ok.inj _ _ _ e hc▸hi))
  ·by_cases hcc:c'=c
   ·subst hcc;exact ⟨_,hc'⟩
   ·obtain ⟨w2,z2⟩:=I.cell y c' e;exact ⟨w2,z2.sameBut hs hcc⟩
  ·obtain ⟨e,n,ne,nf,d⟩:=I.pin p hp;refine ⟨(hs.2 p.1 ?_).trans e,n,ne,nf,d⟩;intro q;rw[q,hoc] at e;have q':oc=p.2:=HH e;exact d w' (by rw[<-q'];exact hocd)
theorem fY {M:Model} {A:Around} {E:Ks} {i:Nat} {x:Str} {v:V} {u:Value} {Q:Unit->Shared->Prop} (I:aG X pins σ H s) (hN:X.N.Nodup) (hi:X.N[i]?=some x) (hx:Loc X.env.scope x) (r:RelV v u)
  (h:∀s',aG X pins (σ.set i (some v)) H s'->Q () s') (hf:X.fn x=true∨X.env.scope.names.lookup x=some .local:=by first|exact .inl rfl|exact .inr rfl|assumption):wpAny M A (storeName X.env x u) Q E s:=
 nC I hN hi hx r (fun s' I' _=>h s' I') hf
theorem aG.call' {s':Shared} {ch:KB} (I:aG X pins σ H s) (ho:s'.os=s.os) (u:Un (kr X.stack) ch H H' s.heap s'.heap) (hok:fX X.prog X.w H' s'.heap) (hg:AllBare s'.gens)
  (hch:∀b∈ch,(b∈X.ex∨X.s₀.heap.objs.size<=b)/\b≠X.env.locals/\(∀x c,X.env.cells.lookup x=some c->c≠b)/\∀p∈X.pn++pins,p.1≠b):aG X pins σ H' s':=by
 obtain ⟨h',g',d',t',o'⟩:=s';have e:o'=s.os:=ho;subst e;exact I.call (g':=g') (t':=t') (d':=d') u hok hg hch
end
abbrev XK:=Value->KG->Hp->Prop
abbrev St:=List (Option V)
abbrev VK:=V->Hp->Prop
abbrev TE:=St->Hp->VK->Prop
abbrev TT:=St->Hp->(Bool->Hp->Prop)->Prop
abbrev TA:=St->Hp->(List V->Hp->Prop)->Prop
structure Ends where
 nx:St->Hp->Prop
 rt:VK
 bk:St->Hp->Prop:=fun _ _=>False
 ct:St->Hp->Prop:=fun _ _=>False
abbrev TS:=Ends->St->Hp->Prop
def EP (X:Cx) (pins:Ky) (σ:St) (Q:VK) (u:Value) (s':Shared):Prop:=∃v H',aG X pins σ H' s'/\RelV v u/\Q v H'
def TP (X:Cx) (pins:Ky) (σ:St) (Q:Bool->Hp->Prop) (b:Bool) (s':Shared):Prop:=∃H',aG X pins σ H' s'/\Q b H'
def AP (X:Cx) (pins:Ky) (σ:St) (Q:List V->Hp->Prop) (us:KC) (s':Shared):Prop:=∃vs H',aG X pins σ H' s'/\aZ vs us/\Q vs H'
def SP (X:Cx) (pins:Ky) (D:Ends) (f:Flow) (s':Shared):Prop:=
 match f with
 | .next=>∃σ' H',aG X pins σ' H' s'/\D.nx σ' H'
 | .brk=>∃σ' H',aG X pins σ' H' s'/\D.bk σ' H'
 | .cont=>∃σ' H',aG X pins σ' H' s'/\D.ct σ' H'
 | .ret u=>∃v σ' H',aG X pins σ' H' s'/\RelV v u/\D.rt v H'
def PE (X:Cx) (e:Expr) (t:TE):Prop:=
 ∀(pins:Ky) (s:Shared) (σ:St) (H:Hp) (Q:VK),aG X pins σ H s->t σ H Q->wpAny (model X.prog X.w) X.A (eval e X.env) (EP X pins σ Q) X.xe s
def PT (X:Cx) (e:Expr) (t:TT):Prop:=
 ∀(pins:Ky) (s:Shared) (σ:St) (H:Hp) (Q:Bool->Hp->Prop),aG X pins σ H s->t σ H Q->wpAny (model X.prog X.w) X.A (isTrue e X.env (eval e X.env)) (TP X pins σ Q) X.xe s
def PW (X:Cx) (e:Expr) (t:TT):Prop:=
 ∀(whole:Sem Value) (pins:Ky) (s:Shared) (σ:St) (H:Hp) (Q:Bool->Hp->Prop),aG X pins σ H s->t σ H Q->wpAny (model X.prog X.w) X.A (isTrue e X.env whole) (TP X pins σ Q) X.xe s
theorem PW.pt {X:Cx} {e:Expr} {t:TT} (h:PW X e t):PT X e t:=h _
def PA (X:Cx) (es:List Expr) (t:TA):Prop:=
 ∀(pos:Pos) (pins:Ky) (s:Shared) (σ:St) (H:Hp) (Q:List V->Hp->Prop),aG X pins σ H s->t σ H Q->wpAny (model X.prog X.w) X.A (spliced (backTo pos (starEach es X.env))) (AP X pins σ Q) X.xe s
def PS (X:Cx) (st:Stmt) (t:TS):Prop:=
 ∀(pins:Ky) (s:Shared) (σ:St) (H:Hp) (D:Ends),aG X pins σ H s->t D σ H->wpAny (model X.prog X.w) X.A (exec st X.env) (SP X pins D) X.xe s
def kO (X:Cx) (st:List Stmt) (t:TS):Prop:=
 ∀(pins:Ky) (s:Shared) (σ:St) (H:Hp) (D:Ends),aG X pins σ H s->t D σ H->wpAny (model X.prog X.w) X.A (execs st X.env) (SP X pins D) X.xe s
theorem bH {α:Type} {t:Sem α} {Q Q':α->Shared->Prop} {M:Model} {A:Around} {E:Ks} {s:Shared} (h:wpAny M A t Q E s) (hQ:∀a s,Q a s->Q' a s):wpAny M A t Q' E s:=wpAny_mono h hQ fun _ _ x=>x
section
variable {X:Cx}
noncomputable def mV (o:Option (Option V)) (k:V->Prop):Prop:=match o with|some (some v)=>k v|_=>False
noncomputable def mB (x:V) (k:Bool->Prop):Prop:=match x with| .bl c=>k c|_=>False
noncomputable def mI (x:V) (k:Int->Prop):Prop:=match x with| .int i=>k i|_=>False
theorem mV.e {o:Option (Option V)} {k:V->Prop} (h:mV o k):∃v,o=some (some v)/\k v:=by
 unfold mV at h
 split at h
 ·exact ⟨_,rfl,h⟩
 ·exact h.elim
theorem mB.e {x:V} {k:Bool->Prop} (h:mB x k):∃v,x= .bl v/\k v:=by
 unfold mB at h
 split at h
 ·exact ⟨_,rfl,h⟩
 ·exact h.elim
theorem mI.e {x:V} {k:Int->Prop} (h:mI x k):∃v,x= .int v/\k v:=by
 unfold mI at h
 split at h
 ·exact ⟨_,rfl,h⟩
 ·exact h.elim
theorem mI.e2 {x y:V} {k:Int->Int->Prop} (h:mI x fun i=>mI y fun j=>k i j):∃i j,x= .int i/\y= .int j/\k i j:=by
 obtain ⟨i,hi,h⟩:=h.e;obtain ⟨j,hj,h⟩:=h.e;exact ⟨i,j,hi,hj,h⟩
theorem mB.i {v:Bool} {k:Bool->Prop} (h:k v):mB (.bl v) k:=h
theorem mV.o {o:Option (Option V)} {v:V} {k:V->Prop} (e:o=some (some v)) (h:k v):mV o k:=by rw[e];exact h
theorem mB.o {x:V} {v:Bool} {k:Bool->Prop} (e:x= .bl v) (h:k v):mB x k:=by rw[e];exact h
theorem mI.o {x y:V} {i j:Int} {k:Int->Int->Prop} (e:x= .int i) (e2:y= .int j) (h:k i j):mI x fun i=>mI y fun j=>k i j:=by rw[e,e2];exact h
def vC (i:Nat):TE:=fun σ H Q=>mV σ[i]? fun v=>Q v H
def tC (v:V):TE:=fun _ H Q=>Q v H
theorem A4 {i:Nat} {x:Str} {pos:Pos} (hN:X.N[i]?=some x) (hv:CZ X.env.scope x) (hd:(x==("__debug__" :Str))=false:=by decide) (hcd:(x==("__classdict__" :Str))=false:=by decide):PE X (.Name x pos) (vC i):=by
 intro pins s σ H Q I h;obtain ⟨v,e,h⟩:=mV.e h;obtain ⟨m,hn,hl⟩:=I.loc;obtain ⟨u,r,l⟩:=hl i x v hN e hv;have fin:EP X pins σ Q u s:=⟨v,H,I,r,h⟩;rcases l with ⟨hk,hm⟩|⟨hk,c,hc,hcell⟩
 ·exact wpAny_Name (wpAny_loadName_local I.ok.kind hk hn hm fin) hd
 ·rcases hk with hk|hk
  ·exact wpAny_Name (wpAny_loadName_cell I.ok.kind hk hc hcell fin) hd
  ·exact wpAny_Name (wpAny_loadName_free I.ok.kind hk hc hcell fin hcd) hd
theorem af {i j pos}:PE X (.Constant (.int i) j pos) (tC (.int i)):=fun _ _ _ H _ I h=>wpAny_Constant_int ⟨.int i,H,I.tok _,⟨_,rfl⟩,h⟩
theorem cg {b j pos}:PE X (.Constant (.bool b) j pos) (tC (.bl b)):=fun _ _ _ H _ I h=>Constant_bool ⟨.bl b,H,I,rfl,h⟩
theorem cQ {j pos}:PE X (.Constant .none j pos) (tC .non):=fun _ _ _ H _ I h=>Constant_none ⟨.non,H,I,rfl,h⟩
theorem ff {x j pos}:PE X (.Constant (.str x) j pos) (tC (.str x)):=fun _ _ _ H _ I h=>Calls.Constant_str ⟨.str x,H,I.tok _,⟨_,rfl⟩,h⟩
def Gl (X:Cx) (x:Str):Prop:=X.env.kindOf x=some .globalImplicit
theorem dZ {E:Ks} {pins:Ky} {s:Shared} {σ:St} {H:Hp} {x:Str} {u:Value} {pos:Pos} {Q:Ks} (I:aG X pins σ H s) (hg:Gl X x) (hm:X.mg x=some u) (h:Q u s)
  (hd:(x==("__debug__" :Str))=false:=by decide):wpAny (model X.prog X.w) X.A (eval (.Name x pos) X.env) Q E s:=
 Calls.Name_function_global I.ok.kind hg (Calls.loadGlobal_global (by rw[I.ok.glob];exact I.mod.glob.keeps I.bk) hm h) hd
theorem fN {E:Ks} {pins:Ky} {s:Shared} {σ:St} {H:Hp} {x:Str} {u:Value} {pos:Pos} {Q:Ks} (I:aG X pins σ H s) (hg:Gl X x) (hm:X.mg x=none) (hv:bootBuiltins x=some u) (h:Q u s)
  (hn:x≠ "__name__" :=by decide) (hd:(x==("__debug__" :Str))=false:=by decide):wpAny (model X.prog X.w) X.A (eval (.Name x pos) X.env) Q E s:=by
 obtain ⟨mb,h1,h2⟩:=I.mod.blt;exact Calls.Name_function_global I.ok.kind hg (Calls.loadGlobal_builtin (by rw[I.ok.glob];exact I.mod.glob.keeps I.bk) hm (by rw[I.ok.blt];exact h1.keeps I.bk) ((h2 x hn).trans hv) h) hd
theorem uu {x:Str} {v:V} {u:Value} {pos:Pos} (hg:Gl X x) (hm:X.mg x=some u) (r:RelV v u) (hd:(x==("__debug__" :Str))=false:=by decide):PE X (.Name x pos) (tC v):=
 fun _ _ _ H _ I h=>dZ I hg hm ⟨v,H,I,r,h⟩ hd
theorem gw {x:Str} {v:V} {u:Value} {pos:Pos} (hg:Gl X x) (hm:X.mg x=none) (hv:bootBuiltins x=some u) (r:RelV v u) (hn:x≠ "__name__" :=by decide) (hd:(x==("__debug__" :Str))=false:=by decide):PE X (.Name x pos) (tC v):=
 fun _ _ _ H _ I h=>fN I hg hm hv ⟨v,H,I,r,h⟩ hn hd
variable {a b:Expr} {ta tb:TE} {pos:Pos}
def PC (X:Cx) (op:CmpOp) (a b:Expr) (t:TE):Prop:=
 ∀(pins:Ky) (s:Shared) (σ:St) (H:Hp) (Q:VK),aG X pins σ H s->t σ H Q->
  wpAny (model X.prog X.w) X.A (eval a X.env) (fun v s₁=>wpAny (model X.prog X.w) X.A (eval b X.env) (fun u s₂=>wpAny (model X.prog X.w) X.A (compareOp op v u) (EP X pins σ Q) X.xe s₂) X.xe s₁) X.xe s
def tB (t:TE):TT:=fun σ H Q=>t σ H fun x H1=>mB x fun c=>Q c H1
theorem eG {op:CmpOp} {t:TE} (h:PC X op a b t) (h1:behindInMarks op b=false:=by first|exact nobehind _ (by decide) (by decide)|rfl):PT X (.Compare a [op] [b] pos) (tB t):=by
 intro pins s σ H Q I hw;refine wpAny_isTrue_Compare1 (bH (h pins s σ H _ I hw) fun v s1 h1=>bH h1 fun u s2 h2=>bH h2 fun c s3 ⟨x,H1,I1,r1,q1⟩=>?_) h1
 obtain ⟨d,rfl,q⟩:=mB.e q1;cases r1;exact wpAny_truthy_bool ⟨H1,I1,q⟩
theorem cW {e:Expr} {t:TE} (h:PE X e t) (he:∀whole,isTrue e X.env whole=(do let v<-whole;standAt e.pos;holding [v] (truthy v)):=by intro _;rfl):PT X e (tB t):=by
 intro pins s σ H Q I hw;refine isTrue_plain (bH (h pins s σ H _ I hw) fun v s1 ⟨x,H1,I1,r1,q1⟩=>?_) (he _)
 obtain ⟨d,rfl,q⟩:=mB.e q1;cases r1;exact wpAny_truthy_bool ⟨H1,I1,q⟩
variable {tA tB':TT} {rest:List Expr}
def Fd (t u:TT):TT:=fun σ H Q=>t σ H fun c H1=>if c=true then u σ H1 Q else Q false H1
def Gw (t u:TT):TT:=fun σ H Q=>t σ H fun c H1=>if c=true then Q true H1 else u σ H1 Q
def Fe (t:TT):TT:=fun σ H Q=>t σ H fun c H1=>Q (!c) H1
theorem iy (ha:PT X a tA):PW X (.BoolOp .And [a] pos) tA:=by
 intro wh pins s σ H Q I h;refine isTrue_and (bH (ha pins s σ H Q I h) fun c s1 e=>?_)
 cases c with
 |true=>exact isTrue_and_nil e
 |false=>exact e
theorem fO (ha:PT X a tA):PW X (.BoolOp .Or [a] pos) tA:=by
 intro wh pins s σ H Q I h;refine isTrue_or (bH (ha pins s σ H Q I h) fun c s1 e=>?_)
 cases c with
 |false=>exact isTrue_or_nil e
 |true=>exact e
theorem iZ (ha:PT X a tA) (hb:PW X (.BoolOp .And (b::rest) pos) tB'):PW X (.BoolOp .And (a::b::rest) pos) (Fd tA tB'):=by
 intro wh pins s σ H Q I h;refine isTrue_and (bH (ha pins s σ H _ I h) fun c s1 ⟨H1,I1,q1⟩=>?_)
 cases c with
 |true=>exact hb wh pins s1 σ H1 Q I1 q1
 |false=>exact ⟨H1,I1,q1⟩
theorem fh (ha:PT X a tA) (hb:PW X (.BoolOp .Or (b::rest) pos) tB'):PW X (.BoolOp .Or (a::b::rest) pos) (Gw tA tB'):=by
 intro wh pins s σ H Q I h;refine isTrue_or (bH (ha pins s σ H _ I h) fun c s1 ⟨H1,I1,q1⟩=>?_)
 cases c with
 |true=>exact ⟨H1,I1,q1⟩
 |false=>exact hb wh pins s1 σ H1 Q I1 q1
theorem dD (ha:PT X a tA):PT X (.UnaryOp .Not a pos) (Fe tA):=by
 intro pins s σ H Q I h;exact isTrue_not (ha pins s σ H (fun c H1=>Q (!c) H1) I h)
def C1 (ta tb:TE):TE:=fun σ H Q=>ta σ H fun x H1=>mB x fun c=>if c=true then tb σ H1 Q else Q (.bl false) H1
def C2 (ta:TE):TE:=fun σ H Q=>ta σ H fun x H1=>mB x fun c=>Q (.bl (!c)) H1
theorem lJ {op} {t:TE} (h:PE X a t):PE X (.BoolOp op [a] pos) t:=fun pins s σ H Q I hw=>BoolOp_one (h pins s σ H Q I hw)
theorem lK (ha:PE X a ta) (hb:PE X (.BoolOp .And (b::rest) pos) tb):PE X (.BoolOp .And (a::b::rest) pos) (C1 ta tb):=by
 intro pins s σ H Q I h;refine BoolOp_and (bH (ha pins s σ H _ I h) fun v s1 ⟨x,H1,I1,r1,q1⟩=>?_)
 obtain ⟨c,rfl,q1⟩:=mB.e q1;cases r1;refine wpAny_truthy_bool ?_;cases c with
 |true=>exact hb pins s1 σ H1 Q I1 q1
 |false=>exact ⟨.bl false,H1,I1,rfl,q1⟩
theorem wR (ha:PE X a ta):PE X (.UnaryOp .Not a pos) (C2 ta):=by
 intro pins s σ H Q I h;refine UnaryOp_ (bH (ha pins s σ H _ I h) fun v s1 ⟨x,H1,I1,r1,q1⟩=>?_)
 obtain ⟨c,rfl,q1⟩:=mB.e q1;cases r1;exact not_of (wpAny_truthy_bool ⟨.bl (!c),H1,I1,rfl,q1⟩)
def Gx (t:TT) (ta tb:TE):TE:=fun σ H Q=>t σ H fun c H1=>if c=true then ta σ H1 Q else tb σ H1 Q
theorem qg {c:Expr} (hc:PT X c tA) (ha:PE X a ta) (hb:PE X b tb):PE X (.IfExp c a b pos) (Gx tA ta tb):=by
 intro pins s σ H Q I h;refine wpAny_IfExp (bH (hc pins s σ H _ I h) fun d s1 ⟨H1,I1,q1⟩=>?_)
 cases d with
 |true=>exact ha pins s1 σ H1 Q I1 q1
 |false=>exact hb pins s1 σ H1 Q I1 q1
end
def aQ (K:G0) (H:Hp) (a:Addr) (xs:List V):Prop:=
 Rd H a (.lst xs)∨
  ∃(o:Obj) (its:Array Value) (n:Nat),K.lookup a=some o/\o.cls= .type "list" /\o.dict=none/\o.data= .seq its n/\its.size<=sizeLine/\aZ xs its.toList
def bU (K:G0) (H:Hp) (a:Addr) (xs:List V):Prop:=
 Rd H a (.tup xs)∨
  ∃(o:Obj) (its:Array Value) (n:Nat),K.lookup a=some o/\o.cls= .type "tuple" /\o.data= .seq its n/\its.size<=sizeLine/\aZ xs its.toList
noncomputable def Fh:Value->Option V
 | .none=>some .non
 | .bool b=>some (.bl b)
 | .int i _=>some (.int i)
 | .str x _=>some (.str x)
 | .bytes b _=>some (.byt b)
 | .float b _=>some (.flt b)
 | .ref a=>some (.ref a)
 | .type n=>some (.ty n)
 |_=>none
theorem RelV.abs {x:V} {u:Value} (r:RelV x u):Fh u=some x:=by
 cases x with
 |non=>cases r;rfl
 |bl _=>cases r;rfl
 |int _=>obtain ⟨t,rfl⟩:=r;rfl
 |str _=>obtain ⟨t,rfl⟩:=r;rfl
 |byt _=>obtain ⟨t,rfl⟩:=r;rfl
 |flt _=>obtain ⟨t,rfl⟩:=r;rfl
 |ref _=>cases r;rfl
 |ty _=>cases r;rfl
theorem RelV.inj {x y:V} {u:Value} (r:RelV x u) (q:RelV y u):x=y:=HH (r.abs.symm.trans q.abs)
theorem aZ.inj:∀{xs ys:List V} {us:KC},aZ xs us->aZ ys us->xs=ys
 |_,_,_,.nil,.nil=>rfl
 |_,_,_,.cons r t,.cons r' t'=>by rw[r.inj r',aZ.inj t t']
section
variable {X:Cx} {pins:Ky} {σ:St} {H:Hp} {s:Shared} {a:Addr} {xs ys:List V}
theorem aQ.of {K:G0} (h:H a=some (.lst xs)):aQ K H a xs:= .inl (.inl h)
theorem bU.of {K:G0} (h:H a=some (.tup xs)):bU K H a xs:= .inl (.inl h)
theorem aG.list (I:aG X pins σ H s) (h:aQ X.K H a xs):∃its:KC,aZ xs its/\PlainL s.heap a its.toArray/\xs.length<=sizeLine:=by
 rcases h with h|⟨o,its,n,hk,hc,hd,hs,hz,r⟩
 ·obtain ⟨z,its,n,r,e⟩:=h.ok I.hok;exact ⟨its,r,⟨_,n,e,rfl,rfl,rfl⟩,z⟩
 ·refine ⟨its.toList,r,⟨o,n,I.kIn a o hk,hc,hd,by simpa using hs⟩,?_⟩
  have e:=r.length;simp only[Hi] at e
  lia
theorem aG.tuple (I:aG X pins σ H s) (h:bU X.K H a xs):∃its:KC,aZ xs its/\IsTup s.heap a its.toArray/\xs.length<=sizeLine:=by
 rcases h with h|⟨o,its,n,hk,hc,hs,hz,r⟩
 ·obtain ⟨z,its,r,p⟩:=h.ok I.hok;exact ⟨its,r,p,z⟩
 ·refine ⟨its.toList,r,⟨o,I.kIn a o hk,hc,n,by simpa using hs⟩,?_⟩
  have e:=r.length;simp only[Hi] at e
  lia
theorem aG.list_inj (I:aG X pins σ H s) (h:aQ X.K H a xs) (h':aQ X.K H a ys):xs=ys:=by
 obtain ⟨its,r,⟨o,n,e,_,_,d⟩,_⟩:=I.list h;obtain ⟨its',r',⟨o',n',e',_,_,d'⟩,_⟩:=I.list h';rw[e] at e';cases e';rw[d] at d';injection d' with d1 _
 have:its=its':=by simpa using congrArg Array.toList d1
 subst this;exact r.inj r'
end
abbrev Cx.wish (X:Cx) (E:Ks):Cx:={X with xe:=E}
abbrev Cx.nox (X:Cx):Cx:=X.wish fun _ _=>False
theorem Cx.Ok.wish {X:Cx} (ok:X.Ok) (E:Ks):(X.wish E).Ok:=
 ⟨ok.mod,ok.kind,ok.glob,ok.blt,ok.above,ok.inj,ok.has,ok.cab,ok.hd,ok.frames,ok.stk,ok.exf,ok.bs,ok.bsz,ok.noex,ok.exfs,ok.funs,ok.frf⟩
theorem Cx.Ok.unwish {X:Cx} {E:Ks} (ok:(X.wish E).Ok):X.Ok:=
 ⟨ok.mod,ok.kind,ok.glob,ok.blt,ok.above,ok.inj,ok.has,ok.cab,ok.hd,ok.frames,ok.stk,ok.exf,ok.bs,ok.bsz,ok.noex,ok.exfs,ok.funs,ok.frf⟩
section
variable {X:Cx} {pins:Ky} {σ:St} {H:Hp} {s:Shared} {E:Ks}
theorem aG.wish (I:aG X pins σ H s) (E:Ks):aG (X.wish E) pins σ H s:=⟨I.ok.wish E,I.os,I.bare,I.base,I.loc,I.cell,I.free,I.freeC,I.pin,I.hok,I.len⟩
theorem aG.unwish (I:aG (X.wish E) pins σ H s):aG X pins σ H s:=⟨I.ok.unwish,I.os,I.bare,I.base,I.loc,I.cell,I.free,I.freeC,I.pin,I.hok,I.len⟩
theorem SP.unwish {D:Ends} {f:Flow} {s':Shared} (h:SP (X.wish E) pins D f s'):SP X pins D f s':=by
 cases f with
 |next=>obtain ⟨σ',H',I,q⟩:=h;exact ⟨σ',H',I.unwish,q⟩
 |brk=>obtain ⟨σ',H',I,q⟩:=h;exact ⟨σ',H',I.unwish,q⟩
 |cont=>obtain ⟨σ',H',I,q⟩:=h;exact ⟨σ',H',I.unwish,q⟩
 |ret u=>obtain ⟨v,σ',H',I,r,q⟩:=h;exact ⟨v,σ',H',I.unwish,r,q⟩
theorem kO.nox {st:List Stmt} {t:TS} (h:kO X.nox st t):kO X st t:=fun pins s σ H D I hw=>
 wpAny_mono (h pins s σ H D (I.wish _) hw) (fun _ _ q=>q.unwish) fun _ _ z=>False.elim z
end
section
variable {X:Cx} {st:Stmt} {rest:List Stmt} {t u:TS} {e:Expr} {te:TE} {pos:Pos}
def bc:TS:=fun D σ H=>D.nx σ H
def aX (t u:TS):TS:=fun D σ H=>t {D with nx:=u D} σ H
theorem aO:kO X [] bc:=fun _ _ σ H _ I h=>wpAny_execs_nil ⟨σ,H,I,h⟩
theorem ae (h1:PS X st t) (h2:kO X rest u):kO X (st::rest) (aX t u):=by
 intro pins s σ H D I h;refine wpAny_execs_cons (bH (h1 pins s σ H {D with nx:=u D} I h) fun f s1 q=>?_)
 cases f with
 |next=>
  obtain ⟨σ',H',I',q⟩:=q;exact h2 pins s1 σ' H' D I' q
 |ret v=>exact q
 |brk=>exact q
 |cont=>exact q
theorem ar (h1:PS X st t):kO X [st] t:=by
 intro pins s σ H D I h;refine wpAny_execs_cons (bH (h1 pins s σ H D I h) fun f s1 q=>?_)
 cases f with
 |next=>exact wpAny_execs_nil q
 |ret v=>exact q
 |brk=>exact q
 |cont=>exact q
theorem aG.quiet {pins:Ky} {σ:St} {H:Hp} {s:Shared} (I:aG X pins σ H s):interactive X.env=false:=by simp[interactive,I.ok.kind]
def C3 (te:TE):TS:=fun D σ H=>te σ H fun _ H1=>D.nx σ H1
theorem bG (he:PE X e te) (hs:swapsWith e none pos.line X.env=pure false:=by rfl):PS X (.Expr e pos) (C3 te):=by
 intro pins s σ H D I h;exact wpAny_Expr_any (bH (he pins s σ H _ I h) fun v s1 ⟨x,H1,I1,r1,q1⟩=>⟨σ,H1,I1,q1⟩) I.quiet hs
def Fi (te:TE):TS:=fun D σ H=>te σ H D.rt
theorem aE (he:PE X e te):PS X (.Return (some e) pos) (Fi te):=by
 intro pins s σ H D I h;exact wpAny_Return_some (bH (he pins s σ H _ I h) fun v s1 ⟨x,H1,I1,r1,q1⟩=>⟨x,σ,H1,I1,r1,q1⟩)
def C4:TS:=fun D _ H=>D.rt .non H
theorem yU:PS X (.Return none pos) C4:=fun _ _ σ H _ I h=>wpAny_Return_none ⟨.non,σ,H,I,rfl,h⟩
def Fj (c:TT) (t u:TS):TS:=fun D σ H=>c σ H fun b H1=>if b=true then t D σ H1 else u D σ H1
theorem bv {c:Expr} {a b:List Stmt} {tc:TT} (hc:PT X c tc) (ha:kO X a t) (hb:kO X b u):PS X (.If c a b pos) (Fj tc t u):=by
 intro pins s σ H D I h;refine wpAny_If (bH (hc pins s σ H _ I h) fun d s1 ⟨H1,I1,q1⟩=>?_)
 cases d with
 |true=>exact ha pins s1 σ H1 D I1 q1
 |false=>exact hb pins s1 σ H1 D I1 q1
def A5:TS:=fun _ _ _=>False
theorem qh:PS X st A5:=fun _ _ _ _ _ _ h=>h.elim
end
abbrev TG:=V->St->Hp->(St->Hp->Prop)->Prop
abbrev yV:=List V->St->Hp->(St->Hp->Prop)->Prop
def PG (X:Cx) (target:Expr) (t:TG):Prop:=
 ∀(pins:Ky) (s:Shared) (σ:St) (H:Hp) (v:V) (u:Value) (Q:St->Hp->Prop),aG X pins σ H s->RelV v u->t v σ H Q->
  wpAny (model X.prog X.w) X.A (assign target X.env u) (fun _ s'=>∃σ' H',aG X pins σ' H' s'/\Q σ' H') X.xe s
def C5 (X:Cx) (ts:List Expr) (t:yV):Prop:=
 ∀(pins:Ky) (s:Shared) (σ:St) (H:Hp) (vs:List V) (us:KC) (Q:St->Hp->Prop),aG X pins σ H s->aZ vs us->t vs σ H Q->
  wpAny (model X.prog X.w) X.A (assignInOrder ((assignEach ts X.env).map (·.2)) us) (fun _ s'=>∃σ' H',aG X pins σ' H' s'/\Q σ' H') X.xe s
abbrev EZ:=V->V->Hp->VK->Prop
def Gk (X:Cx) (op:Operator) (t:EZ):Prop:=
 ∀(pins:Ky) (s:Shared) (σ:St) (H:Hp) (x y:V) (v u:Value) (Q:VK),aG X pins σ H s->RelV x v->RelV y u->t x y H Q->
  wpAny (model X.prog X.w) X.A (inplaceOp op v u) (EP X pins σ Q) X.xe s
section
variable {X:Cx} {pos:Pos}
def aU (i:Nat):TG:=fun v σ H Q=>Q (σ.set i (some v)) H
theorem jo {i:Nat} {x:Str} (hN:X.N.Nodup) (hi:X.N[i]?=some x) (hx:Loc X.env.scope x) (hf:X.fn x=true∨X.env.scope.names.lookup x=some .local:=by first|exact .inl rfl|exact .inr rfl|assumption):PG X (.Name x pos) (aU i):=by
 intro pins s σ H v u Q I r h;exact wpAny_assign_Name (fY I hN hi hx r (fun s' I'=>⟨_,H,I',h⟩) hf)
def Fk:yV:=fun vs σ H Q=>vs= []/\Q σ H
def C6 (t:TG) (u:yV):yV:=fun vs σ H Q=>∃v r,vs=v::r/\t v σ H fun σ' H'=>u r σ' H' Q
theorem iz:C5 X [] Fk:=by
 intro pins s σ H vs us Q I r h;obtain ⟨e,h⟩:=h;subst e;cases r;exact assignInOrder_nil ⟨σ,H,I,h⟩
theorem cM {e:Expr} {es:List Expr} {t:TG} {u:yV} (h1:PG X e t) (h2:C5 X es u)
  (hs:(assignEach (e::es) X.env).map (·.2)=assign e X.env::(assignEach es X.env).map (·.2):=by rfl):C5 X (e::es) (C6 t u):=by
 intro pins s σ H vs us Q I r h;obtain ⟨v,vr,e1,h⟩:=h;subst e1;cases r with
 |cons r rr=>
  rw[hs];refine assignInOrder_cons (bH (h1 pins s σ H _ _ _ I r h) fun _ s1 ⟨σ1,H1,I1,q1⟩=>?_)
  exact h2 pins s1 σ1 H1 _ _ Q I1 rr q1
def C7 (K:G0) (n:Nat) (t:yV):TG:=fun v σ H Q=>∃a xs,v= .ref a/\bU K H a xs/\xs.length=n/\t xs σ H Q
theorem oU {es:List Expr} {k:Nat} {t:yV} {n:Nat} (hc:X.calm=true) (h:C5 X es t)
  (hn:(assignEach es X.env).length=n:=by rfl) (hst:(assignEach es X.env).findIdx? (·.1)=none:=by rfl):PG X (.Tuple es k pos) (C7 X.K n t):=by
 intro pins s σ H v u Q I r hw;obtain ⟨a,xs,e1,hq,hl,hw⟩:=hw;subst e1;cases r;obtain ⟨its,rv,ht,hz⟩:=I.tuple hq;refine assign_Tuple_tuple (I.ok.hd hc) ht (by simp[hn,<-hl,rv.length]) hst fun h' hx=>?_
 have I1:aG X pins σ H {s with heap:=h'}:=I.kept (t':=s.toks) fun b o e=>hx b o (GL (Heap.lt_size e)) e
 exact h pins _ σ H xs _ Q I1 (by simpa using rv) hw
def yW (te:TE) (g:TG):TS:=fun D σ H=>te σ H fun x H1=>g x σ H1 D.nx
theorem ss {i:Nat} {x:Str} {e:Expr} {te:TE} {pos':Pos} (hN:X.N.Nodup) (hi:X.N[i]?=some x) (hx:Loc X.env.scope x) (he:PE X e te) (hs:swapsWith e (some (.Name x pos')) pos.line X.env=pure false:=by rfl) (hf:X.fn x=true∨X.env.scope.names.lookup x=some .local:=by first|exact .inl rfl|exact .inr rfl|assumption):
  PS X (.Assign [.Name x pos'] e pos) (yW te (aU i)):=by
 intro pins s σ H D I h;refine wpAny_Assign_Name (bH (he pins s σ H _ I h) fun v s1 ⟨y,H1,I1,r1,q1⟩=>?_) hs
 exact fY I1 hN hi hx r1 (fun s2 I2=>⟨_,H1,I2,q1⟩) hf
def Fn (i j:Nat) (ta:TA):TS:=fun D σ H=>ta σ H fun vs H1=>∃v w,vs= [v,w]/\D.nx ((σ.set i (some v)).set j (some w)) H1
theorem A6 {i j:Nat} {x y:Str} {a b:Expr} {ta:TA} {px py pt:Pos} {kt k2 pt2} (hc:X.calm=true) (hN:X.N.Nodup) (hi:X.N[i]?=some x) (hj:X.N[j]?=some y) (hij:i≠j)
  (hx:X.env.scope.names.lookup x=some .local) (hy:X.env.scope.names.lookup y=some .local) (ha:PA X [a,b] ta)
  (hw:swappedStores [.Tuple [.Name x px,.Name y py] kt pt] (.Tuple [a,b] k2 pt2) X.env=pure (some [x,y]))
  (hs:swapsWithSole [.Tuple [.Name x px,.Name y py] kt pt] (.Tuple [a,b] k2 pt2) pos.line X.env=pure false:=by rfl):
  PS X (.Assign [.Tuple [.Name x px,.Name y py] kt pt] (.Tuple [a,b] k2 pt2) pos) (Fn i j ta):=by
 intro pins s σ H D I h;rw[exec_Assign_arm];refine wpAny_bind (wpAny_standAt ?_);rw[hs];refine wpAny_bind (wpAny_pure ?_);rw[if_neg (by decide)]
 refine wpAny_bind (Tuple_ (bH (ha _ pins s σ H _ I h) fun us s1 ⟨vs,H1,I1,r1,q1⟩=>?_))
 obtain ⟨v,w,e1,q1⟩:=q1;subst e1;obtain ⟨u1,u2,rfl,rv,rw'⟩:∃u1 u2,us= [u1,u2]/\RelV v u1/\RelV w u2:=by
  cases r1 with
  |cons p q=>
   cases q with
   |cons p' q'=>
    cases q';exact ⟨_,_,rfl,p,p'⟩
 refine wpAny_newObj_type ?_ (by show 2<=sizeLine;decide)
 have I2:aG X pins σ H1 {s1 with heap:=s1.heap.push {cls:= .type "tuple",data:= .seq [u1,u2].toArray}}:=I1.kept (t':=s1.toks) fun b o e=>Heap.get?_push_of_some _ e
 rw[hw];refine wpAny_bind (wpAny_pure ?_);show wpAny (model X.prog X.w) X.A (do rule "assign.swapped-stores";let items<-unpackItems (.ref s1.heap.objs.size) 2 none;assignInOrder [fun v=>bindName X.env y v,fun v=>bindName X.env x v] items.reverse;pure Flow.next) _ _ _
 refine wpAny_bind (wpAny_rule (wpAny_bind (unpackItems_tuple (items:= #[u1,u2]) (I.ok.hd hc) (IsTup.new s1.heap _) fun h' hx'=>?_)))
 have I3:=I2.kept (h':=h') (t':=s1.toks) fun b o e=>hx' b o (GL (Heap.lt_size e)) e
 show wpAny _ _ (assignInOrder [fun v=>bindName X.env y v,fun v=>bindName X.env x v] [u2,u1]>>=fun _=>pure Flow.next) _ _ _
 refine wpAny_bind (assignInOrder_cons (wpAny_bindName (fY I3 hN hj (.inl hy) rw' (fun s2 I4=>?_) (.inr hy))))
 refine assignInOrder_cons (wpAny_bindName (fY I4 hN hi (.inl hx) rv (fun s3 I5=>assignInOrder_nil (wpAny_pure ?_)) (.inr hx)))
 rw[List.set_comm _ _ (Ne.symm hij)] at I5;exact ⟨_,H1,I5,q1⟩
def Fo (i:Nat) (te:TE) (ti:EZ):TS:=fun D σ H=>mV σ[i]? fun x=>te σ H fun y H1=>ti x y H1 fun z H2=>D.nx (σ.set i (some z)) H2
theorem A7 {i:Nat} {x:Str} {e:Expr} {te:TE} {op:Operator} {ti:EZ} {pos':Pos} (hN:X.N.Nodup) (hi:X.N[i]?=some x) (hx:Loc X.env.scope x) (he:PE X e te) (ho:Gk X op ti) (hf:X.fn x=true∨X.env.scope.names.lookup x=some .local:=by first|exact .inl rfl|exact .inr rfl|assumption):
  PS X (.AugAssign (.Name x pos') op e pos) (Fo i te ti):=by
 intro pins s σ H D I h;obtain ⟨v,e1,h⟩:=mV.e h;obtain ⟨m,hn,hl⟩:=I.loc;have vis:CZ X.env.scope x:=by rcases hx with k|k;exact .inl k;exact .inr (.inl k)
 obtain ⟨u,r,l⟩:=hl i x v hi e1 vis;refine wpAny_AugAssign_Name ?_;have go:wpAny (model X.prog X.w) X.A (eval e X.env) (fun w s₂=>wpAny (model X.prog X.w) X.A (inplaceOp op u w) (fun r s₃=>wpAny (model X.prog X.w) X.A (storeName X.env x r) (fun _=>SP X pins D .next) X.xe s₃) X.xe s₂) X.xe s:=by
  refine bH (he pins s σ H _ I h) fun w s1 ⟨y,H1,I1,r1,q1⟩=>?_
  refine bH (ho pins s1 σ H1 v y u w _ I1 r r1 q1) fun z s2 ⟨zv,H2,I2,r2,q2⟩=>?_
  exact fY I2 hN hi hx r2 (fun s3 I3=>⟨_,H2,I3,q2⟩) hf
 rcases l with ⟨hk,hm⟩|⟨hk,c,hc,hcell⟩
 ·exact wpAny_loadName_local I.ok.kind hk hn hm go
 ·rcases hk with hk|hk
  ·exact wpAny_loadName_cell I.ok.kind hk hc hcell go
  ·rcases hx with k|k
   ·have:X.env.scope.names.lookup x=some .free:=hk;rw[k] at this;cases this
   ·have:X.env.scope.names.lookup x=some .free:=hk;rw[k] at this;cases this
def Gy (f:Int->Int->Int):EZ:=fun x y H Q=>mI x fun i=>mI y fun j=>Q (.int (f i j)) H
theorem A8:Gk X .Add (Gy fun i j=>i+j):=by
 intro pins s σ H x y v u Q I r1 r2 h;obtain ⟨i,j,e1,e2,q⟩:=mI.e2 h;subst e1;subst e2;obtain ⟨t,rfl⟩:=r1;obtain ⟨t',rfl⟩:=r2;exact iadd_int ⟨.int _,H,I.tok _,⟨_,rfl⟩,q⟩
end
section
variable {X:Cx} {pos:Pos}
def wS (c:TT) (tb:TS):TS:=fun D σ H=>∃W:Nat->St->Hp->Prop,(∃m,W m σ H)/\∀m σ H,W m σ H->
 c σ H fun b H1=>if b=true then ∃N:St->Hp->Prop,(∀σ' H',N σ' H'->∃m',m'<m/\W m' σ' H')/\tb {D with nx:=N,ct:=N,bk:=D.nx} σ H1 else D.nx σ H1
theorem eu {c:Expr} {body:List Stmt} {tc:TT} {tb:TS} (hp:PassesOwn (model X.prog X.w) X.A X.env X.xe) (hc:PT X c tc) (hb:kO X body tb):PS X (.While c body [] pos) (wS tc tb):=by
 intro pins s σ H D I h;obtain ⟨W,⟨m0,w0⟩,turn⟩:=h;refine wpAny_While (codeAny_whileLoop (fun n s'=>∃σ' H',aG X pins σ' H' s'/\W n σ' H') ?_ m0 ⟨σ,H,I,w0⟩)
 rintro n s1 ⟨σ1,H1,I1,w1⟩;refine wpAny_passesOwn hp (bH (hc pins s1 σ1 H1 _ I1 (turn n σ1 H1 w1)) fun b s2 ⟨H2,I2,q2⟩=>?_)
 cases b with
 |true=>
  obtain ⟨N,hN,q2⟩:=q2;rw[if_pos rfl];refine wpAny_passesOwn hp (bH (hb pins s2 σ1 H2 _ I2 q2) fun f s3 q3=>?_)
  cases f with
  |next=>
   obtain ⟨σ3,H3,I3,n3⟩:=q3;obtain ⟨m',hm,w3⟩:=hN σ3 H3 n3;exact ⟨m',hm,σ3,H3,I3,w3⟩
  |cont=>
   obtain ⟨σ3,H3,I3,n3⟩:=q3;obtain ⟨m',hm,w3⟩:=hN σ3 H3 n3;exact ⟨m',hm,σ3,H3,I3,w3⟩
  |brk=>exact q3
  |ret v=>exact q3
 |false=>
  rw[if_neg GQ];exact wpAny_execs_nil ⟨σ1,H2,I2,q2⟩
end
structure It where
 go:Nat->Hp->Prop
 yld:Nat->Hp->V->Hp->Prop
 stop:Nat->Hp->Prop
def dX (X:Cx) (pins:Ky) (H:Hp) (b:Addr):Prop:=
 H b=none/\b≠X.env.locals/\b∉X.fs/\(b∈X.ex∨X.s₀.heap.objs.size<=b)/\(∀x c,X.env.cells.lookup x=some c->c≠b)/\∀p∈X.pn++pins,p.1≠b
theorem aG.fpOk {X:Cx} {pins:Ky} {σ:St} {H H':Hp} {s:Shared} {b:Addr} (I:aG X pins σ H s) (hb:s.heap.objs.size<=b) (hn:H' b=none):dX X pins H' b:=by
 refine ⟨hn,IB (HK I.lt hb),I.nofs hb,.inr (HN I.sz hb),fun x c e z=>?_,fun p hp z=>?_⟩
 ·obtain ⟨v,q⟩:=I.cell x c e;exact absurd (HK q.lt (by rw[z];exact hb)) (Ie _)
 ·exact absurd (HK (Heap.lt_size (I.pin p hp).1) (by rw[z];exact hb)) (Ie _)
structure Turn (P:Program) (w:World) (K:G0) (tg:Expr) (J:It) (fp:KB) (it:Addr) (tn:Nat->Heap->Prop):Prop where
 mem:it∈fp
 obj:∀i h,tn i h->∀b∈fp,∃o,h.get? b=some o/\∀v,o.data≠ .cell v
 keep:∀i h h',tn i h->(∀b∈fp,∀o,h.get? b=some o->h'.get? b=some o)->tn i h'
 item:∀(X:Cx),X.prog=P->X.w=w->X.K=K->X.calm=true->∀(i:Nat) (pins:Ky) (s:Shared) (σ:St) (H:Hp) (E:Ks),aG X pins σ H s->(∀b∈fp,dX X pins H b)->tn i s.heap->J.go i H->
  wpAny (model P w) X.A (pyNext (.ref it)) (fun r s1=>∃u,r=some u/\
   wpAny (model P w) X.A (letOwnedTupleGo tg (.ref it) u) (fun _ s2=>∃x H',aG X pins σ H' s2/\RelV x u/\J.yld i H x H'/\tn (i+1) s2.heap/\∀b∈fp,H' b=none) E s1) E s
 done:∀(X:Cx),X.prog=P->X.w=w->X.K=K->X.calm=true->∀(i:Nat) (pins:Ky) (s:Shared) (σ:St) (H:Hp) (E:Ks),aG X pins σ H s->(∀b∈fp,dX X pins H b)->tn i s.heap->J.stop i H->
  wpAny (model P w) X.A (pyNext (.ref it)) (fun r s1=>r=none/\aG X pins σ H s1) E s
 self:∀(A:Around) (i:Nat) (s:Shared) (Q:Ks) (E:Ks),tn i s.heap->Q (.ref it) s->wpAny (model P w) A (pyIter (.ref it)) Q E s
abbrev TI:=St->Hp->(It->Hp->Prop)->Prop
def Fp (X:Cx) (pins:Ky) (σ:St) (tg:Expr) (R:It->Hp->Prop) (itv:Value) (s2:Shared):Prop:=
 ∃(it:Addr) (fp:KB) (tn:Nat->Heap->Prop) (J:It) (H':Hp),itv= .ref it/\aG X pins σ H' s2/\Turn X.prog X.w X.K tg J fp it tn/\tn 0 s2.heap/\(∀b∈fp,dX X pins H' b)/\R J H'
def PI (X:Cx) (tg iter:Expr) (wi:TI):Prop:=
 ∀(pins:Ky) (s:Shared) (σ:St) (H:Hp) (R:It->Hp->Prop),aG X pins σ H s->wi σ H R->
  wpAny (model X.prog X.w) X.A (eval iter X.env) (fun v s1=>wpAny (model X.prog X.w) X.A (pyIter v) (Fp X pins σ tg R) X.xe s1) X.xe s
theorem iU {M:Model} {A:Around} {E:Ks} {s:Shared} {tg:Expr} {it:Addr} {u:Value} {o:Obj} {n:String} {vs:Array Value} {Q:Unit->Shared->Prop} (ho:s.heap.get? it=some o) (hc:o.cls= .type n) (hd:o.data= .fields vs)
    (hn: ["enumerate","zip","dict_itemiterator","dict_reverseitemiterator","odict_iterator","itertools.zip_longest","itertools.pairwise"].contains n=false) (hQ:Q () s):wpAny M A (letOwnedTupleGo tg (.ref it) u) Q E s:=by
  unfold letOwnedTupleGo;cases tg<;>first
    |exact wpAny_pure hQ
    | (cases u<;>first
        |exact wpAny_pure hQ
        | (refine wpAny_bind (wpAny_load ho ?_)
           rw[hc,hd];show wpAny M A (if (["enumerate","zip","dict_itemiterator","dict_reverseitemiterator","odict_iterator","itertools.zip_longest","itertools.pairwise"].contains n&&vs[0]?==some (rawInt _))=true then _ else _) Q E s
           rw[if_neg (by intro h;rw[hn,Bool.false_and] at h;cases h)]
           exact wpAny_pure hQ))
noncomputable def wT (K:G0) (a:Addr):It:=
 ⟨fun i H=>∃xs x,aQ K H a xs/\xs[i]?=some x,fun i H x H'=>H'=H/\∀xs,aQ K H a xs->xs[i]?=some x,fun i H=>∃xs,aQ K H a xs/\xs.length<=i⟩
noncomputable def CP (lo:Int) (n:Nat):It:=⟨fun i _=>i<n,fun i H x H'=>H'=H/\x= .int (lo+i),fun i _=>n<=i⟩
theorem iA {P:Program} {w:World} {K:G0} {tg:Expr} (a it:Addr):Turn P w K tg (wT K a) [it] it (fun i h=>h.IsListIter it a i) where
 mem:=by simp
 obj:=fun i h st b hb=>by
  have e:b=it:=by simpa using hb
  subst e;obtain ⟨o,e,c,d⟩:=st;exact ⟨o,e,fun v z=>by rw[d] at z;cases z⟩
 keep:=fun i h h' st k=>st.at fun o e=>k it (by simp) o e
 item:=by
  intro X hP hw hK hc i pins s σ H E I hf st hg;subst hP hw hK;obtain ⟨xs,x,hq,hx⟩:=hg;obtain ⟨its,rv,p,hz⟩:=I.list hq;obtain ⟨u,hu,ru⟩:=rv.get hx;obtain ⟨f0,f1,f2,f3,f4,f5⟩:=hf it (by simp)
  refine wpAny_pyNext_list_item st p.isList (x:=u) (by simpa using hu) fun h' st' sb=>?_
  have I1:aG X pins σ H {s with heap:=h'}:=I.turned (t':=s.toks) (fun b o hb e=>(sb.2 b hb).trans e) f0 f1 f3 f4 f5
  obtain ⟨o,e,c,d⟩:=id st';exact ⟨u,rfl,iU (s:={s with heap:=h'}) e c d (by decide) ⟨x,H,I1,ru,⟨rfl,fun ys hy=>by rw[I.list_inj hy hq];exact hx⟩,st',fun b hb=>(hf b hb).1⟩⟩
 done:=by
  intro X hP hw hK hc i pins s σ H E I hf st hg;subst hP hw hK;obtain ⟨xs,hq,hx⟩:=hg;obtain ⟨its,rv,p,hz⟩:=I.list hq;obtain ⟨f0,f1,f2,f3,f4,f5⟩:=hf it (by simp)
  have hl:=rv.length;exact wpAny_pyNext_list_end (I.ok.hd hc) st p.isList (by simp;lia) fun h' eb=>⟨rfl,I.turned (t':=s.toks) (fun b o hb e=>eb b o hb e) f0 f1 f3 f4 f5⟩
 self:=fun _ _ _ _ _ st h=>wpAny_pyIter_listiter st h
theorem su {P:Program} {w:World} {K:G0} {tg:Expr} (it:Addr) (lo:Int) (n:Nat):Turn P w K tg (CP lo n) [it] it (fun i h=>IsRangeIter h it (lo+(i:Nat)*1) ((n:Int)-(i:Nat)) 1) where
 mem:=by simp
 obj:=fun i h st b hb=>by
  have e:b=it:=by simpa using hb
  subst e;exact ⟨_,st,fun v z=>by
   have z':Data.fields _=Data.cell v:=z;cases z'⟩
 keep:=fun i h h' st k=>k it (by simp) _ st
 item:=by
  intro X hP hw hK hc i pins s σ H E I hf st hg;subst hP hw hK;obtain ⟨f0,f1,f2,f3,f4,f5⟩:=hf it (by simp)
  have W:=Walks.range (prog:=X.prog) (w:=X.w) (I.ok.hd hc) it lo 1 n;refine W.item i s _ _ hg st fun v h' tk hv st' kk=>?_
  obtain ⟨t,rfl⟩:=hv;have I1:aG X pins σ H {s with heap:=h',toks:=tk}:=I.turned (fun b o hb e=>kk b o (by simpa using hb) e) f0 f1 f3 f4 f5
  refine ⟨_,rfl,iU (s:={s with heap:=h',toks:=tk}) (n:= "range_iterator") st' rfl rfl (by decide) ⟨.int (lo+i),H,I1,⟨t,?_⟩,⟨rfl,rfl⟩,st',fun b hb=>(hf b hb).1⟩⟩
  rw[Int.mul_one]
 done:=by
  intro X hP hw hK hc i pins s σ H E I hf st hg;subst hP hw hK;obtain ⟨f0,f1,f2,f3,f4,f5⟩:=hf it (by simp)
  exact wpAny_pyNext_range_end (I.ok.hd hc) st (by have:n<=i:=hg;lia) fun h' eb=>⟨rfl,I.turned (t':=s.toks) (fun b o hb e=>eb b o hb e) f0 f1 f3 f4 f5⟩
 self:=fun _ _ _ _ _ st h=>wpAny_pyIter_rangeiter st h
variable {X:Cx} {tg:Expr}
def C8 (K:G0) (tl:TE):TI:=fun σ H R=>tl σ H fun x H1=>∃a,x= .ref a/\(∃xs,aQ K H1 a xs)/\R (wT K a) H1
theorem cp {l:Expr} {tl:TE} (hl:PE X l tl):PI X tg l (C8 X.K tl):=by
 intro pins s σ H R I h;refine bH (hl pins s σ H _ I h) fun v s1 ⟨x,H1,I1,r1,q1⟩=>?_
 obtain ⟨a,e,⟨xs,hq⟩,q⟩:=q1;subst e;cases r1;obtain ⟨its,rv,p,hz⟩:=I1.list hq;refine wpAny_pyIter_list p.isList ?_;refine ⟨s1.heap.objs.size,[s1.heap.objs.size],_,_,H1,rfl,I1.kept (t':=s1.toks) fun b o e=>Heap.get?_push_of_some _ e,iA a _,⟨_,Heap.get?_push_size _ rfl,rfl,rfl⟩,fun b hb=>?_,q⟩
 have e:b=s1.heap.objs.size:=by simpa using hb
 subst e;exact I1.fpOk (G4 _) (I1.hok.fresh (G4 _))
theorem wU {pins:Ky} {σ:St} {H:Hp} {s:Shared} {R:It->Hp->Prop} {E:Ks} {lo hi:Int} {t u v:Tok} {tk:Nat} (I:aG X pins σ H s) (h1: -(2^62)<=lo) (h2:lo<2^62) (h3: -(2^62)<=hi) (h4:hi<2^62)
  (q:R (CP lo (hi-lo).toNat) H):wpAny (model X.prog X.w) X.A (pyIter (.ref s.heap.objs.size)) (Fp X pins σ tg R) E {s with heap:=s.heap.push {cls:= .type "range",data:= .fields #[.int lo t,.int hi u,.int 1 v]},toks:=tk}:=by
 refine wpAny_pyIter_range (IsRange.new ..) (small_one h1 h2 h3 h4) ?_;have I1:aG X pins σ H {s with heap:=s.heap.push {cls:= .type "range",data:= .fields #[.int lo t,.int hi u,.int 1 v]},toks:=tk}:=I.kept fun b o e=>Heap.get?_push_of_some _ e
 refine ⟨(s.heap.push {cls:= .type "range",data:= .fields #[.int lo t,.int hi u,.int 1 v]}).objs.size,[(s.heap.push {cls:= .type "range",data:= .fields #[.int lo t,.int hi u,.int 1 v]}).objs.size],_,_,H,rfl,
  I1.kept (t':=tk) fun b o e=>Heap.get?_push_of_some _ e,su _ lo (hi-lo).toNat,?_,fun b hb=>?_,q⟩
 ·have e1:lo+((0:Nat):Int)*1=lo:=by simp
  have e2:(((hi-lo).toNat:Nat):Int)-((0:Nat):Int)=Builtin.Range.rangeSize lo hi 1:=by rw[rangeSize_one];split<;>lia
  show IsRangeIter _ _ (lo+((0:Nat):Int)*1) ((((hi-lo).toNat:Nat):Int)-((0:Nat):Int)) 1;rw[e1,e2];exact Heap.get?_push_size _ rfl
 ·have e:b=(s.heap.push {cls:= .type "range",data:= .fields #[.int lo t,.int hi u,.int 1 v]}).objs.size:=by simpa using hb
  subst e;exact I1.fpOk (G4 _) (I1.hok.fresh (G4 _))
def C9 (ta:TA):TI:=fun σ H R=>ta σ H fun vs H1=>∃j:Int,vs= [.int j]/\ -(2^62)<=j/\j<2^62/\R (CP 0 j.toNat) H1
theorem fZ {a:Expr} {ta:TA} {p pos:Pos} (hg:Gl X "range") (hm:X.mg "range" =none) (ha:PA X [a] ta) (hs:starEach [a] X.env= [(false,eval a X.env)]:=by rfl):PI X tg (.Call (.Name "range" p) [a] [] pos) (C9 ta):=by
 intro pins s σ H R I h;refine Call_ (fN I hg hm boot_range (Hl (bH (ha pos pins s σ H _ I h) fun us s1 ⟨vs,H1,I1,r1,q1⟩=>?_) hs rfl))
 obtain ⟨j,e,q1,q2,q⟩:=q1;subst e;cases r1 with
 |cons r rr=>
  cases rr;obtain ⟨t,rfl⟩:=r;exact call_range_1 (wU I1 (by lia) (by lia) q1 q2 (by simpa using q))
def Da (wi:TI) (g:TG) (tb:TS):TS:=fun D σ H=>wi σ H fun J H1=>∃W:Nat->Nat->St->Hp->Prop,(∃m,W 0 m σ H1)/\∀i m σ H,W i m σ H->
 (J.stop i H/\D.nx σ H)∨(J.go i H/\∃N:St->Hp->Prop,(∀σ' H',N σ' H'->∃m',m'<m/\W (i+1) m' σ' H')/\∀x H',J.yld i H x H'->g x σ H' fun σ2 H2=>tb {D with nx:=N,ct:=N,bk:=D.nx} σ2 H2)
noncomputable def i5 (fp:KB) (h:Heap):Ky:=fp.filterMap fun b=>(h.get? b).map fun o=>(b,o)
theorem bZ {fp:KB} {h:Heap} {b:Addr} {o:Obj} (hb:b∈fp) (e:h.get? b=some o):(b,o)∈i5 fp h:=List.mem_filterMap.mpr ⟨b,hb,by rw[e];rfl⟩
theorem vD {fp:KB} {h:Heap} {p:Addr×Obj} (hp:p∈i5 fp h):p.1∈fp/\h.get? p.1=some p.2:=by
 obtain ⟨b,hb,e⟩:=List.mem_filterMap.mp hp;cases q:h.get? b with
 |none=>rw[q] at e;cases e
 |some o=>
  rw[q] at e;have e':(b,o)=p:=HH e;subst e';exact ⟨hb,q⟩
theorem aG.pinned {pins:Ky} {σ:St} {H:Hp} {s:Shared} {fp:KB} (I:aG X pins σ H s) (hf:∀b∈fp,dX X pins H b) (ho:∀b∈fp,∃o,s.heap.get? b=some o/\∀v,o.data≠ .cell v):aG X (pins++i5 fp s.heap) σ H s:=
 I.pins_of fun p hp=>(GU.mp hp).elim (fun z=>I.pin p (GN _ z)) fun z=>by
  obtain ⟨hb,e⟩:=vD z;obtain ⟨f0,f1,f2,_⟩:=hf p.1 hb;obtain ⟨o,e',d⟩:=ho p.1 hb;rw[e] at e';cases e';exact ⟨e,f0,f1,f2,d⟩
theorem aG.unpinned {pins pl:Ky} {σ:St} {H:Hp} {s:Shared} (I:aG X (pins++pl) σ H s):aG X pins σ H s:=I.pins_of fun p hp=>I.pin p (GN _ (Hu _ hp))
theorem cv {iter:Expr} {body:List Stmt} {wi:TI} {g:TG} {tb:TS} {pos:Pos} (hp:PassesOwn (model X.prog X.w) X.A X.env X.xe) (hc:X.calm=true) (hi:PI X tg iter wi) (hg:PG X tg g) (hb:kO X body tb)
  (hs:∀x,foldedSetIterable iter X.env x=pure x:=by intro _;rfl):PS X (.For tg iter body [] pos) (Da wi g tb):=by
 intro pins s σ H D I h;refine wpAny_For (bH (hi pins s σ H _ I h) fun v s1 h1=>bH h1 fun itv s2 h2=>?_) hs
 obtain ⟨it,fp,tn,J,H2,e,I2,T,st2,f2,W,⟨m0,w0⟩,turn⟩:=h2;subst e;have stat:∀{H':Hp},(∀b∈fp,H' b=none)->∀b∈fp,dX X pins H' b:=fun hn b hb=>⟨hn b hb,(f2 b hb).2⟩
 refine codeAny_forLoop_any (fun n s'=>∃i σ' H',aG X pins σ' H' s'/\tn i s'.heap/\(∀b∈fp,H' b=none)/\W i n σ' H') ?_ m0 ⟨0,σ,H2,I2,st2,fun b hb=>(f2 b hb).1,w0⟩
 rintro n s3 ⟨i,σ3,H3,I3,st3,fr3,w3⟩;rcases turn i n σ3 H3 w3 with ⟨stop,qn⟩|⟨go,N,hN,step⟩
 ·refine wpAny_passesOwn hp (bH (T.done X rfl rfl rfl hc i pins s3 σ3 H3 X.xe I3 (stat fr3) st3 stop) fun r s4 ⟨hr,I4⟩=>?_)
  subst hr;exact wpAny_execs_nil ⟨σ3,H3,I4,qn⟩
 ·refine wpAny_passesOwn hp (bH (T.item X rfl rfl rfl hc i pins s3 σ3 H3 X.xe I3 (stat fr3) st3 go) fun r s4 ⟨u,hr,h4⟩=>?_)
  subst hr;refine wpAny_passesOwn hp (bH h4 fun _ s5 ⟨x,H5,I5,r5,y5,st5,fr5⟩=>?_)
  have I5':=I5.pinned (stat fr5) (T.obj _ _ st5);refine wpAny_passesOwn hp (bH (hg _ s5 σ3 H5 x u _ I5' r5 (step x H5 y5)) fun _ s6 ⟨σ6,H6,I6,q6⟩=>?_)
  refine wpAny_passesOwn hp (bH (hb _ s6 σ6 H6 _ I6 q6) fun f s7 q7=>?_)
  have again:∀{σ7:St} {H7:Hp},aG X (pins++i5 fp s5.heap) σ7 H7 s7->N σ7 H7->∃m,m<n/\∃i σ' H',aG X pins σ' H' s7/\tn i s7.heap/\(∀b∈fp,H' b=none)/\W i m σ' H':=fun {σ7 H7} I7 n7=>by
   obtain ⟨m',hm,w7⟩:=hN σ7 H7 n7;refine ⟨m',hm,i+1,σ7,H7,I7.unpinned,T.keep _ _ _ st5 fun b hb o e=>(I7.pin (b,o) (GN _ (GN _ (bZ hb e)))).1,fun b hb=>?_,w7⟩
   obtain ⟨o,e,d⟩:=T.obj _ _ st5 b hb;exact (I7.pin (b,o) (GN _ (GN _ (bZ hb e)))).2.1
  cases f with
  |next=>obtain ⟨σ7,H7,I7,n7⟩:=q7;exact again I7 n7
  |cont=>obtain ⟨σ7,H7,I7,n7⟩:=q7;exact again I7 n7
  |brk=>obtain ⟨σ7,H7,I7,q7⟩:=q7;exact ⟨σ7,H7,I7.unpinned,q7⟩
  |ret v=>obtain ⟨x7,σ7,H7,I7,r7,q7⟩:=q7;exact ⟨x7,σ7,H7,I7.unpinned,r7,q7⟩
theorem cX {K:G0} {a:Addr} {xs:List V} {g:TG} {tb:TS} {D:Ends} {σ:St} {H:Hp} (Pv:Nat->St->Hp->Prop) (h0:Pv 0 σ H) (hl:∀i σ H,i<=xs.length->Pv i σ H->aQ K H a xs)
  (hs:∀i x σ H,xs[i]?=some x->Pv i σ H->g x σ H fun σ2 H2=>tb {D with nx:=Pv (i+1),ct:=Pv (i+1),bk:=D.nx} σ2 H2) (hd:∀σ H,Pv xs.length σ H->D.nx σ H):
  ∃W:Nat->Nat->St->Hp->Prop,(∃m,W 0 m σ H)/\∀i m σ H,W i m σ H->
   ((wT K a).stop i H/\D.nx σ H)∨((wT K a).go i H/\∃N:St->Hp->Prop,(∀σ' H',N σ' H'->∃m',m'<m/\W (i+1) m' σ' H')/\∀x H',(wT K a).yld i H x H'->g x σ H' fun σ2 H2=>tb {D with nx:=N,ct:=N,bk:=D.nx} σ2 H2):=by
 refine ⟨fun i m σ H=>m=xs.length-i/\i<=xs.length/\Pv i σ H,⟨xs.length,by simp,HC _,h0⟩,?_⟩
 rintro i m σ H ⟨rfl,hi,p⟩;have q:=hl i σ H hi p
 by_cases hlt:i<xs.length
 ·refine .inr ⟨⟨xs,xs[i],q,by simp[hlt]⟩,Pv (i+1),fun σ' H' p'=>⟨xs.length-(i+1),by lia,rfl,hlt,p'⟩,fun x H' y=>?_⟩
  obtain ⟨e,y⟩:=y;subst e;exact hs i x σ _ (y xs q) p
 ·have e:i=xs.length:=by lia
  subst e;exact .inl ⟨⟨xs,q,G4 _⟩,hd σ H p⟩
theorem f8 {lo:Int} {n:Nat} {g:TG} {tb:TS} {D:Ends} {σ:St} {H:Hp} (Pv:Nat->St->Hp->Prop) (h0:Pv 0 σ H)
  (hs:∀i σ H,i<n->Pv i σ H->g (.int (lo+i)) σ H fun σ2 H2=>tb {D with nx:=Pv (i+1),ct:=Pv (i+1),bk:=D.nx} σ2 H2) (hd:∀σ H,Pv n σ H->D.nx σ H):
  ∃W:Nat->Nat->St->Hp->Prop,(∃m,W 0 m σ H)/\∀i m σ H,W i m σ H->
   ((CP lo n).stop i H/\D.nx σ H)∨((CP lo n).go i H/\∃N:St->Hp->Prop,(∀σ' H',N σ' H'->∃m',m'<m/\W (i+1) m' σ' H')/\∀x H',(CP lo n).yld i H x H'->g x σ H' fun σ2 H2=>tb {D with nx:=N,ct:=N,bk:=D.nx} σ2 H2):=by
 refine ⟨fun i m σ H=>m=n-i/\i<=n/\Pv i σ H,⟨n,by simp,HC _,h0⟩,?_⟩
 rintro i m σ H ⟨rfl,hi,p⟩
 by_cases hlt:i<n
 ·refine .inr ⟨hlt,Pv (i+1),fun σ' H' p'=>⟨n-(i+1),by lia,rfl,hlt,p'⟩,fun x H' y=>?_⟩
  obtain ⟨e,y⟩:=y;subst e y;exact hs i σ _ hlt p
 ·have e:i=n:=by lia
  subst e;exact .inl ⟨G4 _,hd σ H p⟩
theorem eA {c:TT} {tb:TS} {D:Ends} {σ:St} {H:Hp} (Pv:St->Hp->Prop) (μ:St->Hp->Nat) (h0:Pv σ H)
  (hs:∀σ H,Pv σ H->c σ H fun b H1=>if b=true then tb {D with nx:=fun σ' H'=>Pv σ' H'/\μ σ' H'<μ σ H,ct:=fun σ' H'=>Pv σ' H'/\μ σ' H'<μ σ H,bk:=D.nx} σ H1 else D.nx σ H1)
  (mono:∀σ H Q Q',(∀b H1,Q b H1->Q' b H1)->c σ H Q->c σ H Q'):wS c tb D σ H:=by
 refine ⟨fun m σ H=>m=μ σ H/\Pv σ H,⟨_,rfl,h0⟩,?_⟩
 rintro m σ H ⟨rfl,p⟩;refine mono σ H _ _ (fun b H1 q=>?_) (hs σ H p)
 cases b with
 |true=>exact ⟨_,fun σ' H' ⟨p',l⟩=>⟨_,l,rfl,p'⟩,q⟩
 |false=>exact q
abbrev R2:=V->V->Hp->VK->Prop
def iQ (X:Cx) (f:Value->Value->Sem Value) (r:R2):Prop:=
 ∀(pins:Ky) (s:Shared) (σ:St) (H:Hp) (x y:V) (v u:Value) (Q:VK),aG X pins σ H s->RelV x v->RelV y u->r x y H Q->
  wpAny (model X.prog X.w) X.A (f v u) (EP X pins σ Q) X.xe s
def Fs (X:Cx) (f:Value->Sem Value) (r:V->Hp->VK->Prop):Prop:=
 ∀(pins:Ky) (s:Shared) (σ:St) (H:Hp) (x:V) (v:Value) (Q:VK),aG X pins σ H s->RelV x v->r x H Q->
  wpAny (model X.prog X.w) X.A (f v) (EP X pins σ Q) X.xe s
def cY (X:Cx) (f:Value) (r:List V->Hp->VK->Prop):Prop:=
 ∀(pins:Ky) (s:Shared) (σ:St) (H:Hp) (xs:List V) (us:KC) (Q:VK),aG X pins σ H s->aZ xs us->r xs H Q->
  wpAny (model X.prog X.w) X.A (call f us) (EP X pins σ Q) X.xe s
def E1 (r:R2) (ta tb:TE):TE:=fun σ H Q=>ta σ H fun x H1=>tb σ H1 fun y H2=>r x y H2 Q
def Gz (r:V->Hp->VK->Prop) (ta:TE):TE:=fun σ H Q=>ta σ H fun x H1=>r x H1 Q
def rI (C:Int->Int->Prop) (g:Int->Int->V):R2:=fun x y H Q=>mI x fun i=>mI y fun j=>C i j/\Q (g i j) H
def AF (g:Int->Int->V):R2:=fun x y H Q=>mI x fun i=>mI y fun j=>Q (g i j) H
def rU (g:Int->V):V->Hp->VK->Prop:=fun x H Q=>∃i,x= .int i/\Q (g i) H
section
variable {a b c:Expr} {ta tb tc:TE} {pos:Pos}
theorem A9 (ha:PE X a ta) (hb:PE X b tb) {pins:Ky} {s:Shared} {σ:St} {H:Hp} {R:V->V->Hp->Prop} (I:aG X pins σ H s)
  (h:ta σ H fun x H1=>tb σ H1 fun y H2=>R x y H2) {Q:Ks} {f:Value->Value->Sem Value}
  (hf:∀v u s2 x y H2,aG X pins σ H2 s2->RelV x v->RelV y u->R x y H2->wpAny (model X.prog X.w) X.A (f v u) Q X.xe s2):
  wpAny (model X.prog X.w) X.A (eval a X.env) (fun v s₁=>wpAny (model X.prog X.w) X.A (eval b X.env) (fun u s₂=>wpAny (model X.prog X.w) X.A (f v u) Q X.xe s₂) X.xe s₁) X.xe s:=by
 refine bH (ha pins s σ H _ I h) fun v s1 ⟨x,H1,I1,r1,q1⟩=>?_
 refine bH (hb pins s1 σ H1 _ I1 q1) fun u s2 ⟨y,H2,I2,r2,q2⟩=>?_
 exact hf v u s2 x y H2 I2 r1 r2 q2
theorem aB {op:Operator} {r:R2} (ho:iQ X (binaryOp op) r) (ha:PE X a ta) (hb:PE X b tb):PE X (.BinOp a op b pos) (E1 r ta tb):=by
 intro pins s σ H Q I h;exact wpAny_BinOp (A9 ha hb I h fun v u s2 x y H2 I2 rx ry q=>ho pins s2 σ H2 x y v u Q I2 rx ry q)
theorem gX {op:UnaryOp} {r:V->Hp->VK->Prop} (ho:Fs X (unaryOp op) r) (ha:PE X a ta):PE X (.UnaryOp op a pos) (Gz r ta):=by
 intro pins s σ H Q I h;exact UnaryOp_ (bH (ha pins s σ H _ I h) fun v s1 ⟨x,H1,I1,r1,q1⟩=>ho pins s1 σ H1 x v Q I1 r1 q1)
theorem E2 {f:Value->Value->Sem Value} {C:Int->Int->Prop} {g:Int->Int->Int}
  (rule:∀(i j:Int) (t u:Tok) (s:Shared) (Q:Ks) (E:Ks),C i j->Q (.int (g i j) s.toks) {s with toks:=s.toks+1}->wpAny (model X.prog X.w) X.A (f (.int i t) (.int j u)) Q E s):
  iQ X f (rI C fun i j=> .int (g i j)):=by
 intro pins s σ H x y v u Q I rx ry h;obtain ⟨i,j,rfl,rfl,hc,q⟩:=mI.e2 h;obtain ⟨t,rfl⟩:=rx;obtain ⟨t',rfl⟩:=ry;exact rule i j t t' s _ _ hc ⟨.int (g i j),H,I.tok _,⟨_,rfl⟩,q⟩
theorem Db {f:Value->Value->Sem Value} {g:Int->Int->Int}
  (rule:∀(i j:Int) (t u:Tok) (s:Shared) (Q:Ks) (E:Ks),Q (.int (g i j) s.toks) {s with toks:=s.toks+1}->wpAny (model X.prog X.w) X.A (f (.int i t) (.int j u)) Q E s):
  iQ X f (AF fun i j=> .int (g i j)):=by
 intro pins s σ H x y v u Q I rx ry h;obtain ⟨i,j,rfl,rfl,q⟩:=mI.e2 h;obtain ⟨t,rfl⟩:=rx;obtain ⟨t',rfl⟩:=ry;exact rule i j t t' s _ _ ⟨.int (g i j),H,I.tok _,⟨_,rfl⟩,q⟩
theorem yX {f:Value->Value->Sem Value} {g:Int->Int->Bool}
  (rule:∀(i j:Int) (t u:Tok) (s:Shared) (Q:Ks) (E:Ks),Q (.bool (g i j)) s->wpAny (model X.prog X.w) X.A (f (.int i t) (.int j u)) Q E s):
  iQ X f (AF fun i j=> .bl (g i j)):=by
 intro pins s σ H x y v u Q I rx ry h;obtain ⟨i,j,rfl,rfl,q⟩:=mI.e2 h;obtain ⟨t,rfl⟩:=rx;obtain ⟨t',rfl⟩:=ry;exact rule i j t t' s _ _ ⟨.bl (g i j),H,I,rfl,q⟩
theorem cx:iQ X (binaryOp .Add) (AF fun i j=> .int (i+j)):=Db fun _ _ _ _ _ _ _ q=>add_int q
theorem oV:iQ X (binaryOp .Sub) (AF fun i j=> .int (i-j)):=Db fun _ _ _ _ _ _ _ q=>sub_int q
theorem bw:iQ X (binaryOp .Mod) (rI (fun _ j=>j≠0) fun i j=> .int (i.fmod j)):=E2 fun _ _ _ _ _ _ _ hc q=>mod_int' hc q
theorem GA {f:Value->Sem Value} {g:Int->Int}
  (rule:∀(i:Int) (t:Tok) (s:Shared) (Q:Ks) (E:Ks),Q (.int (g i) s.toks) {s with toks:=s.toks+1}->wpAny (model X.prog X.w) X.A (f (.int i t)) Q E s):
  Fs X f (rU fun i=> .int (g i)):=by
 intro pins s σ H x v Q I rx h;obtain ⟨i,rfl,q⟩:=h;obtain ⟨t,rfl⟩:=rx;exact rule i t s _ _ ⟨.int (g i),H,I.tok _,⟨_,rfl⟩,q⟩
theorem fi:Fs X (unaryOp .USub) (rU fun i=> .int (-i)):=GA fun _ _ _ _ _ q=>neg_int q
end
noncomputable def Dc:V->V->Bool
 | .non,.non=>true| .non,.int _=>true| .int _,.non=>true| .non,.bl _=>true| .bl _,.non=>true| .non,.str _=>true| .str _,.non=>true
 | .int _,.int _=>true| .bl _,.bl _=>true| .str _,.str _=>true| .byt _,.byt _=>true
 | .int _,.str _=>true| .str _,.int _=>true| .bl _,.str _=>true| .str _,.bl _=>true
 |_,_=>false
def GB:R2:=fun x y H Q=>Dc x y=true/\Q (.bl (decide (x=y))) H
def GC:R2:=fun x y H Q=>Dc x y=true/\Q (.bl (!decide (x=y))) H
theorem uv {i j:Int}:decide (V.int i=V.int j)=(i==j):=by
 rw[Ic];simp
theorem wV {i j:Bool}:decide (V.bl i=V.bl j)=(i==j):=by
 rw[Ic];simp
theorem uw {i j:Str}:decide (V.str i=V.str j)=(i==j):=by
 rw[Ic];simp
theorem ux {i j:Array UInt8}:decide (V.byt i=V.byt j)=(i.toList==j.toList):=by
 rw[Ic];cases i;cases j;simp
section
variable {a b c:Expr} {ta tb tc:TE} {pos:Pos}
theorem bN {pins:Ky} {σ:St} {H:Hp} {s:Shared} {Q:VK} {k k':Bool} (I:aG X pins σ H s) (q:Q (.bl k) H) (e:k=k'):EP X pins σ Q (.bool k') s:=by
 subst e;exact ⟨.bl k,H,I,rfl,q⟩
theorem gY:iQ X (compareOp .Eq) GB:=by
 intro pins s σ H x y v u Q I rx ry h;obtain ⟨hs,q⟩:=h;cases x with
 |non=>
  cases rx;cases y with
  |non=>cases ry;exact PySem.EqNone.eq_none_none (bN I q (by simp))
  |bl j=>cases ry;exact PySem.EqNone.eq_none_bool (bN I q (by simp))
  |int j=>obtain ⟨t',rfl⟩:=ry;exact PySem.EqNone.eq_none_int (bN I q (by simp))
  |str j=>obtain ⟨t',rfl⟩:=ry;exact PySem.EqNone.eq_none_str (bN I q (by simp))
  |_=>exact absurd (show false=true from hs) GQ
 |bl i=>
  cases rx;cases y with
  |non=>cases ry;exact PySem.EqNone.eq_bool_none (bN I q (by simp))
  |bl j=>cases ry;exact eq_bool (bN I q wV)
  |str j=>obtain ⟨t',rfl⟩:=ry;exact PySem.EqMixed.eq_bool_str (bN I q (by simp))
  |_=>exact absurd (show false=true from hs) GQ
 |int i=>
  obtain ⟨t,rfl⟩:=rx;cases y with
  |non=>cases ry;exact PySem.EqNone.eq_int_none (bN I q (by simp))
  |int j=>obtain ⟨t',rfl⟩:=ry;exact eq_int (bN I q uv)
  |str j=>obtain ⟨t',rfl⟩:=ry;exact PySem.EqMixed.eq_int_str (bN I q (by simp))
  |_=>exact absurd (show false=true from hs) GQ
 |str i=>
  obtain ⟨t,rfl⟩:=rx;cases y with
  |non=>cases ry;exact PySem.EqNone.eq_str_none (bN I q (by simp))
  |bl j=>cases ry;exact PySem.EqMixed.eq_str_bool (bN I q (by simp))
  |int j=>obtain ⟨t',rfl⟩:=ry;exact PySem.EqMixed.eq_str_int (bN I q (by simp))
  |str j=>obtain ⟨t',rfl⟩:=ry;exact eq_str (bN I q uw)
  |_=>exact absurd (show false=true from hs) GQ
 |byt i=>
  obtain ⟨t,rfl⟩:=rx;cases y with
  |byt j=>obtain ⟨t',rfl⟩:=ry;exact PySem.W.eq_bytes (bN I q ux)
  |_=>exact absurd (show false=true from hs) GQ
 |_=>cases y<;>exact absurd (show false=true from hs) GQ
theorem ku:iQ X (compareOp .NotEq) GC:=by
 intro pins s σ H x y v u Q I rx ry h;obtain ⟨hs,q⟩:=h;cases x with
 |non=>
  cases rx;cases y with
  |non=>cases ry;exact PySem.EqNone.ne_none_none (bN I q (by simp))
  |bl j=>cases ry;exact PySem.EqNone.ne_none_bool (bN I q (by simp))
  |int j=>obtain ⟨t',rfl⟩:=ry;exact PySem.EqNone.ne_none_int (bN I q (by simp))
  |str j=>obtain ⟨t',rfl⟩:=ry;exact PySem.EqNone.ne_none_str (bN I q (by simp))
  |_=>exact absurd (show false=true from hs) GQ
 |bl i=>
  cases rx;cases y with
  |non=>cases ry;exact PySem.EqNone.ne_bool_none (bN I q (by simp))
  |bl j=>cases ry;exact ne_bool (bN I q (congrArg not wV))
  |str j=>obtain ⟨t',rfl⟩:=ry;exact PySem.EqMixed.ne_bool_str (bN I q (by simp))
  |_=>exact absurd (show false=true from hs) GQ
 |int i=>
  obtain ⟨t,rfl⟩:=rx;cases y with
  |non=>cases ry;exact PySem.EqNone.ne_int_none (bN I q (by simp))
  |int j=>obtain ⟨t',rfl⟩:=ry;exact ne_int (bN I q (congrArg not uv))
  |str j=>obtain ⟨t',rfl⟩:=ry;exact PySem.EqMixed.ne_int_str (bN I q (by simp))
  |_=>exact absurd (show false=true from hs) GQ
 |str i=>
  obtain ⟨t,rfl⟩:=rx;cases y with
  |non=>cases ry;exact PySem.EqNone.ne_str_none (bN I q (by simp))
  |bl j=>cases ry;exact PySem.EqMixed.ne_str_bool (bN I q (by simp))
  |int j=>obtain ⟨t',rfl⟩:=ry;exact PySem.EqMixed.ne_str_int (bN I q (by simp))
  |str j=>obtain ⟨t',rfl⟩:=ry;exact ne_str (bN I q (congrArg not uw))
  |_=>exact absurd (show false=true from hs) GQ
 |byt i=>
  obtain ⟨t,rfl⟩:=rx;cases y with
  |byt j=>obtain ⟨t',rfl⟩:=ry;exact PySem.W.ne_bytes (bN I q (congrArg not ux))
  |_=>exact absurd (show false=true from hs) GQ
 |_=>cases y<;>exact absurd (show false=true from hs) GQ
theorem jp:iQ X (compareOp .Lt) (AF fun i j=> .bl (decide (i<j))):=yX fun _ _ _ _ _ _ _ q=>lt_int q
theorem wW:iQ X (compareOp .LtE) (AF fun i j=> .bl (decide (i<=j))):=yX fun _ _ _ _ _ _ _ q=>le_int q
theorem jq:iQ X (compareOp .Gt) (AF fun i j=> .bl (decide (j<i))):=yX fun _ _ _ _ _ _ _ q=>gt_int q
theorem AG:iQ X (compareOp .GtE) (AF fun i j=> .bl (decide (j<=i))):=yX fun _ _ _ _ _ _ _ q=>ge_int q
theorem jT:iQ X (compareOp .Is) (fun x y H Q=>y= .non/\Q (.bl (decide (x= .non))) H):=by
 intro pins s σ H x y v u Q I rx ry h;obtain ⟨rfl,q⟩:=h;cases ry;refine is_none_gen (bN I q ?_);cases x<;>first
  |(cases rx;rfl)
  |(obtain ⟨t,rfl⟩:=rx;rfl)
theorem kW:iQ X (compareOp .IsNot) (fun x y H Q=>y= .non/\Q (.bl (!decide (x= .non))) H):=by
 intro pins s σ H x y v u Q I rx ry h;obtain ⟨rfl,q⟩:=h;cases ry;refine isnot_none_gen (bN I q ?_);cases x<;>first
  |(cases rx;rfl)
  |(obtain ⟨t,rfl⟩:=rx;rfl)
theorem aM (b:Expr) {op:CmpOp} (h:op≠ .In:=by decide) (h2:op≠ .NotIn:=by decide):behindInMarks op b=false:=by
 have e1:(op==CmpOp.In)=false:=by cases op<;>first|rfl|exact absurd rfl h
 have e2:(op==CmpOp.NotIn)=false:=by cases op<;>first|rfl|exact absurd rfl h2
 cases b<;>simp[behindInMarks,e1,e2]
theorem eK {op:CmpOp} {r:R2} (ho:iQ X (compareOp op) r) (ha:PE X a ta) (hb:PE X b tb) (hm:behindInMarks op b=false):PE X (.Compare a [op] [b] pos) (E1 r ta tb):=by
 intro pins s σ H Q I h;exact wpAny_Compare1 (A9 ha hb I h fun v u s2 x y H2 I2 rx ry q=>ho pins s2 σ H2 x y v u Q I2 rx ry q) hm
def Dd (t:TE):TT:=fun σ H Q=>t σ H fun x H'=>mB x fun k=>Q k H'
theorem aD {op:CmpOp} {r:R2} (ho:iQ X (compareOp op) r) (ha:PE X a ta) (hb:PE X b tb) (hm:behindInMarks op b=false):PT X (.Compare a [op] [b] pos) (Dd (E1 r ta tb)):=by
 intro pins s σ H Q I h;refine wpAny_isTrue_Compare1 (bH (ha pins s σ H _ I h) fun v s1 ⟨x,H1,I1,r1,q1⟩=>bH (hb pins s1 σ H1 _ I1 q1) fun u s2 ⟨y,H2,I2,r2,q2⟩=>
  bH (ho pins s2 σ H2 x y v u _ I2 r1 r2 q2) fun c s3 ⟨z,H3,I3,r3,q3⟩=>?_) hm
 obtain ⟨k,e,q3⟩:=mB.e q3;subst e;cases r3;exact wpAny_truthy_bool ⟨H3,I3,q3⟩
theorem lL:(sizeLine:Nat)<2^63:=by rw[sizeLine_eq];decide
theorem dE:iQ X (binaryOp .Add) (fun x y H Q=>∃i j,x= .str i/\y= .str j/\i.length+j.length<=sizeLine/\Q (.str (i++j)) H):=by
 intro pins s σ H x y v u Q I rx ry h;obtain ⟨i,j,rfl,rfl,hz,q⟩:=h;obtain ⟨t,rfl⟩:=rx;obtain ⟨t',rfl⟩:=ry;exact add_str (fun t' tk=>⟨.str (i++j),H,I.tok _,⟨_,rfl⟩,q⟩) hz
theorem vals1 {x:V} {us:KC} (r:aZ [x] us):∃u,us= [u]/\RelV x u:=by
 cases r with
 |cons r1 r2=>cases r2;exact ⟨_,rfl,r1⟩
theorem vals2 {x y:V} {us:KC} (r:aZ [x,y] us):∃u w',us= [u,w']/\RelV x u/\RelV y w':=by
 cases r with
 |cons r1 r2=>
  cases r2 with
  |cons r3 r4=>cases r4;exact ⟨_,_,rfl,r1,r3⟩
theorem lM:cY X (.builtin "abs") (fun xs H Q=>∃i,xs= [.int i]/\Q (.int (if i<0 then-i else i)) H):=by
 intro pins s σ H xs us Q I r h;obtain ⟨i,rfl,q⟩:=h;obtain ⟨u,rfl,t,rfl⟩:=vals1 r;exact call_abs_int fun u tk=>⟨.int (if i<0 then-i else i),H,I.tok _,⟨_,rfl⟩,q⟩
theorem vE (hc:X.calm=true):cY X (.builtin "max") (fun xs H Q=>∃i j,xs= [.int i,.int j]/\Q (.int (if j>i then j else i)) H):=by
 intro pins s σ H xs us Q I r h;obtain ⟨i,j,rfl,q⟩:=h;obtain ⟨u,w',rfl,⟨t,rfl⟩,⟨t',rfl⟩⟩:=vals2 r;refine max_two_ints (I.ok.hd hc) fun h' tk k=>⟨_,H,I.kept k,?_,q⟩
 by_cases hj:j>i
 ·rw[if_pos hj,if_pos hj];exact ⟨_,rfl⟩
 ·rw[if_neg hj,if_neg hj];exact ⟨_,rfl⟩
end
structure sv (h:Heap) (x dx C:Addr) (mA:Kt):Prop where
 obj:h.get? x=some (IP C dx)
 ns:h.Ns1 dx mA
 ne:dx≠x
theorem nD {h:Heap} {dx:Addr} {mA:Kt} (n:h.Ns1 dx mA):∃od,h.get? dx=some od/\∀name,PySem.W.lookIn name od=some (mA name):=by
 obtain ⟨o,es,ep,ho,hd,hk,_,hm⟩:=n;refine ⟨o,ho,fun name=>?_⟩
 have e:=hm name;unfold nsFind findBy at e;rw[<-Array.find?_toList] at e;unfold PySem.W.lookIn;rw[hd];dsimp only
 split
 ·rename_i y q;rw[q] at e;exact congrArg some e
 ·rename_i q;rw[q] at e;have a:es.toList.any (·.refKey)=false:=by
   rw[List.any_eq_false];intro y hy;obtain ⟨z,t,hkey⟩:=hk y (Array.mem_toList_iff.mp hy);simp[DictEntry.refKey,hkey]
  have a':¬es.toList.any (·.refKey)=true:=by rw[a];exact GQ
  rw[if_neg a'];exact congrArg some e
theorem sv.look {h:Heap} {x dx C:Addr} {mA:Kt} (I:sv h x dx C mA):∃od,PySem.W.InstAt h x (IP C dx) C (some od)/\∀name,PySem.W.lookIn name od=some (mA name):=
 let ⟨od,ho,hl⟩:=nD I.ns
 ⟨od,⟨I.obj,rfl,rfl,ho⟩,hl⟩
section
variable {prog:Program} {w:World} {A:Around} {E:Ks} {s:Shared} {K:G0} {x dx C f:Addr} {mA:Kt} {name:Str} {v:Value}
theorem yY {expr:Bool} {Q:Ks} (X:K.In s.heap) (I:sv s.heap x dx C mA) (hg:PySem.W.plainGet K C name=true) (hh:PySem.W.hasDictIn K C=true)
  (ha:HG K (.ref C) name=some none) (hv:mA name=some v) (hv':PySem.W.handedIn v=true) (h:Q v {s with toks:=s.toks+1}):
  wpAny (model prog w) A (getAttr (.ref x) name expr) Q E s:=by
 obtain ⟨od,J,hl⟩:=I.look;exact PySem.W.get_value X J (PySem.W.plainGet_of hg).1 (PySem.W.findObj_own hh ha rfl (by rw[hl,hv])) hv' h
theorem wX {pl:Sem Bool} {Q:Value×KC->Shared->Prop} (X:K.In s.heap) (I:sv s.heap x dx C mA) (hg:PySem.W.plainGet K C name=true)
  (hf:HG K (.ref C) name=some (some (.ref f))) (ht:PySem.W.isFn K (.ref f)=true) (hv:mA name=none) (h:Q (.ref f,[.ref x]) s):
  wpAny (model prog w) A (getMethod (.ref x) name pl) Q E s:=by
 obtain ⟨od,J,hl⟩:=I.look;exact PySem.W.method_fn X J (PySem.W.plainGet_of hg).1 (PySem.W.plainGet_of hg).2 hf (beq_iff_eq.mp ht) (by show (PySem.W.lookIn name od).map (·.isSome)=some false;rw[hl,hv];rfl) h
theorem yZ {ns:KA} {Q:Unit->Shared->Prop} (X:K.In s.heap) (I:sv s.heap x dx C mA)
  (hs:HG K (.ref C) "__setattr__" =some (some (.builtin "object.__setattr__"))) (hp:PySem.W.plainOver K C=true) (ht:PySem.W.takerIn K C name=some none) (hh:PySem.W.hasDictIn K C=true)
  (hw:PySem.Within mA ns) (hsz:ns.length<=sizeLine)
  (h:∀h',sv h' x dx C (fun y=>if y=name then some v else mA y)->Heap.SameBut dx s.heap h'->Q () {s with heap:=h',toks:=s.toks+2}):
  wpAny (model prog w) A (setAttr (.ref x) name v) Q E s:=by
 obtain ⟨od,J,hl⟩:=I.look;refine PySem.W.set_plain X J hs (PySem.W.osa_open (s:={s with toks:=s.toks+1}) (r:=none) X J hp ht fun b=>?_)
 obtain ⟨cd,hc,hd'⟩:=PySem.W.any_some hh;have hx:s.heap.get? x=some ⟨.ref C,some dx,.plain,#[]⟩:=I.obj;refine wpAny_bind (wpAny_pure (wpAny_bind (wpAny_bind (wpAny_loadPart hx (wpAny_bind (PySem.W.Looks.here (s:={s with toks:=s.toks+1}) (PySem.W.looks_clsIn X hc) ?_))))))
 rw[hd'];refine wpAny_pure (a:=some dx) (wpAny_bind (wpAny_pure (wpAny_bind ?_)));refine wpAny_nsSet1 (s:={s with toks:=s.toks+1}) I.ns fun h' hn2 hs2=>?_
 obtain ⟨oD,esD,epD,hoD,hdD,hcD⟩:=hn2.count (PySem.Within.cons name v hw);refine wpAny_bind (wpAny_lookBehind hoD (by rw[hdD];exact pastItsLine_dict (HN hcD (by rw[HS];lia))) ?_)
 exact wpAny_pure (h _ ⟨(hs2.2 _ (Ne.symm I.ne)).trans I.obj,hn2,I.ne⟩ hs2)
theorem wY {R:Result->Shared->Prop} {vs:KC} {kw:List (Str×Value)} (X:K.In s.heap) (hm:PySem.W.makesIn K C=true)
  (hi:HG K (.ref C) "__init__" =some (some (.ref f))) (hf:PySem.W.typeIn K (.ref f)=some (.type "function"))
  (h:codeAny (model prog w) (A.under (.builtin "type.__call__" ⟨.ref C::vs,kw⟩)) (.call (.ref f) ⟨.ref (s.heap.objs.size+1)::vs,kw⟩) (PySem.W.InitBack (s.heap.objs.size+1) R)
   {s with heap:=(s.heap.push HP).push (IP C s.heap.objs.size)}):
  codeAny (model prog w) A (.call (.ref C) ⟨vs,kw⟩) R s:=by
 obtain ⟨hh,g,d,t,os⟩:=s;exact PySem.W.make_core (PySem.W.makes_of X hm) (PySem.W.looks_findIn X hi) (fun self=>PySem.W.bind_fn X self hf) (.inl rfl) h
end
noncomputable def aJ (f:Str) (v:V):List (Str×V)->List (Str×V)
 | []=> [(f,v)]
 |(g,x)::r=>if g=f then (g,v)::r else (g,x)::aJ f v r
theorem aK (f g:Str) (v:V):∀fs:List (Str×V),(aJ f v fs).lookup g=if g=f then some v else fs.lookup g
 | []=>by
  show IY g [(f,v)]=_
  by_cases h:g=f
  ·have hb:(g==f)=true:=beq_iff_eq.mpr h;simp only[IY,hb,if_pos h]
  ·have hb:(g==f)=false:=beq_eq_false_iff_ne.mpr h;simp only[IY,hb,if_neg h]
 |(k,x)::r=>by
  have ih:=aK f g v r;rw[show aJ f v ((k,x)::r)=(if k=f then (k,v)::r else (k,x)::aJ f v r) from rfl]
  by_cases hk:k=f
  ·rw[if_pos hk]
   by_cases h:g=k
   ·have hb:(g==k)=true:=beq_iff_eq.mpr h;simp only[IY,hb,if_pos (h.trans hk)]
   ·have hb:(g==k)=false:=beq_eq_false_iff_ne.mpr h;simp only[IY,hb,if_neg (fun e:g=f=>h (e.trans hk.symm))]
  ·rw[if_neg hk]
   by_cases h:g=k
   ·have hb:(g==k)=true:=beq_iff_eq.mpr h;simp only[IY,hb,if_neg (fun e:g=f=>hk (h.symm.trans e))]
   ·have hb:(g==k)=false:=beq_eq_false_iff_ne.mpr h;simp only[IY,hb];exact ih
theorem jU (f:Str) (v:V):∀fs:List (Str×V),f∈(aJ f v fs).map (·.1)/\∀g,g∈fs.map (·.1)->g∈(aJ f v fs).map (·.1)
 | []=>⟨by simp[aJ],fun g h=>by simp at h⟩
 |(k,x)::r=>by
  obtain ⟨i1,i2⟩:=jU f v r;rw[show aJ f v ((k,x)::r)=(if k=f then (k,v)::r else (k,x)::aJ f v r) from rfl]
  by_cases hk:k=f
  ·rw[if_pos hk];subst hk;exact ⟨by simp,fun g h=>by simpa using h⟩
  ·rw[if_neg hk];refine ⟨?_,fun g h=>?_⟩
   ·rw[HY];exact HA _ i1
   ·rw[HY] at h⊢;rcases GM.mp h with e|e
    ·exact GM.mpr (.inl e)
    ·exact HA _ (i2 g e)
theorem cZ (f:Str) (v:V):∀fs:List (Str×V),(aJ f v fs).length<=fs.length+1
 | []=>by simp[aJ]
 |(k,x)::r=>by
  have ih:=cZ f v r;rw[show aJ f v ((k,x)::r)=(if k=f then (k,v)::r else (k,x)::aJ f v r) from rfl]
  by_cases hk:k=f
  ·rw[if_pos hk,HS,HS];lia
  ·rw[if_neg hk,HS,HS];lia
theorem fW.some_of {v:V} {o:KH} (r:fW (some v) o):∃u,o=some u/\RelV v u:=by
 cases o with
 |none=>exact (show False from r).elim
 |some u=>exact ⟨u,rfl,r⟩
theorem fW.none_of {o:KH} (r:fW none o):o=none:=by
 cases o with
 |none=>rfl
 |some u=>exact (show False from r).elim
theorem nE {v:V} {u:Value} (r:RelV v u):PySem.W.handedIn u=true:=by
 cases v with
 |non=>cases (show u=Value.none from r);rfl
 |bl b=>cases (show u=Value.bool b from r);rfl
 |int i=>obtain ⟨t,e⟩:=(show ∃t,u=Value.int i t from r);cases e;rfl
 |str x=>obtain ⟨t,e⟩:=(show ∃t,u=Value.str x t from r);cases e;rfl
 |byt b=>obtain ⟨t,e⟩:=(show ∃t,u=Value.bytes b t from r);cases e;rfl
 |flt b=>obtain ⟨t,e⟩:=(show ∃t,u=Value.float b t from r);cases e;rfl
 |ref a=>cases (show u=Value.ref a from r);rfl
 |ty n=>cases (show u=Value.type n from r);rfl
section
variable {P:Program} {w:World} {H H':Hp} {h h':Heap} {a C dx:Addr} {fs fs':List (Str×V)}
theorem kX (hok:fX P w H h) (e:H a=some (.ins C dx fs)):∃mA,sv h a dx C mA/\(∀f,fW (fs.lookup f) (mA f))/\PySem.Within mA (fs.map (·.1))/\fs.length<=1000/\H dx=some (.own a):=by
 obtain ⟨d,z,ne,ob,mA,n,r,q⟩:=(show aY P w H h a (.ins C dx fs) from hok a _ e)
 exact ⟨mA,⟨ob,n,ne⟩,r,q,z,d⟩
end
structure rY (K:G0) (C:Addr):Prop where
 pg:PySem.W.plainGet K C Str.empty=true
 hd:PySem.W.hasDictIn K C=true
 po:PySem.W.plainOver K C=true
 sa:HG K (.ref C) "__setattr__" =some (some (.builtin "object.__setattr__"))
theorem rY.get {K:G0} {C:Addr} (c:rY K C) (f:Str):PySem.W.plainGet K C f=true:=c.pg
def bJ (K:G0) (C:Addr) (f:Str):Prop:=HG K (.ref C) f=some none
theorem bJ.taker {K:G0} {C:Addr} {f:Str} (n:bJ K C f):PySem.W.takerIn K C f=some none:=by
 unfold PySem.W.takerIn;rw[show HG K (.ref C) f=some none from n]
 rfl
structure gz (K:G0) (C:Addr) (m:Str) (f:Addr):Prop where
 at_:HG K (.ref C) m=some (some (.ref f))
 fn:PySem.W.isFn K (.ref f)=true
 kp:Hk K (.ref f)=true
section
variable {pins:Ky} {σ:St} {H:Hp} {s:Shared} {a C dx:Addr} {fs:List (Str×V)} {f:Str} {v:V} {A:Around} {E:Ks}
theorem sw {b:Bool} {Q:Ks} (I:aG X pins σ H s) (e:H a=some (.ins C dx fs)) (c:rY X.K C) (n:bJ X.K C f) (l:fs.lookup f=some v)
  (h:∀u s',aG X pins σ H s'->RelV v u->Q u s'):wpAny (model X.prog X.w) A (getAttr (.ref a) f b) Q E s:=by
 obtain ⟨mA,O,r,_,_,_⟩:=kX I.hok e;obtain ⟨u,hu,ru⟩:=fW.some_of (v:=v) (o:=mA f) (by rw[<-l];exact r f)
 exact yY I.kIn O (c.get f) c.hd n hu (nE ru) (h u _ (I.tok _) ru)
theorem i6 {m:Str} {g:Addr} {pl:Sem Bool} {Q:Value×KC->Shared->Prop} (I:aG X pins σ H s) (e:H a=some (.ins C dx fs)) (c:rY X.K C) (k:gz X.K C m g) (l:fs.lookup m=none)
  (h:Q (.ref g,[.ref a]) s):wpAny (model X.prog X.w) A (getMethod (.ref a) m pl) Q E s:=by
 obtain ⟨mA,O,r,_,_,_⟩:=kX I.hok e;have hn:mA m=none:=fW.none_of (by rw[<-l];exact r m)
 exact wX I.kIn O (c.get m) k.at_ k.fn hn h
theorem sx {y:V} {u:Value} {Q:Unit->Shared->Prop} (I:aG X pins σ H s) (e:H a=some (.ins C dx fs)) (c:rY X.K C) (n:bJ X.K C f) (hl:fs.length<1000) (ry:RelV y u)
  (h:∀s',aG X pins σ (ay H a (.ins C dx (aJ f y fs))) s'->Q () s'):wpAny (model X.prog X.w) A (setAttr (.ref a) f u) Q E s:=by
 obtain ⟨mA,O,r,wi,_,ho⟩:=kX I.hok e;have hz:(fs.map (·.1)).length<=sizeLine:=by rw[G2,sizeLine_eq];lia
 refine yZ I.kIn O c.sa c.po n.taker c.hd wi hz fun h' O' sb=>h _ ?_
 have hd:∃o,h'.get? dx=some o:=let ⟨o,_,_,e',_⟩:=O'.ns;⟨o,e'⟩;refine I.write (x:=a) (e:=dx) (by rw[e];exact True.intro) (.inr ho) (fun b q hb z=>(sb.2 b hb).trans z) hd ?_
 refine ⟨by rw[ak O.ne];exact ho,?_,O.ne,O'.obj,_,O'.ns,fun g=>?_,fun g hg=>?_⟩
 ·have:=cZ f y fs;lia
 ·show fW ((aJ f y fs).lookup g) (if g=f then some u else mA g)
  rw[aK]
  by_cases q:g=f
  ·rw[if_pos q,if_pos q];exact ry
  ·rw[if_neg q,if_neg q];exact r g
 ·by_cases q:g=f
  ·rw[q];exact (jU f y fs).1
  ·refine (jU f y fs).2 g (wi g fun z=>hg ?_)
   show (if g=f then some u else mA g)=none
   rw[if_neg q];exact z
theorem aG.made (I:aG X pins σ H s):aG X pins σ (ay (ay H s.heap.objs.size (.own (s.heap.objs.size+1))) (s.heap.objs.size+1) (.ins C s.heap.objs.size []))
  {s with heap:=(s.heap.push HP).push (IP C s.heap.objs.size)}:=by
 have e1:(s.heap.push HP).get? s.heap.objs.size=some HP:=Heap.get?_push_size s.heap rfl;have e2:((s.heap.push HP).push (IP C s.heap.objs.size)).get? (s.heap.objs.size+1)=some (IP C s.heap.objs.size):=by
  have:=Heap.get?_push_size (s.heap.push HP) (o:=IP C s.heap.objs.size) rfl
  rwa [Heap.size_push] at this
 have e3:(s.heap.push HP).Ns s.heap.objs.size (fun _=>none):=⟨HP,#[],_,e1,rfl,(fun e he=>absurd he (by simp)),fun _=>rfl⟩
 have I1:=I.laid (a:=s.heap.objs.size) (o:= .own (s.heap.objs.size+1)) (h':=s.heap.push HP) (t':=s.toks) (fun b u q=>Heap.get?_push_of_some _ q) (G4 _) ⟨_,e1⟩
 refine I1.laid (a:=s.heap.objs.size+1) (o:= .ins C s.heap.objs.size []) (t':=s.toks) (fun b u q=>Heap.get?_push_of_some _ q) (Nat.le_of_eq (Heap.size_push _ _)) ?_
 have ne:s.heap.objs.size≠s.heap.objs.size+1:=GL (Nat.lt_succ_self _);refine ⟨by rw[ak ne,ac],HC _,ne,e2,fun _=>none,(Heap.Ns1.of_empty e3).at fun o q=>Heap.get?_push_of_some _ q,fun _=>True.intro,fun y hy=>absurd rfl hy⟩
theorem uy {prog:Program} {w:World} {env:Env} {e:Expr} {f:Str} {pos:Pos} {s:Shared} {Q:Ks} (hb:attributeBase e f env (eval e env)=eval e env)
  (h:wpAny (model prog w) A (eval e env) (fun o s₁=>wpAny (model prog w) A (getAttr o f true) Q E s₁) E s):wpAny (model prog w) A (eval (.Attribute e f pos) env) Q E s:=
 Attribute_any_ h (by rw[arm_eval_Attribute,hb])
end
def De (K:G0) (ta:TE) (f:Str):TE:=fun σ H Q=>ta σ H fun x H1=>∃a C dx fs v,x= .ref a/\H1 a=some (.ins C dx fs)/\rY K C/\bJ K C f/\fs.lookup f=some v/\Q v H1
def Ft (K:G0) (ta tv:TE) (f:Str):TS:=fun D σ H=>tv σ H fun y H1=>ta σ H1 fun x H2=>∃a C dx fs,x= .ref a/\H2 a=some (.ins C dx fs)/\rY K C/\bJ K C f/\fs.length<1000/\
 D.nx σ (ay H2 a (.ins C dx (aJ f y fs)))
section
variable {o e value:Expr} {f:Str} {pos pos' tpos:Pos} {ta tv:TE}
theorem cA (he:PE X e ta) (hb:attributeBase e f X.env (eval e X.env)=eval e X.env):PE X (.Attribute e f pos) (De X.K ta f):=by
 intro pins s σ H Q I h;refine uy hb (bH (he pins s σ H _ I h) fun u s1 ⟨x,H1,I1,rx,a,C,dx,fs,v,ex,ea,c,n,l,q⟩=>?_)
 subst ex;obtain rfl:u=Value.ref a:=rx;exact sw I1 ea c n l fun u' s2 I2 ru=>⟨v,H1,I2,ru,q⟩
theorem gF (ha:PE X o ta) (hv:PE X value tv) (hs:swapsWith value (some (.Attribute o f pos')) pos.line X.env=pure false):PS X (.Assign [.Attribute o f pos'] value pos) (Ft X.K ta tv f):=by
 intro pins s σ H D I h;refine plainObj_wpAny_Assign_Attribute (bH (hv pins s σ H _ I h) fun u s1 ⟨y,H1,I1,ry,q⟩=>bH (ha pins s1 σ H1 _ I1 q) fun ov s2 ⟨x,H2,I2,rx,a,C,dx,fs,ex,ea,c,n,l,q2⟩=>?_) hs
 subst ex;obtain rfl:ov=Value.ref a:=rx;exact sx I2 ea c n l ry fun s3 I3=>⟨σ,_,I3,q2⟩
end
section
variable {pins:Ky} {σ:St} {H:Hp} {s:Shared} {A:Around} {E:Ks} {Q:Ks} {c:Value} {b:Bool}
inductive f9 (K:G0) (H:Hp):V->Value->Prop where
 |non:f9 K H .non (.type "NoneType")
 |bl (x:Bool):f9 K H (.bl x) (.type "bool")
 |int (i:Int):f9 K H (.int i) (.type "int")
 |str (x:Str):f9 K H (.str x) (.type "str")
 |flt (x:UInt64):f9 K H (.flt x) (.type "float")
 |lst {a:Addr} {xs:List V} (e:H a=some (.lst xs)):f9 K H (.ref a) (.type "list")
 |frz {a:Addr} {o:Obj} {xs:List V} (e:H a=some (.frz o (.lst xs))):f9 K H (.ref a) (.type "list")
 |tup {a:Addr} {xs:List V} (e:H a=some (.tup xs)):f9 K H (.ref a) (.type "tuple")
 |dK {a:Addr} {kvs:List (Key×V)} (e:H a=some (.dK kvs)):f9 K H (.ref a) (.type "dict")
 |dT {a:Addr} {kvs:List (List Key×V)} (e:H a=some (.dT kvs)):f9 K H (.ref a) (.type "dict")
 |ins {a C dx:Addr} {fs:List (Str×V)} (e:H a=some (.ins C dx fs)) (cl:rY K C) (ha:HG K (.ref C) "__class__" =some (some (.builtin "object.__class__")))
   (hn:PySem.W.specialIn K (.builtin "object.__class__") "__get__" =some (some (.builtin "getset_descriptor.__get__"))) (htk:PySem.W.takesIn K (.builtin "object.__class__")=some true)
   (hm:PySem.W.mroIn K C (.type "object")=some true):f9 K H (.ref a) (.ref C)
theorem vF {x:V} {u t:Value} (I:aG X pins σ H s) (rx:RelV x u) (ty:f9 X.K H x t) (e:Hy X.K t c=some b) (h:∀tk,Q (.bool b) {s with toks:=tk}):
  wpAny (model X.prog X.w) A (call (.builtin "isinstance") [u,c]) Q E s:=by
 cases ty with
 |non=>cases (show u=Value.none from rx);exact IA PySem.W.kitx_none I.kIn True.intro e (fun z=>nomatch z) h
 |bl y=>cases (show u=Value.bool y from rx);exact IA PySem.W.kitx_bool I.kIn True.intro e (fun z=>nomatch z) h
 |int i=>obtain ⟨t,q⟩:=(show ∃t,u=Value.int i t from rx);cases q;exact IA PySem.W.kitx_int I.kIn True.intro e (fun z=>nomatch z) h
 |str y=>obtain ⟨t,q⟩:=(show ∃t,u=Value.str y t from rx);cases q;exact IA PySem.W.kitx_str I.kIn True.intro e (fun z=>nomatch z) h
 |flt y=>obtain ⟨t,q⟩:=(show ∃t,u=Value.float y t from rx);cases q;exact IA PySem.W.kitx_float I.kIn True.intro e (fun z=>nomatch z) h
 | @lst a xs ea=>
  cases (show u=Value.ref a from rx)
  obtain ⟨_,_,n,_,h1⟩:=(show aY X.prog X.w H s.heap a (.lst xs) from I.hok a _ ea)
  exact IA PySem.W.kitx_list I.kIn ⟨_,h1,rfl⟩ e (fun z=>nomatch z) h
 | @frz a ob xs ea=>
  cases (show u=Value.ref a from rx)
  obtain ⟨_,_,_,n,_,h1⟩:=(show aY X.prog X.w H s.heap a (.frz ob (.lst xs)) from I.hok a _ ea)
  exact IA PySem.W.kitx_list I.kIn ⟨_,h1,rfl⟩ e (fun z=>nomatch z) h
 | @tup a xs ea=>
  cases (show u=Value.ref a from rx)
  obtain ⟨_,_,_,p⟩:=(show aY X.prog X.w H s.heap a (.tup xs) from I.hok a _ ea)
  obtain ⟨o,h1,h2,_⟩:=p;exact IA PySem.W.kitx_tuple I.kIn ⟨o,h1,h2⟩ e (fun z=>nomatch z) h
 | @dK a kvs ea=>
  cases (show u=Value.ref a from rx)
  obtain ⟨_,_,vs,_,p⟩:=(show aY X.prog X.w H s.heap a (.dK kvs) from I.hok a _ ea)
  obtain ⟨o,es,ep,h1,h2,_⟩:=p;exact IA PySem.W.kitx_dict I.kIn ⟨o,h1,h2.1⟩ e (fun z=>nomatch z) h
 | @dT a kvs ea=>
  cases (show u=Value.ref a from rx)
  obtain ⟨_,_,xs,_,o,es,ep,h1,h2,_⟩:=(show aY X.prog X.w H s.heap a (.dT kvs) from I.hok a _ ea)
  exact IA PySem.W.kitx_dict I.kIn ⟨o,h1,h2.1⟩ e (fun z=>nomatch z) h
 | @ins a C dx fs ea cl ha hn htk hm=>
  cases (show u=Value.ref a from rx)
  obtain ⟨mA,O,_⟩:=kX I.hok ea;obtain ⟨od,J,_⟩:=O.look;exact IA (PySem.W.kitx_own (cl.get _) cl.hd ha hn htk hm) I.kIn J e (fun z=>nomatch z) h
end
structure ce (k:Nat) (A:Around):Prop where
 hd:A.handled=none
 dp:A.depth+3*k+5<recursionLimit
 un:A.units+16*k+200<cLine
theorem ce.mono {j k:Nat} {A:Around} (r:ce k A) (h:j<=k):ce j A:=⟨r.hd,by have:=r.dp;lia,by have:=r.un;lia⟩
theorem ce.deeper {k:Nat} {A:Around} (r:ce (k+1) A) (env:Env):ce k (A.deeper env):=
 ⟨r.hd,by have:=r.dp;show A.depth+1+3*k+5<_;lia,by have:=r.un;show A.units+3+16*k+200<_;lia⟩
theorem sA {A:Around} {C:Addr} {us:KC} {kw:List (Str×Value)}:(A.under (.builtin "type.__call__" ⟨.ref C::us,kw⟩)).depth=A.depth+1:=by
 first|rfl|simp[Around.under,Code.weight,Code.isCreation,Code.isGuard,Code.isCaller,Code.frames,Code.isFrame,guardIds]
theorem sB {A:Around} {C:Addr} {us:KC} {kw:List (Str×Value)}:(A.under (.builtin "type.__call__" ⟨.ref C::us,kw⟩)).units=A.units+1:=by
 first|rfl|simp[Around.under,Code.cUnits,Code.frames,Code.isFrame]
theorem ce.make {k:Nat} {A:Around} (r:ce (k+1) A) (C:Addr) (us:KC) (kw:List (Str×Value)):ce k (A.under (.builtin "type.__call__" ⟨.ref C::us,kw⟩)):=
 ⟨r.hd,by have:=r.dp;rw[sA];lia,by have:=r.un;rw[sB];lia⟩
theorem ce.depth {k:Nat} {A:Around} (r:ce k A):A.depth<recursionLimit:=by have:=r.dp;lia
theorem ce.units {k:Nat} {A:Around} (r:ce k A):A.units+64<cLine:=by have:=r.un;lia
theorem ce.units0 {k:Nat} {A:Around} (r:ce k A):A.units<cLine:=by have:=r.un;lia
def Ba:TA:=fun _ H Q=>Q [] H
def Df (ta:TE) (tr:TA):TA:=fun σ H Q=>ta σ H fun x H1=>tr σ H1 fun xs H2=>Q (x::xs) H2
section
variable {e:Expr} {es:List Expr} {te:TE} {t:TA} {pos:Pos}
theorem aj:PA X [] Ba:=fun _ _ _ _ H Q I h=>Calls.spliced_nil ⟨[],H,I,.nil,h⟩
theorem aa (ha:PE X e te) (hr:PA X es t) (hs:starEach (e::es) X.env=(false,eval e X.env)::starEach es X.env:=by rfl):PA X (e::es) (Df te t):=by
 intro pos pins s σ H Q I h;rw[hs];show wpAny _ _ (spliced ((false,eval e X.env)::backTo pos (starEach es X.env))) _ _ s;refine Calls.spliced_cons (bH (ha pins s σ H _ I h) fun u s1 ⟨x,H1,I1,r1,q1⟩=>?_)
 exact bH (hr pos pins s1 σ H1 _ I1 q1) fun us s2 ⟨xs,H2,I2,r2,q2⟩=>⟨x::xs,H2,I2,.cons r1 r2,q2⟩
def Fu (t:TA):TE:=fun σ H Q=>t σ H fun xs H1=>xs.length<=sizeLine/\∀p,H1 p=none->Q (.ref p) (ay H1 p (.tup xs))
def Fv (t:TA):TE:=fun σ H Q=>t σ H fun xs H1=>xs.length<=sizeLine/\∀p,H1 p=none->Q (.ref p) (ay H1 p (.lst xs))
theorem cE {x1} (h:PA X es t):PE X (.Tuple es x1 pos) (Fu t):=by
 intro pins s σ H Q I hq;refine wpAny_Tuple_spliced (bH (h pos pins s σ H _ I hq) fun us s1 ⟨xs,H1,I1,r,z,q⟩=>⟨by rw[<-r.length];exact z,?_⟩)
 have hf:H1 s1.heap.objs.size=none:=I1.hok.fresh (G4 _);refine ⟨.ref s1.heap.objs.size,ay H1 s1.heap.objs.size (.tup xs),I1.laid (t':=s1.toks) (fun b u e=>Heap.get?_push_of_some _ e) (G4 _) ?_,rfl,q _ hf⟩
 exact ⟨z,us,r,⟨_,Heap.get?_push_size _ rfl,rfl,_,rfl⟩⟩
theorem bz (h:PA X es t):PE X (.List es pos) (Fv t):=by
 intro pins s σ H Q I hq;refine wpAny_List_spliced (bH (h pos pins s σ H _ I hq) fun us s1 ⟨xs,H1,I1,r,z,q⟩=>⟨by rw[<-r.length];exact z,?_⟩)
 have hf:H1 s1.heap.objs.size=none:=I1.hok.fresh (G4 _);refine ⟨.ref s1.heap.objs.size,ay H1 s1.heap.objs.size (.lst xs),I1.laid (t':=s1.toks) (fun b u e=>Heap.get?_push_of_some _ e) (G4 _) ?_,rfl,q _ hf⟩
 exact ⟨z,us,0,r,Heap.get?_push_size _ rfl⟩
end
abbrev Sp:=List V->Hp->VK->XK->Prop
abbrev sC:=List Env->Hp->Shared->XK->Value->Shared->Prop
structure m3 (P:Program) (w:World) (K:G0) (mg:Kt) (base:Heap) (A:Around) (outer:List Env) (s:Shared) (H:Hp):Prop where
 frames:A.frames=some outer
 mod:Mod K mg base
 bs:∀b o,base.get? b=some o->s.heap.get? b=some o/\H b=none
 bsz:base.objs.size<=s.heap.objs.size
 funs:s.heap.FunFrames base outer
 frf:∀b∈kr outer,H b=none
 hok:fX P w H s.heap
 bare:AllBare s.gens
def CE (outer:List Env) (P:Program) (w:World) (H:Hp) (s:Shared) (Q:VK) (u:Value) (s':Shared):Prop:=
 ∃v H',s'.os=s.os/\AllBare s'.gens/\Un (kr outer) [] H H' s.heap s'.heap/\fX P w H' s'.heap/\RelV v u/\Q v H'
def CR (CX:sC) (outer:List Env) (P:Program) (w:World) (H:Hp) (s:Shared) (Q:VK) (E:XK) (r:Result) (s':Shared):Prop:=
 match r with
 | .ok (.ret u)=>CE outer P w H s Q u s'
 | .ok _=>False
 | .error e=>CX outer H s E e s'
structure bh (P:Program) (w:World) (K:G0) (mg:Kt) (base:Heap) (CX:sC) (k:Nat) (f:Addr) (fd:FuncData) (ps:KA) (sp:Sp):Prop where
 len:∀vs H Q E,sp vs H Q E->vs.length=ps.length
 run:∀(A:Around) (outer:List Env) (s:Shared) (H:Hp) (args:Args) (us:KC) (vs:List V) (Q:VK) (E:XK),ce k A->m3 P w K mg base A outer s H->BindsTo s fd args (ps.zip us)->aZ vs us->sp vs H Q E->
  codeAny (model P w) A (.call (.ref f) args) (CR CX outer P w H s Q E) s
theorem m3.make {P:Program} {w:World} {K:G0} {mg:Kt} {base:Heap} {A:Around} {outer:List Env} {s:Shared} {H:Hp} (e:m3 P w K mg base A outer s H) (C:Addr) (us:KC) (kw:List (Str×Value)):
  m3 P w K mg base (A.under (.builtin "type.__call__" ⟨.ref C::us,kw⟩)) outer s H:=⟨by first|exact e.frames|(simpa [Around.under,Code.envs,Code.isFrame,pushEnvs] using e.frames),e.mod,e.bs,e.bsz,e.funs,e.frf,e.hok,e.bare⟩
section
variable {pins:Ky} {σ:St} {H:Hp} {s s':Shared}
theorem aG.env0 (I:aG X pins σ H s):m3 X.prog X.w X.K X.mg X.base X.A X.stack s H:=
 ⟨I.ok.frames,I.ok.mod,I.bs,HN I.ok.bsz I.sz,I.stack,I.stkFree,I.hok,I.bare⟩
theorem aG.after {Q:VK} {u:Value} (I:aG X pins σ H s) (h:CE X.stack X.prog X.w H s Q u s'):EP X pins σ Q u s':=by
 obtain ⟨v,H',os,bare,un,hok,r,q⟩:=h;obtain ⟨hh,g,d,t,os'⟩:=s';obtain rfl:os'=s.os:=os;exact ⟨v,H',I.call (h':=hh) (g':=g) (d':=d) (t':=t) (ch:= []) un hok bare (fun b z=>absurd z (by simp)),r,q⟩
end
def nG (sp:Sp) (dvs:List V) (E:XK) (t:TA):TE:=fun σ H Q=>t σ H fun vs H1=>sp (vs++dvs) H1 Q E
def uz (C:Addr) (sp:Sp) (dvs:List V) (E:XK) (t:TA):TE:=fun σ H Q=>t σ H fun vs H1=>∀x dx,H1 x=none->H1 dx=none->dx≠x->
 sp (.ref x::(vs++dvs)) (ay (ay H1 dx (.own x)) x (.ins C dx [])) (fun v H2=>v= .non/\Q (.ref x) H2) E
def Binds (K:G0) (fd:FuncData) (ps:KA) (ds:KC):Prop:=
 ∀(s:Shared) (us:KC),K.In s.heap->(us++ds).length=ps.length->BindsTo s fd ⟨us,[]⟩ (ps.zip (us++ds))
theorem Binds.all {K:G0} {fd:FuncData} {ps:KA} (h:∀us:KC,us.length=ps.length->bindArgs fd ⟨us,[]⟩=pure (ps.zip us)):Binds K fd ps []:=fun s us _ hl=>by
 rw[IT] at hl⊢;exact .of_eq (h us hl)
def jV (CX:sC) (X:Cx) (E:XK):Prop:=∀(pins:Ky) (σ:St) (H:Hp) (s:Shared) (e:Value) (s':Shared),aG X pins σ H s->CX X.stack H s E e s'->X.xe e s'
section
variable {CX:sC} {k:Nat} {f C:Addr} {fd:FuncData} {ps:KA} {sp:Sp} {dvs:List V} {ds:KC} {E:XK} {x m:Str} {p pos apos:Pos} {e o:Expr} {es:List Expr} {ta:TE} {t:TA}
theorem wZ {pins:Ky} {σ:St} {H:Hp} {s:Shared} {Q:VK} {us:KC} {vs:List V} (F:bh X.prog X.w X.K X.mg X.base CX k f fd ps sp) (hr:ce k X.A) (hb:Binds X.K fd ps ds) (hd:aZ dvs ds) (hx:jV CX X E)
  (I:aG X pins σ H s) (r:aZ vs us) (h:sp (vs++dvs) H Q E):wpAny (model X.prog X.w) X.A (call (.ref f) us) (EP X pins σ Q) X.xe s:=by
 have r2:aZ (vs++dvs) (us++ds):=r.append hd;have hl:(us++ds).length=ps.length:=by rw[<-r2.length];exact F.len _ _ _ _ h
 refine wpAny_call (codeAny_mono (F.run X.A X.stack s H ⟨us,[]⟩ (us++ds) (vs++dvs) Q E hr I.env0 (hb s us I.kIn hl) r2 h) fun r s' hq=>?_)
 cases r with
 |error e=>exact hx pins σ H s e s' I hq
 |ok fl=>
  cases fl with
  |ret u=>exact I.after hq
  |next=>exact False.elim hq
  |brk=>exact False.elim hq
  |cont=>exact False.elim hq
theorem uA (F:bh X.prog X.w X.K X.mg X.base CX k f fd ps sp) (hr:ce k X.A) (hg:Gl X x) (hm:X.mg x=some (.ref f)) (hk:Hk X.K (.ref f)=true) (hb:Binds X.K fd ps ds) (hd:aZ dvs ds) (hx:jV CX X E)
  (ha:PA X (e::es) t) (hdb:(x==("__debug__" :Str))=false:=by decide) (he:starEach (e::es) X.env=(false,eval e X.env)::starEach es X.env:=by rfl) (hpl:(backTo pos (starEach es X.env)).any (·.1)=false:=by rfl):
  PE X (.Call (.Name x p) (e::es) [] pos) (nG sp dvs E t):=by
 intro pins s σ H Q I h;refine wpAny_Call_Name_kw (dZ I hg hm ?_ hdb);refine IE (h₀:=X.base) I.ok.mod.kin hk (bH (ha pos pins s σ H _ I h) fun us s1 ⟨vs,H1,I1,r,q⟩=>⟨I1.kIn,?_⟩) he hpl
 exact wZ F hr hb hd hx I1 r q
structure Mk (K:G0) (C f:Addr):Prop where
 makes:PySem.W.makesIn K C=true
 init:HG K (.ref C) "__init__" =some (some (.ref f))
 fn:PySem.W.isFn K (.ref f)=true
 kp:Hk K (.ref C)=true
theorem qi {pins:Ky} {σ:St} {H:Hp} {s:Shared} {Q:VK} {us:KC} {vs:List V} (M:Mk X.K C f) (F:bh X.prog X.w X.K X.mg X.base CX k f fd ps sp) (hr:ce (k+1) X.A) (hb:Binds X.K fd ps ds) (hd:aZ dvs ds)
  (hx:jV CX X E) (I:aG X pins σ H s) (r:aZ vs us)
  (h:∀x dx,H x=none->H dx=none->dx≠x->sp (.ref x::(vs++dvs)) (ay (ay H dx (.own x)) x (.ins C dx [])) (fun v H2=>v= .non/\Q (.ref x) H2) E):
  wpAny (model X.prog X.w) X.A (call (.ref C) us) (EP X pins σ Q) X.xe s:=by
 have hq:=h (s.heap.objs.size+1) s.heap.objs.size (I.hok.fresh (Nat.le_succ _)) (I.hok.fresh (G4 _)) (GL (Nat.lt_succ_self _));have I2:=aG.made (C:=C) I;have r2:aZ (V.ref (s.heap.objs.size+1)::(vs++dvs)) (Value.ref (s.heap.objs.size+1)::(us++ds)):= .cons rfl (r.append hd);have hl:(Value.ref (s.heap.objs.size+1)::us++ds).length=ps.length:=by
  have e:=r2.length;rw[F.len _ _ _ _ hq] at e;exact e.symm
 refine wpAny_call (wY (f:=f) I.kIn M.makes M.init (beq_iff_eq.mp M.fn) (codeAny_mono (F.run _ X.stack _ _ ⟨Value.ref (s.heap.objs.size+1)::us,[]⟩ (Value.ref (s.heap.objs.size+1)::(us++ds)) _ _ E (hr.make C us [])
  (I2.env0.make C us []) (hb _ (Value.ref (s.heap.objs.size+1)::us) I2.kIn hl) r2 hq) fun r s' hq'=>?_))
 cases r with
 |error e=>exact hx pins σ _ _ e s' I2 hq'
 |ok fl=>
  cases fl with
  |ret u=>
   obtain ⟨v,H',I3,rv,ev,q3⟩:=I2.after hq';subst ev;exact ⟨rv,⟨V.ref (s.heap.objs.size+1),H',I3,rfl,q3⟩⟩
  |next=>exact False.elim hq'
  |brk=>exact False.elim hq'
  |cont=>exact False.elim hq'
theorem y3 (M:Mk X.K C f) (F:bh X.prog X.w X.K X.mg X.base CX k f fd ps sp) (hr:ce (k+1) X.A) (hg:Gl X x) (hm:X.mg x=some (.ref C)) (hb:Binds X.K fd ps ds) (hd:aZ dvs ds) (hx:jV CX X E)
  (ha:PA X (e::es) t) (hdb:(x==("__debug__" :Str))=false:=by decide) (he:starEach (e::es) X.env=(false,eval e X.env)::starEach es X.env:=by rfl) (hpl:(backTo pos (starEach es X.env)).any (·.1)=false:=by rfl):
  PE X (.Call (.Name x p) (e::es) [] pos) (uz C sp dvs E t):=by
 intro pins s σ H Q I h;refine wpAny_Call_Name_kw (dZ I hg hm ?_ hdb);refine IE (h₀:=X.base) I.ok.mod.kin M.kp (bH (ha pos pins s σ H _ I h) fun us s1 ⟨vs,H1,I1,r,q⟩=>⟨I1.kIn,?_⟩) he hpl
 exact qi M F hr hb hd hx I1 r q
theorem w6 (M:Mk X.K C f) (F:bh X.prog X.w X.K X.mg X.base CX k f fd ps sp) (hr:ce (k+1) X.A) (hg:Gl X x) (hm:X.mg x=some (.ref C)) (hb:Binds X.K fd ps ds) (hd:aZ dvs ds) (hx:jV CX X E)
  (hdb:(x==("__debug__" :Str))=false:=by decide):PE X (.Call (.Name x p) [] [] pos) (uz C sp dvs E Ba):=by
 intro pins s σ H Q I h;refine wpAny_Call_Name_kw (dZ I hg hm ?_ hdb);exact PySem.W.callWith_K0 I.kIn M.kp (qi (us:= []) M F hr hb hd hx I .nil h)
end
structure aC (N P:KA) (sc:Scope):Prop where
 kind:sc.kind= .function
 co:sc.isCoroutine=false
 gen:sc.isGenerator=false
 nd:N.Nodup
 pre:N.take P.length=P
 par:∀x∈P,sc.names.lookup x=some .local∨sc.names.lookup x=some .cell
 nofree:∀y∈sc.names,y.2≠ .free
theorem nH {kindOf:Str->Option NameKind} {x:Str}:∀{binds:List (Str×Value)} {m:Kt},(∀v,(x,v)∉binds)->bindL kindOf binds m x=m x
 | [],_,_=>rfl
 |(n,v)::r,m,h=>by
  unfold bindL;rw[nH fun w hw=>h w (HA _ hw)]
  split
  ·have:x≠n:=by rintro rfl;exact h v Ho
   simp[this]
  ·rfl
theorem nI {kindOf:Str->Option NameKind} {x:Str}:∀{binds:List (Str×Value)} {m:Kt},(∀v,(x,v)∉binds)->bindC kindOf binds m x=m x
 | [],_,_=>rfl
 |(n,v)::r,m,h=>by
  unfold bindC;rw[nI fun w hw=>h w (HA _ hw)]
  split
  ·rfl
  ·have:x≠n:=by rintro rfl;exact h v Ho
   simp[this]
theorem nJ {kindOf:Str->Option NameKind} {x:Str} {v:Value}:∀{P:KA} {vs:KC} {i:Nat} {m:Kt},P.Nodup->P[i]?=some x->vs[i]?=some v->kindOf x=some .local->
  bindL kindOf (P.zip vs) m x=some v
 | [],_,_,_,_,h,_,_=>by simp at h
 |_::_,[],_,_,_,_,h,_=>by simp at h
 |p::P,w::vs,0,m,nd,h1,h2,hk=>by
  simp at h1 h2;subst h1;subst h2;show bindL kindOf ((p,w)::P.zip vs) m p=_;unfold bindL;rw[nH fun v hv=>(HL.mp nd).1 (List.of_mem_zip hv).1,if_pos hk]
  simp
 |p::P,w::vs,i+1,m,nd,h1,h2,hk=>by
  show bindL kindOf ((p,w)::P.zip vs) m x=_;unfold bindL;exact nJ (i:=i) (HL.mp nd).2 (by simpa using h1) (by simpa using h2) hk
theorem nK {kindOf:Str->Option NameKind} {x:Str} {v:Value}:∀{P:KA} {vs:KC} {i:Nat} {m:Kt},P.Nodup->P[i]?=some x->vs[i]?=some v->kindOf x≠some .local->
  bindC kindOf (P.zip vs) m x=some v
 | [],_,_,_,_,h,_,_=>by simp at h
 |_::_,[],_,_,_,_,h,_=>by simp at h
 |p::P,w::vs,0,m,nd,h1,h2,hk=>by
  simp at h1 h2;subst h1;subst h2;show bindC kindOf ((p,w)::P.zip vs) m p=_;unfold bindC;rw[nI fun v hv=>(HL.mp nd).1 (List.of_mem_zip hv).1,if_neg hk]
  simp
 |p::P,w::vs,i+1,m,nd,h1,h2,hk=>by
  show bindC kindOf ((p,w)::P.zip vs) m x=_;unfold bindC;exact nK (i:=i) (HL.mp nd).2 (by simpa using h1) (by simpa using h2) hk
noncomputable def start (N:KA) (vs:List V):St:=vs.map some++List.replicate (N.length-vs.length) none
noncomputable def jW (CX:sC) (P:Program) (w:World) (K:G0) (mg:Kt) (base:Heap) (N:KA) (qual:Str) (scope:Scope) (f:Addr) (cd:Value) (A:Around) (outer:List Env) (s:Shared) (H:Hp) (E:XK):Cx where
 prog:=P
 w:=w
 K:=K
 mg:=mg
 base:=base
 A:=A.deeper (envOfC qual scope s.heap.objs.size f cd)
 N:=N
 s₀:=s
 H₀:=H
 env:=envOfC qual scope s.heap.objs.size f cd
 outer:=outer
 stack:=envOfC qual scope s.heap.objs.size f cd::outer
 ex:= []
 calm:=true
 fn:=fun _=>true
 pn:= []
 xe:=fun e s'=>wpAny (model P w) (A.deeper (envOfC qual scope s.heap.objs.size f cd)) (leaving (envOfC qual scope s.heap.objs.size f cd) e) (fun _ s''=>CX outer H s E e s'') (fun e' s''=>CX outer H s E e' s'') s'
theorem qj {sc:Scope} {n:Nat} {x:Str} (h:sc.names.lookup x=some .cell):∃c,(cellsFrom n sc.names []).lookup x=some c:=by
 have q:=PySem.W.cellsFrom_some sc.names n [] (.inl h);exact IF.mp q
theorem nL {CX:sC} {P:Program} {w:World} {K:G0} {mg:Kt} {base:Heap} {N ps:KA} {qual:Str} {scope:Scope} {f:Addr} {cd:Value} {A:Around} {outer:List Env} {s s1:Shared} {H:Hp} {E:XK} {us:KC} {vs:List V}
  (S:aC N ps scope) (hd:A.handled=none) (e0:m3 P w K mg base A outer s H) (hl:vs.length=ps.length) (r:aZ vs us)
  (x:InCallC s s.heap.objs.size (bindL (envOfC qual scope s.heap.objs.size f cd).kindOf (ps.zip us) fun _=>none) (cellsFrom (s.heap.objs.size+1) scope.names []) (bindC (envOfC qual scope s.heap.objs.size f cd).kindOf (ps.zip us) fun _=>none) s1):
  aG (jW CX P w K mg base N qual scope f cd A outer s H E) [] (start N vs) H s1:=by
 have hpl:ps.length<=N.length:=by have:=congrArg List.length S.pre;rw[GX] at this;lia
 obtain ⟨h1,tk,rfl,hk⟩:=x.done;have noA:∀b:Addr,b∉(jW CX P w K mg base N qual scope f cd A outer s H E).ex:=fun b z=>absurd (show b∈([]:KB) from z) (by simp)
 refine ⟨⟨e0.mod,S.kind,rfl,rfl,G4 _,fun y z c h1 h2=>?_,fun y hy=>?_,fun y c _ h=>?_,fun _=>hd,Around.frames_deeper e0.frames,.inr ⟨rfl,rfl⟩,fun b z=>absurd z (noA b),e0.bs,e0.bsz,fun b _ _=>noA b,fun b z=>absurd z (noA b),e0.funs,e0.frf⟩,
  rfl,e0.bare,Un.kept hk,⟨_,x.toInCall.ns,fun i y v h1 h2 h3=>?_⟩,fun y c h=>⟨_,x.cell y c h⟩,e0.hok.fresh (G4 _),fun y c h=>?_,fun p hp=>absurd (show p∈([]:Ky) from hp) (by simp),e0.hok.kept hk,?_⟩
 ·exact name_of_addr x.apart (Hr h1) (Hr h2)
 ·have hy:scope.names.lookup y=some .cell∨scope.names.lookup y=some .free:=hy;rcases hy with hy|hy
  ·exact qj hy
  ·exact absurd rfl (S.nofree _ (Hr hy))
 ·exact Nat.le_of_lt (x.above y c (Hr h))
 ·have hi:i<vs.length:=by
   unfold start at h2
   by_cases hi:i<vs.length
   ·exact hi
   ·rw[G7 (by simpa using hi)] at h2
    rw[List.getElem?_replicate] at h2
    split at h2<;>cases h2
  have ha:vs[i]?=some v:=by
   unfold start at h2;rw[G6 (by simpa using hi),GJ] at h2
   cases e:vs[i]? with
   |none=>rw[e] at h2;cases h2
   |some a=>rw[e] at h2;cases h2;rfl
  obtain ⟨u,hu,rv⟩:=r.get ha;have hp:ps[i]?=some y:=by
   rw[<-S.pre,Iq (by lia)];exact h1
  have ndP:ps.Nodup:=by rw[<-S.pre];exact S.nd.sublist (List.take_sublist _ _)
  refine ⟨u,rv,?_⟩;rcases S.par y (G5 hp) with k|k
  ·exact .inl ⟨k,nJ ndP hp hu k⟩
  ·obtain ⟨c,e⟩:=qj (n:=s.heap.objs.size+1) k;refine .inr ⟨.inl k,c,e,?_⟩;have q:=x.cell y c e;rw[nK ndP hp hu (by show scope.names.lookup y≠_;rw[k];decide)] at q
   exact q
 ·exact e0.hok.fresh (Nat.le_of_lt (x.above y c (Hr h)))
 ·unfold start;show _=N.length;rw[G8,G2,List.length_replicate]
  lia
theorem AH {CX:sC} {P:Program} {w:World} {K:G0} {mg:Kt} {base:Heap} {k:Nat} {f:Addr} {name qual:Str} {params:Arguments} {body:List Stmt} {scope:Scope} {dV kV doc pm cdv ct oc:Value} {an od:KG}
  {osl:Kz} {N ps:KA} {sp:Sp} (lk:K.lookup f=some ⟨oc,od,.func (Hq name qual params body scope dV kV doc pm an cdv ct),osl⟩) (hcd:IG K cdv qual=true) (S:aC N ps scope)
  (len:∀vs H Q E,sp vs H Q E->vs.length=ps.length)
  (hbody:∀(A:Around) (outer:List Env) (s:Shared) (H:Hp) (vs:List V) (Q:VK) (E:XK),ce k (A.deeper (envOfC qual scope s.heap.objs.size f cdv))->sp vs H Q E->
   ∃t,kO (jW CX P w K mg base N qual scope f cdv A outer s H E) body t/\t {nx:=fun _ H'=>Q .non H',rt:=Q} (start N vs) H):
  bh P w K mg base CX (k+1) f (Hq name qual params body scope dV kV doc pm an cdv ct) ps sp:=by
 refine ⟨len,fun A outer s H args us vs Q E hr e0 hb r hsp=>?_⟩
 have hl:=len _ _ _ _ hsp;have KX:K.In s.heap:=e0.mod.kin.keeps fun b o e=>(e0.bs b o e).1
 have lim:s.heap.NoLimit:=e0.mod.nolimit.keeps fun b o e=>(e0.bs b o e).1
 have hkind:∀y∈ps.zip us,scope.names.lookup y.1=some .local∨(scope.names.lookup y.1=some .cell/\((cellsFrom (s.heap.objs.size+1) scope.names []).lookup y.1).isSome=true):=fun ⟨n,v⟩ hy=>by
  rcases S.par n (List.of_mem_zip hy).1 with q|q
  ·exact .inl q
  ·exact .inr ⟨q,PySem.W.cellsFrom_some _ _ _ (.inl q)⟩
 refine codeAny_call_function hr.depth (KX _ _ lk) rfl S.co S.gen rfl (PySem.W.codeRec_of KX hcd) (hb _ _ _ _ ?_);refine wpAny_newFunctionEnv_cells S.kind hkind fun env he s1 x=>?_
 subst he;refine ⟨lim.keeps x.toInCall.keep,codeAny_func ?_⟩;obtain ⟨t,ht,hq⟩:=hbody A outer s H vs Q E (hr.deeper _) hsp;have I:aG (jW CX P w K mg base N qual scope f cdv A outer s H E) [] (start N vs) H s1:=nL S hr.hd e0 hl r x;refine wpAny_mono (ht [] s1 (start N vs) H _ I hq) (fun fl s' hs=>?_) fun e s' hs=>hs
 have fin:∀{σ':St} {H':Hp} {v:V} {u:Value},aG (jW CX P w K mg base N qual scope f cdv A outer s H E) [] σ' H' s'->RelV v u->Q v H'->CE outer P w H s Q u s':=
  fun {σ' H' v u} J rv q=>⟨v,H',J.os,J.bare,J.base,J.hok,rv,q⟩
 cases fl with
 |ret u=>
  obtain ⟨v,σ',H',J,rv,q⟩:=hs;exact fin J rv q
 |next=>
  obtain ⟨σ',H',J,q⟩:=hs;exact fin (v:=V.non) (u:=Value.none) J rfl q
 |brk=>
  obtain ⟨_,_,_,q⟩:=hs;exact False.elim q
 |cont=>
  obtain ⟨_,_,_,q⟩:=hs;exact False.elim q
section
variable {x:Str} {p pos:Pos} {e:Expr} {es:List Expr} {t:TA} {id T:String} {r:List V->Hp->VK->Prop}
def Gm (r:List V->Hp->VK->Prop) (t:TA):TE:=fun σ H Q=>t σ H fun vs H1=>r vs H1 Q
theorem aL (hc:cY X (.builtin id) r) (hg:Gl X x) (hm:X.mg x=none) (hv:bootBuiltins x=some (.builtin id)) (ha:PA X (e::es) t) (hn:x≠ "__name__" :=by decide) (hdb:(x==("__debug__" :Str))=false:=by decide)
  (he:starEach (e::es) X.env=(false,eval e X.env)::starEach es X.env:=by rfl) (hpl:(backTo pos (starEach es X.env)).any (·.1)=false:=by rfl):PE X (.Call (.Name x p) (e::es) [] pos) (Gm r t):=by
 intro pins s σ H Q I h;refine wpAny_Call_Name_kw (fN I hg hm hv ?_ hn hdb);exact PyProof.Rows.callWith_builtin1 (bH (ha pos pins s σ H _ I h) fun us s1 ⟨vs,H1,I1,r1,q1⟩=>hc pins s1 σ H1 vs us Q I1 r1 q1) he hpl
theorem dJ (hc:cY X (.type T) r) (hg:Gl X x) (hm:X.mg x=none) (hv:bootBuiltins x=some (.type T)) (ha:PA X (e::es) t) (hn:x≠ "__name__" :=by decide) (hdb:(x==("__debug__" :Str))=false:=by decide)
  (he:starEach (e::es) X.env=(false,eval e X.env)::starEach es X.env:=by rfl) (hpl:(backTo pos (starEach es X.env)).any (·.1)=false:=by rfl):PE X (.Call (.Name x p) (e::es) [] pos) (Gm r t):=by
 intro pins s σ H Q I h;refine wpAny_Call_Name_kw (fN I hg hm hv ?_ hn hdb);exact Hl (bH (ha pos pins s σ H _ I h) fun us s1 ⟨vs,H1,I1,r1,q1⟩=>hc pins s1 σ H1 vs us Q I1 r1 q1) he hpl
end
end L2
open Lean in
local macro_rules|`(⟨$xs,*⟩)=>do
 let mut y:Array (TSyntax `term):=#[]
 let mut c:=false
 for x in xs.getElems do
  if x.raw.getId== `ν then
   c:=true
   y:=(y.push (←`(_))).push (←`(rfl))
  else if x.raw.getId== `ω then
   c:=true
   y:=(((y.push (←`(_))).push (←`(_))).push (←`(rfl))).push (←`(rfl))
  else y:=y.push x
 if c then `(⟨$y,*⟩) else Macro.throwUnsupported
local macro_rules|`($a<*>$b)=>`(@L2.aa _ _ _ _ _ $a $b rfl)
set_option hygiene false in
local macro_rules|`(tactic|and_intros)=>`(tactic|refine F.ok sc (fun vs H Q E h=>by repeat first|(obtain ⟨rfl,_⟩:=h;rfl)|obtain ⟨_,h⟩:=h) (fun cdv A outer s H vs Q E hr h=>?_))
local macro_rules|`(tactic|exists $a,*)=>`(tactic|refine ⟨$a,*, ?_⟩)
local macro_rules|`(($x,$y,*))=>`(⟨$x,$y,*⟩)
open Lean in
def sb (b:Nat) (t u:Array Syntax):Nat->Syntax->Syntax
 |n+1,.node i k a=>
  let c:=a.map (sb b t u n)
  let g (s:Syntax):=match s.isNatLit? with |some m=>if b<=m then t.getD (m-b) .missing else .missing|_=>.missing
  let r:=g (.node i k a)
  if !r.isMissing&&r.getNumArgs+r.getId.toString.length>0&& !r.isOfKind `Lean.Parser.Term.hole then r
  else if k== `Lean.Parser.Tactic.sleep then u.getD (a[1]!.isNatLit?.getD 0) .missing
  else if k== `Lean.Parser.Term.app&& !(g a[0]!).isMissing then
   let r:=if c[0]!.isOfKind `Lean.Parser.Term.paren then c[0]![1] else c[0]!
   if r.isOfKind `Lean.Parser.Term.app then .node i k #[r[0],mkNullNode (r[1].getArgs++c[1]!.getArgs)] else .node i k #[r,c[1]!]
  else if k== `Lean.Parser.Command.universe then .node i `Lean.Parser.Command.end #[mkAtom "end",mkNullNode (if a[1]![0].getId== `z0 then #[] else #[a[1]![0],mkNullNode])]
  else .node i k c
 |_,s=>s
open Lean in
local macro_rules|`(mutual $c* end)=>do
 let c:=c.raw
 let mut t:=c[0]![1][1].getArgs
 let some f:=c[1]!.find? (·.isOfKind `Lean.Parser.Tactic.first)|Macro.throwUnsupported
 let mut u<-f[1].getArgs.mapM fun a=>return (<-`(tactic|($(.mk a[1])))).raw
 for _ in [0:9] do
  let g:=sb 13 t u 999
  t:=t.map g
  u:=u.map g
 return mkNullNode ((c.extract 2 c.size).map (sb 13 t u 999))
mutual
#check f
 (by decide)
 _
 _
 _
 _
 _
 _
 _
 _
 (λ_ _=>rfl)
 _
 (X.block scope cl s3.heap.objs.size (own::ys) own fp s3 431)
 _
 _
 _
 _
 _
 _
 _
 _
 _
 _
 s.heap.objs.size
 _
 _
 _
 _
 _
 _
 (by lia)
 _
 _
 _
 (aJ "stands" (.ref st) 227)
 _
 (by decide+kernel)
 _
 _
 _
 _
 _
 _
 _
 _
 _
 _
 _
 _
 _
 _
 _
 _
 _
 _
 Heap.get?_push_of_some
 (model prog w)
 (model X.prog X.w)
 (λ_ z=>by cases z)
 (.bl true)
 (X.block scope cl C (own::ys) own fp s H)
 (by simp)
 (by with_unfolding_all rfl)
 (λ_ _ _ _ _ _=>bX λ_ _=>rfl)
 (.ListComp elt [⟨.Name own px,iter,[cond],0⟩] scope pos)
 (av aA 95 af 22)
 _
 _
 _
 Heap.get?_push_size
 (.tup [.int p,.int q])
 (.dK [])
 (λ_ z=>nomatch z)
 Heap.lt_size
 {cls:= .type "dict_keyiterator",data:= .fields #[.ref d,.int 0 0,.int kvs.length 0,.int ep 0]}
 (ay (ay H3 n 83) x (.ins mt dx (aJ "names" 485 132)))
 (sumF 147 (dd.take i))
 (pv 1)
 (Str×Option Str)
 (λN hN=>?_)
 (x==("__debug__" :Str))
 PassesOwn.never
 (∀σ' H',N σ' H'->∃m',m'<m/\W 236 m' σ' H')
 (pv 0)
 (c.length-1)
 _
 (rfl,I.turned (t':=s.toks) (λb o hb e=>eb b o hb e) f0 f1 f3 f4 f5)
 _
 _
 s1.heap.objs.size
 (xO (AO xN) (.cons rfl .nil) 13 rfl rfl rfl rfl rfl rfl rfl rfl)
 (Key×V)
 (λn s'=>∃i zs o0 H',aG 24 [] (o0::bK js σ) H' s'/\tn i s'.heap/\(∀b∈fp,H' b=none)/\W i n zs H')
 {cls:= .type "list",dict:=none,data:= .seq acc c',slots:= #[]}
 (λσ H'=>ax H H'/\∃(es:List 90) (ws:KA) (o4 o5:Option V),σ= [KJ d,some 261,KJ ah,KJ wt,o4,o5]/\H' ah=some 330/\H' wt=some (.lst (ws.map V.str))/\dS ps good es/\(∀y∈ws,y∈aH es)/\(∀y∈aH es,y∉ws->∀b,(y,b)∈ps->b∈aH es)/\2*(1002-(aH es).length)+ws.length<=5000)
 (.ref C)
 (.Call (.Attribute o m apos) (e::es) [] pos)
 (.dK kvs)
 {D with nx:=Pv 236,ct:=Pv 236,bk:=D.nx}
 (·.1)
 (starEach es X.env)
 (bv (PW.pt (fh (dD (cW (aL (gn (K:=K) rfl) rfl B.Jb boot_isinstance (95<*>((gw (v:= .ty "str") rfl B.Kb boot_str rfl)<*>aj))))) (fh (aD jp (aL eO rfl B.Jc boot_len 349) af 162) (fO (aD jq (aL eO rfl B.Jc boot_len 349) (lX rfl B.Jk) 162))))) 170 aO)
 (pv 2)
 (.ListComp elt [⟨.Name own px,iter,[],0⟩] scope pos)
 (some ((c.fdiv 3).fmod 11))
 {cls:= .type "range",data:= .fields #[.int lo t,.int hi u,.int 1 v]}
 (.Call (.Name x p) (e::es) [] pos)
 (pv 3)
 (.frz o 223)
 _
 _
 (λz=>nomatch z)
 (.ref s2.heap.objs.size)
 (List Key×V)
 {s with heap:=h'}
 _
 _
 {cls:= .type "list",dict:=none,data:= .seq ([]:KC).toArray}
 (.lst [])
 _
 (aJ "bars" 447 46)
 (.ref p)
 (.ref a)
 (.lst [.ref L.dp,.ref L.ds,.ref L.db])
 (@bz _ _ _ _ aj)
 (rfl,I.turned (t':=s.toks) (λb ob hb e=>he' b ob hb e) f0 f1 f3 f4 f5)
 (dU P w)
 (by show (8:Int)≠0;decide)
 (@bz _ _ _ _ 210)
 (.dK (c7 [] [((.inr good:Key),V.bl true)]))
 {cls:= .type "list",data:= .seq #[]}
 (∀h',Heap.SameBut C s6.heap h'->aG X pins σ H5 {s6 with heap:=h'})
 (λz=>by subst z;rw[h] at q;cases q)
 (aL bM rfl B.Jc boot_len 372)
 (.lst (ts.map V.ref))
 (iS es ps bs vw)
 (av aA 89 af 22)
 (Str×Addr)
 _
 {D with nx:=N,ct:=N,bk:=D.nx}
 (.dK (bg ys 71))
 (.lst 410)
 (λr s'=>r= .ok (.ret (.bool true))/\OldK s₁.heap s'.heap/\s'.os=s₁.os/\AllBare s'.gens)
 (∀b o,s.heap.get? b=some o->h'.get? b=some o)
 (.ins C dx fs)
 ⟨rfl,by rw[ak (Ne.symm ra)];exact e3,by rw[ak (Ne.symm rw1)];exact w3,ab,nmk,λy hy=>wsub y (by simp[hy]),λy hy hn hw=>cl y hy (by simp[hn,hw]),λj b h=>absurd h 42,G4 _⟩
 ⟨I.ok.mod,I.ok.kind,I.ok.glob,I.ok.blt,I.ok.above,I.ok.inj,I.ok.has,I.ok.cab,I.ok.hd,I.ok.frames,I.ok.stk,I.ok.exf,I.ok.bs,I.ok.bsz,I.ok.noex,I.ok.exfs,I.ok.funs,I.ok.frf⟩
 (c.map V.str)
 (backToKw pos (keywordEach [] X.env))
 (pv 4)
 (aM _)
 (excClassObj nm q C N bs bm hdct sn sub ab col dd k0 k1 k2 k3 k5 "ValueError.__new__")
 (ns.map V.int)
 (.ref it)
 {cls:= .type "list",data:= .seq vs.toArray}
 (GN _ (GN _ (bZ hb e)))
 (Hq name qual params body scope dV kV doc pm an cdv ct)
 (λ_ _=>False)
 (ar (aE cg))
 (0+(i:Int))
 (λσ H'=>ax H H'/\∃(rc:KA) (o:Option Str),σ= [KJ ah,some (.str goal),KJ lc,some (qU o)]/\H' lc=some (.lst (rc.map V.str))/\Back ps good goal es rc o)
 (G4 _)
 (λ_ _ _ _ _ _=>fU λ_ _ _=>rfl)
 (.tup [.str n.s,.int c,.ref tl])
 (.ref l)
 (rfl,rfl,e,lnp,(app _).1,cU _ _ _ (rfl,by rw[G8,hl];rfl,(app _).2,sn _ ?_))
 ((c.fmod 1000003*48271).fmod 999983*31)
 ⟨rfl,e0,ac,.start ps good few,λy hy=>by simpa [aH] using hy,λy hy n=>absurd (by simpa [aH] using hy) n,by show 2*(1002-1)+1<=5000;decide⟩
 (λz=>by rw[z,hn] at e;cases e)
 {s with heap:=h',toks:=tk}
 {cls:= .type "dict",data:= .dict #[]}
 (revObj a ((its.toArray.size:Int)-1))
 (Obj.mapSeq (λ_=>(#[]:Array Value)))
 (.frz o 109)
 (xO xN .nil 13 rfl rfl rfl rfl rfl rfl rfl rfl)
 (bY hr)
 (ay (ay H2 b 83) x (.ins mt dx 132))
 (Obj.mapFields (·.setIfInBounds 3 Value.none))
 {nx:=λ_ H'=>Q .non H',rt:=Q}
 (items.size:Int)
 (av (iH (K:=K) rfl) 95 af 22)
 (.dT (putK (oC es) [.inr a,.inr b] (.ref r0)))
 (λb ob q n _ _=>q,λb ob q n _ _=>(ob.slots,q),λb ob q n _=>?_,λb ob q _=>(ob,q),λb xs q=>?_,λb ob u q=>?_,λb ps q=>(#[],?_))
 (λw hw=>hJ rx fx r fs w (by simpa using hw))
 (·.setIfInBounds 1 (Value.ref h1.objs.size))
 (starEach (e::es) X.env)
 (pv 5)
 (by simp[z])
 _
 (by decide,GZ 13)
 (.lst (zs.map V.str))
 ((g1.trans g2).trans g3)
 (λ_ _ _ _ _ _=>fT λ_=>rfl)
 (rfl,rfl,h1.at_,rfl,aN _ _ _ _ (rfl,rfl,h2.at_,rfl,h1.bq.ok h2.bq,aR _ _ (rfl,ph h1.pos h2.pos,(h1.bq.mul h2.bq).mono 13,qq)))
 (ne q λ_ z=>nomatch z)
 (m,hn,λh' hs'=>(.ref p,H5,J h' hs',rfl,q))
 (compEnvC scope cl s3.heap.objs.size X.env)
 (by simpa using h)
 (89<*>aj)
 (.tup [.str k.1,.ref cl,.ref rl])
 (.builtin "isinstance")
 (λ_ _ z=>nomatch z)
 (PySem.W.kdl_dict (knd:=bE X.prog X.w) (kvs:=ws) (ep:=ep) hS)
 (Str×V)
 (.str z)
 {cls:= .type "tuple",dict:=none,data:= .seq ([]:KC).toArray}
 (λz c p q=>eW es ps bs z c/\oz vw c p q)
 (λi h=>h.IsKeyIter it a i kvs.length ep)
 (λc=>?_)
 (.tup [.str a,.str b])
 (.tup [.int 0,.int 1])
 (.dT kvs)
 (kvs.any λkv=>decide (kv.1=k))
 (cA 95 rfl)
 (av aA 119 af 22)
 (aJ "parts" 133 [])
 _
 (rfl,aQ.of e1,λp hp=>q p _ rc.reverse (g1.trans (ag hp _)) (g1.free hp) (by rw[ac,List.map_reverse]) (bk.way ab))
 (eE rows rs)
 (I.ok.hd hc)
 (.dK (c7 [] [((.inr good:Key),V.non)]))
 (bG (fQ XZ25 hr 13 rfl cG (140<*>aj)))
 ((@bz _ _ _ _ (89<*>372))<*>aj)
 (seqObj "tuple" vs.toArray 0)
 (i+1)
 (by rw[<-rel.length];exact z)
 (EP X pins σ Q)
 (rfl,rfl)
 (_,81 _ rfl,rfl,rfl)
 _
 (AN hd P w K mg base N qual scope f cdv A outer s H E)
 ((aH es).filter λy=>decide (y∈gs))
 (List Key×Addr×Value)
 (.type "BaseException")
 (.ref t)
 (ay (ay H1 st 83) x (.ins mt dx 46))
 (Ne.symm hb)
 (.type "list")
 (.Name own px)
 (∃m,W 0 m σ H)
 (rfl,rfl,rfl,rfl)
 (av aA 198 af 22)
 (.tup (k.map kV))
 {cls:= .type "slice",data:= .fields #[vl,vu,.none]}
 (λi v=>∃k x,kvs[i]?=some (k,x)/\knd.is k v=true)
 (some (κ.blt (kk κ x) (kk κ y)))
 (cf 4 sc (eJ Ip PySem.F.slot_dict_setdefault PySem.F.type_dict_setdefault nY 225 (89<*>(b8<*>aj))))
 (by rw[z];exact GK.mpr rfl)
 (bg (cB ks' y') 71)
 (.str good)
 (.ref hx)
 (.lst ys)
 (.inr y)
 (@cE _ _ _ _ _ (161<*>512))
 (.tup [.ref rk.r,.int (1+(c.fdiv 16).fmod 1000)])
 (.lst ((kvs.filter λe=>pr e.1).map λe=>kV e.1))
 (av aS 89 af 22)
 (r.ks.map λk=>k.2.2)
 (pyNext 165)
 (hr.mono hk)
 (.ref f)
 ((c.fdiv 40).fmod 11)
 (kvs.map λkv=>if kv.1=k then (kv.1,y) else kv)
 (gs.map V.str)
 (aB aW 77 148)
 ((relabel scope X.env).names.all λp=> !(p.2== .cell||p.2== .free)||(cl.lookup p.1).isSome)
 (.inr x)
 (wpAny_bind ?_)
 (cR true a 107 (some d))
 (by rw[G2];lia)
 (.tup xs)
 (.tup [.ref cl,.ref rl])
 (.tup [.ref c0,.ref r0])
 (.ref 35)
 ((arrOf st').map (·.2))
 (seqObj "list" (as.map Value.ref).toArray 0)
 (L2.aJ "steps" l2 (L2.aJ "takes" la (L2.aJ "plates" (.int pl) (L2.aJ "name" nm []))))
 (λ_=>False)
 (λo=>{o with dict:=some 35})
 (λfx s2=>wpAny 69 X.A (callWith pos fx.1 fx.2 (backTo pos 197) 160) 238 X.xe s2)
 (by show (11:Int)≠0;decide)
 (ay (ay (ay H pn 83) d (.dK (putK 230 278 352))) pn (.dK (putK [] 264 71)))
 (.int hd)
 (.ext λh=>h.IsItemsView v d)
 (he pins s σ H _ I h)
 (au st)
 (Obj.mapSeq λ_=> #[])
 (.Call (.Name x np) (e₀::rest) [] cpos)
 _
 _
 _
 (ar (fo B.Jy rfl B.Jz rfl cG (ff<*>aj)))
 (ar (fo B.Jp rfl B.Jq rfl cG (ff<*>aj)))
 (scope.names.all λp=> !(p.2== .local)||scope.names.lookup p.1==some .local)
 ⟨rfl,I.turned (t':=s.toks) (λb ob hb e=>he' b ob hb e) f0 f1 f3 f4 f5⟩
 (∀b∈fp,H' b=none)
 (wpAny_pure ?_)
 (start N vs)
 (seqObj "list" #[] 0)
 (if a∈as then some (g a).1 else none)
 (dU X.prog X.w)
 (comprehension 115 scope X.env pp (newList []) false (eval iter X.env) use)
 (by cases h)
 (bE X.prog X.w)
 (af<*>aj)
 (.lst cells)
 ((nm.map V.str).length:Int)
 ((gZ g y).1*B+T*(gZ g y).2)
 (comprehension 76 scope X.env pp (newList []) false (eval iter X.env) use)
 (.Call (.Name "list" p1) [.Call (.Name "reversed" p2) [e] [] pos2] [] pos)
 {cls:= .type "list",data:= .seq #[] c}
 (q1 H2 g2 λy hy l=>by simpa using (mem y).mpr ⟨(ao.all y).mpr l,hy⟩)
 (by simp;lia)
 (av aA 161 af 22)
 (ar (aE 114))
 (119<*>aj)
 (.ref x)
 (.lst 159)
 (.dK (aP es))
 ((0:Nat):Int)
 ((-r).fdiv s)
 ⟨rfl,I.turned (t':=s.toks) (λb o hb e=>eb b o hb e) f0 f1 f3 f4 f5⟩
 (rfl,rfl,bU.of eb8,rfl,aR lh _ (rfl,.inl (aQ.of eh7),rfl,eZ ys,mB.i ?_))
 (bv (aD gY (aL bM rfl B.Jc boot_len (161<*>aj)) af 162) (ar (aE cQ)) aO)
 (.tup [.ref d.r,.int d.n])
 (κ×V)
 (wpAny_isInstance (T:= "StopIteration") (b:=true) ty isSubtype_stop ?_)
 (cR true a 107 none)
 (Obj.mapFields (·.setIfInBounds 3 (fl.elim Value.none λf=>rawInt f)))
 (∀y,y∈ms↔y∈ns∨y=zg∨y=zo)
 (λz=>c (by injection z))
 (λz=>(s7.own _ z).not et 84 84 rfl)
 (λ_ _ _ q=>q)
 (rfl,aR _ _ (rfl,rfl,?_))
 (p2*q*b0)
 (by rw[<-hv];exact cq.t (k:= [.inr xx,.inr y]) (k2 _ _ s4.d7.ee) ett)
 (aI c)
 (95<*>aj)
 (.tup [.str k.1,.ref am])
 (.refl _)
 (.ref pn)
 (λC fp s H=>95)
 (wx 147 d9 88 j)
 (cf 4 sc (sH HE PySem.F.slot_list_pop PySem.F.type_list_pop xf 119))
 (aI r.1)
 (X.suite pins a)
 (Builtin.«object.__getattribute__» ⟨[.ref x,.str name tk],[]⟩)
 (λcdv A outer s H vs Q E hr h=>?_)
 (p*b0-a0*q)
 (ay (ay H p 83) x (.ins mt dx 227))
 (.call (.ref fa) ⟨[.ref a],[]⟩)
 ((kvs.take 236).filter λe=>pr e.1)
 ((env::outer).filterMap (·.frame))
 ⟨c.dropLast,c.getLast n,(List.dropLast_concat_getLast n).symm⟩
 (nds.map λn=>V.ref n.t)
 (g3 _ _ et,fV rows m g bs ns ps (aR es vw ((s7.same g3).more,tw)))
 (dW DZ58 hr (119<*>(161<*>((pv 9)<*>((pv 10)<*>((pv 11)<*>aj))))))
 (by simp[h])
 (by simp only[HF]<;>lia)
 (ar (aE (@cE _ _ _ _ _ ((aB bA 95 114)<*>((aB bA 89 114)<*>aj)))))
 (114<*>aj)
 (.lst [.str zg,.str zo])
 (λ_ _ _ _ _ _=>mC λ_ _ _ _=>rfl)
 (.lst (ch.map V.str++ [V.str y']))
 (λc=>H c=none)
 (vs++dvs)
 (tupleKind_room_in1 hu)
 (ps.map (·.2))
 (iT 5 sc)
 (g1.trans g2)
 (dd.map λd=>V.ref d.t)
 (by rw[GX];lia)
 (Lq κ)
 (.xd [(f,y)])
 (.type "StopIteration")
 (.tup [.str z,.ref am])
 (.ref s.heap.objs.size)
 (.lst xs)
 (.int c)
 ((kvs.take i).filter λe=>pr e.1)
 ((i+1:Nat):Int)
 (vq hok (λm cls dx w=>by rw[ep] at w;unfold cR at w;cases w))
 {s with heap:=h',toks:=s.toks+1}
 {cls:= .type "list",dict:=none,data:= .seq acc c,slots:= #[]}
 ((P.length+D.length-P.length)/2)
 (λ_ _ _ z=>nomatch z)
 (ho pins s σ H _ I h)
 (c.fmod 1000003*48271)
 (by rw[e];exact Ik ..)
 (bH (hi pins s σ H _ I h) λv s1 h1=>bH h1 λitv s2 h2=>?_)
 (bH (ha pos pins s σ H _ I h) λus s1 (vs,H1,I1,r1,q1)=>?_)
 (Ow L.dp L.ds L.db F1)
 (model P w)
 (good,none)
 (cp (c6 kY 95 (cT af) (cT af)))
 (V.int a=V.int b)
 (I.hok.fresh 173)
 ((.ref a:Value),(.ref a:Value))
 (ys.map V.str)
 (c0,cb.div c0)
 (aB bA 119 af)
 (95<*>((gw (v:= .ty "bool") rfl B.J5 boot_bool rfl)<*>aj))
 (∃m,s6.heap.Ns C m)
 (pv 6)
 (ok.sub (x,c) (Hr e))
 (kvs.map λp=>kV p.1)
 (g _ _ e)
 (cR n a 107 (some d))
 (c++ [x])
 (bU.of e)
 (ar (pk (K:=K) rfl 95 89 rfl))
 (ac,[(.inr good,.bl true)],rfl,(by show 1<=15;decide),?_)
 (Ne.symm xp)
 (∀(i:Nat) (x y:V),xs[i]?=some x->ys[i]?=some y->P x y)
 (aN _ _ "tuple" true (rfl,.tup e,lq K,mB.o rfl (dP ?_)))
 (95<*>((gw (v:= .ty "int") rfl B.Kc boot_int rfl)<*>aj))
 (.bl true,H,I,by show Value.bool _=Value.bool _;simp,hq)
 (λv=>match v with| .str y=> !decide (y∈ns)|_=>false)
 (by show 1<=sizeLine;decide,qS (.inr (.inr bad0)) _ k3)
 (ay H2 s2.heap.objs.size 130)
 (aL bM rfl B.Jc boot_len 327)
 (.lst [.ref t0])
 (.builtin "object.__class__")
 (.builtin "len")
 (∀b o,b≠I->s.heap.get? b=some o->h'.get? b=some o)
 (av aA (pv 7) af 22)
 (Hq x qual (dB st) (cD st) 297 dV kV doc pm an cdv ct)
 (.int ys.length,H,I.tok _,(s.toks+1,by rw[HF,hlen]),q)
 (.ListComp elt [⟨target,iter,[cond],0⟩] scope pos)
 (wpAny_setField ho hd 73 ?_)
 (sumF 147 dd)
 (es,(rfl,e2,ao.base,hc.1,λl H3 cs g3 nl3 e3 wy=>?_))
 (dU l.prog w)
 (by show (3:Int)≠0;decide)
 (DT*oN es vw)
 (.ref b)
 (.builtin id)
 (rfl,la,ac,by simp;lia,nd,λH5 ms k5 la5 nd5 m5=>?_)
 (rfl,fj.k (k:= .inr 356) sm9.at_ (by rw[rG];lia),?_)
 (gX fi af)
 (c.fdiv 7)
 (σ',H',I.unwish.untried,q)
 (λ_=>?_)
 (ws0.map V.str)
 (u.map 111)
 (ns0.map V.int)
 (l.map 111)
 (kk κ)
 (by simpa using hp)
 (by rw[cu];lia)
 (HT.fH xs.length xs.length hi-HT.fH xs.length 0 lo)
 (Builtin.List.listExtendWith (.ref S) (.ref I) res)
 (.type "tuple")
 (.ref on)
 (.ref ln)
 (.ref Iu)
 ((aV gh n.s).2)
 ((aV gh n.s).1)
 (av aA (eQ 187 (av aS 119 af 22) (pv 7) 22) af 22)
 (Obj.isFreed_of_fields (Obj.data_mapFields hdT _))
 (G5 (show (sL z)[i]?=some c by rw[<-hc];exact HX))
 (A.deeper (PyProof.Rows.envOfC qual 297 35 f cdv))
 (.ListComp elt [⟨target,iter,[],0⟩] scope pos)
 (λi σ H' _ h=>aQ.of h.1)
 (cM 380 (cM (iT 6 sc) iz))
 (ay (ay H pn 83) p (.dK (putK kvs (.inr g) 352)))
 (@cE _ _ _ _ _ (af<*>316))
 {cls:= .type "list",data:= .seq ([]:KC).toArray}
 (λa b=>s7.st a b)
 (ty= "str_ascii_iterator" ∨ty= "str_iterator")
 (jY rfl rfl)
 (by show 1<=sizeLine;decide,kf bad _ λ_ _ e=>e)
 (List.Perm.append_right _ (List.reverse_perm _))
 (.ref n)
 (.ref d)
 (.dT [])
 (.bl _,H,I,rfl,?_)
 (λr=>eW es ps bs z r.1/\oz vw r.1 r.2.1 r.2.2)
 (wpS_modify (wpS_pure (.inr (?_,?_,?_,?_,?_))))
 (putK kvs k v)
 (pB XZ3 hr 13 rfl cG 316)
 (apos.endLine==cpos.line)
 (aB bw (aB bA 114 af) af)
 (KF.putD (by simp[Ow]) _)
 ("parts" :Str)
 (rfl,fin h' tk' acc c' (λb o hb e=>?_) eS it)
 (_,Heap.get?_update_self _ (81 _ rfl) rfl,rfl)
 (σ',H',I.outsuite ok,q)
 _
 (λv hv H3 g3 Q' hQ=>?_)
 (λb u q=>67 _ q)
 (λ_ _ q=>67 _ q)
 (λC fp s H=>192)
 (ls,rfl,(_,aQ.of ac),?_)
 (kvs.length-236,by lia,hin,rfl,by rw[tk],g,e)
 (cR n a 107 none)
 (av aA 114 af 22)
 (X.wish (XS X E))
 (Value->Sem Unit)
 (I.tok _)
 (198<*>aj)
 (.tup [.ref c2,.ref tr])
 (.ref ld)
 (.ref L.x)
 (.ref L.t)
 (.ref C')
 (.lst [V.str y'])
 (.dK (bg ks' 71))
 ((s1.trans s2).trans s3)
 (wpAny_bind (l0.at (wpAny_bind (l1.at ?_))))
 (if ([]:List Keyword).isEmpty then 0 else 1)
 (by rw[<-hv];exact cq.k (k:= .inr n.s) D5.e)
 (ar (bv (aD jw 89 (qL rfl B.JK) 74) 170 aO))
 (σ',_,I'.thawT e nf,p)
 (λC fp s H=>(aD (tF (K:=K) rfl) 95 89 74))
 (κ×Value)
 (top 45)
 (some (kV k)::bK js σ)
 (dy row)
 (bE P w)
 (GL (85 e))
 (0+(k:Int))
 (.tup [.str xx,.str y])
 (.tup [.ref t2,.ref t])
 (.tup [.ref t,.ref t2])
 (.str z::w)
 (.ref e)
 (.int many)
 (.dK (bg (cB ys y) 71))
 (.bl false)
 ((-p).fdiv q)
 (Dx P w K mg base)
 (bh P w K mg base)
 (jm P w K mg base)
 (eJ HE HJ HI bL)
 (aN x _ dx _)
 (aL bM rfl B.Jc boot_len)
 (aN L.t _ _ _)
 (cv 93 rfl)
 (cf 3 sc)
 (aN _ _ _ _)
 (aN t _ _ _)
 (cf 4 sc)
 (cf 2 sc)
 (ay H)
 (envOfC qual scope 35 f)
#check by first|(have I7':=I7.pinned (fpB n7) (T.obj _ _ t7);have hst:=step x H7 y7;have own':(relabel scope X.env).names.lookup own=some .local:=lookup_relabel_local ok.ownL;refine bH (jo (X:=X.block scope cl s3.heap.objs.size (own::ys) own fp s3 431) (i:=0) (x:=own) (pos:=px) ok.nd rfl (.inl own') (.inr own') _ s7 _ H7 x u (λσ' H'=>σ'=some x::bK js σ/\H'=H7) I7' r7 239) λ_ s8 (σ8,H8,I8,e8,eH8)=>?_)|(have ty:=hit.typeIs;unfold pyNext;refine wpAny_bind (wpAny_attempt (wpAny_callSpecial?_slot (name:=Str.ofString "__next__") ty F.slot_dict_keyiterator_next (wpAny_call_entry F.slot_dict_keyiterator_next ty F.entry_dict_keyiterator_next ?_ (F.args_dict_keyiterator_next_1 _))));refine wpAny_bind (wpAny_pure (wpAny_bind 279));refine wpAny_bind (wpAny_typeNameOfWhole_keyiter ty (wpAny_pure (wpAny_bind (wpAny_fieldsOf ho hd ?_))));have own:Builtin.Dict_items.ownsTuple "dict_keyiterator" =false:=by decide)|(refine F.okX sc (λvs H Q E h=>?_) 359)|(refine wpAny_bind 338;exact wpAny_pure (hQ _ λb o hb eo=>kk b o ((Heap.get?_update_other _ _ 248).trans eo)))|(intro X hP hw hK hA i pins s σ H E I hf st hg;subst hP hw hK;obtain ⟨f0,f1,f2,f3,f4,f5⟩:=hf it 73)|(obtain ⟨it,fp,tn,J,H2,rfl,I2,T,st2,f2,q2⟩:=h2;obtain ⟨W,⟨m0,w0⟩,turn⟩:=q2 s2.heap.objs.size (I2.hok.fresh 173);refine wpAny_newObj_type (wpAny_newFunctionEnv ncell (by intro y hy;simp at hy) (λh1 hns hsb=>?_) ok.kind))|(have slt:(3000:Nat)<sizeLine:=by decide)|(have g1:=ag n0 (.lst [v]);refine (aR l0 _ (rfl,ac,(λy hy=>by rw[GK.mp hy];exact hv.imp id (gc.same g1)),λnn=>?_,λnn H' gg=>eN (λz=>nn λy hy=>by rw[GK.mp hy];exact z) H' (g1.trans gg))))|(intro X hP hw hK hc i pins s σ H E I hf st hg;subst hP hw hK;obtain ⟨f0,f1,f2,f3,f4,f5⟩:=hf it 73)|(dsimp only at hns hsb⊢;rw[<-e3] at hns hsb;have hk:∀b o,s3.heap.get? b=some o->h1.get? b=some o:=λb o e=>hsb.extBut b o (GL (Heap.lt_size e)) (Heap.get?_push_of_some _ e))|(obtain ⟨F0,dx,s,b,fs,dk,la,ex,es,eb,bd,hb,q1,q2,q3,q4,q5,q6,q7,q8,q9⟩:=h.ex)|(refine F.okN sc (λvs H Q E h=>?_) 359)|(subst hr;obtain ⟨m,hn,_⟩:=id I6.loc;exact fin _ _ s6 H5 _ (m,hn) (λh' hs'=>iB I3 f3 I6 hs') (I3.fpOk 173 (show H5 s3.heap.objs.size=none from I6.free)) qn)|(rintro v s1 ⟨rfl,rfl⟩;have e0:(s.heap.push 142).get? s.heap.objs.size=some {cls:= .type "list",data:= .seq #[]}:=Heap.get?_push_size _ rfl;exists (_,e0,rfl),PySem.F.args_list_init_2 _ _;show wpAny _ _ (Builtin.List.listItems 388>>=λold=>Builtin.List.listUpdate 388 (λ_=> #[])>>=λ_=>letGo old.toList.reverse>>=λ_=>Builtin.List.listExtendWith 388 (.ref I) .none) _ _ _)|(refine callType_codes (Q₁:=λv s1=>v= .ref s.heap.objs.size/\s1={s with heap:=s.heap.push 142}) PySem.F.called_list (PySem.F.typeCall_list_1 _) PySem.F.entry_list_init (code_list_new _ ⟨rfl,rfl⟩) ?_)|(refine (.ref _,_,I1.laid (a:=(s1.heap.push 183).objs.size) (o:= .lst xs.reverse) (h':=h') (t':=tk) (λb o eo=>kp b o (GL (Heap.lt_size eo)) (Heap.get?_push_of_some _ eo)) sl ?_,rfl,q _ (I1.hok.fresh sl)))|(intro pins s σ H R I h;refine bH (hl pins s σ H _ I h) λv s1 (x,H1,I1,r1,q1)=>?_)|(apply wpAny_bind)|(have J0:=fL (h1:=h1) ok I3 f3 lt3 hns hk (s2.toks+0);have t0:tn 0 h1:=T.keep 0 _ _ st2 λb hb o e=>hk b o (by rw[e3];exact Heap.get?_push_of_some _ e))|(generalize hs3:({s2 with heap:=s2.heap.push 129,toks:=s2.toks}:Shared)=s3 at I3)|(refine oE (A:=A.in1) hh ((Heap.get?_update_other _ _ (Ne.symm ne)).trans hox) hdx h2 λe h' kk ty=>?_)|(have f3:∀b∈fp,dX X pins 431 b:=λb hb=>(by rw[ak (GL (fpo b hb))];exact (f2 b hb).1,(f2 b hb).2))|(intro p hp;exists λi m ys H2=>i<=kvs.length/\m=kvs.length-i/\ys=((kvs.take i).filter λe=>pr e.1).map (λe=>kV e.1)/\ax H1 H2/\H2 p=some 263,(kvs.length,HC _,rfl,rfl,Sw.ag hp _,ac))|(obtain ⟨rfl,hx⟩:=hy;have ex:=hx xs S2;refine step x (G5 ex) H3 g _ λy H4 py g4=>(g4 _ _ e,xs.length-236,by lia,hin,rfl,by simp[hl],λj x' y' e1 e2=>?_,Sw.dA (g.trans g4) hp _,ac))|(refine wpAny_comprehension_free rfl hs ok.clos ok.kind nloc 401)|(show wpAny _ _ (field 165 0>>=_) _ _ s;refine wpAny_bind (wpAny_field ho hd (x:= .str x t) rfl ?_);show wpAny _ _ (field 165 1>>=_) _ _ s;refine wpAny_bind (wpAny_field ho hd (x:= .int i 0) rfl ?_);simp only[IJ,hi];refine wpAny_bind (wpAny_rule (wpAny_bind (wpAny_setField ho hd 73 (wpAny_bind (wpAny_letGo ?_))))))|(refine i6 I1 ea c hm l ?_;refine IE (first:= [.ref a]) (h₀:=X.base) I1.ok.mod.kin hm.kp (bH (ha pos pins s1 σ H1 _ I1 q) λus s2 (vs,H2,I2,r,q2)=>(I2.kIn,?_)) hst hpl)|(intro pins s σ H xs us Q I r h)|(have I1:aG X pins σ H {s with heap:=h',toks:=s.toks}:=I.turned (λb ob hb e=>hs'.extBut b ob hb e) f0 f1 f3 f4 f5)|(obtain ⟨σ,H,I,q⟩:=q;have J:=I.outsuite ok;obtain ⟨m,hn,hl⟩:=id J.loc;exact wpAny_nameGoes_keeps hloc hn hcls λh' v hn' hs=>(_,H,J.unbound hi hN hl hn' hs,q))|(show wpAny _ _ (exec _ X.env) _ _ _;rw[exec_Assign_Name_used _ _ _ _ hsw];refine wpAny_bind (wpAny_standAt 279);show wpAny _ X.A (do let _<-comprehension (.ListComp elt [⟨.Name own px,iter,[cond],0⟩] scope pos) scope X.env _ (newList []) false (eval iter X.env) (some (assign (.Name y py) X.env))) _ _ s)|(exact (aN _ _ _ _ (rfl,rfl,h1.at_,rfl,aN _ _ _ _ (rfl,rfl,h2.at_,rfl,h1.bp.ok h2.bq,aN _ _ _ _ (rfl,rfl,h2.at_,rfl,aN _ _ _ _ (rfl,rfl,h1.at_,rfl,h2.bp.ok h1.bq,aN _ _ _ _ 205))))))|(clear h _hi _hj _hk;subst _r1)|(have jj:=lb.same g1;generalize ay H l0 (.lst [.str z])=H1 at g1 jj⊢;obtain ⟨F0,la,sub,back⟩:=jj.la)|(clear h_ _hi _hj;subst _r1)|(refine vv ?_;intro D' r3 r2 r1)|(have e3:s3.heap=s2.heap.push {cls:= .type "list",dict:=none,data:= .seq ([]:KC).toArray}:=by rw[<-hs3])|(rw[if_neg (GQ:¬((Value.ref d==Value.none)=true))];refine wpAny_bind (wpAny_pure (wpAny_bind (wpAny_dictEntries hod hdd ?_)));rw[if_neg 73])|(refine iY _hj λex es eb bd hb fm sF bF pb=>?_)|(intro pins s σ H Q I h;refine PySem.W.methodCall_KW (pl:=pl) (bH 296 λu s1 (x,H1,I1,rx,a,C,dx,fs,ex,ea,c,hm,l,q)=>?_) ht)|(subst e;obtain ⟨o,e,c,d⟩:=st;exact (o,e,λv z=>by rw[d] at z;cases z))|(refine (I.ok,I.os,I.bare,(I.base.keep,I.base.slot,λb ob q n hx=>hf (I.base.free b ob q n hx),I.base.there,λb xs q=>hn (I.base.tups b xs q) 213,λb ob u q=>?_,λb ps q=>?_),I.loc,I.cell,hf I.free,λy c e=>hf (I.freeC y c e),λp hp=>?_,?_,I.len))|(have lt3:∀b∈fp,b<s3.heap.objs.size:=λb hb=>by rw[e3,Heap.size_push];exact IC (fpo b hb))|(simp only[n0,if_false,IJ,Array.getElem?_eq_none 173];refine wpAny_bind (wpAny_bind (wpAny_typeNameOfWhole_keyiter ty 308));refine (show wpAny _ _ (setField 165 0 .none>>=_) _ _ s from wpAny_bind 441))|(have ea:(ay (ay H ah 83) ah 232) ah=some (.dK (aP [405])):=ac;generalize ay (ay H ah 83) ah 232=H0 at ga ea⊢;refine (by show 1<=sizeLine;decide,λwt nw=>?_))|(refine lt3 ?_;intro D' r2 r1)|(obtain ⟨h',g',d',tk',os'⟩:=s';have eg:g'=s.gens:=mv.gens;have ed:d'=s.drawn:=mv.drawn;have eo:os'=s.os:=mv.os;subst eg ed eo)|(clear h _hi _hj;subst _r1)|(generalize jt 457 (some 2) (some 62)=cells at ci;have g2:=ag nls 317;have e2:ay H1 ls 317 ls=some (.lst cells):=ac;have e21:=g2 _ _ e1;replace g2:=g1.trans g2;generalize ay H1 ls 317=H2 at g2 e2 e21⊢)|(have w2':ay H1 wt (.lst 455) wt=some (.lst 455):=ac;generalize ay H1 wt (.lst 455)=H2 at g2 e2 w2'⊢;refine (d,rfl,.inl (_,.inl (g2 _ _ ed)),λpn hn=>(_,cq.k (k:= .inr nm) (ag hn _ _ _ (g2 _ _ ed)),?_)))|(refine wpAny_bind (wpAny_holding (wpAny_runValue (codeAny_builtin iX ?_)));show wpAny _ _ (field 262 2>>=_) _ _ _;refine wpAny_bind (wpAny_field (Heap.get?_push_of_some _ (Heap.get?_push_of_some _ ho)) hd h2 ?_);rw[if_pos (by rfl)])|(refine wpAny_bind (m:=firstArgMember _ _) (wpAny_of_eq (a:=Value.none) (by first|rfl|(simp only[firstArgMember];rfl)) ?_))|(refine 426;refine (aR a _ (rfl,.inr 421,rfl,mB.i (FL rfl ?_))))|(obtain ⟨vs,rel,D⟩:=jF I hz hd;obtain ⟨⟨k,x⟩,hx⟩:∃p,kvs[i]?=some p:=⟨kvs[i],G1 hlt⟩;obtain ⟨u,hu,_⟩:=qP rel i hx;have st':=st;rw[rel.length] at st';refine wpAny_pyNext_dict_item st' D hu λkey h' hkey hit' hs'=>?_)|(have e:b=s1.heap.objs.size:=by simpa using hb)|(apply wpAny_seqItems e0 rfl;apply wpAny_pure;show wpAny _ _ (updateSeq s.heap.objs.size (λ_=> #[])>>=λ_=>letGo (#[]:Array Value).toList.reverse>>=λ_=>Builtin.List.listExtendWith 388 (.ref I) .none) _ _ _)|(refine bH (bL _ s10 _ H10 124 [y] 124 [yv] (λ_ H'=>H'=ay H10 s2.heap.objs.size (.lst (zs++ [y]))) I10 rfl (.cons r10 .nil) (_,zs,y,rfl,rfl,hD10,hz,rfl)) λ_ s11 (_,H11,I11,_,e11)=>?_)|(intro p hp;exists λi m ys H2=>i<=xs.length/\m=xs.length-i/\ys.length=i/\(∀(i:Nat) (x y:V),xs[i]?=some x->ys[i]?=some y->P x y)/\ax H1 H2/\H2 p=some 263,(xs.length,HC _,rfl,rfl,λj x y _ e=>by simp at e,Sw.ag hp _,ac))|(refine jS _hi λdk _hj=>?_)|(refine bH (bL _ s9 _ H9 124 [y] 124 [yv] (λ_ H'=>H'=ay H9 s2.heap.objs.size (.lst (zs++ [y]))) I9 rfl (.cons r9 .nil) (_,zs,y,rfl,rfl,hD9,hz,rfl)) λ_ s10 (_,H10,I10,_,e10)=>?_)|(rintro n s5 ⟨i,zs,o0,H5,I5,t5,n5,w5⟩;obtain ⟨hD,hw⟩:=turn i n zs H5 w5)|(obtain ⟨oc,od,kV,doc,pm,an,cdv,ct,osl,rfl,lk,hcd⟩:=F.ex)|(subst ex;obtain rfl:u=Value.ref a:=rx)|(intro pins s σ H x y v u Q I rx ry h)|(obtain ⟨hz,hlt⟩:=hg;obtain ⟨D,sz,at_⟩:=iF I hz hd;obtain ⟨⟨k,x⟩,hx⟩:∃p,kvs[i]?=some p:=⟨kvs[i],G1 hlt⟩;obtain ⟨b,e,he,ek,hb⟩:=at_ i k x hx;rw[<-sz] at st;have il:i<es0.size:=by lia)|(obtain ⟨o,e,c,d⟩:=st;exact (o,k it 73 o e,c,d))|(intro pins s σ H Q I h)|(apply call_reversed_list hli;apply Calls.spliced_nil;have I2:aG X pins σ H1 {s1 with heap:=s1.heap.push 183,toks:=s1.toks}:=I1.kept λb o e=>Heap.get?_push_of_some _ e)|(apply wpAny_updateSeq e0 rfl;have e1:=Heap.get?_update_self 184 e0 rfl)|(refine (cU ah o (aP es) (fa,nf,?_));generalize ay H' ah 330=H2 at g2 e2 p2⊢;clear g' e' fa;have mem:∀y,y∈((aH es).filter λy=>decide (y∈gs))↔y∈aH es/\y∈gs:=λy=>by simp[IR])|(refine (dA g5 fwt _,cU (es'++ [(b,some nm)]) (ws'++ [b]) _ (rfl,by rw[ak aw];exact ac,by rw[ac,GW];rfl,ab'.add nm' nb hbp,by rw[nk];simp[nm'],λy hy=>?_,λy hy hn hw c hc=>?_,λj c hj hc=>?_,?_)))|(subst hs3;exact codeAny_compStart_list loop (T.self _ 0 _ _ _ t0 loop))|(refine bH (T.item 24 rfl rfl rfl hc i [] s5 _ H5 169 I5 (fpB n5) t5 go) λr s6 (u,hr,h6)=>?_)|(refine bH (T.item 24 rfl rfl rfl hA i [] s5 _ H5 169 I5 (fpB n5) t5 go) λr s6 (u,hr,h6)=>?_)|(refine bH (T.done 24 rfl rfl rfl hc i [] s5 _ H5 169 I5 (fpB n5) t5 stop) λr s6 (hr,I6)=>?_)|(refine bH (T.done 24 rfl rfl rfl hA i [] s5 _ H5 169 I5 (fpB n5) t5 stop) λr s6 (hr,I6)=>?_)|(obtain ⟨oi,ei,ci,di⟩:=id hit';exact ⟨_,rfl,iU (s:=126) (n:= "dict_keyiterator") ei ci di 13 ⟨kV k,H,I1,nW hkey,⟨rfl,k,x,hx,rfl⟩,hit',λb hb=>(hf b hb).1⟩⟩)|(refine Hl ?_ rfl rfl;refine Calls.spliced_cons (x:=eval (.Call (.Name "reversed" p2) [e] [] pos2) X.env) (rest:= []) ?_;apply wpAny_Call_Name_kw;refine fN I g2 m2 b2 ?_ 13 13)|(have D0:0<DT*oN es vw:=HU da.dt eb0;have bD:Bd 1000 (DT*oN es vw):=(da.db.mul eb1).mono 13)|(have e2:ay H' ah 330 ah=some (.dK (aP es)):=ac;rw[mh] at e';have p2:ay H' ah 330 p=some (.lst (((aH es).filter λy=>decide (y∈gs)).map V.str)):=by rw[ak pa];exact e')|(exact (.ref s.heap.objs.size,_,I.laid (t':=tk) kp 173 (show aY X.prog X.w _ h' _ (.lst _) from (by rw[G2];exact z,acc'.toList,c',hv,by simpa using hS')),rfl,q _ 408))|(rw[own];refine (show wpAny _ _ (if (Value.ref d==Value.none)=true then _ else _) _ _ s from ?_))|(refine Calls.call_function_entry kind_sorted plain_sorted entry_sorted (args_sorted1 _) ?_;unfold Builtin.«sorted»;refine wpAny_bind (m:=checkCount "sorted" 1 1 _) 308)|(refine wpAny_bind (wpAny_pure (wpAny_bind (wpAny_dictEpoch hod hdd ?_)));rw[if_neg 73])|(obtain ⟨b,hb,rfl⟩:=uU hk;have hbp:(nm,b)∈ps:=(ym b).mp (G5 hb);have rm:=ab'.room;refine (aR ah _ (rfl,cq.k (k:= .inr b) e4,mB.i ?_));rw[iD];refine E5 (λhf=>?_) (λht=>?_))|(rintro i m ys H2 ⟨hi,rfl,rfl,g,e⟩;exists e;have f2:=g _ _ hf)|(refine (aR ah _ (rfl,(by rw[<-qV ab.nd hi];exact cq.k (k:= .inr y) (by rw[ak al];exact g1 _ _ ea)),(dA g1 nl _,aR (rc++ [y]) oy (rfl,by rw[ac,GW];rfl,bk.step ab hi)),qY ab hi)))|(have hk:=G1 jk;have hr':=G1 jr;generalize d9.ks[j]=k at hk;generalize rs[j]=r at hr';obtain ⟨am,e1,e2⟩:=each j t k ht hk;refine cL (each2 j t2 k r ht2 hk hr') λ_r1 _hi=>?_)|(obtain ⟨c,_,e⟩:=G9.mp (List.mem_of_mem_drop (List.mem_of_mem_take hv));exact (c,e.symm))|(obtain ⟨σ',H',I',a,o,kvs,e,nf,p⟩:=q1)|(obtain ⟨rows1,sm1,rl1⟩:=_r1;subst _r2)|(rw[show its.toArray.any (sE x)=its.any (sE x) by simp,jv r fs])|(rw[ee];exact ⟨_,rfl,iU (s:=126) (n:= "dict_keyiterator") ei ci di 13 ⟨.ref b,H,I1,rfl,⟨rfl,k,x,b,hx,rfl,hb⟩,hit',λb hb=>(hf b hb).1⟩⟩)|(obtain ⟨o,ho,hc,hd⟩:=id hit)|(exists λi m σ H=>m=kvs.length-i/\i<=kvs.length/\Pv i σ H,(kvs.length,by simp,HC _,h0))|(apply wpAny_pure;exists plainId_quiet PySem.F.plain_extend_loop _;exact codeAny_extend_loopS W hn S out res items.size 0 s #[] c rfl (HC _) st hS (ItemsOf.nil _) fin)|(rw[hv];exact (aR pn [] (rfl,ac,.inl hnH,by simp,λb=>(λh=>by simp at h,λh=>absurd h (no b)),(λz=>by rw[z,e2] at hn;cases hn),(λz=>by rw[z,w2'] at hn;cases hn))))|(refine (by show 1<=sizeLine;decide,λl0 n0=>?_))|(rintro i m σ H ⟨rfl,hi,p⟩)|(refine (cU rw_ o (bg ys 71) (g4 _ _ ac,nf,(λb' u hb'=>?_,aN es' ws' _ o5 (rfl,e5,w5,ab',wsub',λy hy hw b hb=>?_,by simp only[G8,HS,IS] at mes;lia)),?_)))|(obtain ⟨oe,vs,he,hc,_,_,_⟩:=c.xo.ex;refine wpAny_handleBy_cons (codeAny_handlers_test (dZ (X:=X.suite pins a) (J.insuite a) hg hm ?_ hd)) (by intro q;cases q))|(clear h_ _hi _hj _hk;subst _r1)|(refine wpAny_Call_Name_kw (dZ I hg hm ?_ hdb);refine IE (h₀:=X.base) I.ok.mod.kin hk (bH (ha pos pins s σ H _ I h) λus s1 (vs,H1,I1,r,q)=>(I1.kIn,?_)) he hpl)|(obtain ⟨o,e,_⟩:=T.obj 0 _ st2 b hb;exact Heap.lt_size e)|(intro pins σ H0 s0 D a H' cls v dx s' I c h;obtain ⟨C,b,rfl,hsub,h⟩:=h;have J:aG X pins σ H' s':=I.call' c.os c.un c.hok c.bare (λb z=>absurd z 73))|(rw[e5,w5,e1,w1];show 2*(1002-(aP es').length)+(ws'.map V.str).length<2*(1002-(aP es).length)+((ws0++ [nm]).map V.str).length;rw[dm,dm,G2,G2,G8];simp only[HS,IS])|(refine wpAny_bind (wpAny_pure 308);refine wpAny_bind (m:=updateField _ 2 _) (wpAny_setField (Heap.get?_push_size _ rfl) rfl (by show 2<6;decide) ?_))|(refine Ig ?_ (List.pairwise_lt_range);intro i j hi hj ij h;rw[IX] at hi hj;have e1:=congrArg Prod.fst h;dsimp only at e1;rw[GS,GS,G1 42,G1 42] at e1)|(have nwH:H wt=none:=ga.free nw;have g0:=ga.trans (ag nw (.lst [.str good]));have e0:ay H0 wt (.lst [.str good]) ah=some (.dK (aP [405])):=ag nw _ _ _ ea)|(obtain ⟨hx,m,cls,dx,rfl,e9⟩:=hok v9 rfl;obtain ⟨⟨ox,vs2,h1,h2,h3,h4,h6,h5⟩,_⟩:=(show aY X.prog X.w H s.heap hx (cR m hx cls dx) from I.hok hx _ e9))|(have g0:s.heap.get? (s.heap.push 217).objs.size=none:=Heap.get?_none_of_le (by rw[Heap.size_push];lia))|(obtain ⟨due,rtv⟩:=_r1;obtain ⟨k10,klo,kb1,kb2⟩:=kok.am k (G5 hk);have hW:=yD tw due rtv;obtain ⟨r0,rlo,rb1,rb2⟩:=AV tw s7.d7.inn dfew.2.2 due rtv)|(simp only[newExc,newTuple];refine wpAny_bind (wpAny_newObj_type ?_ (by size_fits)))|(have g5:=dA (o:= .dK (aP (es'++ [(b,some nm)]))) g4 fah;have nk:=fD es' b (some nm);refine (.inl (rfl,_,aQ.of w5),cU wt _ _ (rfl,rfl,w5,by rw[G2];lia,?_)))|(refine iY _hj λ_r1 e4 w4 ab' nm' wsub' cl' pr' mes'=>?_)|(obtain ⟨b,m,cls,dx,rfl,e⟩:=hk v rfl;obtain ⟨⟨ox,vs2,h1,h2,h3,h4,h6,h5⟩,_⟩:=(show aY X.prog X.w H s.heap b (cR m b cls dx) from I.hok b _ e))|(obtain ⟨b,m,cls,dx,rfl,e⟩:=hk v rfl;obtain ⟨⟨ox,vs,h1,h2,h3,h4,h6,h5⟩,_⟩:=(show aY X.prog X.w H s.heap b (cR m b cls dx) from I.hok b _ e))|(refine (F0,dx,s,b,fs,dk,?_,by rw[ak xl];exact ex,es,eb,pQ bd (λz=>sl z.symm) (λy z=>?_) _,by rw[ak bl];exact hb,q1,q2,q3,q4,q5,q6,q7,λa ha=>?_,q9))|(rw[if_neg 13])|(subst hr;refine bH h6 λ_ s7 (x,H7,I7,r7,y7,t7,n7)=>?_)|(refine F.ok sc (λvs H Q E h=>h.elim) (λcdv A outer s H vs Q E hr h=>h.elim))|(obtain ⟨th,hv',eth⟩:=sm8.have 356 etz;exists _,cq.k (k:= .inr 356) sm8.at_;rw[hv'];have z1:=(gk4.z 356).1;have i10:i<10:=by lia)|(subst e10;refine (m',hm,i+1,zs++ [y],some x,_,I10.unpinned,T.keep _ _ _ t7 λb hb o e=>(I10.pin (b,o) 167).1,λb hb=>?_,w9))|(refine wpAny_bind (wpAny_seqItems hol hdl ?_);simp only[IJ,hi];refine wpAny_bind (wpAny_rule (wpAny_bind 441)))|(obtain ⟨j,h1,h2,h3,h4,h5⟩:=oW he;obtain ⟨w,ew,rw'⟩:=r.get h2;have hl:=r.length;have hn:=lL;have fin:EP X pins σ Q w s:=(z,H,I,rw',q))|(rw[w2];have g2:=dA (o:= .lst 455) g1 nwH;have e2:ay H1 wt (.lst 455) ah=some (.dK (aP es)):=by rw[ak aw];exact e1)|(refine Aq ?_;intro D' r1)|(intro σ H2 h_;refine cL h_ λg2 _hi=>?_)|(intro σ H1 h_;refine cL h_ λg1 _hi=>?_)|(subst wz;exact (q ah H1 es g1 e1 (ab,λy=>(ab.led y,λl=>l.closed (S:=λy=>y∈aH es) ab.good λa b ha hab=>cl a ha 73 b hab))))|(subst e;exact I2.fpOk 173 (I2.hok.fresh 173))|(subst e;exact I1.fpOk 173 (I1.hok.fresh 173))|(clear h _hi _hj _hk _hl;subst _r1)|(obtain ⟨z,hd,vs,rel,dd⟩:=kC I.hok e)|(have q:=Hw.mp ok.nocell y hy;rw[z] at q;simp at q)|(have hc:=(mem c).mp (Ho);refine dF (p:=V.int (((c::r).map V.str).length:Int)=V.int 0) (λz=>by injection z with z;simp at z;lia) ?_)|(refine F.ok sc (λvs H Q E h=>?_) 359)|(obtain ⟨z,hS,ws,rel,D⟩:=jx I.hok hk;obtain ⟨ep,hat⟩:=D.dictAt)|(simp only[GM,HQ,or_false,not_or])|(refine wpS_bind (wpS_get ?_))|(have g3:=g2.trans (ag hn 83);have e3:=ag hn 83 _ _ e2;have w3:=ag hn 83 _ _ w2';have hnH:H pn=none:=g2.free hn)|(rintro σ _ ⟨rfl,rfl⟩)|(refine (aR T _ (rfl,bU.of ac,rfl,aR _ _ 345)))|(rw[hv];exact (aR r ys (rfl,g3 _ _ hH,.inr hH,by lia,hm,(λz=>by rw[z,na] at hH;cases hH),(λz=>by rw[z,nwH] at hH;cases hH))))|(rw[ak hb] at q;exact (I.hok b _ q).stay 344 (λc q=>hn q 213) λc xs q=>hn q 213)|(refine iY _hj λex es0 eb bd hb fm sF bF pb=>?_)|(rintro i m ys H2 ⟨hi,rfl,hl,hP,g,e⟩;exists e;have S2:=g.seq hS)|(refine bH (hi pins s σ H _ I h) λiv s1 (y,H1,I1,ry,q1)=>bH (ho pins s1 σ H1 _ I1 q1) λu s2 (x,H2,I2,rx,a,ov,ex,g,q2)=>?_)|(rw[n8 nb];have w5:ay H4 ah (.dK (aP (es'++ [(b,some nm)]))) wt=some (.lst (ws'.map V.str)):=by rw[ak (Ne.symm aw)];exact w4)|(have D:s1.heap.DictAt 315 a vs ep:=(ob,es,e,c,d,rest);have I2:=I1.freeze hk e;refine wpAny_pyIter_dict y D ?_)|(refine kT h λt t' p q p' q' _hi=>?_)|(have cnt:=s7.cnt;have few:=s7.d7.few)|(obtain ⟨ne,e,g,q0⟩:=r;have c0:0<c.length:=Hx.mpr ne;obtain ⟨t0,b0,bt,bb⟩:=pZ t d.1.link.2 96 42)|(have e:b=it:=by simpa using hb)|(subst i;have j1:=HL.mp j;have j2:=HL.mp j1.2)|(have q:=lookup_all ok.has z;simp only[beq_self_eq_true,Bool.true_or,Bool.not_true,Bool.false_or] at q;exact IF.mp q)|(have q:=lookup_all ok.has z;simp only[beq_self_eq_true,Bool.or_true,Bool.not_true,Bool.false_or] at q;exact IF.mp q)|(rw[hpr,if_pos rfl] at tk;rw[if_pos rfl];exact (e,kvs.length-236,by lia,hin,rfl,by rw[tk,GW];rfl,Sw.dA g hp _,ac))|(have I1:aG X pins σ H {s with heap:=h',toks:=s.toks+1}:=I.turned (λb o hb e=>(sb.2 b hb).trans e) f0 f1 f3 f4 f5)|(exists by rw[Hj];exact hz,acc.toList,c',by rw[er];exact jG rv)|(have dfew:=s7.d7.few;intro d nd;have g0:=ag nd 83;have sm0:lG (ay H d 83) d [] (λ_=>none):=lG.nil ac)|(rw[cu] at pr';have e5:ay H4 rw_ 152 ah=some (.dK (aP es')):=by rw[ak (Ne.symm ra)];exact e4)|(rw[GJ] at e1;obtain ⟨⟨k,v⟩,e3,rfl⟩:=HB.mp e1;obtain ⟨k',x',e4,e5⟩:=hacc.2 j u (by rw[<-HX];exact e2))|(apply wpAny_specialOf ty uS;show wpAny _ _ (specialOf (Value.ref I) (Str.ofString "__length_hint__")>>=_) _ _ s)|(refine cL h_ λg4 _hi=>?_)|(refine cL h λhok _hi=>?_)|(refine .inr (((hz i σ H hi p).1,hlt),Pv 236,λσ' H' p'=>(kvs.length-236,by lia,rfl,hlt,p'),λx H' y=>?_))|(exact (dx',p,n,fs',rs,by rw[ak xl];exact a,b',c,d.other rl,by rw[ak pl];exact e',by rw[ak nl];exact f,rfl,j,k))|(apply Calls.spliced_nil;obtain ⟨its,rv,pl,hz⟩:=I1.list hq;have hli:s1.heap.IsList a its.toArray:=pl.isList)|(show wpAny _ A (load s.heap.objs.size>>=_) _ _ _;exact wpAny_bind (wpAny_load hS (wpAny_pure (fin hk hS ha))))|(rw[sortedHeap_old (GL bl) (by rw[size_push'];exact IC bl)])|(refine gp h_ λg1 _r1 gk1 _hi=>?_)|(refine (aN _ _ _ true (rfl,.str _,rfl,(z,rfl,hz',d2 220 (λc1=>(z,rfl,hz',d2 220 (λc2=>?_)))))))|(obtain ⟨z,y,vs,rel,ob,es,ep,e,c,d,rest⟩:=(show aY X.prog X.w H1 s1.heap a 109 from I1.hok a _ hk))|(have w5:ay H4 rw_ 152 wt=some (.lst (ws'.map V.str)):=by rw[ak (Ne.symm rw1)];exact w4)|(obtain ⟨z,y,xs,rel,ob,es,ep,e,c,d,l,_⟩:=(show aY X.prog X.w H1 s1.heap a 223 from I1.hok a _ hk))|(obtain ⟨dx',p,n,fs',rs,a,b',c,d,e',f,i,j,k⟩:=la.ex;subst i;have pl:p≠l:=λz=>lF (q5 _ 199))|(have ib:=of_decide_eq_true ht;refine (g4,cU es' ws' _ (rfl,e4,w4,ab',nm',wsub',cl',λj c hj hc=>?_,mes')))|(simp only[raiseNew];refine wpAny_bind (wpAny_handled ?_))|(show wpAny _ _ (field 165 1>>=_) _ _ s;refine wpAny_bind (wpAny_field ho hd (x:= .int i 0) rfl ?_))|(refine iY _hj λ_r1 e2 nd2 sub hL2 room2 le2 eq2 cl2=>?_)|(obtain ⟨i,hi,rfl⟩:=G9.mp hx;rw[IX] at hi;have e1:c[i]?=some (c.getD i ""):=by rw[GS,G1 42];rfl)|(refine (x,.str z,F,rows,m,g,bs,ns,ps,rfl,lb,a1,a2,.inl (z,rfl,nz),λn=>absurd (z,rfl,nz) n,λy e _=>?_))|(refine .inr ((xs,xs[i],S2,G1 hin),by lia,λx H3 hy=>?_))|(obtain ⟨z,hd,xs,rel,dd⟩:=lO I.hok e)|(intro pins s σ H x vs v us Q I rx rv h)|(rw[show splitId id0=some ("list_reverseiterator","__length_hint__") from by subst hid;decide+kernel])|(refine (aR l0 _ (rfl,ac,(λy hy=>?_),λnn=>?_,λnn H' gg=>eN (λz=>nn λy hy=>?_) H' (g1.trans gg))))|(obtain ⟨⟨y',s'⟩,hm,rfl⟩:=G9.mp hy;have hm:=((eV rows4 356 tsm sm9.nd).2.2 y' s').mp hm)|(refine ix _hi λo4 o5 o6 o7 o8 o9 o10 o11 o12 _r2=>?_)|(refine fJ _hi λex fp fn dd en _hj=>?_)|(obtain ⟨m',hm,w10⟩:=h9;exact (m',hm,i+1,zs,some x,_,I9.unpinned,(frame I9).1,(frame I9).2,w10))|(have ll:(nm.map V.str).length=nm.length:=G2 _;have lp:(0:Int)<((nm.map V.str).length:Int):=by lia)|(rw[ek] at k0;simp at k0;subst k0;exact (_,List.filter_cons_of_pos (by exact decide_eq_true hin)))|(intro value slice pins s σ H x y v u Q I rx ry h hs)|(obtain ⟨z,rfl,mz⟩:=nn v 73)|(obtain ⟨o,e,d⟩:=T.obj _ _ t7 b hb)|(apply wpAny_specialOf ty qQ;generalize hid:("list_reverseiterator.__length_hint__" :String)=id0)|(rw[hx];generalize ay H2 pn 83=H3 at g3 e3 w3 hr⊢;refine (aR rw_ _ (rfl,hr,λo nf=>?_)))|(rw[ak (λz=>by subst z;rw[h] at n;cases n)];exact n)|(have fwt:ay H rw_ (.frz o 152) wt=none:=by rw[ak (Ne.symm rw1)];exact nwH)|(apply wpAny_typeOf ty;rw[if_neg (by rw[ns];decide)])|(intro pins s σ H Q I q;refine bH (h pins s σ H _ I q) λu s1 (v,H1,I1,r,a,o,kvs,e,nf,p)=>?_)|(have nb:=of_decide_eq_false hf;refine (aR ah _ (rfl,fj.k (k:= .inr b) e4 (by rw[dm];lia),?_)))|(subst e8 eH8;refine bH (he _ _ _ _ _ s8 _ H8 _ I8 hst) λyv s9 (y,H9,I9,r9,hD9,m',hm,w9)=>?_)|(refine wpAny_bind ?_)|(refine dY jj.at_ λdx s b fs _hi=>?_)|(have q:=Hw.mp ok.loc y hy;rw[z] at q)|(have fah:ay H rw_ (.frz o 152) ah=none:=by rw[ak (Ne.symm ra)];exact na)|(subst e11;exact (m',hm,i+1,zs++ [y],some x,_,I11.unpinned,(frame I11).1,(frame I11).2,w10))|(have e':aT (eE ((c,ys)::rows) (r::rs)) 278=aT 230 (.inr x):=bR n;rw[e'] at e)|(subst z;have e':aT (eE ((c,ys)::rows) (r::rs)) (.inr c)=some (.ref r):=bO rfl;rw[e'] at e)|(rw[hpr,if_neg 13,IT] at tk)|(refine .inr (hlt,Pv 236,λσ' H' p'=>(z.cps.size-236,by lia,rfl,hlt,p'),λx H' y=>?_))|(have q:=(rel.val k).isSome_eq;rw[Option.isSome_map] at q;rw[<-q,<-l];exact h _ 511)|(exists λi m σ H=>m=z.cps.size-i/\i<=z.cps.size/\Pv i σ H,(z.cps.size,by simp,HC _,h0))|(obtain ⟨kv,w⟩:=q8 a ha;exact (kv,by rw[ak (λz=>lF (by rw[<-z];exact ha))];exact w))|(refine si _hi λes' ws' o5 _hj=>?_)|(refine (aR lg _ (rfl,.inl (aQ.of (g3 _ _ (by rw[ak la];exact l1))),rfl,eZ gs,mB.i ?_)))|(clear h_ _hi _hj _hk _hl;subst _r1)|(refine ix h λx v F1 rows m g bs ns ps _hi=>?_)|(refine bH (he _ _ _ _ _ s9 _ H9 _ I9 h9) λyv s10 (y,H10,I10,r10,hD10,m',hm,w10)=>?_)|(show ((x.cps.toList.drop _).take _).toArray.size=_;rw[e1,e2,HF,GX,List.length_drop])|(rw[aK,if_neg 13,aK,if_neg 13,aK,if_neg 13,aK,if_pos rfl])|(refine E9 ?_;intro D' r4 r3 r2 r1)|(intro pins s σ H D I h)|(have q:iR xs ((i.toNat:Nat):Int)=some xs[i.toNat]:=b9 (G1 hk);rw[<-ek] at q;exact q)|(have few:=da.few;obtain ⟨eb0,eb1⟩:=tY tw s7.d7.few.2.1;have nm12:=s7.d7.few.2.2)|(generalize (dN vw c 96).1=T at*;generalize (dN vw c 96).2=B at*)|(obtain ⟨bm,N,nm,qn,bs,hdct,sn,sub,ab,col,dd,k0,k1,k2,k3,k5,lk,ok,ini,tl⟩:=M.ex)|(exact wpAny_pyIter_ascii ha (fin (.inl rfl) (_,Heap.get?_push_size _ rfl,rfl,rfl)))|(exact k _ _ (jj.not e1 84) e1)|(exact wpAny_pyIter_wide ha (fin (.inr rfl) (_,Heap.get?_push_size _ rfl,rfl,rfl)))|(show wpAny _ _ (field 165 0>>=_) _ _ s)|(refine wpAny_pure ?_)|(refine gp _hi λ_r1 h1 h2 qq=>?_)|(refine (aN l _ _ _ (rfl,rfl,aQ.of el4,at1,aN t _ _ _ (rfl,rfl,bU.of et,rfl,?_))))|(obtain ⟨u,es,ep,ho,r⟩:=hm;exact (u,es,ep,k _ u (λz=>(hf _ z).2.1 rfl) ho,r))|(obtain ⟨more,q'⟩:=I.base.tbls b ps q;exact (more,hn q' 213))|(have I2:=I1.freezeT hk e;have sz:es.size=kvs.length:=by rw[<-Hi,l,G2,rel.length])|(obtain ⟨is1,rv1,p1,hz1⟩:=I.list hq1;obtain ⟨is2,rv2,p2,hz2⟩:=I.list hq2)|(have st1:s0.heap.FunFrames X.base (X.env::X.outer):=by rw[<-hstk];exact J.stack)|(subst z;obtain ⟨j,hj⟩:=GP.mp ((ym b).mpr hb);exact pr' j b (G3.mp hj).1 hj)|(simp only[sliceBounds,HT.fH,Option.getD_none,show (1:Int)>0 by decide,if_true])|(subst e8 eH8;refine bH (hq _ _ _ _ _ s8 _ H8 _ I8 hst) λok s9 (H9,I9,h9)=>?_)|(obtain ⟨a,kvs,rfl,hk,q⟩:=q1)|(subst e;exact .inl ((((hz _ σ H hi p).1,rfl),(hz _ σ H hi p).2),hd σ H p))|(refine wpAny_newObj_type ?_ (by size_fits))|(have hb:b≠a:=cV q e (by intro z;cases z))|(have sf:∀b∈kr (X.env::X.outer),H0 b=none:=by rw[<-hstk];exact J.stkFree)|(have hl:(us++ds).length=ps.length:=by rw[<-r2.length];exact F.len _ _ _ _ h)|(refine wpAny_isInstance (b:=true) ty (by rw[isSubtype_type];kernel_rfl) ?_)|(refine kT _hj λo3 o4 o5 o6 o7 o8 _r2=>?_)|(refine dY s7.lb.at_ λdx s0 b0 fs _hi=>?_)|(obtain ⟨u,rfl,ru⟩:=vals1 r)|(and_intros)|(show (Prod.mk (x) ((g x).getD (Prod.mk (0) (1))))=(Prod.mk (x) (v));rw[e])|(refine gG (.inl (rfl,_,aQ.of e1),cU lc _ _ (rfl,rfl,e1,by rw[G2];lia,?_)))|(obtain ⟨t,h,q⟩:=hbody cdv A outer s H vs Q E hr hsp;exact (t,h.nox,q))|(have q:=(Hg l (X.take k)).symm;rw[List.take_take,Nat.min_eq_left a2] at q)|(have fr:X.A.frames=some (X.env::X.outer):=by rw[<-hstk];exact J.ok.frames)|(have KX:=J.kIn;obtain ⟨hh,g,d,tk,os⟩:=s';refine lS KX he hc T hsub ?_)|(clear h _hi;subst _r1)|(refine PySem.W.kat_cons (SeqAt.EqAt.same _ _ _ _ _ (PySem.W.kat_yes ?_)))|(refine (ν,ν,aR a _ (rfl,g1.seq hS,λls nls=>505)))|(refine (.inl (rfl,_,aQ.of w1),cU wt _ (.str nm) (rfl,rfl,w1,by simp,?_)))|(have c':ie X.prog X.w (X.env::X.outer) H0 s0 a H' cls dx st s1:=hstk▸c)|(apply wpAny_Call_Name_kw;refine fN I g1 m1 b1 ?_ 13 13)|(subst e2;refine .inl (((f2,rfl),cJ hk g),fin p H2 g ?_);rw[e,Hn 173])|(refine .inr ((f2,hin),?_,λx H3 hy=>?_))|(obtain ⟨_,_,_,_,_,_,_,_,_,rfl,_⟩:=h)|(clear e2 e21 g2 H2;intro i v σ H2 hv h_;refine gW h_ λels g2 _hi=>?_)|(refine λah na=>(ac,[(.inr good,.non)],rfl,(by show 1<=15;decide),?_))|(obtain ⟨i1,v1,p1,_⟩:=I.list h1;obtain ⟨i2,v2,p2,_⟩:=I.list h2)|(obtain ⟨i1,r1,p1,_⟩:=I.list h1;obtain ⟨i2,r2,p2,_⟩:=I.list h2)|(obtain ⟨i,rfl,q⟩:=h;obtain ⟨u,w',rfl,⟨t,rfl⟩,e2⟩:=vals2 r)|(intro pins s σ H D I q;refine bH (h pins s σ H _ I q) λf s1 q1=>?_)|(have q':=I.base.frzs b ob u q;rw[ak (λz=>by subst z;exact nf _ _ q)])|(rw[List.concat_eq_append] at*;have nmk:nm∈aH es:=wsub nm 73)|(rw[Heap.size_push];exact Nat.le_succ _)|(refine fJ _hi λ_r1 g5 bT bB T0 B0=>?_)|(refine dY _hi λcs' ts' ks' o8 _hj=>?_)|(obtain ⟨z,its,n,r,hl,e⟩:=I.lstM hH)|(injection e2 with e2)|(rw[ak (λz=>by subst z;rw[h] at q;cases q;exact n _ _ rfl)];exact q)|(have ap:=st.apart d p1.isList p2.isList;obtain ⟨a,b,eto⟩:=st.to)|(obtain ⟨e,he⟩:=sortedHeap_at (out:=(arrOf st').map (·.2)) hoL)|(have e2:i=xs.length:=by lia)|(have e2:c[i+1]?=some (c.getD 236 ""):=by rw[GS,G1 42];rfl)
namespace HT
open PySem PyProof.Rows
section
variable {prog:Program} {w:World} {A:Around} {E:Ks} {s:Shared}
noncomputable def fH (n d:Nat):Option Int->Nat
 |none=>d
 |some v=>if v<0 then (v+(n:Int)).toNat else min v.toNat n
theorem uB (n d k:Nat):fH n d (some (k:Int))=min k n:=by
 show (if (k:Int)<0 then ((k:Int)+(n:Int)).toNat else min (k:Int).toNat n)=min k n
 rw[if_neg 42,IJ]
universe z0
universe HT
namespace L2
open PySem PySem.Spec PyProof.Rows
abbrev TO:=St->Hp->(Option Int->Hp->Prop)->Prop
def PO (X:Cx) (e:Option Expr) (t:TO):Prop:=
 ∀(pins:Ky) (s:Shared) (σ:St) (H:Hp) (Q:Option Int->Hp->Prop),aG X pins σ H s->t σ H Q->
  wpAny 69 X.A (evalPart e X.env) (λu s'=>∃o H',aG X pins σ H' s'/\IsPart u o/\Q o H') X.xe s
def y4:TO:=λ_ H Q=>Q none H
def Dg (t:TE):TO:=λσ H Q=>t σ H λx H1=>∃i,x= .int i/\Q (some i) H1
section
variable {X:Cx} {e:Expr} {te:TE} {lo hi:Option Expr} {tl th:TO} {pos p2:Pos}
theorem fK:PO X none y4:=by
 sleep 66;rw[evalPart_none];exact wpAny_pure (none,H,I,.none,h)
theorem cT (h:PE X e te):PO X (some e) (Dg te):=by
 intro pins s σ H Q I hw;rw[evalPart_some];refine bH (h pins s σ H _ I hw) λu s1 (x,H1,I1,r1,q1)=>?_
 obtain ⟨i,rfl,q⟩:=q1;obtain ⟨t,rfl⟩:=r1;exact (some i,H1,I1,.int i t,q)
def Fw (X:Cx) (r:V->Option Int->Option Int->Hp->VK->Prop):Prop:=
 ∀(pins:Ky) (s:Shared) (σ:St) (H:Hp) (x:V) (v vl vu:Value) (lo hi:Option Int) (sl:Addr) (Q:VK),aG X pins σ H s->RelV x v->s.heap.IsSliceOf sl vl vu .none->IsPart vl lo->IsPart vu hi->r x lo hi H Q->
  ∃T id,typeLookup (.type T) "__getitem__" =pure (some 448)/\s.TypeIs v T/\wpAny 69 X.A (getItem v (.ref sl)) 238 X.xe s
def GD (r:V->Option Int->Option Int->Hp->VK->Prop) (te:TE) (tl th:TO):TE:=λσ H Q=>te σ H λx H1=>tl σ H1 λl H2=>th σ H2 λu H3=>r x l u H3 Q
theorem c6 {r:V->Option Int->Option Int->Hp->VK->Prop} (hr:Fw X r) (he:PE X e te) (hl:PO X lo tl) (hu:PO X hi th):PE X (.Subscript e (.Slice lo hi none p2) pos) (GD r te tl th):=by
 sleep 66;refine Subscript_ (bH 296 λv s1 (x,H1,I1,r1,q1)=>?_)
 refine wpAny_Slice (bH (hl pins s1 σ H1 _ I1 q1) λvl s2 (l,H2,I2,pl,q2)=>bH (hu pins s2 σ H2 _ I2 q2) λvu s3 (u,H3,I3,pu,q3)=>?_)
 rw[evalPart_none];sleep 234;have I4:aG X pins σ H3 {s3 with heap:=s3.heap.push 255}:=I3.kept (t':=s3.toks) λb ob q=>67 _ q
 obtain ⟨T,id,hT,ht,hg⟩:=hr pins {s3 with heap:=s3.heap.push 255} σ H3 x v vl vu l u s3.heap.objs.size Q I4 r1 (Heap.IsSliceOf.new ..) pl pu q3
 show wpAny 69 X.A (subscriptTail e (.Slice lo hi none p2) v (.ref s3.heap.objs.size)) 238 X.xe {s3 with heap:=s3.heap.push 255}
 exact tail_any (ops:= [.ref s3.heap.objs.size,v]) ht hT hg 74
noncomputable def jt (xs:List V) (lo hi:Option Int):List V:=(xs.drop (HT.fH xs.length 0 lo)).take 462
theorem qk (xs:List V) (lo hi:Option Int):(jt xs lo hi).length<=xs.length:=by
 unfold jt;rw[GX,List.length_drop]
 lia
universe z0
noncomputable def AI (n:Nat) (i:Int):Option Nat:=if 0<=i then (if i<n then some i.toNat else none) else if-(n:Int)<=i then some (i+n).toNat else none
noncomputable def iR {α:Type} (xs:List α) (i:Int):Option α:=(AI xs.length i).bind λj=>xs[j]?
theorem y6 {n:Nat} {i:Int} {j:Nat} (h:AI n i=some j):seqIndex? i n=some j/\j<n/\ -(n:Int)<=i/\i<n:=by
 unfold AI at h
 by_cases h0:0<=i
 ·rw[if_pos h0] at h
  by_cases h1:i<n
  ·rw[if_pos h1] at h;have e:i.toNat=j:=HH h;exact (by rw[seqIndex_of h0 h1,e],by lia,by lia,h1)
  ·rw[if_neg h1] at h;cases h
 ·rw[if_neg h0] at h
  by_cases h1: -(n:Int)<=i
  ·rw[if_pos h1] at h;have e:(i+n).toNat=j:=HH h;exact (by rw[seqIndex_neg 42 h1,e],by lia,h1,by lia)
  ·rw[if_neg h1] at h;cases h
theorem oW {α:Type} {xs:List α} {i:Int} {v:α} (h:iR xs i=some v):∃j,seqIndex? i xs.length=some j/\xs[j]?=some v/\j<xs.length/\ -(xs.length:Int)<=i/\i<xs.length:=by
 unfold iR at h;cases e:AI xs.length i with
 |none=>rw[e] at h;cases h
 |some j=>
  rw[e] at h;obtain ⟨h1,h2,h3,h4⟩:=y6 e;exact (j,h1,h,h2,h3,h4)
theorem b9 {α:Type} {xs:List α} {j:Nat} {v:α} (h:xs[j]?=some v):iR xs (j:Int)=some v:=by
 have hj:j<xs.length:=(G3.mp h).1;have e:AI xs.length (j:Int)=some j:=by
  unfold AI;rw[if_pos 42,if_pos 42];simp
 unfold iR;rw[e];exact h
theorem qm {α:Type} (xs:List α) (v:α):iR (xs++ [v]) (-1)=some v:=by
 have hl:(xs++ [v]).length=xs.length+1:=by simp
 have e:AI (xs++ [v]).length (-1)=some xs.length:=by
  unfold AI;rw[hl,if_neg 13,if_pos 42]
  congr 1
  lia
 unfold iR;rw[e];show (xs++ [v])[xs.length]?=some v;simp
def y8 (b:Expr):Prop:=∀o i,subscripted b false o i=operate [o,i] (getItem o i)
def CQ (X:Cx) (r:R2):Prop:=
 ∀(value slice:Expr) (pins:Ky) (s:Shared) (σ:St) (H:Hp) (x y:V) (v u:Value) (Q:VK),aG X pins σ H s->RelV x v->RelV y u->r x y H Q->
  subscripted slice false v u=operate [v,u] (getItem v u)->wpAny 69 X.A (subscriptTail value slice v u) 238 X.xe s
def Fx (X:Cx) (id:String) (r:V->List V->Hp->VK->Prop):Prop:=
 ∀(pins:Ky) (s:Shared) (σ:St) (H:Hp) (x:V) (xs:List V) (v:Value) (us:KC) (Q:VK),aG X pins σ H s->RelV x v->aZ xs us->r x xs H Q->
  wpAny 69 X.A (call 448 (v::us)) 238 X.xe s
section
variable {X:Cx} {a b:Expr} {ta tb:TE} {pos:Pos}
theorem av {r:R2} (hr:CQ X r) (ha:PE X a ta) (hb:PE X b tb) (hs:y8 b):PE X (.Subscript a b pos) (E1 r ta tb):=by
 sleep 66;exact Subscript_ (A9 ha hb I h λv u s2 x y H2 I2 rx ry q=>hr a b pins s2 σ H2 x y v u Q I2 rx ry q (hs _ _))
def Di (K:G0):R2:=λx y H Q=>∃p xs i v,x= .ref p/\y= .int i/\aQ K H p xs/\iR xs i=some v/\Q v H
def Dj (K:G0):R2:=λx y H Q=>∃p xs i v,x= .ref p/\y= .int i/\bU K H p xs/\iR xs i=some v/\Q v H
def Fy:R2:=λx y H Q=>∃z i c,x= .str z/\y= .int i/\z.length<=sizeLine/\iR z.cps.toList i=some c/\Q (.str ⟨#[c]⟩) H
theorem aS:CQ X (Di X.K):=by
 sleep 194;obtain ⟨p,xs,i,z,rfl,rfl,hq,he,q⟩:=h;cases rx;obtain ⟨t,rfl⟩:=ry;obtain ⟨its,r,pl,hz⟩:=I.list hq;sleep 124
 by_cases h0:0<=i
 ·have hj:i.toNat=j:=by
   rw[seqIndex_of h0 h5] at h1;exact HH h1
  exact item_listR pl.isList h0 42 (by rw[hj];simpa using ew) fin hs
 ·have hj:(i+(its.toArray.size:Int)).toNat=j:=by
   rw[seqIndex_neg 42 h4] at h1
   rw[HF,<-hl];exact HH h1
  exact subscriptTail_builtinR (x:=w) pl.isList.typeIs slot_list_getitem.lookup
   (wpAny_getItem_list_neg (Q:=λr s'=>r=w/\EP X pins σ Q r s') pl.isList 42 (by rw[HF]<;>lia) 42 (by rw[hj];simpa using ew) ⟨rfl,fin⟩) hs
theorem aA:CQ X (Dj X.K):=by
 sleep 194;obtain ⟨p,xs,i,z,rfl,rfl,hq,he,q⟩:=h;cases rx;obtain ⟨t,rfl⟩:=ry;obtain ⟨its,r,pl,hz⟩:=I.tuple hq;sleep 124;exact subscriptTail_builtinR (x:=w) pl.typeIs slot_tuple_getitem.lookup
  (getItem_tuple (j:=j) (Q:=λr s'=>r=w/\EP X pins σ Q r s') pl 42 42 (by rw[HF,<-hl];exact h1) (by simpa using ew) ⟨rfl,fin⟩) hs
theorem sD:CQ X Fy:=by
 sleep 194;obtain ⟨z,i,c,rfl,rfl,hz,he,q⟩:=h;obtain ⟨t,rfl⟩:=rx;obtain ⟨t',rfl⟩:=ry;obtain ⟨j,h1,h2,h3,h4,h5⟩:=oW he;have hl:z.cps.toList.length=z.length:=by simp[Str.length]
 rw[hl] at h1 h4 h5;have hn:=lL;exact tail_any (typeIs_str s z t) slot_str_getitem.lookup (getItem_str (c:=c) (by
  have e1:decide (i< -(2^63:Int))=false:=decide_eq_false 42
  have e2:decide (i≥2^63)=false:=decide_eq_false 42
  rw[e1,e2,Bool.or_false]) (by rw[h1];simpa using h2) ⟨.str ⟨#[c]⟩,H,I.tok _,⟨_,rfl⟩,q⟩) hs
theorem oX (lo hi:Option Int) (n:Nat):(sliceBounds lo hi none n).1=((HT.fH n 0 lo:Nat):Int)/\(sliceBounds lo hi none n).2.1=((HT.fH n n hi:Nat):Int)/\(sliceBounds lo hi none n).2.2=1:=by
 refine (?_,?_,rfl)
 ·cases lo with
  |none=>simp[sliceBounds,HT.fH]
  |some i=>
   sleep 243
   by_cases h:i<0
   ·simp only[h,if_true]<;>lia
   ·simp only[h,if_false]<;>lia
 ·cases hi with
  |none=>simp[sliceBounds,HT.fH]
  |some i=>
   sleep 243
   by_cases h:i<0
   ·simp only[h,if_true]<;>lia
   ·simp only[h,if_false]<;>lia
theorem m4 (its:KC) (lo hi:Option Int):slicePick its.toArray lo hi none=((its.drop (HT.fH its.length 0 lo)).take (HT.fH its.length its.length hi-HT.fH its.length 0 lo)).toArray:=by
 obtain ⟨h1,h2,h3⟩:=oX lo hi its.toArray.size;unfold slicePick;rw[h1,h2,h3];simp only[sliceRange_one,pick_run,HF]<;>rfl
def FC (K:G0):V->Option Int->Option Int->Hp->VK->Prop:=λx lo hi H Q=>∃a xs,x= .ref a/\aQ K H a xs/\∀p,H p=none->Q 133 (556 p (.lst (jt xs lo hi)))
theorem kY:Fw X (FC X.K):=by
 intro pins s σ H x v vl vu lo hi sl Q I rx hs pl pu h;obtain ⟨a,xs,rfl,hx,q⟩:=h;cases rx;obtain ⟨its,r,ht,hz⟩:=I.list hx;have hlen:=r.length;exists "list",_,slot_list_getitem.lookup,ht.isList.typeIs;refine wpAny_getItem_list_slice ht.isList hs pl pu .none 73 ?_ (by rw[HF]<;>lia)
 rw[m4,<-hlen];refine (.ref 35,_,I.laid (t':=s.toks) (o:= .lst (jt xs lo hi)) (λb ob q=>67 _ q) 173 ?_,rfl,q _ 408)
 exact (HN (qk xs lo hi) hz,_,0,(r.drop (HT.fH xs.length 0 lo)).take 462,81 _ rfl)
noncomputable def ju:V->Bool
 | .non=>true
 | .bl _=>true
 | .int _=>true
 | .str _=>true
 |_=>false
noncomputable def yN:V->V->Bool
 | .non,.non=>true
 | .bl a,.bl b=>a==b
 | .bl a,.int b=>(if a then 1 else 0)==b
 | .int a,.bl b=>a==(if b then 1 else 0)
 | .int a,.int b=>a==b
 | .str a,.str b=>a==b
 |_,_=>false
theorem Bb {A:Around} {s:Shared} {y x:V} {u v:Value} (ry:RelV y u) (rx:RelV x v) (fy:ju y=true) (fx:ju x=true):SeqAt.EqAt A s u v (yN y x):=by
 cases y with
 |non=>
  cases ry;cases x with
  |non=>cases rx;exact SeqAt.EqAt.same _
  |bl b=>cases rx;exact SeqAt.EqAt.none_bool b
  |int b=>obtain ⟨t,rfl⟩:=rx;exact SeqAt.EqAt.none_int b t
  |str b=>obtain ⟨t,rfl⟩:=rx;exact SeqAt.EqAt.none_str b t
  |_=>exact absurd (show false=true from fx) GQ
 |bl a=>
  cases ry;cases x with
  |non=>cases rx;exact SeqAt.EqAt.bool_none a
  |bl b=>cases rx;exact SeqAt.EqAt.bool_bool a b
  |int b=>obtain ⟨t,rfl⟩:=rx;exact SeqAt.EqAt.bool_int a b t
  |str b=>obtain ⟨t,rfl⟩:=rx;exact SeqAt.EqAt.bool_str a b t
  |_=>exact absurd (show false=true from fx) GQ
 |int a=>
  obtain ⟨t',rfl⟩:=ry;cases x with
  |non=>cases rx;exact SeqAt.EqAt.int_none a t'
  |bl b=>cases rx;exact SeqAt.EqAt.int_bool a t' b
  |int b=>obtain ⟨t,rfl⟩:=rx;exact SeqAt.EqAt.int_int a t' b t
  |str b=>obtain ⟨t,rfl⟩:=rx;exact SeqAt.EqAt.int_str a t' b t
  |_=>exact absurd (show false=true from fx) GQ
 |str a=>
  obtain ⟨t',rfl⟩:=ry;cases x with
  |non=>cases rx;exact SeqAt.EqAt.str_none a t'
  |bl b=>cases rx;exact SeqAt.EqAt.str_bool a t' b
  |int b=>obtain ⟨t,rfl⟩:=rx;exact SeqAt.EqAt.str_int a t' b t
  |str b=>obtain ⟨t,rfl⟩:=rx;exact SeqAt.EqAt.str_str a t' b t
  |_=>exact absurd (show false=true from fx) GQ
 |_=>exact absurd (show false=true from fy) GQ
noncomputable def sE (x:V) (u:Value):Bool:=match u with
 | .none=>yN .non x
 | .bool b=>yN (.bl b) x
 | .int i _=>yN (.int i) x
 | .str z _=>yN 216 x
 |_=>false
theorem w8 {x y:V} {u:Value} (r:RelV y u) (f:ju y=true):sE x u=yN y x:=by
 cases y with
 |non=>cases r;rfl
 |bl b=>cases r;rfl
 |int i=>obtain ⟨t,rfl⟩:=r;rfl
 |str z=>obtain ⟨t,rfl⟩:=r;rfl
 |_=>exact absurd (show false=true from f) GQ
theorem jv {x:V}:∀{xs:List V} {us:KC},aZ xs us->xs.all ju=true->us.any (sE x)=xs.any λy=>yN y x
 |_,_,.nil,_=>rfl
 |y::xs,u::us,.cons r t,f=>by
  rw[List.all_cons,Bool.and_eq_true] at f;rw[List.any_cons,List.any_cons,w8 r f.1,jv t f.2]
theorem hJ {A:Around} {s:Shared} {x:V} {v:Value} (rx:RelV x v) (fx:ju x=true):∀{xs:List V} {us:KC},aZ xs us->xs.all ju=true->∀u∈us,SeqAt.EqAt A s u v (sE x u)
 |_,_,.nil,_=>λu hu=>by cases hu
 |y::xs,u::us,.cons r t,f=>λu' hu=>by
  rw[List.all_cons,Bool.and_eq_true] at f;rcases GM.mp hu with rfl|hu
  ·rw[w8 r f.1];exact Bb r rx f.1 fx
  ·exact hJ rx fx t f.2 u' hu
noncomputable def sG (x:V) (xs:List V):Bool:=xs.any λy=>yN y x
def E3 (K:G0) (neg:Bool):R2:=λx y H Q=>∃p xs,y= .ref p/\(aQ K H p xs∨bU K H p xs)/\ju x=true/\xs.all ju=true/\Q (.bl (if neg then !sG x xs else sG x xs)) H
theorem nM:iQ X (compareOp .In) (E3 X.K false):=by
 sleep 63;obtain ⟨p,xs,rfl,hq,fx,fs,q⟩:=h;cases ry;rcases hq with hq|hq
 ·obtain ⟨its,r,pl,hz⟩:=I.list hq;refine SeqAt.in_listAt (sE x) pl.isList 195 488
  sleep 91
  exact q
 ·obtain ⟨its,r,pl,hz⟩:=I.tuple hq;refine SeqAt.in_tupleAt (sE x) pl 195 488
  sleep 91
  exact q
theorem eM:iQ X (compareOp .NotIn) (E3 X.K true):=by
 sleep 63;obtain ⟨p,xs,rfl,hq,fx,fs,q⟩:=h;cases ry;rcases hq with hq|hq
 ·obtain ⟨its,r,pl,hz⟩:=I.list hq;refine SeqAt.notIn_listAt (sE x) pl.isList 195 488
  sleep 91
  exact q
 ·obtain ⟨its,r,pl,hz⟩:=I.tuple hq;refine SeqAt.notIn_tupleAt (sE x) pl 195 488
  sleep 91
  exact q
theorem jw:iQ X (compareOp .NotIn) (λx y H Q=>∃i j,x= .str i/\y= .str j/\Q (.bl (!(!(Builtin.Str.occurrences j i 0 j.length 1).isEmpty))) H):=by
 sleep 63;obtain ⟨i,j,rfl,rfl,q⟩:=h;obtain ⟨t,rfl⟩:=rx;obtain ⟨t',rfl⟩:=ry;exact notIn_str (.bl _,H,I,rfl,q)
theorem oY:cY X 435 (λxs H Q=>∃p ys,xs= [.ref p]/\(aQ X.K H p ys∨bU X.K H p ys)/\Q (.int ys.length) H):=by
 sleep 27;obtain ⟨p,ys,rfl,hq,q⟩:=h;obtain ⟨u,rfl,rx⟩:=vals1 r;cases rx;have hn:=lL;rcases hq with hq|hq
 ·obtain ⟨its,r',pl,hz⟩:=I.list hq;have hlen:=r'.length;exact Calls.call_len_list pl.isList 370 439
 ·obtain ⟨its,r',pl,hz⟩:=I.tuple hq;have hlen:=r'.length;exact len_tuple pl 370 439
theorem eO:cY X 435 (λxs H Q=>∃z,xs= [.str z]/\z.length<=sizeLine/\Q (.int z.length) H):=by
 sleep 27;obtain ⟨z,rfl,hz,q⟩:=h;obtain ⟨u,rfl,t,rfl⟩:=vals1 r;have hn:=lL;exact len_str 42 (.int z.length,H,I.tok _,⟨ν⟩,q)
theorem eP:cY X 249 (λxs H Q=>∃p ys,xs= [.ref p]/\(aQ X.K H p ys∨bU X.K H p ys)/\∀l,H l=none->Q 176 (556 l 263)):=by
 sleep 27;obtain ⟨p,ys,rfl,hq,q⟩:=h;obtain ⟨u,rfl,rx⟩:=vals1 r;cases rx;have fin:∀(its:KC),aZ ys its->ys.length<=sizeLine->∀(h':Heap) (c':Nat),(∀b o',s.heap.get? b=some o'->h'.get? b=some o')->
   h'.get? 35=some {cls:= .type "list",dict:=none,data:= .seq its.toArray c',slots:= #[]}->EP X pins σ Q 285 {s with heap:=h'}:=λits r' hz h' c' kp e=>
  ⟨.ref 35,_,I.laid (t':=s.toks) kp 173 (show aY X.prog X.w _ h' _ 263 from ⟨hz,its,c',r',e⟩),rfl,q _ 408⟩
 rcases hq with hq|hq
 ·obtain ⟨its,r',pl,hz⟩:=I.list hq;have hlen:=r'.length;obtain ⟨o,ho,hc,n,hd⟩:=pl.isList;exact call_list_seq p (.inl rfl) ho hc hd (λh' c' kp e=>fin its r' hz h' c' kp e) 370
 ·obtain ⟨its,r',pl,hz⟩:=I.tuple hq;have hlen:=r'.length;obtain ⟨o,ho,hc,n,hd⟩:=pl;exact call_list_seq p (.inr rfl) ho hc hd (λh' c' kp e=>fin its r' hz h' c' kp e) 370
def FD (K:G0) (T:String) (x:V) (H:Hp):Prop:=match x with
 | .str _=>T= "str"
 | .int _=>T= "int"
 | .ref p=>(T= "list" /\∃xs,aQ K H p xs)∨(T= "tuple" /\∃o,K.lookup p=some o/\o.cls= .type "tuple" /\o.dict=none)∨
   (T= "dict" /\((∃kvs,H p=some 109)∨∃kvs,H p=some 223))∨(T= "set" /\∃S n,H p=some (.set S n))
 |_=>False
theorem xc {pins:Ky} {σ:St} {H:Hp} {s:Shared} {T:String} {x:V} {v:Value} (I:aG X pins σ H s) (r:RelV x v) (ty:FD X.K T x H):
  s.TypeIs v T/\∀a,v= .ref a->∃ob,s.heap.get? a=some ob/\ob.dict=none:=by
 cases x with
 |str z=>
  obtain ⟨t,rfl⟩:=r;cases (show T= "str" from ty)
  exact (typeIs_str s z t,λ_ e=>nomatch e)
 |int i=>
  obtain ⟨t,rfl⟩:=r;cases (show T= "int" from ty)
  exact (typeIs_int s i t,λ_ e=>nomatch e)
 |ref p=>
  cases r;rcases ty with ⟨rfl,xs,hq⟩|⟨rfl,o,hk,hc,hd⟩|⟨rfl,hk⟩|⟨rfl,S,n,hk⟩
  ·obtain ⟨its,_,pl,_⟩:=I.list hq;refine (pl.isList.typeIs,λa e=>?_)
   cases e;obtain ⟨o,n,e,c,hd,_⟩:=pl;exact (o,e,hd)
  ·refine ((o,I.kIn p o hk,hc),λa e=>?_)
   cases e;exact (o,I.kIn _ o hk,hd)
  ·have z:∃o,s.heap.get? p=some o/\o.ExactDict:=by
    rcases hk with ⟨kvs,hk⟩|⟨kvs,hk⟩
    ·obtain ⟨_,_,_,_,o,_,_,e,ex,_⟩:=I.hok p _ hk;exact (o,e,ex)
    ·obtain ⟨_,_,_,_,o,_,_,e,ex,_⟩:=I.hok p _ hk;exact (o,e,ex)
   obtain ⟨o,e,ex⟩:=z;refine ((o,e,ex.1),λa e2=>?_)
   cases e2;exact (o,e,ex.2.1)
  ·obtain ⟨o,_,_,_,e,ex,_⟩:=I.hok p _ hk;refine ((o,e,ex.1),λa e2=>?_)
   cases e2;exact (o,e,ex.2.1)
 |_=>exact False.elim ty
def FE (K:G0) (T:String) (r:V->List V->Hp->VK->Prop) (to:TE):TE:=λσ H Q=>to σ H λx H1=>FD K T x H1/\r x [] H1 Q
def GE (K:G0) (T:String) (r:V->List V->Hp->VK->Prop) (to:TE) (t:TA):TE:=λσ H Q=>to σ H λx H1=>FD K T x H1/\t σ H1 λxs H2=>r x xs H2 Q
variable {o e:Expr} {es:List Expr} {to:TE} {t:TA} {name:Str} {apos cpos:Pos} {T id:String} {r:V->List V->Hp->VK->Prop}
theorem sH (pa:PlainAttrs T) (slot:Slot T name id) (hty:typeOf 448=pure (.type "method_descriptor")) (hm:Fx X id r) (ho:PE X o to)
  (hbase:attributeBase o name X.env (eval o X.env)=eval o X.env:=by rfl) (hline:493=true:=by rfl):PE X (.Call (.Attribute o name apos) [] [] cpos) (FE X.K T r to):=by
 sleep 66;refine wpAny_Call_method0_late hbase hline (bH 398 λv s1 (x,H1,I1,r1,ty,q1)=>?_)
 obtain ⟨h1,h2⟩:=xc I1 r1 ty;exact (T,id,pa,slot,hty,h1,h2,Calls.callWith_builtin rfl (PySem.evalArgs_none (hm pins s1 σ H1 x [] v [] Q I1 r1 .nil q1)))
theorem eJ (pa:PlainAttrs T) (slot:Slot T name id) (hty:typeOf 448=pure (.type "method_descriptor")) (hm:Fx X id r) (ho:PE X o to) (ha:PA X (e::es) t)
  (hbase:attributeBase o name X.env (eval o X.env)=eval o X.env:=by rfl)
  (hfew:((backTo cpos 197).all (λx=> !x.1)&&(backToKw cpos (keywordEach [] X.env)).all (λx=>x.1.isSome)
   &&decide ((e::es).length+([]:List Keyword).length+522<30))=true:=by rfl)
  (hline:493=true:=by rfl) (hs:starEach (e::es) X.env=(false,eval e X.env)::starEach es X.env:=by rfl) (hplain:(backTo cpos 112).any 111=false:=by rfl):
  PE X (.Call (.Attribute o name apos) (e::es) [] cpos) (GE X.K T r to t):=by
 sleep 66;refine wpAny_Call_method_late hbase hfew hline rfl (bH 398 λv s1 (x,H1,I1,r1,ty,q1)=>?_)
 obtain ⟨h1,h2⟩:=xc I1 r1 ty;exists T,id,pa,slot,hty,h1,h2;have hA:=ha cpos pins s1 σ H1 _ I1 q1;rw[hs] at hA⊢;refine Calls.callWith_builtin (by show (false||(backTo cpos 112).any 111)=false;rw[hplain]<;>rfl) (Calls.evalArgs_plain ?_)
 exact bH hA λus s2 (vs,H2,I2,r2,q2)=>hm pins s2 σ H2 x vs v us Q I2 r1 r2 q2
universe z0
def FF (X:Cx) (id:String) (r:V->List V->Hp->VK->Prop):Prop:=
 ∀(pins:Ky) (s:Shared) (σ:St) (H:Hp) (x:V) (xs:List V) (v:Value) (us:KC) (Q:VK),aG X pins σ H s->RelV x v->aZ xs us->r x xs H Q->
  wpAny 69 X.A (call 448 (v::us)) 238 X.xe s
theorem aZ.one:∀{x:V} {us:KC},aZ [x] us->∃u,us= [u]/\RelV x u
 |_,_,.cons r .nil=>⟨_,rfl,r⟩
theorem aZ.zero:∀{us:KC},aZ [] us->us= []
 |_,.nil=>rfl
theorem aZ.dropLast {xs:List V} {us:KC} (h:aZ xs us):aZ xs.dropLast us.dropLast:=by
 induction h with
 |nil=>exact .nil
 |cons r t ih=>
  cases t with
  |nil=>exact .nil
  |cons q t'=>exact .cons r ih
theorem sI {α:Type} (l:List α):l.eraseIdx (l.length-1)=l.dropLast:=by
 induction l with
 |nil=>rfl
 |cons a r ih=>
  cases r with
  |nil=>rfl
  |cons b r=>
   have e:(a::b::r).length-1=((b::r).length-1)+1:=by
    have h1:(a::b::r).length=r.length+2:=rfl;have h2:(b::r).length=r.length+1:=rfl
    lia
   rw[e,List.eraseIdx_cons_succ,ih]
   all_goals rfl
section
variable {X:Cx} {pins:Ky} {σ:St} {H:Hp} {s:Shared} {l b:Addr} {xs ys zs:List V}
theorem aG.lset {its its':KC} {n:Nat} {f:Array Value->Array Value} {t':Nat} (I:aG X pins σ H s) (hH:H l=some 389)
  (e:s.heap.get? l=some {cls:= .type "list",data:= .seq its.toArray n}) (hf:f its.toArray=its'.toArray) (hv:aZ ys its') (hz:ys.length<=sizeLine):
  aG X pins σ (556 l 263) {s with heap:=s.heap.update l (Obj.mapSeq f),toks:=t'}:=by
 have q:=PySem.IsL.update e f;rw[hf] at q;refine I.write (x:=l) (e:=l) (by rw[hH];exact trivial) (.inl rfl) (λb' u hb hu=>(Heap.get?_update_other s.heap (Obj.mapSeq f) 248).trans hu) (_,q) ?_
 exact (hz,its',_,hv,q)
theorem aG.lnew {its:KC} {t':Nat} (I:aG X pins σ H s) (hv:aZ ys its) (hz:ys.length<=sizeLine):
  aG X pins σ (556 35 263) {s with heap:=s.heap.push {cls:= .type "list",data:= .seq its.toArray},toks:=t'}:=
 I.laid 503 173 ⟨hz,its,0,hv,81 _ rfl⟩
theorem aG.fresh (I:aG X pins σ H s):H 35=none:=I.hok.fresh 173
theorem aG.lstM (I:aG X pins σ H s) (hH:H l=some 389):xs.length<=sizeLine/\∃(its:KC) (n:Nat),aZ xs its/\xs.length=its.length/\s.heap.get? l=some {cls:= .type "list",data:= .seq its.toArray n}:=by
 obtain ⟨z,its,n,r,e⟩:=I.hok l _ hH;exact (z,its,n,r,r.length,e)
universe z0
variable {X:Cx}
def y9:V->List V->Hp->VK->Prop:=λx vs H Q=>∃l xs y,x= .ref l/\vs= [y]/\H l=some 389/\xs.length<sizeLine/\Q .non (556 l (.lst (xs++ [y])))
theorem bL:FF X "list.append" y9:=by
 sleep 185;obtain ⟨l,xs,y,rfl,rfl,hH,hz,q⟩:=h;cases rx;obtain ⟨u,rfl,ru⟩:=rv.one;sleep 282;refine call_meets F.slot_list_append (_,e,rfl) F.entry_list_append (F.args_list_append_2 _ _) (PySem.list_append l its.toArray n u (by rw[HF];lia)) (e,?_)
 refine (.non,_,I.lset (its':=its++ [u]) hH e 73 (r.append (.cons ru .nil)) ?_,rfl,q)
 rw[G8,GV]
 lia
def FH:V->List V->Hp->VK->Prop:=λx vs H Q=>∃l xs y,x= .ref l/\vs= []/\H l=some 389/\xs[xs.length-1]?=some y/\Q y (556 l (.lst xs.dropLast))
theorem xf:FF X "list.pop" FH:=by
 sleep 185;obtain ⟨l,xs,y,rfl,rfl,hH,hy,q⟩:=h;cases rx;have hus:=rv.zero;subst hus;sleep 282;obtain ⟨u,hu,ru⟩:=r.get hy;have hy':its.toArray[its.toArray.size-1]?=some u:=by
  show its.toArray[its.length-1]?=some u;rw[<-HX,<-hl];exact hu
 refine call_meets F.slot_list_pop (_,e,rfl) F.entry_list_pop (F.args_list_pop_1 _) (MeetsSeq.list_pop_last l its.toArray n u hy' (by rw[HF];lia)) (e,?_)
 refine (y,_,I.lset (its':=its.dropLast) hH e ?_ r.dropLast ?_,ru,q)
 ·show its.toArray.eraseIdxIfInBounds (its.toArray.size-1)=its.dropLast.toArray;rw[HF,List.eraseIdxIfInBounds_toArray,sI]
 ·rw[List.length_dropLast]
  lia
def FI:R2:=λx y H Q=>∃l b xs zs,x= .ref l/\y= .ref b/\H l=some 389/\H b=some (.lst zs)/\xs.length+zs.length<=sizeLine/\∀p,H p=none->Q 133 (556 p (.lst (xs++zs)))
theorem sJ:iQ X (binaryOp .Add) FI:=by
 sleep 63;obtain ⟨l,b,xs,zs,rfl,rfl,hH,hB,hz,q⟩:=h;cases rx;cases ry;sleep 282;obtain ⟨z2,its2,n2,r2,hl2,e2⟩:=I.lstM hB;refine PySem.P.add_list e e2 ?_ (by rw[HF,HF];lia)
 have ea:its.toArray++its2.toArray=(its++its2).toArray:=by simp
 rw[ea];exact (.ref _,_,I.lnew (t':=s.toks) (r.append r2) (by rw[G8];lia),rfl,q _ I.fresh)
section
variable {κ:Type} [DecidableEq κ]
noncomputable def aT (kvs:List 337) (k:κ):Option V:=(kvs.find? λkv=>decide (kv.1=k)).map (·.2)
noncomputable def putK (kvs:List 337) (k:κ) (v:V):List (κ×V):=
 if 224=true then kvs.map (λkv=>if kv.1=k then (kv.1,v) else kv) else kvs++ [(k,v)]
theorem bO {p:κ×V} {r:List 337} {k:κ} (e:p.1=k):aT (p::r) k=some p.2:=by simp[aT,Ir,e]
theorem bR {p:κ×V} {r:List 337} {k:κ} (e:¬p.1=k):aT (p::r) k=aT r k:=by simp[aT,Ir,e]
theorem gb (k:κ):∀kvs:List 337,224=(aT kvs k).isSome
 | []=>rfl
 |p::r=>by
  rw[List.any_cons]
  by_cases e:p.1=k
  ·simp only[bO e,decide_eq_true e,Bool.true_or,Option.isSome_some]
  ·rw[bR e,decide_eq_false e,Bool.false_or];exact gb k r
theorem qo (k j:κ) (y:V):∀kvs:List 337,aT 274 j=(aT kvs j).map λx=>if j=k then y else x
 | []=>rfl
 |p::r=>by
  have ih:=qo k j y r;rw[HY]
  by_cases h:p.1=k
  ·rw[if_pos h]
   by_cases e:p.1=j
   ·rw[bO (p:=(p.1,y)) e,bO e,Io,if_pos (e.symm.trans h)]
   ·rw[bR (p:=(p.1,y)) e,bR e,ih]
  ·rw[if_neg h]
   by_cases e:p.1=j
   ·rw[bO (p:=p) e,bO e,Io,if_neg (λz=>h (e.trans z))]
   ·rw[bR (p:=p) e,bR e,ih]
theorem nN (k j:κ) (y:V):∀kvs:List 337,aT kvs k=none->aT (kvs++ [(k,y)]) j=if j=k then some y else aT kvs j
 | [],_=>by
  by_cases e:k=j
  ·rw[if_pos e.symm];exact bO (p:=(k,y)) e
  ·rw[if_neg (λz=>e z.symm)];exact bR (p:=(k,y)) e
 |p::r,hn=>by
  rw[Ij];have hk:¬p.1=k:=λz=>by rw[bO z] at hn;cases hn
  rw[bR hk] at hn;have ih:=nN k j y r hn
  by_cases e:p.1=j
  ·rw[bO e,bO e,if_neg (λz=>hk (e.trans z))]
  ·rw[bR e,bR e,ih]
theorem hV (kvs:List 337) (k j:κ) (y:V):aT (putK kvs k y) j=if j=k then some y else aT kvs j:=by
 unfold putK
 by_cases a:224=true
 ·rw[if_pos a,qo];rw[gb] at a
  by_cases e:j=k
  ·obtain ⟨x,hx⟩:=IF.mp a;rw[if_pos e,e,hx,Io,if_pos rfl]
  ·rw[if_neg e];cases aT kvs j with
   |none=>rfl
   |some x=>rw[Io,if_neg e]
 ·rw[if_neg a];refine nN k j y kvs ?_;rw[gb] at a;cases q:aT kvs k with
  |none=>rfl
  |some x=>rw[q] at a;exact (a rfl).elim
theorem eB (kvs:List 337) (k:κ) (v:V):(putK kvs k v).length<=kvs.length+1:=by
 unfold putK
 split
 ·rw[G2];lia
 ·rw[G8,HS,IS];lia
theorem hZ {kvs:List 337} {k:κ} (v:V) (h:aT kvs k=none):putK kvs k v=kvs++ [(k,v)]:=by
 unfold putK;rw[gb,h];exact if_neg 13
theorem fW.isSome_eq {o:Option V} {u:KH} (r:fW o u):o.isSome=u.isSome:=by
 cases o with
 |none=>cases u with
  |none=>rfl
  |some _=>exact (show False from r).elim
 |some _=>cases u with
  |none=>exact (show False from r).elim
  |some _=>rfl
theorem fW.getD {o:Option V} {u:KH} {d:V} {d':Value} (r:fW o u) (rd:RelV d d'):RelV (o.getD d) (u.getD d'):=by
 cases o with
 |none=>cases u with
  |none=>exact rd
  |some _=>exact (show False from r).elim
 |some _=>cases u with
  |none=>exact (show False from r).elim
  |some _=>exact r
theorem KV.val {kvs:List 337} {vs:List 527} (r:KV kvs vs) (k:κ):fW (aT kvs k) (valueAt vs k):=by
 unfold KV at r
 induction r with
 |nil=>exact True.intro
 | @cons p q ps qs h t ih=>
  obtain ⟨h1,h2⟩:=h
  by_cases e:p.1=k
  ·have e':q.1=k:=h1.symm.trans e;have b:valueAt (q::qs) k=some q.2:=by simp[valueAt,Ir,e']
   rw[bO e,b];exact h2
  ·have e':¬q.1=k:=λz=>e (h1.trans z)
   have b:valueAt (q::qs) k=valueAt qs k:=by simp[valueAt,Ir,e']
   rw[bR e,b];exact ih
theorem KV.any {kvs:List 337} {vs:List 527} (r:KV kvs vs) (k:κ):224=vs.any λkv=>decide (kv.1=k):=by
 unfold KV at r
 induction r with
 |nil=>rfl
 |cons h t ih=>rw[List.any_cons,List.any_cons,ih,h.1]
theorem KV.repl {kvs:List 337} {vs:List 527} (r:KV kvs vs) (k:κ) {y:V} {u:Value} (ry:RelV y u):
  KV 274 (vs.map λkv=>if kv.1=k then (kv.1,u) else kv):=by
 unfold KV at r⊢
 induction r with
 |nil=>exact .nil
 | @cons p q ps qs h t ih=>
  rw[HY,HY];refine .cons ?_ ih;obtain ⟨h1,h2⟩:=h
  by_cases e:p.1=k
  ·rw[if_pos e,if_pos (h1.symm.trans e)];exact (h1,ry)
  ·rw[if_neg e,if_neg (λz=>e (h1.trans z))];exact (h1,h2)
theorem KV.put {kvs:List 337} {vs:List 527} (r:KV kvs vs) (k:κ) {y:V} {u:Value} (ry:RelV y u):KV (putK kvs k y) (stored vs k u):=by
 unfold putK stored;rw[r.any k]
 by_cases e:(vs.any λkv=>decide (kv.1=k))=true
 ·rw[if_pos e,if_pos e];exact r.repl k ry
 ·rw[if_neg e,if_neg e];exact Paired.snoc r (rfl,ry)
theorem KV.length {kvs:List 337} {vs:List 527} (r:KV kvs vs):kvs.length=vs.length:=Paired.length r
universe z0
theorem kB {P:Program} {w:World} {k:Key} {u:Value} (r:RelV (kV k) u):(bE P w).is k u=true:=by
 cases k with
 |inl i=>obtain ⟨t,e⟩:=(show ∃t,u=Value.int i t from r);subst e;exact qd P w i t
 |inr x=>obtain ⟨t,e⟩:=(show ∃t,u=Value.str x t from r);subst e;exact qf P w x t
theorem nO {P:Program} {w:World}:∀{ks:List Key} {us:KC},aZ (ks.map kV) us->ItemsAre 531 ks us
 | [],_,r=>by rw[List.map_nil] at r;cases r;exact .nil
 |k::ks,_,r=>by
  rw[HY] at r;cases r with
  |cons h t=>exact .cons (kB h) (nO t)
abbrev KT (H:Hp):List 125->List 244->Prop:=Paired λp q=>p.1=q.1/\H q.2.1=some (.tup (p.1.map kV))/\RelV p.2 q.2.2
theorem KT.val {H:Hp} {kvs:List 125} {xs:List 244} (r:KT H kvs xs) (k:List Key):fW (aT kvs k) ((atKey xs k).map (·.2)):=by
 induction r with
 |nil=>exact True.intro
 | @cons p q ps qs h t ih=>
  obtain ⟨h1,_,h2⟩:=h
  by_cases e:p.1=k
  ·have e':q.1=k:=h1.symm.trans e;have b:atKey (q::qs) k=some q.2:=by simp[atKey,Ir,e']
   rw[bO e,b];exact h2
  ·have e':¬q.1=k:=λz=>e (h1.trans z)
   have b:atKey (q::qs) k=atKey qs k:=by simp[atKey,Ir,e']
   rw[bR e,b];exact ih
theorem KT.repl {H:Hp} {kvs:List 125} {xs:List 244} (r:KT H kvs xs) (k:List Key) {y:V} {u:Value} (ry:RelV y u):
  KT H 274 (xs.map (putAt k u)):=by
 induction r with
 |nil=>exact .nil
 | @cons p q ps qs h t ih=>
  rw[HY,HY];refine .cons ?_ ih;obtain ⟨h1,h2,h3⟩:=h;unfold putAt
  by_cases e:p.1=k
  ·rw[if_pos e,if_pos (h1.symm.trans e)];exact (h1,h2,ry)
  ·rw[if_neg e,if_neg (λz=>e (h1.trans z))];exact (h1,h2,h3)
theorem KT.put {H:Hp} {kvs:List 125} {xs:List 244} (r:KT H kvs xs) (k:List Key) {b:Addr} {y:V} {u:Value} (hb:H b=some 254) (ry:RelV y u):
  KT H (putK kvs k y) (storedH xs k b u):=by
 have e:224=(atKey xs k).isSome:=by
  rw[gb,(r.val k).isSome_eq,Option.isSome_map]
 unfold putK storedH;rw[e]
 by_cases q:(atKey xs k).isSome=true
 ·rw[if_pos q,if_pos q];exact r.repl k ry
 ·rw[if_neg q,if_neg q];exact Paired.snoc r (rfl,hb,ry)
theorem KT.keeps {H H':Hp} {kvs:List 125} {xs:List 244} (r:KT H kvs xs) (ht:∀b ys,H b=some (.tup ys)->H' b=some (.tup ys)):KT H' kvs xs:=
 Paired.mapP r λ_ _ z=>⟨z.1,ht _ _ z.2.1,z.2.2⟩
section
variable {P:Program} {w:World} {H:Hp} {h:Heap} {a:Addr}
theorem AJ {u:HO} (ok:fX P w H h) (e:Rd H a u):aY P w H h a u:=e.ok ok
theorem kC {kvs:List 103} (ok:fX P w H h) (e:Rd H a 109):kvs.length<=sizeLine/\(a==sysModules)=false/\∃vs,KV kvs vs/\h.DictOf 531 a vs:=
 show aY P w H h a 109 from AJ ok e
theorem jx {kvs:List 103} (ok:fX P w H h) (e:H a=some 109):kvs.length<=sizeLine/\(a==sysModules)=false/\∃vs,KV kvs vs/\h.DictOf 531 a vs:=kC ok (.inl e)
theorem jX {ks:List Key} (ok:fX P w H h) (e:H a=some (.tup (ks.map kV))):(tupleKind 531).is h ks a:=by
 obtain ⟨_,its,r,o,h1,h2,n,h3⟩:=(show aY P w H h a (.tup (ks.map kV)) from ok a _ e)
 exact (o,its.toArray,n,h1,h2,h3,by simpa using nO r)
theorem lO {kvs:List 125} (ok:fX P w H h) (e:Rd H a 223):kvs.length<=sizeLine/\(a==sysModules)=false/\
  ∃xs,KT H kvs xs/\h.DictOfH (tupleKind 531) a xs:=by
 obtain ⟨z,y,xs,r,o,es,ep,h1,h2,h3,h4,h5⟩:=(show aY P w H h a 223 from AJ ok e)
 refine (z,y,xs,r,o,es,ep,h1,h2,h3,h4,λx hx=>?_,h5)
 have all:∀{l:List 125} {m:List 244},KT H l m->∀x∈m,(tupleKind 531).is h x.1 x.2.1:=by
  intro l m q
  induction q with
  |nil=>intro x hx;exact nomatch hx
  | @cons p q ps qs hq t ih=>
   intro x hx;rcases GM.mp hx with e|hx
   ·subst e;exact jX ok (by rw[<-hq.1];exact hq.2.1)
   ·exact ih x hx
 exact all r x hx
theorem Dk {kvs:List 125} (ok:fX P w H h) (e:H a=some 223):kvs.length<=sizeLine/\(a==sysModules)=false/\
  ∃xs,KT H kvs xs/\h.DictOfH (tupleKind 531) a xs:=lO ok (.inl e)
universe z0
def cq (H:Hp) (a:Addr) (y:V) (r:Option V):Prop:=
 (∃kvs k,Rd H a 109/\y=kV k/\r=aT kvs k)∨∃kvs k b,Rd H a 223/\y= .ref b/\H b=some 254/\r=aT kvs k
def fj (H:Hp) (a:Addr) (y v:V) (H':Hp):Prop:=
 (∃kvs k,H a=some 109/\y=kV k/\kvs.length<sizeLine/\H'=ay H a (.dK 491))∨
 ∃kvs k b,H a=some 223/\y= .ref b/\H b=some 254/\kvs.length<sizeLine/\H'=ay H a (.dT 491)
theorem cq.k {H:Hp} {a:Addr} {kvs:List 103} {k:Key} (e:H a=some 109):cq H a (kV k) (aT kvs k):= .inl (kvs,k,.inl e,rfl,rfl)
theorem cq.t {H:Hp} {a b:Addr} {kvs:List 125} {k:List Key} (e:H a=some 223) (eb:H b=some 254):cq H a 447 (aT kvs k):= .inr (kvs,k,b,.inl e,rfl,eb,rfl)
theorem fj.k {H:Hp} {a:Addr} {kvs:List 103} {k:Key} {v:V} (e:H a=some 109) (hl:kvs.length<sizeLine):fj H a (kV k) v (ay H a (.dK 491)):= .inl (kvs,k,e,rfl,hl,rfl)
theorem fj.t {H:Hp} {a b:Addr} {kvs:List 125} {k:List Key} {v:V} (e:H a=some 223) (eb:H b=some 254) (hl:kvs.length<sizeLine):
  fj H a 447 v (ay H a (.dT 491)):= .inr ⟨kvs,k,b,e,rfl,eb,hl,rfl⟩
section
variable {pins:Ky} {σ:St} {H:Hp} {s:Shared} {a:Addr} {y v:V} {u r:Value} {o:Option V} {A:Around} {E:Ks}
theorem aG.big (I:aG X pins σ H s):sysModules<s.heap.objs.size:=by
 have h:mainGlobals<s.heap.objs.size:=(I.mod.glob.keeps I.bk).lt;exact Nat.lt_trans 13 h
theorem vG {Q:Ks} (hu:A.units+1<cLine) (I:aG X pins σ H s) (g:cq H a y (some v)) (ry:RelV y u) (h:∀w' s',aG X pins σ H s'->RelV v w'->Q w' s'):
  wpAny 69 A (getItem 134 u) Q E s:=by
 rcases g with ⟨kvs,k,e,ey,l⟩|⟨kvs,k,b,e,ey,eb,l⟩
 ·subst ey;sleep 133;obtain ⟨w',hw,rw'⟩:=fW.some_of (v:=v) (o:=valueAt vs k) (by rw[l];exact rel.val k)
  exact wpAny_getItem_of (kB ry) dd.mapOf hw (h w' _ 511 rw')
 ·subst ey;cases (show u=Value.ref b from ry)
  sleep 184;obtain ⟨w',hw,rw'⟩:=fW.some_of (v:=v) (o:=(atKey xs k).map (·.2)) (by rw[l];exact rel.val k)
  obtain ⟨p,hp,hp2⟩:=HB.mp hw;refine wpAny_getItem_heap 378 (jX I.hok eb) dd hp ?_;rw[hp2];exact h w' _ 511 rw'
theorem FJ {Q:Ks} (hu:A.units+1<cLine) (I:aG X pins σ H s) (g:cq H a y o) (ry:RelV y u) (h:∀s',aG X pins σ H s'->Q (.bool o.isSome) s'):
  wpAny 69 A (compareOp .In u 134) Q E s:=by
 rcases g with ⟨kvs,k,e,ey,l⟩|⟨kvs,k,b,e,ey,eb,l⟩
 ·subst ey;sleep 133;refine wpAny_in_of (kB ry) hd dd.mapOf ?_;rw[<-(rel.val k).isSome_eq,<-l];exact h _ 511
 ·subst ey;cases (show u=Value.ref b from ry)
  sleep 184;refine wpAny_in_heap 378 (jX I.hok eb) hd dd ?_;sleep 214
theorem za {Q:Ks} (hu:A.units+1<cLine) (I:aG X pins σ H s) (g:cq H a y o) (ry:RelV y u) (h:∀s',aG X pins σ H s'->Q (.bool (!o.isSome)) s'):
  wpAny 69 A (compareOp .NotIn u 134) Q E s:=by
 rcases g with ⟨kvs,k,e,ey,l⟩|⟨kvs,k,b,e,ey,eb,l⟩
 ·subst ey;sleep 133;refine wpAny_notIn_of (kB ry) hd dd.mapOf ?_;rw[<-(rel.val k).isSome_eq,<-l];exact h _ 511
 ·subst ey;cases (show u=Value.ref b from ry)
  sleep 184;refine wpAny_notIn_heap 378 (jX I.hok eb) hd dd ?_;sleep 214
theorem kZ {h':Heap} {t':Nat} {ob:HO} (I:aG X pins σ H s) (mu:CY (H a)) (hs:Heap.SameBut a s.heap h') (he:∃q,h'.get? a=some q) (new:aY X.prog X.w (556 a ob) h' a ob):
  aG X pins σ (556 a ob) {s with heap:=h',toks:=t'}:=
 I.write (x:=a) (e:=a) mu (.inl rfl) (λb q hb z=>(hs.2 b hb).trans z) he new
theorem sK {P:Program} {w:World} {H':Hp} {h':Heap} {kvs:List 103} {vs:List (Key×Value)} (z:kvs.length<=sizeLine) (hd:(a==sysModules)=false) (rel:KV kvs vs) (dd:h'.DictOf 531 a vs):
  aY P w H' h' a (.dK kvs):=⟨z,hd,vs,rel,dd⟩
theorem vH {H':Hp} {Q:Unit->Shared->Prop} (hu:A.units+1<cLine) (I:aG X pins σ H s) (g:fj H a y v H') (ry:RelV y u) (rv:RelV v r) (h:∀s',aG X pins σ H' s'->Q () s'):
  wpAny 69 A (setItem 134 u r) Q E s:=by
 rcases g with ⟨kvs,k,e,ey,l,eH⟩|⟨kvs,k,b,e,ey,eb,l,eH⟩
 ·subst ey eH;obtain ⟨z,hd,vs,rel,dd⟩:=jx I.hok e;have hz:vs.length<=sizeLine:=by rw[<-rel.length];exact z
  have hl:(putK kvs k v).length<=sizeLine:=by have:=eB kvs k v;lia
  refine wpAny_setItem_pairs (hsz:=hz) (kB ry) dd λh' dd' hs=>h _ ?_
  have he:∃q,h'.get? a=some q:=let ⟨q,_,_,hq,_⟩:=dd';⟨q,hq⟩;exact kZ I (by rw[e];exact True.intro) hs he (sK hl hd (rel.put k rv) dd')
 ·subst ey eH;cases (show u=Value.ref b from ry)
  obtain ⟨z,hd,xs,rel,dd⟩:=Dk I.hok e;have hz:xs.length<=sizeLine:=by rw[<-Paired.length rel];exact z
  have hl:(putK kvs k v).length<=sizeLine:=by have:=eB kvs k v;lia
  refine wpAny_setItem_heap (hsz:=hz) 378 (jX I.hok eb) dd λh' dd' hs=>h _ ?_
  obtain ⟨q,es,ep,hq,h2,h3,h4,_,h5⟩:=dd';refine kZ I (by rw[e];exact True.intro) hs ⟨q,hq⟩ ⟨hl,hd,_,(rel.put k eb rv).keeps λc ys ec=>?_,q,es,ep,hq,h2,h3,h4,h5⟩
  rw[ak (cV ec e 123)]
  exact ec
universe z0
section
variable {pins:Ky} {σ:St} {H:Hp} {s:Shared} {a:Addr} {kvs:List (Key×V)} {k:Key} {u:Value} {A:Around} {E:Ks}
theorem Dl {Q:Ks} (I:aG X pins σ H s) (e:Rd H a 109) (h:∀t s',aG X pins σ H s'->Q (.int kvs.length t) s'):wpAny 69 A (call 435 [.ref a]) Q E s:=by
 sleep 133;refine call_len_dict hd dd (by rw[<-rel.length];rw[sizeLine_eq] at z;lia) ?_
 rw[<-rel.length];exact h _ _ 511
universe z0
def Dm (i:Expr):Prop:=∀ov iv,subscripted i false ov iv=operate [ov,iv] (getItem ov iv)
theorem zb {prog:Program} {w:World} {A:Around} {E:Ks} {s:Shared} {env:Env} {value slice:Expr} {pos:Pos} {T id:String} {Q:Ks}
  (hl:typeLookup (.type T) "__getitem__" =pure (some 448)) (hs:Dm slice)
  (h:wpAny 68 A (eval value env) (λo s₁=>wpAny 68 A (eval slice env) (λi s₂=>s₂.TypeIs o T/\wpAny 68 A (getItem o i) Q E s₂) E s₁) E s):
  wpAny 68 A (eval (.Subscript value slice pos) env) Q E s:=by
 refine Subscript_ (wpAny_mono h (λo s₁ h₁=>wpAny_mono h₁ (λi s₂ h₂=>?_) λ_ _ x=>x) λ_ _ x=>x)
 obtain ⟨hT,h₂⟩:=h₂;unfold subscriptTail;sleep 205;rw[getitemInPython_of_ne hT.not_modules];refine wpAny_bind (wpAny_specialOf hT hl ?_);have fin:wpAny 68 A (subscripted slice false o i) (λr s₃=>wpAny 68 A (letTemporaryGo value o r>>=λ_=>pure r) Q E s₃) E s₂:=by
  rw[hs o i];exact wpAny_operating (wpAny_mono h₂ (λr s₃ h₃=>wpAny_bind (wpAny_letTemporaryGo (wpAny_pure h₃))) λ_ _ x=>x)
 first
  |exact wpAny_pure (wpAny_bind fin)
  |exact wpAny_bind (wpAny_pure (wpAny_bind fin))
  |exact wpAny_bind fin
theorem qp {X:Cx} {pins:Ky} {σ:St} {H:Hp} {s:Shared} {a:Addr} {y:V} {o:Option V} (I:aG X pins σ H s) (g:cq H a y o):s.TypeIs 134 "dict" :=by
 rcases g with ⟨kvs,k,e,_,_⟩|⟨kvs,k,b,e,_,_,_⟩
 ·obtain ⟨_,_,vs,_,dd⟩:=kC I.hok e;exact dd.typeIs
 ·obtain ⟨_,_,xs,_,dd⟩:=lO I.hok e;exact dd.typeIs
def Dn (td ty:TE):TE:=λσ H Q=>td σ H λx H1=>ty σ H1 λy H2=>∃a v,x= .ref a/\cq H2 a y (some v)/\Q v H2
def FK (ty td:TE):TE:=λσ H Q=>ty σ H λy H1=>td σ H1 λx H2=>∃a o,x= .ref a/\cq H2 a y o/\Q (.bl o.isSome) H2
def zc (ty td:TE):TE:=λσ H Q=>ty σ H λy H1=>td σ H1 λx H2=>∃a o,x= .ref a/\cq H2 a y o/\Q (.bl (!o.isSome)) H2
def Do (td ty tv:TE):TS:=λD σ H=>tv σ H λv H1=>td σ H1 λx H2=>ty σ H2 λy H3=>∃a H4,x= .ref a/\fj H3 a y v H4/\D.nx σ H4
section
variable {o i e value:Expr} {pos pos' tpos:Pos} {td ty tv:TE}
theorem eQ (hu:X.A.units+1<cLine) (ho:PE X o td) (hi:PE X i ty) (hs:Dm i):PE X (.Subscript o i pos) (Dn td ty):=by
 sleep 66;refine zb PySem.F.slot_dict_getitem.lookup hs (bH 398 λu s1 (x,H1,I1,rx,q1)=>bH (hi pins s1 σ H1 _ I1 q1) λiv s2 (y,H2,I2,ry,a,v,ex,g,q2)=>?_)
 sleep 62;exact (qp I2 g,vG hu I2 g ry λw' s3 I3 rw'=>(v,H2,I3,rw',q2))
theorem sM (hu:X.A.units+1<cLine) (hi:PE X i ty) (ho:PE X o td):PC X .In i o (FK ty td):=by
 sleep 66;sleep 147
 sleep 62;exact FJ hu I2 g ry λs3 I3=>(.bl ov.isSome,H2,I3,rfl,q2)
theorem du (hu:X.A.units+1<cLine) (hi:PE X i ty) (ho:PE X o td):PC X .NotIn i o (zc ty td):=by
 sleep 66;sleep 147
 sleep 62;exact za hu I2 g ry λs3 I3=>(.bl (!ov.isSome),H2,I3,rfl,q2)
theorem cH (hu:X.A.units+1<cLine) (ho:PE X o td) (hi:PE X i ty) (hv:PE X value tv) (hs:swapsWith value (some (.Subscript o i pos')) pos.line X.env=pure false):
  PS X (.Assign [.Subscript o i pos'] value pos) (Do td ty tv):=by
 sleep 225;refine wpAny_Assign_Subscript (bH (hv pins s σ H _ I h) λr s1 (v,H1,I1,rv,q1)=>bH (ho pins s1 σ H1 _ I1 q1) λu s2 (x,H2,I2,rx,q2)=>bH (hi pins s2 σ H2 _ I2 q2) λiv s3 (y,H3,I3,ry,a,H4,ex,g,q3)=>?_) hs
 sleep 62;exact vH hu I3 g ry rv λs4 I4=>(σ,H4,I4,q3)
universe z0
theorem qr {P:Program} {w:World} {H:Hp} (h:Heap) (hb:sysModules<h.objs.size):aY P w H (h.push 182) h.objs.size (.dK []):=
 ⟨HC _,beq_eq_false_iff_ne.mpr (Ne.symm (GL hb)),[],.nil,Heap.DictOf.new h⟩
theorem xg {P:Program} {w:World} {H:Hp} (h:Heap) (hb:sysModules<h.objs.size):aY P w H (h.push 182) h.objs.size (.dT []):=
 ⟨HC _,beq_eq_false_iff_ne.mpr (Ne.symm (GL hb)),[],.nil,_,#[],0,81 _ rfl,⟨rfl,rfl,rfl⟩,rfl,rfl,Ih⟩
def Bc:TE:=λ_ H Q=>∀p,H p=none->Q 133 (556 p 83)
def Be:TE:=λ_ H Q=>∀p,H p=none->Q 133 (556 p 487)
section
variable {pos:Pos}
theorem b8:PE X (.Dict [] [] pos) Bc:=λpins s σ H Q I h=>
 wpAny_Dict_empty ⟨.ref 35,_,I.laid (a:=35) (o:= .dK []) (t':=s.toks) 503 173 (qr s.heap I.big),rfl,h _ 408⟩
theorem qt:PE X (.Dict [] [] pos) Be:=λpins s σ H Q I h=>
 wpAny_Dict_empty ⟨.ref 35,_,I.laid (a:=35) (o:= .dT []) (t':=s.toks) 503 173 (xg s.heap I.big),rfl,h _ 408⟩
universe z0
def sN:List (TE×TE)->St->Hp->(List (V×V)->Hp->Prop)->Prop
 | [],_,H,Q=>Q [] H
 |(tk,tv)::r,σ,H,Q=>tk σ H λx H1=>tv σ H1 λy H2=>sN r σ H2 λps H3=>Q ((x,y)::ps) H3
abbrev VV:List (V×V)->List (Value×Value)->Prop:=Paired λp q=>RelV p.1 q.1/\RelV p.2 q.2
def E4 (X:Cx) (pos:Pos) (keys:List (Option Expr)) (values:List Expr) (trs:List (TE×TE)):Prop:=
 ∀(pins:Ky) (s:Shared) (σ:St) (H:Hp) (Q:List (V×V)->Hp->Prop),aG X pins σ H s->sN trs σ H Q->
  wpAny 69 X.A (evalPairs (pairTrees keys values X.env pos)) (λvs s'=>∃ps H',aG X pins σ H' s'/\VV ps vs/\Q ps H') X.xe s
theorem k7 {X:Cx} {pos:Pos}:E4 X pos [] [] []:=λpins s σ H Q I h=>pairTrees_nil_walk ([],H,I,.nil,h)
theorem jy {X:Cx} {pos:Pos} {k v:Expr} {ks:List (Option Expr)} {vs:List Expr} {tk tv:TE} {trs:List (TE×TE)} (hk:PE X k tk) (hv:PE X v tv) (hr:E4 X pos ks vs trs):
  E4 X pos (some k::ks) (v::vs) ((tk,tv)::trs):=λpins s σ H Q I h=>
 pairTrees_cons_walk (bH (hk pins s σ H _ I h) λu s1 ⟨x,H1,I1,rx,q1⟩=>bH (hv pins s1 σ H1 _ I1 q1) λw2 s2 ⟨y,H2,I2,ry,q2⟩=>
  bH (hr pins s2 σ H2 _ I2 q2) λws s3 ⟨ps,H3,I3,rel,q3⟩=>⟨(x,y)::ps,H3,I3,.cons ⟨rx,ry⟩ rel,q3⟩)
noncomputable def c7 (kvs more:List 103):List (Key×V):=more.foldl (λacc kv=>putK acc kv.1 kv.2) kvs
theorem KV.merge:∀{more:List 103} {rs:List (Key×Value)} {kvs:List 103} {vs:List (Key×Value)},KV more rs->KV kvs vs->KV (c7 kvs more) (merged vs rs):=by
 intro more rs kvs vs r;unfold KV at r
 induction r generalizing kvs vs with
 |nil=>intro q;exact q
 | @cons p q ps qs h t ih=>
  intro r0;have e:KV (putK kvs p.1 p.2) (stored vs q.1 q.2):=by
   have:=r0.put p.1 h.2;rw[<-h.1];exact this
  exact ih e
theorem iV:∀(more kvs:List 103),(c7 kvs more).length<=kvs.length+more.length
 | [],kvs=>by show kvs.length<=kvs.length+0;lia
 |p::r,kvs=>by
  have h1:=iV r (putK kvs p.1 p.2);have h2:=eB kvs p.1 p.2;show (c7 (putK kvs p.1 p.2) r).length<=_;rw[HS];lia
theorem lP {P:Program} {w:World}:∀{kvs:List 103} {ws:List (Value×Value)},VV (kvs.map λkv=>(kV kv.1,kv.2)) ws->∃rs,Carries 531 ws rs/\KV kvs rs
 | [],_,r=>by rw[List.map_nil] at r;cases r;exact ⟨[],True.intro,.nil⟩
 |p::kvs,_,r=>by
  rw[HY] at r;cases r with
  | @cons a b as bs h t=>
   obtain ⟨rs,c,q⟩:=lP (P:=P) (w:=w) t;obtain ⟨b1,b2⟩:=b;exact ((p.1,b2)::rs,(kB h.1,rfl,c),.cons (rfl,h.2) q)
def Dp (trs:List (TE×TE)):TE:=λσ H Q=>∀p,H p=none->sN trs σ (556 p 83) λps H2=>H2 p=some 83/\∃kvs:List 103,ps=kvs.map (λkv=>(kV kv.1,kv.2))/\kvs.length<=15/\Q 133 (ay H2 p (.dK (c7 [] kvs)))
theorem k8 {X:Cx} {pos:Pos} {keys:List (Option Expr)} {values:List Expr} {trs:List (TE×TE)} (h:E4 X pos keys values trs) (hall:keys.all (·.isSome)=true) (hl:keys.length=values.length) (h0:keys≠ [])
  (h15:keys.length<=15):PE X (.Dict keys values pos) (Dp trs):=by
 intro pins s σ H Q I q;have hn:=I.hok.fresh (G4 35);have I1:=I.laid (a:=35) (o:= .dK []) (h':=s.heap.push 182) (t':=s.toks) 503 173 (qr s.heap I.big)
 refine wpAny_Dict_walk (knd:=bE X.prog X.w) hall hl h0 h15 (bH (h pins _ σ _ _ I1 (q _ hn)) λws s2 (ps,H2,I2,rel,e,kvs,ep,lk,q2)=>?_)
 subst ep;obtain ⟨rs,c,rk⟩:=lP (P:=X.prog) (w:=X.w) rel;obtain ⟨z,hd,vs0,r0,dd⟩:=jx I2.hok e;cases r0;refine (rs,c,dd,λh' dd' hs=>(.ref 35,_,?_,rfl,q2))
 have hz:(c7 [] kvs).length<=sizeLine:=by
  have h1:=iV kvs [];rw[IS] at h1;rw[sizeLine_eq];lia
 have he:∃q,h'.get? 35=some q:=let ⟨q,_,_,hq,_⟩:=dd';⟨q,hq⟩;exact kZ I2 (by rw[e];exact True.intro) hs he (sK hz hd (rk.merge .nil) dd')
structure M2 (X:Cx) (o:Expr) (m:Str) (apos:Pos) (e f:Expr) (cpos:Pos):Prop where
 base:attributeBase o m X.env (eval o X.env)=eval o X.env
 few:((backTo cpos (starEach [e,f] X.env)).all (λx=> !x.1)&&(backToKw cpos (keywordEach [] X.env)).all (λx=>x.1.isSome)
  &&decide (([e,f]:List Expr).length+([]:List Keyword).length+522<30))=true
 line:493=true
 trees:backTo cpos (starEach [e,f] X.env)= [(false,eval e X.env),(false,eval f X.env)]
def Gn (H:Hp) (a:Addr):Prop:=(∃kvs,Rd H a 109)∨∃kvs,Rd H a 223
theorem Bf {X:Cx} {pins:Ky} {σ:St} {H:Hp} {s:Shared} {a:Addr} (I:aG X pins σ H s) (d:Gn H a):
  s.TypeIs 134 "dict" /\(∀b,Value.ref a= .ref b->∃ob,s.heap.get? b=some ob/\ob.dict=none)/\(a==sysModules)=false:=by
 rcases d with ⟨kvs,e⟩|⟨kvs,e⟩
 ·obtain ⟨_,hd,vs,_,dd⟩:=kC I.hok e;refine (dd.typeIs,λb q=>?_,hd)
  cases q;obtain ⟨ob,_,_,h1,h2,_⟩:=dd;exact (ob,h1,h2.2.1)
 ·obtain ⟨_,hd,xs,_,dd⟩:=lO I.hok e;refine (dd.typeIs,λb q=>?_,hd)
  cases q;obtain ⟨ob,_,_,h1,h2,_⟩:=dd;exact (ob,h1,h2.2.1)
section
variable {pins:Ky} {σ:St} {H:Hp} {s:Shared} {a:Addr} {y d:V} {u r:Value} {o:Option V} {A:Around} {E:Ks}
theorem Bg {Q:Ks} (hu:A.units+1<cLine) (I:aG X pins σ H s) (g:cq H a y o) (ry:RelV y u) (rd:RelV d r) (h:∀w' s',aG X pins σ H s'->RelV (o.getD d) w'->Q w' s'):
  wpAny 69 A (call (.builtin "dict.get") [.ref a,u,r]) Q E s:=by
 rcases g with ⟨kvs,k,e,ey,l⟩|⟨kvs,k,b,e,ey,eb,l⟩
 ·subst ey;sleep 133;refine call_meetsIn PySem.F.slot_dict_get dd.typeIs PySem.F.entry_dict_get (PySem.F.args_dict_get_3 _ _ _) (meets_dict_get_default 315 a (kB ry) hd r) (_,dd.mapOf,h _ _ 511 ?_);rw[l];exact (rel.val k).getD rd
 ·subst ey;cases (show u=Value.ref b from ry)
  sleep 184;refine call_meetsIn PySem.F.slot_dict_get dd.typeIs PySem.F.entry_dict_get (PySem.F.args_dict_get_3 _ _ _) (meetsH_dict_get_default (tupleKind 315) a b hd r) (tupleKind_room_in1 hu,k,xs,jX I.hok eb,dd,h _ _ 511 ?_);rw[l];exact (rel.val k).getD rd
universe z0
def Bh (td ty tx:TE):TE:=λσ H Q=>td σ H λx H1=>∃a,x= .ref a/\Gn H1 a/\ty σ H1 λy H2=>tx σ H2 λz H3=>∃o,cq H3 a y o/\Q (o.getD z) H3
section
variable {o e f:Expr} {apos cpos:Pos} {td ty tx:TE}
theorem eC (hu:X.A.units+1<cLine) (ho:PE X o td) (he:PE X e ty) (hf:PE X f tx) (m:M2 X o "get" apos e f cpos):PE X (.Call (.Attribute o "get" apos) [e,f] [] cpos) (Bh td ty tx):=by
 sleep 66;refine wpAny_Call_method m.base m.few m.line Ip PySem.F.slot_dict_get PySem.F.type_dict_get (bH 398 λu s1 (x,H1,I1,rx,a,ex,d,q1)=>?_)
 sleep 62;obtain ⟨t1,t2,_⟩:=Bf I1 d;exists t1,t2;rw[m.trees];refine Calls.callWith_builtin rfl (Calls.evalArgs_plain (Calls.spliced_cons (bH (he pins s1 σ H1 _ I1 q1) λiv s2 (y,H2,I2,ry,q2)=>
  Calls.spliced_cons (bH (hf pins s2 σ H2 _ I2 q2) λfv s3 ⟨z,H3,I3,rz,ov,g,q3⟩=>Calls.spliced_nil ?_))))
 exact Bg hu I3 g ry rz λw' s4 I4 rw'=>(_,H3,I4,rw',q3)
universe z0
universe L2
namespace Att
open PySem PySem.W PySem.Calls PyProof.Rows
theorem kP {P:Params} {h:Heap}:∀(ns:List Int) (vs:KC),WellAll P h vs (ns.map WData.int)->IntsAre vs ns:=by
 intro ns
 induction ns with
 |nil=>
  intro vs w;rw[List.map_nil] at w;cases w;exact .nil
 |cons n ns ih=>
  intro vs w;rw[HY] at w;cases w with
  |cons a b=>
   cases a;exact .cons _ _ (ih _ b)
theorem vI {l:OpenLaw} {n:Nat} (hn:l.most=some n) {P:Params} {h:Heap} {args:List WData} {vals:KC}
  (hpre:l.row.toRowW.claim.pre args=true) (hwl:WellAll P h vals args):
  ∃a vs ns,vals= [Value.ref a]/\args= [WData.list (ns.map WData.int)]/\h.get? a=some 166/\IntsAre vs ns/\ns.length<=n:=by
 have hsh:WShape.hasAll [] args [.list .int]=true:=(pre_splitW hpre).1;have hc:l.pre.holds [] {args:=args}=true:=(pre_splitW hpre).2;obtain ⟨d,r,rfl,h1,h2⟩:=hasAllW_cons hsh;obtain rfl:=hasAllW_nil h2;obtain ⟨xs,rfl,h3⟩:=hasW_list h1;obtain ⟨ns,rfl⟩:=items_int h3;have hlen:ns.length<=n:=by
  unfold OpenLaw.pre at hc;have h4:(WTm.not (.lt (.lit (.int (n:Int))) (.len (.arg 0)))).holds [] {args:= [.list (ns.map .int)]}=true:=by
   have h4:=(holds_andW hc).1;rw[hn] at h4;exact h4
  have h5:=condW_of h4 (w_not (w_lt w_lit (w_len_list (w_arg rfl))));rw[G2] at h5;refine Nat.le_of_not_lt λq=>?_
  have q':(n:Int)<((ns.length:Nat):Int):=by lia
  first
   |(rw[decide_eq_true q'] at h5;exact absurd h5 (by decide))
   |(simp at h5;lia)
 cases hwl with
 |cons w1 w2=>
  cases w2;cases w1 with
  |list ho hall=>exact ⟨_,_,ns,rfl,rfl,ho,kP ns _ hall,hlen⟩
theorem vJ (l:OpenLaw) (args:List WData):l.row.toRowW.claim.post args (.bool true) args=true:=
 postW_of (r:=l.row.toRowW) (X:=(true==true))
  (show WShape.has [] (.bool true) .bool=true by first|rfl|decide|simp[WShape.has,WShape.arms,WShape.armsAll])
  (show (WTm.eq .res (.lit (.bool true))).value [] {args:=args,res:=some (.bool true),after:=args}=some (.bool (true==true)) from w_eq_bool (w_res rfl) w_lit) rfl
theorem qu {l:OpenLaw} {n:Nat} {q:Program} {loose:KA} {XP:Kt->Heap->Prop} {YP:World->Heap->Prop} {d:DefRec}
  (hn:l.most=some n) (hdf:d.params.defaults= [])
  (call:∀(w:World) (s₀ s₁:Shared) (mg mb:Kt) (fa:Addr) (o:Obj) (pm cd doc:Value) (a:Addr) (vs:KC) (ns:List Int),
   Ground q loose [] XP w s₀ mg mb s₁.heap->YP w s₁.heap->
   s₁.heap.get? fa=some o->o.data= .func (docDef d.name d.params d.body d.scope pm cd doc)->s₁.heap.CodeRec cd d.name->mg d.name=some (.ref fa)->
   s₁.heap.get? a=some 166->IntsAre vs ns->ns.length<=n->s₁.gens= #[]->
   codeAny (model l.prog w) callerA 362 154 s₁):
  WalkO q loose XP YP l.row.toRowW d [] (λf vs=>PySem.call f vs):=by
 intro w s₀ s₁ mg mb G Y fa o pm cd doc dV kV ho hd hcd hD hmg hg args vals as hpre hlay hrd hwl hlo;obtain rfl:dV= .none:=Dflts.none hD hdf;obtain rfl:kV= .none:=Dflts.noKw hD;obtain ⟨a,vs,ns,rfl,rfl,hobj,hints,hlen⟩:=vI hn hpre hwl;refine enter_call (codeAny_mono (call w s₀ s₁ mg mb fa o pm cd doc a vs ns G Y ho (fd_plain hd) hcd hmg hobj hints hlen hg) λr s' hq=>?_)
 obtain ⟨rfl,h2,h3,h4⟩:=hq;exact (.inl (.bool true,.bool true,[],rfl,λ_=>rfl,.bool true,vJ l _,λ_=>(List.Pairwise.nil,λ_ hm=>(nomatch hm))),h2,h3,h4)
universe Att
namespace L2
open PySem PySem.Spec PyProof.Rows
theorem nP:∀{vs:KC} {ns:List Int},IntsAre vs ns->aZ 164 vs
 |_,_,.nil=> .nil
 |_,_,.cons n t h=> .cons ⟨t,rfl⟩ (nP h)
def Bi (H:Hp):Prop:=∀b,H b=none∨∃o xs,H b=some (.frz o 389)
theorem xh {P:Program} {w:World} {K:G0} {mg mb:Kt} {CX:sC} {k:Nat} {fa a:Addr} {fd:FuncData} {x:Str} {sp:Sp} {s₁:Shared} {vs:KC} {ns:List Int}
  (KX:K.In s₁.heap) (hns:s₁.heap.Ns mainGlobals mg) (hb:s₁.heap.Ns builtinsNs mb) (hbb:∀x:Str,x≠ "__name__" ->mb x=bootBuiltins x) (hlim:s₁.heap.NoLimit) (hg:s₁.gens= #[])
  (ha:s₁.heap.get? a=some 166) (hi:IntsAre vs ns) (hl:ns.length<=sizeLine) (hr:ce k callerA)
  (F:∀base:Heap,K.In base->base.Ns mainGlobals mg->bh P w K mg base CX k fa fd [x] sp) (hbind:∀(s:Shared) (u:Value),BindsTo s fd ⟨[u],[]⟩ [(x,u)])
  (hsp:∀H:Hp,Bi H->aQ K H a 164->sp [.ref a] H (λv _=>v= .bl true) λ_ _ _=>False)
  (hCX:∀H e s',CX [] H s₁ (λ_ _ _=>False) e s'->False):
  codeAny 404 callerA 362 154 s₁:=by
 have rv:=nP hi;have lenV:=hi.length;have core:∀H:Hp,Bi H->aQ K H a 164->fX P w H s₁.heap->(∀b,H b≠none->b=a)->(H a≠none->K.lookup a=none)->
   codeAny 404 callerA 362 154 s₁:=by
  intro H hO hS hok hA hK;have base_of:∀{b:Addr} {o:Obj},s₁.heap.get? b=some o->H b=none->(oS s₁.heap H).get? b=some o:=λe n=>wQ e n
  have noA:∀{b:Addr} {o:Obj} {es:Array DictEntry} {ep:Nat},s₁.heap.get? b=some o->o.data= .dict es ep->H b=none:=λ{b o es ep} e d=>by
   cases q:H b with
   |none=>rfl
   |some u=>
    have e':b=a:=hA b (by rw[q];simp)
    subst e';rw[ha] at e;cases e;have d':Data.seq vs.toArray _=Data.dict es ep:=d;cases d'
  have nsK:∀{b:Addr} {m:Kt},s₁.heap.Ns b m->(oS s₁.heap H).Ns b m:=λ{b m} (o,es,ep,e,d,r)=>(o,es,ep,base_of e (noA e d),d,r)
  have hKb:K.In (oS s₁.heap H):=λb o e=>base_of (KX b o e) (by
   cases q:H b with
   |none=>rfl
   |some u=>
    have e':b=a:=hA b (by rw[q];simp)
    subst e';rw[hK (by rw[q];simp)] at e;cases e)
  have hM:Mod K mg (oS s₁.heap H):=⟨hKb,nsK hns,⟨mb,nsK hb,hbb⟩,let ⟨mc,h1,h2⟩:=hlim;⟨mc,nsK h1,h2⟩⟩;have e0:m3 P w K mg (oS s₁.heap H) callerA [] s₁ H:=(rfl,hM,λb o e=>yT e,Nat.le_of_eq (vB _ _),trivial,λb hb=>absurd (show b∈([]:KB) from hb) (by simp),hok,.of_eq hg)
  refine codeAny_mono ((F _ hKb (nsK hns)).run callerA [] s₁ H ([.ref a],[]) [.ref a] [.ref a] _ _ hr e0 (hbind s₁ 134) (.cons rfl .nil) (hsp H hO hS)) λr s' h=>?_
  cases r with
  |error e=>exact (hCX H e s' h).elim
  |ok fl=>
   cases fl with
   |next=>exact False.elim h
   |brk=>exact False.elim h
   |cont=>exact False.elim h
   |ret u=>
    obtain ⟨v,H',os,bare,un,hok',r',q⟩:=h;have q':v= .bl true:=q;subst q';obtain rfl:u=Value.bool true:=r';refine (rfl,OldK.of_keep λb o e=>?_,os,bare)
    cases q:H b with
    |none=>exact un.keep b o e q (by intro z;exact absurd (show b∈([]:KB) from z) 73) 73
    |some u=>
     rcases hO b with z|⟨ob,xs,z⟩
     ·rw[q] at z;cases z
     ·have z2:=un.frzs b ob _ z;obtain ⟨e1,_⟩:=hok b _ z;obtain ⟨e2,_⟩:=hok' b _ z2;rw[e] at e1;cases e1;exact e2
 cases hk:K.lookup a with
 |some o=>
  have e:=KX a o hk;rw[ha] at e;cases e;refine core (λ_=>none) (λ_=> .inl rfl) (.inr (_,vs.toArray,_,hk,rfl,rfl,rfl,by rw[HF,lenV];exact hl,by simpa using rv)) (λb u z=>by have z':(none:Option HO)=some u:=z;cases z') (λb z=>absurd rfl z) λz=>absurd rfl z
 |none=>
  refine core (λb=>if b=a then some (.frz 166 (.lst 164)) else none) (λb=>?_) (.inl (.inr (166,if_pos rfl))) (λb u z=>?_) (λb z=>?_) λ_=>hk
  ·by_cases hb:b=a
   ·exact .inr (_,_,if_pos hb)
   ·exact .inl (if_neg hb)
  ·by_cases hb:b=a
   ·have z':=(if_pos hb).symm.trans z;cases z';subst hb;exact (ha,by rw[G2];exact hl,vs,_,rv,ha)
   ·have z':=(if_neg hb).symm.trans z;cases z'
  ·by_cases hb:b=a
   ·exact hb
   ·exact absurd (if_neg hb) z
theorem zd {l:PySem.W.OpenLaw} {n k:Nat} {q:Program} {loose:KA} {XP:Kt->Heap->Prop} {YP:World->Heap->Prop} {d:DefRec} {K:Params->G0} {CX:World->sC} {sp:World->Sp} {x:Str}
  (hn:l.most=some n) (hn2:n<=sizeLine) (hdf:d.params.defaults= []) (hr:ce k callerA)
  (hY:∀(w:World) (h:Heap),YP w h->(K w.params).In h)
  (F:∀(w:World) (mg:Kt) (fa:Addr) (h:Heap),(K w.params).In h->h.Ns mainGlobals mg->mg d.name=some (.ref fa)->
   ∃fd:FuncData,(∀(s:Shared) (u:Value),BindsTo s fd ⟨[u],[]⟩ [(x,u)])/\
    ∀base:Heap,(K w.params).In base->base.Ns mainGlobals mg->bh l.prog w (K w.params) mg base (CX w) k fa fd [x] (sp w))
  (hsp:∀(w:World) (H:Hp) (a:Addr) (ns:List Int),ns.length<=n->Bi H->aQ (K w.params) H a 164->sp w [.ref a] H (λv _=>v= .bl true) λ_ _ _=>False)
  (hCX:∀(w:World) (H:Hp) (s:Shared) (e:Value) (s':Shared),CX w [] H s (λ_ _ _=>False) e s'->False):
  PySem.W.WalkO q loose XP YP l.row.toRowW d [] (λf vs=>PySem.call f vs):=by
 refine Att.qu hn hdf λw s₀ s₁ mg mb fa o pm cd doc a vs ns G Y ho hd hcd hmg hobj hints hlen hg=>?_
 have KX:=hY w _ Y;obtain ⟨fd,hb,hF⟩:=F w mg fa _ KX G.T.g hmg;exact xh KX G.T.g G.T.b G.T.builtins G.T.nolimit hg hobj hints (HN hlen hn2) hr hF hb (λH hO hS=>hsp w H a ns hlen hO hS) λH e s'=>hCX w H s₁ e s'
noncomputable def dB (s:Stmt):Arguments:=match s with
 | .FunctionDef _ a _ _ _ _ _ _ _ _=>a
 |_=>{posonlyargs:= [],args:= [],vararg:=none,kwonlyargs:= [],kw_defaults:= [],kwarg:=none,defaults:= []}
noncomputable def cD (s:Stmt):List Stmt:=match s with
 | .FunctionDef _ _ b _ _ _ _ _ _ _=>b
 |_=> []
noncomputable def au (s:Stmt):Scope:=match s with
 | .FunctionDef _ _ _ _ _ _ sc _ _ _=>sc
 |_=>{kind:= .function,names:= [],isGenerator:=false,isCoroutine:=false}
abbrev bC:sC:=λ_ _ _ _ _ _=>False
abbrev E0:XK:=λ_ _ _=>False
theorem qw {X:Cx}:jV bC X E0:=λ_ _ _ _ _ _ _ h=>h.elim
theorem bY {A:Around} {k:Nat} (hr:ce k A):A.units+1<cLine:=Nat.lt_of_le_of_lt (Nat.add_le_add_left (by decide:1<=64) _) hr.units
variable {X:Cx}
theorem pv (i:Nat) {x:Str} {pos:Pos} (hN:X.N[i]?=some x:=by rfl) (hv:CZ X.env.scope x:=by first|exact Or.inl rfl|exact Or.inr (Or.inl rfl)|exact Or.inr (Or.inr rfl)) (hd:92=false:=by decide)
  (hcd:(x==("__classdict__" :Str))=false:=by decide):PE X (.Name x pos) (vC i):=A4 hN hv hd hcd
theorem dP {A B:Prop} (h:B):if false=true then A else B:=by
 rw[if_neg GQ];exact h
theorem gG {A B:Prop} (h:A):if true=true then A else B:=by
 rw[if_pos rfl];exact h
def ax (H H':Hp):Prop:=∀b o,H b=some o->H' b=some o
theorem ax.refl (H:Hp):ax H H:=λ_ _ h=>h
theorem ax.trans {H H1 H2:Hp} (a:ax H H1) (b:ax H1 H2):ax H H2:=λc o h=>b c o (a c o h)
theorem ax.free {H H':Hp} (e:ax H H') {l:Addr} (h:H' l=Option.none):H l=Option.none:=by
 cases q:H l with
 |none=>rfl
 |some o=>
  rw[e l o q] at h;cases h
theorem ax.seq {K:G0} {H H':Hp} {a:Addr} {xs:List V} (e:ax H H') (h:aQ K H a xs):aQ K H' a xs:=by
 rcases h with (h|⟨o,h⟩)|h
 ·exact .inl (.inl (e _ _ h))
 ·exact .inl (.inr (o,e _ _ h))
 ·exact .inr h
theorem aW:iQ X (binaryOp .Mult) (rI (λi j=>IntMulOk i j) λi j=> .int (i*j)):=E2 λ_ _ _ _ _ _ _ hc q=>mul_int q hc
theorem bA:iQ X (binaryOp .FloorDiv) (rI (λi j=>j≠0/\Builtin.divisionGoesByPylong i j=false) λi j=> .int (i.fdiv j)):=E2 λ_ _ _ _ _ _ _ hc q=>floordiv_int hc.1 q (.inl hc.2)
theorem ze:iQ X (binaryOp .Pow) (rI (λi j=>0<=j/\(Builtin.Int.intBits i:Int)*j<=2^27) λi j=> .int (i^j.toNat)):=E2 λ_ _ _ _ _ _ _ hc q=>pow_int hc.1 hc.2 q
theorem qx:cY X 212 (λxs H Q=>∃i,xs= [.int i,.ty "int"]/\Q 71 H):=by
 sleep 27;sleep 275;cases e2;exact PySem.call_isinstance (PySem.isinstance_true (Tx:= "int") PySem.F.isi_meta_int PySem.F.isi_self_int) (rfl,(.bl true,H,I,rfl,q))
theorem oZ:cY X 212 (λxs H Q=>∃i,xs= [.int i,.ty "bool"]/\Q 541 H):=by
 sleep 27;sleep 275;cases e2;exact PySem.call_isinstance (PySem.isinstance_false_int (T:= "bool") 13 PySem.F.isi_meta_bool PySem.F.sub_int_bool) (.bl false,H,I.tok _,rfl,q)
theorem qy:cY X 212 (λxs H Q=>∃i,xs= [.bl i,.ty "bool"]/\Q 71 H):=by
 sleep 27;obtain ⟨i,rfl,q⟩:=h;obtain ⟨u,w',rfl,e1,e2⟩:=vals2 r;cases e1;cases e2;exact PySem.call_isinstance (PySem.isinstance_true (Tx:= "bool") PySem.F.isi_meta_bool PySem.F.isi_self_bool) (rfl,(.bl true,H,I,rfl,q))
theorem qA:cY X 212 (λxs H Q=>∃a ys,xs= [.ref a,.ty "tuple"]/\bU X.K H a ys/\Q 71 H):=by
 sleep 27;obtain ⟨a,ys,rfl,hs,q⟩:=h;obtain ⟨u,w',rfl,e1,e2⟩:=vals2 r;cases e1;cases e2;obtain ⟨its,_,p1,_⟩:=I.tuple hs;exact PySem.call_isinstance (PySem.isinstance_true (Tx:= "tuple") PySem.F.isi_meta_tuple PySem.F.isi_self_tuple) (p1.typeIs,(.bl true,H,I,rfl,q))
universe L2
namespace Sw
open PySem
def Bd (n:Nat) (x:Int):Prop:=x.natAbs<2^n
theorem Bd.mono {m n:Nat} {x:Int} (h:Bd m x) (e:m<=n):Bd n x:=HK h (Nat.pow_le_pow_right 13 e)
theorem Bd.of_le {n:Nat} {x y:Int} (h:Bd n y) (e:x.natAbs<=y.natAbs):Bd n x:=Nat.lt_of_le_of_lt e h
theorem Bd.neg {n:Nat} {x:Int} (h:Bd n x):Bd n (-x):=h.of_le 42
theorem Bd.mul {m n:Nat} {x y:Int} (h:Bd m x) (g:Bd n y):Bd (m+n) (x*y):=by
 unfold Bd at*;rw[Int.natAbs_mul,Nat.pow_add];exact Nat.mul_lt_mul_of_lt_of_le h (Nat.le_of_lt g) (Nat.lt_of_le_of_lt (HC _) g)
theorem Bd.add {k:Nat} {x y:Int} (h:Bd k x) (g:Bd k y):Bd (k+1) (x+y):=by
 unfold Bd at*;rw[Nat.pow_succ];generalize 2^k=p at h g⊢
 lia
theorem Bd.sub {k:Nat} {x y:Int} (h:Bd k x) (g:Bd k y):Bd (k+1) (x-y):=by
 unfold Bd at*;rw[Nat.pow_succ];generalize 2^k=p at h g⊢
 lia
theorem Bd.ok {m n:Nat} {x y:Int} (h:Bd m x) (g:Bd n y) (e:m+n<=134217728:=by decide):IntMulOk x y:=
 IntMulOk.of_le (intBits_le_iff.mpr h) (intBits_le_iff.mpr g) e
theorem Bd.div {n:Nat} {x y:Int} (h:Bd n y) (y0:y≠0) (e:n<=9000:=by decide):Builtin.divisionGoesByPylong x y=false:=by
 refine PyProof.noPylong_of_log2 ((Nat.log2_lt 42).mpr ?_)
 exact HK h (Nat.pow_le_pow_right 13 e)
theorem Bd.one:Bd 1 1:=by unfold Bd;decide
theorem Bd.zero:Bd 1 0:=by unfold Bd;decide
noncomputable def b6 (a b:Int):Int:=((Int.gcd a b:Nat):Int)
theorem zf (a b:Int):0<=b6 a b:=Int.natCast_nonneg _
theorem sO (a b:Int):b6 (-a) b=b6 a b:=by unfold b6;rw[Int.neg_gcd]
theorem sP (a b:Int):b6 a (-b)=b6 a b:=by unfold b6;rw[Int.gcd_neg]
theorem nQ {g l:Int} (hl:0<l):b6 l (g.fmod l)=b6 g l:=by
 unfold b6;have e:g.fmod l=g-(g.fdiv l)*l:=by rw[Int.fmod_def,Int.mul_comm]
 rw[e,Int.gcd_comm l,Int.gcd_sub_mul_right_left]
noncomputable def xi (i:Int):Int:=if i<0 then-i else i
theorem uC (i:Int):0<=xi i:=by unfold xi;split<;>lia
theorem xj (a b:Int):b6 (xi a) (xi b)=b6 a b:=by
 unfold xi
 split<;>split<;>simp only[sO,sP]
theorem nR {g:Int} (h:0<=g):b6 g 0=g:=by
 unfold b6;rw[Int.gcd_zero_right];lia
theorem jz {a b:Int} (h:b6 a b=0):a=0/\b=0:=by
 unfold b6 at h;exact Int.gcd_eq_zero_iff.mp 42
theorem lQ (a b:Int):b6 a b∣a:=Int.gcd_dvd_left ..
theorem i7 (a b:Int):b6 a b∣b:=Int.gcd_dvd_right ..
structure Fr (p q a b:Int):Prop where
 pos:0<q
 low:b6 p q=1
 same:p*b=a*q
 bt:p.natAbs<=a.natAbs
 bb:q.natAbs<=b.natAbs
structure mW (p q:Int):Prop where
 pos:0<q
 low:b6 p q=1
theorem Fr.to {p q a b:Int} (h:Fr p q a b):mW p q:=(h.pos,h.low)
theorem c8 {p q k:Int} (h:b6 p q=1) (d:q∣p*k):q∣k:=by
 have c:Int.gcd q p=1:=by unfold b6 at h;rw[Int.gcd_comm];lia
 have d':q.natAbs∣p.natAbs*k.natAbs:=by rw[<-Int.natAbs_mul];exact Int.natAbs_dvd_natAbs.mpr d
 exact Int.natAbs_dvd_natAbs.mp (Nat.Coprime.dvd_of_dvd_mul_left (show Nat.Coprime q.natAbs p.natAbs from c) d')
theorem i8 {p q p' q':Int} (h:mW p q) (h':mW p' q') (e:p*q'=p'*q):p=p'/\q=q':=by
 have d1:q∣q':=c8 h.low 400
 have d2:q'∣q:=c8 h'.low (by rw[<-e];exact Ik ..)
 have eq:q=q':=by
  have n1:=Int.le_of_dvd h'.pos d1;have n2:=Int.le_of_dvd h.pos d2
  lia
 subst eq;exact (Int.eq_of_mul_eq_mul_right (by have:=h.pos;lia) e,rfl)
noncomputable def mX (a b:Int):Int:=if b<0 then-b6 a b else b6 a b
theorem sQ {a b:Int} (h:b≠0):mX a b≠0:=by
 have g:b6 a b≠0:=λz=>h (jz z).2
 unfold mX;split<;>lia
theorem AK {a b:Int} (h:b≠0):Fr (a.fdiv (mX a b)) (b.fdiv (mX a b)) a b:=by
 have g:b6 a b≠0:=λz=>h (jz z).2
 have p:0<b6 a b:=by have:=zf a b;lia
 have c0:=sQ (a:=a) h;have da:mX a b∣a:=by
  unfold mX;split
  ·exact Int.neg_dvd.mpr (lQ a b)
  ·exact lQ a b
 have db:mX a b∣b:=by
  unfold mX;split
  ·exact Int.neg_dvd.mpr (i7 a b)
  ·exact i7 a b
 obtain ⟨x,hx⟩:=da;obtain ⟨y,hy⟩:=db;have ex:a.fdiv (mX a b)=x:=by
  conv=>lhs;arg 1;rw[hx]
  exact Int.mul_fdiv_cancel_left x c0
 have ey:b.fdiv (mX a b)=y:=by
  conv=>lhs;arg 1;rw[hy]
  exact Int.mul_fdiv_cancel_left y c0
 rw[ex,ey];have yp:0<y:=by
  have e:=hy;unfold mX at e;rcases (by lia:y<0∨y=0∨0<y) with q|q|q
  ·exfalso
   split at e
   ·rename_i hb;have:=Int.mul_neg_of_pos_of_neg p q;rw[Int.neg_mul] at e
    lia
   ·have:=Int.mul_neg_of_pos_of_neg p q
    lia
  ·rw[q] at hy;lia
  ·exact q
 have lowx:b6 x y=1:=by
  have m:b6 (mX a b*x) (mX a b*y)=b6 a b*b6 x y:=by
   show ((Int.gcd _ _:Nat):Int)=_*((Int.gcd x y:Nat):Int);rw[Int.gcd_mul_left,Int.natCast_mul]
   congr 1
   unfold mX;split<;>lia
  rw[<-hx,<-hy] at m;exact Int.eq_one_of_mul_eq_self_right g m.symm
 exists yp,lowx,?_,?_
 ·conv=>lhs;rw[hy]
  conv=>rhs;rw[hx]
  rw[<-Int.mul_assoc,Int.mul_comm x]
 ·have:a.natAbs=(mX a b).natAbs*x.natAbs:=by conv=>lhs;rw[hx];rw[Int.natAbs_mul]
  rw[this];exact Nat.le_mul_of_pos_left _ 42
 ·have:b.natAbs=(mX a b).natAbs*y.natAbs:=by conv=>lhs;rw[hy];rw[Int.natAbs_mul]
  rw[this];exact Nat.le_mul_of_pos_left _ 42
universe Sw
namespace L2
open PySem
inductive Dq (K:G0) (H:Hp):V->String->Bool->Prop where
 |ii (i:Int):Dq K H (.int i) "int" true
 |ib (i:Int):Dq K H (.int i) "bool" false
 |bb (b:Bool):Dq K H (.bl b) "bool" true
 |tt (a:Addr) (ys:List V) (h:bU K H a ys):Dq K H (.ref a) "tuple" true
theorem qB {X:Cx}:cY X 212 (λxs H Q=>∃x T b,xs= [x,.ty T]/\Dq X.K H x T b/\Q (.bl b) H):=by
 sleep 27;obtain ⟨x,T,b,rfl,i,q⟩:=h;cases i with
 |ii i=>exact qx pins s σ H _ us Q I r ⟨i,rfl,q⟩
 |ib i=>exact oZ pins s σ H _ us Q I r ⟨i,rfl,q⟩
 |bb i=>exact qy pins s σ H _ us Q I r ⟨i,rfl,q⟩
 |tt a ys h=>exact qA pins s σ H _ us Q I r ⟨a,ys,rfl,h,q⟩
universe L2
namespace Sw
open PySem L2
theorem dT {p A B:Prop} [Decidable p] (h:p) (a:A):if decide p=true then A else B:=by rw[if_pos (decide_eq_true h)];exact a
theorem dF {p A B:Prop} [Decidable p] (h:¬p) (b:B):if decide p=true then A else B:=by rw[if_neg 369];exact b
theorem d2 {p A B:Prop} [Decidable p] (h1:p->A) (h2:¬p->B):if decide p=true then A else B:=by
 by_cases h:p
 ·exact dT h (h1 h)
 ·exact dF h (h2 h)
theorem nT {p A B:Prop} [Decidable p] (h:¬p) (a:A):if (!decide p)=true then A else B:=by rw[if_pos 369];exact a
theorem nF {p A B:Prop} [Decidable p] (h:p) (b:B):if (!decide p)=true then A else B:=by rw[if_neg 369];exact b
theorem vi {a b:Int} (h:a=b):V.int a=V.int b:=by rw[h]
theorem vj {a b:Int} (h:V.int a=V.int b):a=b:=by cases h;rfl
theorem Bj {a b:Int} {A B:Prop} (h1:a=b->A) (h2:a≠b->B):if decide 407=true then A else B:=d2 (λh=>h1 (vj h)) λh=>h2 λe=>h (vi e)
theorem Go {a b:Int} {A B:Prop} (h1:a≠b->A) (h2:a=b->B):if (!decide 407)=true then A else B:=by
 by_cases h:a=b
 ·exact nF (vi h) (h2 h)
 ·exact nT (λe=>h (vj e)) (h1 h)
theorem Gp {a b:Int} {A B:Prop} (h:a≠b) (x:B):if decide 407=true then A else B:=dF (λe=>h (vj e)) x
theorem GF {a b:Int} {A B:Prop} (h:a≠b) (x:A):if (!decide 407)=true then A else B:=nT (λe=>h (vj e)) x
theorem FL {a b:Int} {A B:Prop} (h:a=b) (x:B):if (!decide 407)=true then A else B:=nF (vi h) x
def xm:Sp:=λvs H Q _=>∃a b:Int,vs= [.int a,.int b]/\Q (.int (b6 a b)) H
def xq (K:G0):Sp:=λvs H Q _=>∃(a:Addr) (ns:List Int) (k:Int),vs= [.ref a,.int k]/\aQ K H a 164/\0<=k/\∀v:Int,Q (.int v) H
def uD:Sp:=λvs H Q _=>∃v:Int,vs= [.int v]/\Q 71 H
def uE (K:G0):Sp:=λvs H Q _=>∃(a:Addr) (ns:List Int),vs= [.ref a]/\aQ K H a 164/\ns.length<=63/\∀H',Q 71 H'
theorem zh {ns:List Int} {k:Int} (h0:0<=k) (h:k<(((ns.map V.int).length:Nat):Int)):∃v:Int,iR 164 k=some (.int v):=by
 rw[G2] at h;have hk:k.toNat<ns.length:=by lia
 have ek:k=((k.toNat:Nat):Int):=by lia
 have q:iR 164 ((k.toNat:Nat):Int)=some (.int ns[k.toNat]):=b9 (by rw[GJ,G1 hk]<;>rfl)
 rw[<-ek] at q;exact (_,q)
theorem cut {t u:TS} {D:Ends} {σ:L2.St} {H:Hp} (I:L2.St->Hp->Prop) (h1:∀N:L2.St->Hp->Prop,(∀σ H,I σ H->N σ H)->t {D with nx:=N} σ H) (h2:∀σ H,I σ H->u D σ H):aX t u D σ H:=h1 _ h2
theorem Dr {K:G0} {H H':Hp} {a:Addr} {xs:List V} (e:ax H H') (h:bU K H a xs):bU K H' a xs:=by
 rcases h with (h|⟨o,h⟩)|h
 ·exact .inl (.inl (e _ _ h))
 ·exact .inl (.inr (o,e _ _ h))
 ·exact .inr h
theorem ag {H:Hp} {p:Addr} (h:H p=none) (o:HO):ax H (ay H p o):=λb u q=>by rw[ak (bj q h)];exact q
theorem zi {a b:Int} (h:0<b):mX a b=b6 a b:=by unfold mX;rw[if_neg 42]
theorem xu {n:Nat} {a b:Int} (b0:b≠0) (h:Bd n b):Bd n (mX a b):=by
 have d:b6 a b∣b:=i7 a b;have k:=Nat.le_of_dvd 42 (Int.natAbs_dvd_natAbs.mpr d)
 refine h.of_le ?_;unfold mX
 split<;>lia
def Pair (H:Hp) (Q:VK) (p q:Int):Prop:=∀(t:Addr) (H':Hp),ax H H'->H' t=some 82->Q 246 H'
def xv:Sp:=λvs H Q _=>∃a b:Int,vs= [.int a,.int b]/\0<b/\Bd 8500 b/\∀p q:Int,Fr p q a b->Pair H Q p q
def qC:Sp:=λvs H Q _=>∃a b:Int,vs= [.int a,.int b]/\b≠0/\Bd 8500 b/\∀p q:Int,Fr p q a b->Pair H Q p q
structure b7 (K:G0) (n:Nat) (H:Hp) (t:Addr) (p q:Int):Prop where
 at_:bU K H t [.int p,.int q]
 pos:0<q
 bp:Bd n p
 bq:Bd n q
theorem b7.same {K:G0} {n:Nat} {H H':Hp} {t:Addr} {p q:Int} (h:b7 K n H t p q) (e:ax H H'):b7 K n H' t p q:=(Dr e h.at_,h.pos,h.bp,h.bq)
theorem b7.mono {K:G0} {m n:Nat} {H:Hp} {t:Addr} {p q:Int} (h:b7 K m H t p q) (e:m<=n):b7 K n H t p q:=(h.at_,h.pos,h.bp.mono e,h.bq.mono e)
theorem b7.of {K:G0} {n:Nat} {H:Hp} {t:Addr} {p q a b:Int} (f:Fr p q a b) (ha:Bd n a) (hb:Bd n b) (e:H t=some 82):b7 K n H t p q:=(bU.of e,f.pos,ha.of_le f.bt,hb.of_le f.bb)
def xw (K:G0):Sp:=λvs H Q _=>∃(t t':Addr) (p q p' q':Int),vs= [.ref t,.ref t']/\b7 K 4000 H t p q/\b7 K 4000 H t' p' q'/\Q (.bl (decide (p*q'<p'*q))) H
def Ds (K:G0):Sp:=λvs H Q _=>∃(t:Addr) (p q:Int),vs= [.ref t]/\b7 K 8000 H t p q/\Q (.int (-542)) H
theorem qF {p q:Int} (h:0<q):p.fdiv q*q<=p/\p<(p.fdiv q+1)*q:=by
 have e:=Int.fmod_def p q;have h1:=GO p h;have h2:=HD p h;have e2:p.fdiv q*q=q*p.fdiv q:=Int.mul_comm ..;have e3:(p.fdiv q+1)*q=q*p.fdiv q+q:=by rw[Int.add_mul,e2,Int.one_mul]
 lia
theorem vK {p q:Int} (h:0<q):p<= -542*q/\(-542-1)*q<p:=by
 have b:=qF (p:= -p) h;have e1: -542*q= -((-p).fdiv q*q):=Int.neg_mul ..;have e2:(-542-1)*q= -(((-p).fdiv q+1)*q):=by rw[<-Int.neg_mul];congr 1;lia
 lia
theorem uF {n:Nat} {p q:Int} (h:Bd n p):Bd n (p.fdiv q):=h.of_le (natAbs_fdiv_le p q)
structure bu (K:G0) (x qual:Str) (st:Stmt) (dV:Value) (f:Addr) (fd:FuncData):Prop where
 ex:∃(oc:Value) (od:KG) (kV doc pm:Value) (an:KG) (cdv ct:Value) (osl:Kz),
  fd=Hq x qual (dB st) (cD st) 297 dV kV doc pm an cdv ct/\K.lookup f=some ⟨oc,od,.func fd,osl⟩/\IG K cdv qual=true
 kp:Hk K 272=true
section
variable {P:Program} {w:World} {K:G0} {mg:Kt} {base:Heap}
theorem bu.ok {x qual:Str} {st:Stmt} {dV:Value} {f:Addr} {fd:FuncData} {N ps:KA} {k:Nat} {sp:Sp} (F:bu K x qual st dV f fd) (S:aC N ps 297) (len:∀vs H Q E,sp vs H Q E->vs.length=ps.length)
  (hbody:∀(cdv:Value) (A:Around) (outer:List Env) (s:Shared) (H:Hp) (vs:List V) (Q:VK) (E:XK),ce k 473->sp vs H Q E->
   ∃t,kO (jW bC P w K mg base N qual 297 f cdv A outer s H E).nox (cD st) t/\t 190 309 H):bh P w K mg base bC (k+1) f fd ps sp:=by
 sleep 61;refine AH lk hcd S len λA outer s H vs Q E hr hsp=>?_
 sleep 258
theorem bu.binds {x qual:Str} {st:Stmt} {T:Addr} {f:Addr} {fd:FuncData} {ps:KA} {o:Obj} {items:Array Value} {n:Nat} {ds:KC} (F:bu K x qual st (.ref T) f fd) (ho:K.lookup T=some o) (hs:o.data= .seq items n)
  (h:∀(kV doc pm:Value) (an:KG) (cdv ct:Value) (us:KC),(us++ds).length=ps.length->∃k:Option (Array Value)->Sem (List (Str×Value)),bindArgs (Hq x qual (dB st) (cD st) 297 (.ref T) kV doc pm an cdv ct) ⟨us,[]⟩=seqItems? (.ref T)>>=k/\k (some items)=pure (ps.zip (us++ds))):Binds K fd ps ds:=by
 sleep 61;intro s us KX hl;obtain ⟨k,h1,h2⟩:=h kV doc pm an cdv ct us hl;exact PySem.W.binds_K KX rfl ho hs h1 h2
theorem bu.binds0 {x qual:Str} {st:Stmt} {dV:Value} {f:Addr} {fd:FuncData} {ps:KA} (F:bu K x qual st dV f fd)
  (h:∀(kV doc pm:Value) (an:KG) (cdv ct:Value) (us:KC),us.length=ps.length->bindArgs 438 ⟨us,[]⟩=pure (ps.zip us)):Binds K fd ps []:=by
 sleep 61;exact .all (h kV doc pm an cdv ct)
theorem bI {x qual:Str} {st:Stmt} {f:Addr} {oc dV:Value} {od an:KG} {osl:Kz} {kV doc pm cdv ct:Value} (l:K.lookup f=some ⟨oc,od,.func 438,osl⟩)
  (c:IG K cdv qual=true) (k:Hk K 272=true):bu K x qual st dV f (Hq x qual (dB st) (cD st) 297 dV kV doc pm an cdv ct):=⟨⟨oc,od,kV,doc,pm,an,cdv,ct,osl,rfl,l,c⟩,k⟩
universe z0
def sR (K:G0):Sp:=λvs H Q _=>∃(t t':Addr) (p q p' q':Int),vs= [.ref t,.ref t']/\b7 K 4000 H t p q/\b7 K 4000 H t' p' q'/\∀r s:Int,Fr r s (p*q'+p'*q) (q*q')->Pair H Q r s
def pe (K:G0):Sp:=λvs H Q _=>∃(t t':Addr) (p q p' q':Int),vs= [.ref t,.ref t']/\b7 K 4000 H t p q/\b7 K 4000 H t' p' q'/\∀r s:Int,Fr r s (p*q'-p'*q) (q*q')->Pair H Q r s
def pf (K:G0):Sp:=λvs H Q _=>∃(t t':Addr) (p q p' q':Int),vs= [.ref t,.ref t']/\b7 K 4000 H t p q/\b7 K 4000 H t' p' q'/\∀r s:Int,Fr r s (p*p') (q*q')->Pair H Q r s
def sS (K:G0):Sp:=λvs H Q _=>∃(t t':Addr) (p q p' q':Int),vs= [.ref t,.ref t']/\b7 K 4000 H t p q/\b7 K 4000 H t' p' q'/\p'≠0/\∀r s:Int,Fr r s (p*q') (q*p')->Pair H Q r s
theorem fP {x y k:Int} (h:x*k=y*k) (k0:k≠0):x=y:=Int.eq_of_mul_eq_mul_right k0 h
theorem ph {x y:Int} (h:0<x) (g:0<y):x*y≠0:=by have:=HU h g;lia
universe Sw
namespace XH
open PySem
structure Mv (fs ch:KB) (h h':Heap):Prop where
 keep:∀b o,b∉fs->b∉ch->h.get? b=some o->h'.get? b=some o
 slot:∀b o,b∈fs->b∉ch->h.get? b=some o->∃sl,h'.get? b=some {o with slots:=sl}
 there:∀b o,h.get? b=some o->∃o',h'.get? b=some o'
theorem Mv.refl (fs ch:KB) (h:Heap):Mv fs ch h h:=(λ_ _ _ _ q=>q,λ_ o _ _ q=>(o.slots,q),λ_ o q=>(o,q))
theorem Mv.trans {fs c1 c2 ch:KB} {h h1 h2:Heap} (x:Mv fs c1 h h1) (y:Mv fs c2 h1 h2) (k1:∀b,b∈c1->b∈ch) (k2:∀b,b∈c2->b∈ch):Mv fs ch h h2 where
 keep:=λb o hf hc q=>y.keep b o hf (λz=>hc (k2 b z)) (x.keep b o hf (λz=>hc (k1 b z)) q)
 slot:=λb o hf hc q=>by
  obtain ⟨sl,q1⟩:=x.slot b o hf (λz=>hc (k1 b z)) q
  obtain ⟨sl2,q2⟩:=y.slot b _ hf (λz=>hc (k2 b z)) q1
  exact (sl2,q2)
 there:=λb o q=>by
  obtain ⟨o1,q1⟩:=x.there b o q;exact y.there b o1 q1
inductive AL where
 |new
 |fl (v:Value)
def AL.Is (F:Addr->Prop) (h:Heap) (e:Addr) (vs:Array Value):AL->Prop
 | .new=>vs[1]?=some .none
 | .fl v=>∃T oT ts,vs[1]?=some (.ref T)/\F T/\T≠e/\h.get? T=some oT/\oT.data= .fields ts/\ts[3]?=some v
def Fz (vs:Array Value):Prop:=1<vs.size/\vs[2]?=some .none
theorem Fz.set {vs:Array Value} (h:Fz vs) (v:Value):Fz (vs.setIfInBounds 1 v):=(by simpa using h.1,by rw[Array.getElem?_setIfInBounds];simp[h.2])
structure XO (F:Addr->Prop) (h:Heap) (e:Addr) (cls:Value) (dx:KG) (st:AL):Prop where
 ex:∃oe vs,h.get? e=some oe/\oe.cls=cls/\oe.dict=dx/\oe.data= .fields vs/\Fz vs/\st.Is F h e vs
 fr:F e
theorem XO.mono {F G:Addr->Prop} {h:Heap} {e:Addr} {cls:Value} {dx:KG} {st:AL} (x:XO F h e cls dx st) (k:∀b,F b->G b):XO G h e cls dx st:=by
 obtain ⟨⟨oe,vs,a,b,c,d,f,g⟩,fr⟩:=x;refine ((oe,vs,a,b,c,d,f,?_),k _ fr);cases st with
 |new=>exact g
 |fl v=>
  obtain ⟨T,oT,ts,g1,g2,g3⟩:=g;exact (T,oT,ts,g1,k _ g2,g3)
theorem nS (o:Obj) (f:Array Value->Array Value):(o.mapFields f).dict=o.dict:=by
 obtain ⟨c,d,dt,sl⟩:=o;cases dt<;>rfl
section
variable {M:Model} {A:Around} {E:Ks} {s:Shared}
theorem qG {base:Heap} {env:Env} {outer:List Env} {L e:Addr} {oe:Obj} {vs:Array Value} {head:Value} {had:Bool} {Q:Unit->Shared->Prop}
  (hfr:A.frames=some (env::outer)) (hl:s.heap.FunFrames base (env::outer)) (hf:env.frame=some L) (he:s.heap.get? e=some oe) (hd:oe.data= .fields vs) (hsz:1<vs.size)
  (h:∀h' T,Mv 364 [e] s.heap h'->s.heap.get? T=none->T≠e->h'.get? e=some (oe.mapFields (·.setIfInBounds 1 (.ref T)))->
   (∃oT ts,h'.get? T=some oT/\oT.data= .fields ts/\ts[3]?=some (rawInt L))->Q () 126):
  wpAny M A (do let a<-frameOf env;let pl<-entryPlaceOf L had;let b<-EntryCells.newEntry head a .none (rawInt L) .none pl;setField (.ref e) 1 b) Q E s:=by
 have hne:e∉(env::outer).filterMap (·.frame):=by
  intro hm;obtain ⟨_,o,ho,hnf⟩:=hl.mem hm;rw[he] at ho;cases ho;exact hnf vs hd
 sleep 17;apply wpAny_frameOf_fun hfr hl hf;intro h1 hs;sleep 17;apply wpAny_entryPlaceOf;intro pl hpl;unfold EntryCells.newEntry newFields;sleep 17;refine wpAny_newObj_type ?_ (hpl.sizeOk5 ..);have e1:h1.get? e=some oe:=(hs.2.1 e hne).trans he;generalize hob:({cls:= .type "traceback",dict:=none,data:= .fields ([head,.ref L,.none,rawInt L,.none]++(if pl.isEmpty then List.replicate 6 Value.none else pl)).toArray}:Obj)=ob
 have e2:=67 (h:=h1) ob e1;refine wpAny_setField e2 hd hsz ?_;have hTe:h1.objs.size≠e:=IB (85 e1);have d3:=Obj.data_mapFields hd 196;have e3:=Heap.get?_update_self (Obj.mapFields 196) e2 (Obj.isFreed_of_fields d3);have kp:∀b o,b≠e->h1.get? b=some o->((h1.push ob).update e (Obj.mapFields 196)).get? b=some o:=by
  intro b o hb q;rw[Heap.get?_update_other _ _ 248];exact 67 _ q
 have t3:((h1.push ob).update e (Obj.mapFields 196)).get? h1.objs.size=some ob:=by
  rw[Heap.get?_update_other _ _ (Ne.symm hTe)];exact 81 h1 (by rw[<-hob];rfl)
 refine h _ h1.objs.size (?_,?_,?_) ?_ hTe e3 ?_
 ·intro b o hb hc q;exact kp b o (λz=>hc 259) ((hs.2.1 b hb).trans q)
 ·intro b o hb hc q;obtain ⟨sl,q1⟩:=hs.2.2 b o q;exact (sl,kp b _ (λz=>hc 259) q1)
 ·intro b o q
  by_cases hb:b=e
  ·subst hb;exact (_,e3)
  ·obtain ⟨sl,q1⟩:=hs.2.2 b o q;exact (_,kp b _ hb q1)
 ·exact Heap.get?_none_of_le (by rw[hs.1];exact G4 _)
 ·subst hob;exists _,_,t3,rfl;rcases hpl with rfl|⟨_,_,_,_,_,_,_,rfl⟩<;>simp
theorem vL {F:Addr->Prop} {e:Addr} {cls v:Value} {dx fl:KG} {Q:Unit->Shared->Prop} (x:XO F s.heap e cls dx (.fl v))
  (h:∀h' T,F T->Mv [] [T] s.heap h'->XO F h' e cls dx (.fl (fl.elim .none λf=>rawInt f))->Q () 126):wpAny M A (setFlight 538 fl) Q E s:=by
 obtain ⟨⟨oe,vs,he,hc,hdx,hd,hsz,T,oT,ts,h1,hF,hTe,hT,hdT,h3⟩,fr⟩:=x;have z3:3<ts.size:=(Array.getElem?_eq_some_iff.mp h3).1;have oth:∀b,b≠T->(s.heap.update T 340).get? b=s.heap.get? b:=λb hb=>Heap.get?_update_other _ _ 248
 have t4:=Heap.get?_update_self 340 hT 471
 unfold setFlight;sleep 17;apply wpAny_field he hd h1;rw[if_pos 73]
 apply wpAny_setField hT hdT z3;refine h _ T hF (?_,λb o hb=>absurd hb 73,?_) ((oe,vs,(oth e (Ne.symm hTe)).trans he,hc,hdx,hd,hsz,T,_,_,h1,hF,hTe,t4,Obj.data_mapFields hdT _,by simp[z3]),fr)
 ·intro b o _ hb q;exact (oth b (λz=>hb 259)).trans q
 ·intro b o q
  by_cases hb:b=T
  ·subst hb;exact (_,t4)
  ·exact (o,(oth b hb).trans q)
theorem zj {F:Addr->Prop} {base:Heap} {env:Env} {outer:List Env} {L e:Addr} {cls:Value} {dx:KG} {st:AL} {Q:Unit->Shared->Prop}
  (hfr:A.frames=some (env::outer)) (hl:s.heap.FunFrames base (env::outer)) (hf:env.frame=some L) (x:XO F s.heap e cls dx st)
  (h:∀h' ch,(∀b∈ch,F b)->Mv 364 ch s.heap h'->XO (λb=>F b∨s.heap.get? b=none) h' e cls dx (.fl (rawInt L))->Q () 126):wpAny M A (noteFrame 538 env) Q E s:=by
 obtain ⟨⟨oe,vs,he,hc,hdx,hd,hsz,hst⟩,fr⟩:=x;unfold noteFrame;simp only[hf];cases st with
 |new=>
  sleep 17;apply wpAny_field he hd hst;sleep 118
  refine qG hfr hl hf he hd hsz.1 λh' T mv tn tne he' (oT,ts,hT,hdT,h3)=>?_
  refine h h' [e] (λb hb=>by rw[GK.mp hb];exact fr) mv ((_,_,he',?_,?_,Obj.data_mapFields hd _,hsz.set _,T,oT,ts,by simp[hsz.1],.inr tn,tne,hT,hdT,h3),.inl fr)
  ·rw[Obj.cls_mapFields];exact hc
  ·rw[nS];exact hdx
 |fl v=>
  obtain ⟨T,oT,ts,h1,hF,hTe,hT,hdT,h3⟩:=hst;have z3:3<ts.size:=(Array.getElem?_eq_some_iff.mp h3).1;sleep 17;apply wpAny_field he hd h1;rw[if_pos 73]
  sleep 17;apply wpAny_field hT hdT h3
  by_cases hv:(v==rawInt L)=true
  ·rw[if_pos hv];have ev:v=rawInt L:=beq_iff_eq.mp hv;subst ev;refine wpAny_pure (h s.heap [] (λb hb=>absurd hb 73) (.refl ..) ((oe,vs,he,hc,hdx,hd,hsz,T,oT,ts,h1,.inl hF,hTe,hT,hdT,h3),.inl fr))
  ·rw[if_neg hv];sleep 17;apply wpAny_setField hT hdT z3;have oth:∀b,b≠T->(s.heap.update T 189).get? b=s.heap.get? b:=λb hb=>Heap.get?_update_other _ _ 248
   have t4:=Heap.get?_update_self 189 hT 471;have nrec:∀b o,s.heap.get? b=some o->(∀vs,o.data≠ .fields vs)->b≠T:=by
    intro b o hb hn z;rw[z,hT] at hb;cases hb;exact hn ts hdT
   have mv1:Mv 364 [T] s.heap (s.heap.update T 189):=by
    refine (λb o _ hb q=>(oth b (λz=>hb 259)).trans q,λb o _ hb q=>(o.slots,(oth b (λz=>hb 259)).trans q),λb o q=>?_)
    by_cases hb:b=T
    ·subst hb;exact (_,t4)
    ·exact (o,(oth b hb).trans q)
   refine qG (s:={s with heap:=s.heap.update T 189}) hfr (hl.of_keeps λb o hb hn=>⟨o,(oth b (nrec b o hb hn)).trans hb,rfl⟩) hf ((oth e (Ne.symm hTe)).trans he) hd hsz.1 λh' T2 mv tn tne he' ⟨oT2,ts2,hT2,hdT2,h32⟩=>?_
   refine h h' [T,e] ?_ (mv1.trans mv (λb hb=>by simp at hb;simp[hb]) (λb hb=>by simp at hb;simp[hb])) ((_,_,he',?_,?_,Obj.data_mapFields hd _,hsz.set _,T2,oT2,ts2,by simp[hsz.1],.inr ?_,tne,hT2,hdT2,h32),.inl fr)
   ·intro b hb;simp at hb;rcases hb with rfl|rfl
    ·exact hF
    ·exact fr
   ·rw[Obj.cls_mapFields];exact hc
   ·rw[nS];exact hdx
   ·cases q:s.heap.get? T2 with
    |none=>rfl
    |some o=>
     obtain ⟨o',q'⟩:=mv1.there T2 o q;rw[q'] at tn;cases tn
universe z0
universe XH
namespace L2
open PySem PySem.Spec PyProof.Rows XH
structure ie (P:Program) (w:World) (outer:List Env) (H:Hp) (s:Shared) (a:Addr) (H':Hp) (cls:Value) (dx:KG) (st:AL) (s':Shared):Prop where
 os:s'.os=s.os
 bare:AllBare s'.gens
 un:Un (kr outer) [] H H' s.heap s'.heap
 hok:fX P w H' s'.heap
 xo:XO (λb=>s.heap.get? b=none/\H' b=none) s'.heap a cls dx st
def dU (P:Program) (w:World):sC:=λouter H s E e s'=>∃a H' cls dx st,e= .ref a/\ie P w outer H s a H' cls dx st s'/\E cls dx H'
section
variable {P:Program} {w:World} {H H':Hp} {h h' h0:Heap} {fs ch:KB} {a:Addr} {o:HO}
theorem aY.there (x:aY P w H h a o):∃u,h.get? a=some u:=by
 cases o with
 |lst xs=>obtain ⟨_,_,_,_,e⟩:=x;exact (_,e)
 |tup xs=>obtain ⟨_,_,_,_,e,_⟩:=x;exact (_,e)
 |dK kvs=>obtain ⟨_,_,_,_,_,_,_,e,_⟩:=x;exact (_,e)
 |dT kvs=>obtain ⟨_,_,_,_,_,_,_,e,_⟩:=x;exact (_,e)
 |set S n=>obtain ⟨_,_,_,_,e,_⟩:=x;exact (_,e)
 |ins C dx fs=>obtain ⟨_,_,_,e,_⟩:=x;exact (_,e)
 |own y=>exact x
 |xd fs=>obtain ⟨_,⟨_,_,_,e,_⟩,_⟩:=x;exact (_,e)
 |rng lo hi=>obtain ⟨_,_,_,e⟩:=x;exact (_,e)
 |frz ob u=>obtain ⟨e,_⟩:=x;exact (_,e)
 |tbl ps=>exact ⟨_,show h.get? a=some _ from x⟩
 |met f y=>exact ⟨_,show h.get? a=some _ from x⟩
 |ext φ=>obtain ⟨_,⟨_,e⟩,_⟩:=x;exact (_,e)
theorem fX.none_of (k:fX P w H h) (q:h.get? a=none):H a=none:=by
 cases r:H a with
 |none=>rfl
 |some o=>
  obtain ⟨u,e⟩:=(k a o r).there;rw[q] at e;cases e
theorem AM (u:Un fs [] H H' h0 h) (m:Mv fs ch h h') (hc:∀b∈ch,h0.get? b=none):Un fs [] H H' h0 h' where
 keep:=λb o q n hb hx=>m.keep b o hb (λz=>by rw[hc b z] at q;cases q) (u.keep b o q n hb hx)
 slot:=λb o q n hb hx=>by
  obtain ⟨sl,q1⟩:=u.slot b o q n hb hx;obtain ⟨sl2,q2⟩:=m.slot b _ hb (λz=>by rw[hc b z] at q;cases q) q1
  exact (sl2,q2)
 free:=u.free
 there:=λb o q hx=>by
  obtain ⟨o1,q1⟩:=u.there b o q hx;exact m.there b o1 q1
 tups:=u.tups
 frzs:=u.frzs
 tbls:=u.tbls
theorem xz (k:fX P w H h) (m:Mv fs ch h h') (hc:∀b∈ch,H b=none) (hf:∀b∈fs,H b=none):fX P w H h':=λa o e=>
 (k a o e).stay (λb u hb q=>by
  have t:H b≠none:=by
   rcases hb with z|z
   ·rw[z,e];exact λy=>nomatch y
   ·rw[z];exact λy=>nomatch y
  exact m.keep b u (λz=>t (hf b z)) (λz=>t (hc b z)) q) (λ_ q=>q) λ_ _ q=>q
theorem _root_.XH.Mv.wider (m:Mv [] ch h h'):Mv fs ch h h':=(λb o _ hc q=>m.keep b o 73 hc q,λb o _ hc q=>(o.slots,m.keep b o 73 hc q),m.there)
theorem uG {base:Heap} (u:Un fs [] H H' h h'):∀{l:List Env},h.FunFrames base l->(∀b∈kr l,b∈fs/\H b=none)->h'.FunFrames base l
 | [],_,_=>trivial
 |env::r,⟨hk,⟨L,o,hf,hn,ho,hd⟩,hr⟩,hs=>by
  have hL:L∈kr (env::r):=by unfold kr;rw[Im,hf];exact Ho
  obtain ⟨sl,e⟩:=u.slot L o ho (hs L hL).2 (hs L hL).1 73
  exact (hk,(L,_,hf,hn,e,hd),uG u hr λb hb=>hs b (by unfold kr;rw[Im,hf];exact HA _ hb))
universe z0
section
variable {P:Program} {w:World} {H H':Hp} {s s':Shared} {a L:Addr} {cls v:Value} {dx:KG} {st:AL} {env:Env} {outer:List Env} {base:Heap} {M:Model} {A:Around} {Z:Ks} {Q:Unit->Shared->Prop}
theorem ie.frees (c:ie P w outer H s a H' cls dx st s') (hl:s.heap.FunFrames base outer) (hH:∀b∈kr outer,H b=none):∀b∈kr outer,H' b=none:=λb hb=>by
 obtain ⟨_,o,ho,_⟩:=hl.mem hb;exact c.un.free b o ho (hH b hb) 73
theorem ie.note (c:ie P w (env::outer) H s a H' cls dx st s') (hfr:A.frames=some (env::outer)) (hf:env.frame=some L) (hl:s.heap.FunFrames base (env::outer)) (hH:∀b∈kr (env::outer),H b=none)
  (h:∀s'',ie P w (env::outer) H s a H' cls dx (.fl (rawInt L)) s''->Q () s''):wpAny M A (noteFrame 134 env) Q Z s':=by
 refine zj hfr (uG c.un hl λb hb=>(hb,hH b hb)) hf c.xo λh' ch hch mv x=>h _ ?_
 refine (c.os,c.bare,AM c.un mv λb hb=>(hch b hb).1,xz c.hok mv (λb hb=>(hch b hb).2) (c.frees hl hH),x.mono ?_)
 rintro b (q|q)
 ·exact q
 ·refine (?_,c.hok.none_of q);cases r:s.heap.get? b with
  |none=>rfl
  |some o=>
   obtain ⟨o',r'⟩:=c.un.there b o r 73
   rw[r'] at q;cases q
theorem ie.flight {fl:KG} (c:ie P w outer H s a H' cls dx (.fl v) s') (hl:s.heap.FunFrames base outer) (hH:∀b∈kr outer,H b=none)
  (h:∀s'',ie P w outer H s a H' cls dx (.fl (fl.elim .none λf=>rawInt f)) s''->Q () s''):wpAny M A (setFlight 134 fl) Q Z s':=by
 refine vL c.xo λh' T hT mv x=>h _ (c.os,c.bare,AM c.un mv.wider λb hb=>?_,xz c.hok (mv.wider (fs:=kr outer)) (λb hb=>?_) (c.frees hl hH),x)
 ·rw[GK.mp hb];exact hT.1
 ·rw[GK.mp hb];exact hT.2
universe z0
def XS (X:Cx) (E:St->XK):Value->Shared->Prop:=λe s'=>∃σ H0 s0,aG X [] σ H0 s0/\dU X.prog X.w X.stack H0 s0 (E σ) e s'
def iW (X:Cx) (E:St->XK):Prop:=∀(pins:Ky) (σ:St) (H:Hp) (s:Shared) (e:Value) (s':Shared),aG X pins σ H s->dU X.prog X.w X.stack H s (E σ) e s'->X.xe e s'
theorem cG {X:Cx} {E:St->XK}:iW 509 E:=λpins σ H s e s' I c=>(σ,H,s,I.unwish.pins_of (λp hp=>absurd hp 73),c)
def sT (sp:Sp) (dvs:List V) (E:St->XK) (t:TA):TE:=λσ H Q=>t σ H λvs H1=>sp 377 H1 Q (E σ)
section
variable {X:Cx} {k:Nat} {f C:Addr} {fd:FuncData} {ps:KA} {sp:Sp} {dvs:List V} {ds:KC} {E:St->XK} {x m:Str} {p pos apos:Pos} {e o:Expr} {es:List Expr} {ta:TE} {t:TA}
theorem uH {pins:Ky} {σ:St} {H:Hp} {s:Shared} {Q:VK} {us:KC} {vs:List V} (F:bh X.prog X.w X.K X.mg X.base 312 k f fd ps sp) (hr:ce k X.A) (hb:Binds X.K fd ps ds) (hd:aZ dvs ds) (hx:iW X E)
  (I:aG X pins σ H s) (r:aZ vs us) (h:sp 377 H Q (E σ)):wpAny 69 X.A (call 272 us) 238 X.xe s:=by
 have r2:aZ 377 (us++ds):=r.append hd;sleep 250
 refine wpAny_call (codeAny_mono (F.run X.A X.stack s H (us,[]) (us++ds) 377 Q (E σ) hr I.env0 (hb s us I.kIn hl) r2 h) λr s' hq=>?_)
 cases r with
 |error e=>exact hx pins σ H s e s' I hq
 |ok fl=>
  cases fl with
  |ret u=>exact I.after hq
  |next=>exact False.elim hq
  |brk=>exact False.elim hq
  |cont=>exact False.elim hq
theorem qH (F:bh X.prog X.w X.K X.mg X.base 312 k f fd ps sp) (hr:ce k X.A) (hg:Gl X x) (hm:X.mg x=some 272) (hk:Hk X.K 272=true) (hb:Binds X.K fd ps ds) (hd:aZ dvs ds) (hx:iW X E)
  (ha:PA X (e::es) t) (hdb:92=false:=by decide) (he:starEach (e::es) X.env=(false,eval e X.env)::starEach es X.env:=by rfl) (hpl:(backTo pos 112).any 111=false:=by rfl):
  PE X 118 (sT sp dvs E t):=by
 sleep 66;sleep 102
 exact uH F hr hb hd hx I1 r q
universe z0
theorem kO.toX {X:Cx} {E':Ks} {st:List Stmt} {t:TS} (h:kO (X.wish E') st t) (k:∀e s,E' e s->X.xe e s):kO X st t:=λpins s σ H D I hw=>
 wpAny_mono (h pins s σ H D (I.wish _) hw) (λ_ _ q=>q.unwish) λe s z=>k e s z
section
variable {P:Program} {w:World} {K:G0} {mg:Kt} {base:Heap}
theorem xA {N:KA} {qual:Str} {scope:Scope} {f:Addr} {cd:Value} {A:Around} {outer:List Env} {s:Shared} {H:Hp} {E:XK} {e:Value} {s':Shared}
  (h:XS (jW 138 P w K mg base N qual scope f cd A outer s H E) (λ_=>E) e s'):(jW 138 P w K mg base N qual scope f cd A outer s H E).xe e s':=by
 obtain ⟨σ,H0,s0,I,a,H',cls,dx,st,rfl,c,hE⟩:=h;show wpAny 404 (A.deeper (557 cd)) (leaving (557 cd) 134) (λ_ s''=>dU P w outer H s E 134 s'') (λe' s''=>dU P w outer H s E e' s'') s'
 unfold leaving;sleep 17;refine c.note (L:=s.heap.objs.size) I.ok.frames rfl I.stack I.stkFree λs1 c1=>?_
 refine c1.flight I.stack I.stkFree λs2 c2=>?_
 have J:=I.call' c2.os c2.un c2.hok c2.bare (λb z=>absurd z 73)
 refine (a,H',cls,dx,ν,(J.os,c2.bare,J.base,c2.hok,c2.xo.mono λb q=>(?_,q.2)),hE)
 cases r:s.heap.get? b with
 |none=>rfl
 |some o=>
  obtain ⟨o',r'⟩:=I.base.there b o r (λz=>absurd (show b∈([]:KB) from z) 73)
  rw[q.1] at r';cases r'
theorem Bk {k:Nat} {f:Addr} {name qual:Str} {params:Arguments} {body:List Stmt} {scope:Scope} {dV kV doc pm cdv ct oc:Value} {an od:KG}
  {osl:Kz} {N ps:KA} {sp:Sp} (lk:K.lookup f=some ⟨oc,od,.func 168,osl⟩) (hcd:IG K cdv qual=true) (S:aC N ps scope)
  (len:∀vs H Q E,sp vs H Q E->vs.length=ps.length)
  (hbody:∀(A:Around) (outer:List Env) (s:Shared) (H:Hp) (vs:List V) (Q:VK) (E:XK),ce k (A.deeper (557 cdv))->sp vs H Q E->
   ∃t,kO ((jW 138 P w K mg base N qual scope f cdv A outer s H E).wish (XS (jW 138 P w K mg base N qual scope f cdv A outer s H E) λ_=>E)) body t/\t 190 309 H):
  bh P w K mg base 138 (k+1) f 168 ps sp:=by
 refine AH lk hcd S len λA outer s H vs Q E hr hsp=>?_
 obtain ⟨t,h,q⟩:=hbody A outer s H vs Q E hr hsp;exact (t,h.toX λe s' z=>xA z,q)
theorem bh.noraise {k:Nat} {f:Addr} {fd:FuncData} {ps:KA} {sp sp0:Sp} (F:544 138 k f fd ps sp) (h:∀vs H Q E,sp0 vs H Q E->sp vs H Q E0):544 bC k f fd ps sp0:=
 ⟨λvs H Q E q=>F.len vs H Q E0 (h _ _ _ _ q),λA outer s H args us vs Q E hr he hb hv hs=>codeAny_mono (F.run A outer s H args us vs Q E0 hr he hb hv (h _ _ _ _ hs)) λr s' hq=>by
  cases r with
  |error e=>obtain ⟨_,_,_,_,_,_,_,z⟩:=hq;exact z.elim
  |ok fl=>cases fl<;>exact hq⟩
universe z0
abbrev Cx.tried (X:Cx) (pins:Ky):Cx:={X with pn:=X.pn++pins}
abbrev Cx.suite (X:Cx) (pins:Ky) (a:Addr):Cx:={X with A:=X.A.mark (some 134),calm:=false,pn:=X.pn++pins,xe:=λ_ _=>False}
noncomputable def cR (n:Bool) (a:Addr) (cls:Value) (dx:KG):HO:= .ext λh=>∃ox vs,h.get? a=some ox/\ox.cls=cls/\ox.dict=dx/\ox.data= .fields vs/\vs[2]?=some .none/\(n=true->1<vs.size/\vs[1]?=some .none)
abbrev xB:=cR false
theorem pi {P:Program} {w:World} {H:Hp} {h:Heap} {n:Bool} {a:Addr} {cls:Value} {dx:KG} {ox:Obj} {vs:Array Value} (h1:h.get? a=some ox) (h2:ox.cls=cls) (h3:ox.dict=dx) (h4:ox.data= .fields vs) (h6:vs[2]?=some .none) (h5:n=true->1<vs.size/\vs[1]?=some .none):aY P w H h a (cR n a cls dx):=
 ⟨⟨ox,vs,h1,h2,h3,h4,h6,h5⟩,⟨ox,h1⟩,λ_ _ ⟨oy,ws,q,r⟩ kp=>⟨oy,ws,kp _ q,r⟩⟩
abbrev TH:=Ends->St->Value->KG->Hp->Addr->Prop
def PH (X:Cx) (hs:List ExceptHandler) (th:TH):Prop:=
 ∀(pins:Ky) (σ:St) (H0:Hp) (s0:Shared) (D:Ends) (a:Addr) (H':Hp) (cls v:Value) (dx:KG) (s':Shared),aG X pins σ H0 s0->ie X.prog X.w X.stack H0 s0 a H' cls dx (.fl v) s'->th D σ cls dx H' a->
  wpAny 69 X.A (handleBy 134 X.env hs) (SP X pins D) X.xe s'
section
variable {X:Cx} {pins:Ky} {σ:St} {H H':Hp} {s s':Shared}
theorem aG.tried (I:aG X pins σ H s):aG (X.tried pins) [] σ H s:=
 ⟨158,
  I.os,I.bare,I.base,I.loc,I.cell,I.free,I.freeC,λp hp=>I.pin p 460,I.hok,I.len⟩
theorem aG.untried (I:aG (X.tried pins) [] σ H s):aG X pins σ H s:=
 ⟨158,
  I.os,I.bare,I.base,I.loc,I.cell,I.free,I.freeC,λp hp=>I.pin p 460,I.hok,I.len⟩
theorem aG.insuite (I:aG X pins σ H s) (a:Addr):aG 357 [] σ H s:=
 ⟨⟨I.ok.mod,I.ok.kind,I.ok.glob,I.ok.blt,I.ok.above,I.ok.inj,I.ok.has,I.ok.cab,λz=>(Bool.noConfusion z),I.ok.frames,I.ok.stk,I.ok.exf,I.ok.bs,I.ok.bsz,I.ok.noex,I.ok.exfs,I.ok.funs,I.ok.frf⟩,
  I.os,I.bare,I.base,I.loc,I.cell,I.free,I.freeC,λp hp=>I.pin p 460,I.hok,I.len⟩
theorem aG.outsuite {a:Addr} (ok:X.Ok) (I:aG 357 [] σ H s):aG X pins σ H s:=
 ⟨ok,I.os,I.bare,I.base,I.loc,I.cell,I.free,I.freeC,λp hp=>I.pin p 460,I.hok,I.len⟩
theorem aG.unbound {n:Str} {i:Nat} {h':Heap} {m:Kt} {v:KH} {t':Nat} (I:aG X pins σ H s) (hi:X.N[i]?=some n) (hN:X.N.Nodup)
  (hm:∀(j:Nat) (x:Str) (v:V),X.N[j]?=some x->σ[j]?=some (some v)->CZ X.env.scope x->∃u,RelV v u/\Look X.env s.heap m x u)
  (hn:h'.Ns X.env.locals (λx=>if x=n then v else m x)) (hs:Heap.SameBut X.env.locals s.heap h'):aG X pins (σ.set i none) H {s with heap:=h',toks:=t'}:=by
 obtain ⟨m0,hn0,_⟩:=id I.loc;obtain ⟨oL,_,_,hoL,_⟩:=id hn0;have cne:=I.cne;have low:∀b o,X.s₀.heap.get? b=some o->b≠X.env.locals:=λb o e=>GL (HK (85 e) I.ok.above)
 refine (I.ok,I.os,I.bare,(λb o e n hb hx=>?_,λb o e n hb hx=>?_,I.base.free,λb o e hx=>?_,I.base.tups,I.base.frzs,I.base.tbls),(_,hn,λj y v' e1 e2 e3=>?_),λy c e=>?_,I.free,I.freeC,λp hp=>?_,λb ob e=>?_,by simpa using I.len)
 ·exact (hs.2 b (low b o e)).trans (I.base.keep b o e n hb hx)
 ·obtain ⟨sl,e1⟩:=I.base.slot b o e n hb hx;exact (sl,(hs.2 b (low b o e)).trans e1)
 ·obtain ⟨o',e1⟩:=I.base.there b o e hx;exact (o',(hs.2 b (low b o e)).trans e1)
 ·by_cases hj:j=i
  ·subst hj;rw[List.getElem?_set] at e2;simp at e2
  ·rw[List.getElem?_set_ne (Ne.symm hj)] at e2;obtain ⟨u',r',q⟩:=hm j y v' e1 e2 e3;exists u',r';rcases q with ⟨k,e⟩|⟨k,c,e,z⟩
   ·refine .inl (k,?_);have:y≠n:=λe=>hj (lH hN e1 (e▸hi))
    simp[this,e]
   ·exact .inr (k,c,e,z.sameBut hs (cne y c e))
 ·obtain ⟨w',z⟩:=I.cell y c e;exact (w',z.sameBut hs (cne y c e))
 ·obtain ⟨e,n,ne,nf,d⟩:=I.pin p hp;exact ((hs.2 p.1 ne).trans e,n,ne,nf,d)
 ·refine (I.hok b ob e).stay (λc w' hc q=>(hs.2 c ?_).trans q) (λ_ q=>q) λ_ _ q=>q
  rintro rfl;rcases hc with rfl|hc
  ·rw[I.free] at e;cases e
  ·rw[I.free] at hc;cases hc
theorem lR {fs:KB} {h0 h:Heap} {a:Addr} {o:HO} (u:Un fs [] H H' h0 h) (n0:h0.get? a=none) (na:H' a=none):Un fs [] H (ay H' a o) h0 h where
 keep:=u.keep
 slot:=u.slot
 free:=λb ob q n hx=>by
  have:b≠a:=λz=>by rw[z,n0] at q;cases q
  rw[ak this];exact u.free b ob q n hx
 there:=u.there
 tups:=λb xs e=>by
  have q:=u.tups b xs e;rw[ak (bj q na)];exact q
 frzs:=λb o' w' e=>by
  have q:=u.frzs b o' w' e;rw[ak (bj q na)];exact q
 tbls:=λb ps e=>by
  obtain ⟨mo,q⟩:=u.tbls b ps e;exact (mo,by rw[ak (bj q na)];exact q)
theorem nU {P:Program} {w:World} {h:Heap} {a:Addr} {o:HO} (k:fX P w H h) (na:H a=none) (new:aY P w (556 a o) h a o):fX P w (556 a o) h:=λb u e=>by
 by_cases hb:b=a
 ·subst hb;rw[ac] at e;cases e;exact new
 ·rw[ak hb] at e;exact (k b u e).stay (λc v _ q=>q) (λc q=>by rw[ak (bj q na)];exact q) λc xs q=>by rw[ak (bj q na)];exact q
theorem ie.caughtN {a:Addr} {cls:Value} {dx:KG} (I:aG X pins σ H s) (c:ie X.prog X.w X.stack H s a H' cls dx .new s'):aG X pins σ (ay H' a (cR true a cls dx)) s':=by
 obtain ⟨⟨oe,vs,he,hc,hd,hda,hz,hn⟩,n0,na⟩:=c.xo;refine I.call' c.os (lR c.un n0 na) (nU c.hok na (pi he hc hd hda hz.2 λ_=>(hz.1,hn))) c.bare λb z=>absurd z 73
theorem ie.caught {a:Addr} {cls:Value} {dx:KG} {st:AL} (I:aG X pins σ H s) (c:ie X.prog X.w X.stack H s a H' cls dx st s'):aG X pins σ (ay H' a (xB a cls dx)) s':=by
 obtain ⟨⟨oe,vs,he,hc,hd,hda,hz,_⟩,n0,na⟩:=c.xo;refine I.call' c.os (lR c.un n0 na) (nU c.hok na (pi he hc hd hda hz.2 λz=>nomatch z)) c.bare λb z=>absurd z 73
universe z0
section
variable {X:Cx} {body:List Stmt} {h₀:ExceptHandler} {hs:List ExceptHandler} {pos:Pos} {th:TH}
def FM (tb:(St->XK)->TS) (th:TH):TS:=λD σ H=>tb (λσ' cls dx H'=>∀a,H' a=none->th D σ' cls dx H' a) D σ H
theorem SP.untried {pins:Ky} {E:Ks} {D:Ends} {f:Flow} {s':Shared} (h:SP ((X.tried pins).wish E) [] D f s'):SP X pins D f s':=by
 cases f with
 |next=>obtain ⟨σ',H',I,q⟩:=h;exact 453
 |brk=>obtain ⟨σ',H',I,q⟩:=h;exact 453
 |cont=>obtain ⟨σ',H',I,q⟩:=h;exact 453
 |ret u=>obtain ⟨v,σ',H',I,r,q⟩:=h;exact (v,σ',H',I.unwish.untried,r,q)
theorem xC {tb:(St->XK)->TS} (hstk:X.stack=X.env::X.outer) (hfm:X.env.frame=some X.env.locals)
  (hb:∀(pins:Ky) (E:St->XK),kO ((X.tried pins).wish (XS (X.tried pins) E)) body (tb E)) (hh:PH X (h₀::hs) th):PS X (.Try body (h₀::hs) [] [] pos) (FM tb th):=by
 sleep 225;refine wpAny_Try_except ?_;refine wpAny_mono (hb pins _ [] s σ H D (I.tried.wish _) h) (λf s1 q=>?_) λe s1 hx=>?_
 ·have q:=q.untried;cases f with
  |next=>exact wpAny_execs_nil q
  |brk=>exact q
  |cont=>exact q
  |ret u=>exact q
 ·obtain ⟨σ',H0,s0,I0,a,H',cls,dx,st,rfl,c,hE⟩:=hx;sleep 266;have J:=I0.untried;sleep 260
  sleep 241
  sleep 249
  refine c'.note fr hfm st1 sf λs2 c2=>?_
  refine c2.flight st1 sf λs3 c3=>?_
  exact hh pins σ' H0 s0 D a H' cls _ dx s3 J (hstk▸c3) (hE a c3.xo.fr.2)
theorem xD:PH X [] (λ_ _ _ _ _ _=>False):=λ_ _ _ _ _ _ _ _ _ _ _ _ _ h=>h.elim
universe z0
structure XT (K:G0) (C:Addr):Prop where
 ty:PySem.W.typeIn K 107=some (.type "type")
 cl:(PySem.W.clsIn K C).isSome=true
 ex:IZ K 107 245=some true
theorem pj {K:G0} {M:Model} {h:Heap} {C:Addr} (X:K.In h) (e:(PySem.W.clsIn K C).isSome=true):PySem.W.Looks M h (isType 107) true:=by
 unfold PySem.W.clsIn at e
 split at e
 ·rename_i ho;intro A' Q' E' s' k q;unfold isType loadHead;exact wpAny_bind (wpAny_loadPart (k _ _ (X _ _ ho)) (wpAny_pure q))
 ·cases e
structure XG (K:G0) (C:Addr):Prop where
 ga:HG K 107 "__getattribute__" =some (some (.builtin "BaseException.__getattribute__"))
 gt:HG K 107 "__getattr__" =some none
 be:PySem.W.mroIn K C 245=some true
section
variable {prog:Program} {w:World} {A:Around} {E:Ks} {K:G0} {h:Heap} {g:Array GenState} {d:Drawn} {t:Nat} {os:OsState} {x C:Addr} {ox:Obj} {od:Option Obj} {name:Str}
open PySem.W in
theorem vM {nameV:Value} {Q:Unit->Shared->Prop} (X:K.In h) (I:InstAt h x ox C od) (G:XG K C) (hq:Q () ⟨h,g,d,t,os⟩):
  wpAny 68 A (checkBuiltinCall "BaseException.__getattribute__" ⟨[.ref x,nameV],[]⟩) Q E ⟨h,g,d,t,os⟩:=by
 have hk:builtinKind "BaseException.__getattribute__" =some .slot:=by decide+kernel
 have hs:splitId "BaseException.__getattribute__" =some ("BaseException","__getattribute__"):=by decide+kernel
 have l0:=I.type (M:=model prog w);have l1:=looks_mroIn (M:=model prog w) X G.be;have ha:=F.args_bexc_ga 328 nameV;have l2:Looks 68 h (isInstance 328 245) true:=l0.andThen l1;simp only[checkBuiltinCall,hk,hs];sleep 205;unfold isInstance;have hx:=I.at_;have hc:=I.cls
 repeat (first|(with_reducible refine wpAny_loadPart_at hx ?_;rw[hc])|with_reducible refine l1.at ?_|wp_step)
 exact hq
open PySem.W in
theorem kQ {tk:Tok} {v:Value} {Q:Fin->Shared->Prop} (X:K.In h) (I:InstAt h x ox C od) (hf:findObj K C od name=some (.value v)) (hq:Q (.done (.ret v)) ⟨h,g,d,t,os⟩):
  wpAny 68 A 358 Q E ⟨h,g,d,t,os⟩:=by
 have l0:=I.type (M:=model prog w);have l1:=looks_find (M:=model prog w) X I hf;unfold Builtin.«object.__getattribute__»;refine wpAny_bind (wpAny_pure (wpAny_bind (wpAny_pure 521)));exact wpAny_pure hq
open PySem.W in
theorem Bl {tk:Tok} {fill expr:Bool} {Q:Ks} (X:K.In h) (I:InstAt h x ox C od) (G:XG K C)
  (hq:∀A':Around,wpAny 68 A' 358 (λfin s'=>match fin with| .done (.ret v)=>wpAny (model prog w) A (handedOut v) Q E s'|_=>False) (λ_ _=>False) ⟨h,g,d,t,os⟩):
  wpAny 68 A (getAttrBy 328 (.str name tk) fill expr) Q E ⟨h,g,d,t,os⟩:=by
 have l0:=I.type (M:=model prog w);have l1:=looks_findIn (M:=model prog w) X G.ga;have l2:=looks_findIn (M:=model prog w) X G.gt;have fb:=F.attrBase_ValueError;have f3:=fb.ga.bind 328;unfold getAttrBy;refine wpAny_holding 521;have hx2:(Value.builtin "BaseException.__getattribute__" ==Value.builtin "object.__getattribute__")=false:=by decide+kernel
 simp only[hx2,Bool.and_false,Ia,if_false];unfold getAttrByItsOwn hookBefore;sleep 205;rw[if_pos (show onTheHeap 107=true from rfl)]
 refine l2.at ?_;refine wpAny_bind (wpAny_attempt (wpAny_holding ?_));unfold callGetattribute;rw[if_neg (by cases expr<;>exact GQ)]
 unfold boundAndCalled;refine wpAny_bind (wpAny_of_eq f3 ?_);refine wpAny_call (codeAny_call_builtin fb.ga.plain F.entry_bexc_ga (vM X I G (wpAny_mono (hq _) (λfin s' z=>?_) λ_ _ z=>z.elim)))
 rcases fin with (_|_|_|_)|_<;>first|exact z.elim|exact z
universe z0
section
variable {prog:Program} {w:World} {A:Around} {E:Ks} {K:G0}
theorem lS {h:Heap} {g:Array GenState} {d:Drawn} {t:Nat} {os:OsState} {e C C':Addr} {oe:Obj} {b:Bool} {Q:Bool->Shared->Prop} (KX:K.In h) (he:h.get? e=some oe) (hc:oe.cls= .ref C) (T:XT K C')
  (hsub:IZ K 107 517=some b) (hq:Q b ⟨h,g,d,t,os⟩):wpAny 68 A (excMatches 538 517) Q E ⟨h,g,d,t,os⟩:=by
 have l1:=PySem.W.looks_typeIn (M:=model prog w) KX T.ty;have l2:=PySem.W.looks_subIn (M:=model prog w) KX T.ex;have l3:=PySem.W.looks_subIn (M:=model prog w) KX hsub;have l4:=pj (M:=model prog w) KX T.cl;have l5:PySem.W.Looks 68 h (isInstance 517 464) false:=l1.andThen (PySem.W.Looks.of_pure tc_notTuple);have l6:PySem.W.Looks 68 h (isExcClass 517) true:=by
  unfold isExcClass;refine l4.andThen ?_;exact l2
 unfold excMatches
 repeat (first|with_reducible refine wpAny_bind (l5.at ?_)|with_reducible refine wpAny_bind (l6.at ?_)|with_reducible refine wpAny_bind (l3.at ?_)|(with_reducible refine wpAny_loadPart_at he ?_;rw[hc])|wp_step)
 cases b<;>(wp_walk;exact hq)
universe z0
noncomputable def Dt (i:Nat) (D:Ends):Ends:={nx:=λσ H=>D.nx (σ.set i none) H,rt:=D.rt,bk:=λσ H=>D.bk (σ.set i none) H,ct:=λσ H=>D.ct (σ.set i none) H}
section
variable {X:Cx} {x n:Str} {np pos:Pos} {b0:Stmt} {suite:List Stmt} {rest:List ExceptHandler} {i:Nat} {C':Addr} {t:TS} {th:TH}
theorem zk {pins:Ky} {a:Addr} {D:Ends} {f:Flow} {s:Shared} {M:Model} {A:Around} {E:Ks} (ok:X.Ok) (hN:X.N.Nodup) (hi:X.N[i]?=some n) (hloc:X.env.scope.names.lookup n=some .local)
  (q:SP 357 [] (Dt i D) f s):wpAny M A (do bindName X.env n .none;unbindBehindTheSuite X.env n pos) (λ_ s'=>SP X pins D f s') E s:=by
 have hcls:(X.env.scope.kind== .class||(X.env.scope.kind== .module&&X.env.locals !=X.env.globals))=false:=by rw[ok.kind];rfl
 cases f with
 |next=>
  sleep 29
 |brk=>
  sleep 29
 |cont=>
  sleep 29
 |ret u=>
  obtain ⟨v,σ,H,I,r,q⟩:=q;have J:=I.outsuite ok;obtain ⟨m,hn,hl⟩:=id J.loc;exact wpAny_nameGoes_keeps hloc hn hcls λh' v' hn' hs=>(v,_,H,J.unbound hi hN hl hn' hs,r,q)
theorem SP.outsuite {pins:Ky} {a:Addr} {D:Ends} {f:Flow} {s:Shared} (ok:X.Ok) (h:SP 357 [] D f s):SP X pins D f s:=by
 cases f with
 |next=>obtain ⟨σ',H',I,q⟩:=h;exact 499
 |brk=>obtain ⟨σ',H',I,q⟩:=h;exact 499
 |cont=>obtain ⟨σ',H',I,q⟩:=h;exact 499
 |ret u=>obtain ⟨v,σ',H',I,r,q⟩:=h;exact (v,σ',H',I.outsuite ok,r,q)
theorem jY {E:St->XK} (hstk:X.stack=X.env::X.outer) (hfm:X.env.frame=some X.env.locals):PassesOwn 69 X.A X.env (XS X E):=by
 intro e s1 hx;obtain ⟨σ',H0,s0,J,a,H',cls,dx,st,rfl,c,hE⟩:=hx;sleep 266;sleep 260
 sleep 241
 sleep 249
 unfold notedBy;refine c'.note fr hfm st1 sf λs2 c2=>?_
 unfold cameBackBy;obtain ⟨oe,vs,he,_,_,hd,_,T,_,_,h1,_⟩:=c2.xo.ex;sleep 17;apply wpAny_field he hd h1;rw[if_neg 73]
 refine c2.flight st1 sf λs3 c3=>?_
 exact (σ',H0,s0,J,a,H',cls,dx,ν,hstk▸c3,hE)
universe z0
noncomputable def wK:KC:= [.type "ValueError",.type "Exception",.type "BaseException",.type "object"]
theorem Bm {K:G0} {h:Heap} {C:Addr} {bmB:KC} {nw:String} (X:K.In h) (q:IQ K C bmB nw=true):
  ∃bm N nm qn bs hdct sn sub ab col dd k0 k1 k2 k3 k5 mN,h.get? C=some (excClassObj nm qn C N bs bm hdct sn sub ab col dd k0 k1 k2 k3 k5 nw)/\h.Ns N mN/\mN "__init__" =none/\OwnTail h bmB bm:=by
 unfold IQ at q
 split at q
 ·rename_i dd cd sl ho
  split at q
  ·rename_i C' bm k0 k1 k2 k3 n k5 hm hs;simp only[Bool.and_eq_true,beq_iff_eq,Bool.not_eq_true'] at q;obtain ⟨⟨⟨⟨⟨e1,e2⟩,hdel⟩,ht⟩,hok⟩,hni⟩:=q;subst e1 e2;obtain ⟨nm,bs,mro,ns,qn,hd,sn,sub,ab,col,del⟩:=cd;dsimp only at hm hdel hok hni;subst hm hdel;obtain ⟨l⟩:=sl;have hl:l= [k0,k1,k2,k3,some (.builtin n),k5]:=hs;subst hl;exact (bm,ns,nm,qn,bs,hd,sn,sub,ab,col,dd,k0,k1,k2,k3,k5,_,X _ _ ho,.of_isNs (PySem.W.isNs_of_in X hok),PySem.W.nsMap_none_of_in X hok hni,PySem.W.tail_of_in X ht)
  ·cases q
 ·cases q
def Bo (C:Addr) (E:St->XK) (t:TA):TS:=λ_ σ H=>t σ H λvs H1=>vs.length<=sizeLine/\E σ 107 none H1
section
variable {X:Cx} {x:Str} {np cpos pos:Pos} {e₀:Expr} {rest:List Expr} {C:Addr} {t:TA} {E:St->XK}
theorem uI {pins:Ky} {σ:St} {H:Hp} {s:Shared} {h':Heap} {e:Addr} {us:KC} (I:aG X pins σ H s) (mk:Heap.MadeExcOf s.heap h' e 107 us):ie X.prog X.w X.stack H s e H 107 none .new {s with heap:=h'}:=by
 obtain ⟨t,ht,_,_⟩:=mk.there;exact (rfl,I.bare,Un.kept mk.keeps,I.hok.kept mk.keeps,((_,_,ht,rfl,rfl,rfl,(by show 1<6;decide,rfl),rfl),mk.new,I.hok.none_of mk.new))
theorem fo (q:IQ X.K C wK "ValueError.__new__" =true) (hg:Gl X x) (hm:X.mg x=some 107) (hc:X.calm=true) (hp:iW X E) (ha:PA X (e₀::rest) t) (hd:92=false:=by decide)
  (he:starEach (e₀::rest) X.env=(false,eval e₀ X.env)::starEach rest X.env:=by rfl) (hpl:(backTo cpos (starEach rest X.env)).any 111=false:=by rfl):
  PS X (.Raise (some 299) none pos) (Bo C E t):=by
 sleep 225;obtain ⟨bm,N,nm,qn,bs,hdct,sn,sub,ab,col,dd,k0,k1,k2,k3,k5,mN,hC,hN,hni,TL⟩:=Bm I.ok.mod.kin q;have F:=PySem.F.excBase_ValueError;have W:=ha cpos pins s σ H _ I h;refine wpAny_Raise_call_subT (C:=C) (nm:=nm) (q:=qn) (N:=N) (bs:=bs) (bm:=bm) (hdct:=hdct) (sn:=sn) (sub:=sub) (ab:=ab) (col:=col) (dd:=dd) (k0:=k0) (k1:=k1) (k2:=k2) (k3:=k3) (k5:=k5) (mN:=mN)
  F (TL.hasType F.hasBase) 231 (by rw[he];exact hpl) hni (dZ I hg hm ⟨rfl,?_⟩ hd)
 rw[he] at W⊢;refine Calls.evalArgs_plain (bH W λus s2 (vs,H1,I1,r,hl,z)=>(rfl,by rw[<-r.length];exact hl,I1.bk _ _ hC,hN.keeps I1.bk,TL.keeps I1.bk,λh' e mk=>?_))
 exact hp pins σ H1 s2 _ _ I1 (e,H1,.ref C,none,.new,rfl,uI I1 mk,z)
universe z0
structure XI (K:G0) (C:Addr):Prop where
 gg:XG K C
 cl:(PySem.W.clsIn K C).isSome=true
 at_:HG K 107 "__class__" =some (some 434)
 gt:PySem.W.specialIn K 434 "__get__" =some (some (.builtin "getset_descriptor.__get__"))
 tk:PySem.W.takesIn K 434=some true
 ob:PySem.W.mroIn K C (.type "object")=some true
abbrev Cx.block (X:Cx) (scope:Scope) (cl:List 149) (C:Addr) (N:KA) (own:Str) (fp:KB) (s:Shared) (H:Hp):Cx:=
 {X with env:=compEnvC scope cl C X.env,N:=N,s₀:=s,H₀:=H,outer:=X.stack,stack:=X.stack,ex:=fp,fn:=λy=>y==own,pn:= [],xe:=λ_ _=>False}
structure eI (X:Cx) (scope:Scope) (cl:List (Str×Addr)) (own:Str) (ys:KA) (js:List Nat):Prop where
 clos:closureFor scope X.env=pure cl
 nocell:(scope.names.all λp=> !(p.2== .cell))=true
 kind:scope.kind= .function
 loc:305=true
 ownL:scope.names.lookup own=some .local
 sub:∀p∈cl,X.env.cells.lookup p.1=some p.2
 has:277=true
 noown:cl.lookup own=none
 nd:(own::ys).Nodup
 at_:∀(i:Nat) (y:Str),ys[i]?=some y->∃j:Nat,js[i]?=some j/\X.N[j]?=some y/\(X.env.scope.names.lookup y=some .cell∨X.env.scope.names.lookup y=some .free)/\((relabel scope X.env).names.lookup y=some .cell∨(relabel scope X.env).names.lookup y=some .free)
 len:js.length=ys.length
noncomputable def bK (js:List Nat) (σ:St):St:=js.map λj=>(σ[j]?).getD none
def uJ (js:List Nat) (te:TE) (σ:St) (Q:VK):It->Hp->Prop:=λJ H1=>∀p,H1 p=none->∃W:Nat->Nat->List V->Hp->Prop,(∃m,W 0 m [] (ay H1 p 130))/\
 ∀i m ys H2,W i m ys H2->H2 p=some 263/\((J.stop i H2/\Q 133 H2)∨(J.go i H2/\ys.length<sizeLine/\∀x H3,J.yld i H2 x H3->te (some x::bK js σ) H3 λy H4=>H4 p=some 263/\∃m',m'<m/\W 236 m' (ys++ [y]) (ay H4 p (.lst (ys++ [y])))))
def uK (wi:TI) (js:List Nat) (te:TE):TE:=λσ H Q=>wi σ H (uJ js te σ Q)
theorem lookup_all {α:Type} {f:Str×α->Bool} {x:Str} {a:α}:∀{l:List (Str×α)},l.all f=true->l.lookup x=some a->f (x,a)=true:=by
 intro l h e;exact Hw.mp h _ (Hr e)
section
variable {prog:Program} {w:World} {A:Around} {R:Result->Shared->Prop} {s:Shared}
theorem jA {elt target iter:Expr} {scope:Scope} {pos:Pos} {it acc:Value} {env:Env} (I:Nat->Shared->Prop)
  (turn:∀n s,I n s->wpAny 68 A (pyNext it) (λr s1=>match r with
   |none=>R (.ok .next) s1
   |some v=>wpAny 68 A (letOwnedTupleGo target it v) (λ_ s2=>wpAny 68 A (assign target env v) (λ_ s3=>wpAny 68 A (eval elt env) (λx s4=>
     wpAny 68 A (call (.builtin "list.append") [acc,x]) (λ_ s5=>∃m,m<n/\I m s5) 169 s4) 169 s3) 169 s2) 169 s1) 169 s)
  (n:Nat) (h:I n s):codeAny 68 A (.compLoop 474 0 it acc env) R s:=by
 apply codeAny_loop rfl I ?_ n h;intro n s hI;show wpAny _ _ ((compTurn 474 0 it acc env).onRaise _) _ _ s;apply wpAny_noted;rw[compTurn_list1];sleep 17;apply wpAny_standAt;sleep 17;refine wpAny_mono (turn n s hI) (λr s1 h1=>?_) λ_ _ z=>z.elim
 cases r with
 |none=>exact wpAny_pure h1
 |some v=>
  sleep 17;refine wpAny_mono h1 (λ_ s2 h2=>?_) λ_ _ z=>z.elim
  sleep 17;refine wpAny_mono h2 (λ_ s3 h3=>?_) λ_ _ z=>z.elim
  sleep 17;sleep 17;refine wpAny_mono h3 (λx s4 h4=>?_) λ_ _ z=>z.elim
  sleep 17;refine wpAny_mono h4 (λ_ s5 h5=>?_) λ_ _ z=>z.elim
  exact wpAny_pure (wpAny_pure (rfl,h5))
universe z0
section
variable {X:Cx} {scope:Scope} {cl:List (Str×Addr)} {own:Str} {ys:KA} {js:List Nat} {fp:KB} {pins:Ky} {σ:St} {H:Hp} {s s4:Shared}
theorem fL {h1:Heap} (ok:eI X scope cl own ys js) (I:aG X pins σ H s) (hf:∀b∈fp,dX X pins H b) (hlt:∀b∈fp,b<35) (hns:h1.Ns 35 (λ_=>none))
  (hk:∀b o,s.heap.get? b=some o->h1.get? b=some o) (tk:Nat):
  aG (X.block scope cl 35 (own::ys) own fp s H) [] (none::bK js σ) H {s with heap:=h1,toks:=tk}:=by
 have sub:∀y c,cl.lookup y=some c->X.env.cells.lookup y=some c:=λy c e=>ok.sub (y,c) (Hr e)
 refine ⟨⟨I.ok.mod,ok.kind,I.ok.glob,I.ok.blt,G4 _,λx y c e1 e2=>I.ok.inj x y c (sub x c e1) (sub y c e2),λx hx=>?_,λx c e1 e2=>?_,I.ok.hd,I.ok.frames,.inl rfl,λb hb=>(GL (hlt b hb),λx c e=>(hf b hb).2.2.2.2.1 x c (sub x c e)),
  I.bs,HN I.ok.bsz I.sz,λb o e hb=>?_,λb hb z=>?_,I.stack,I.stkFree⟩,rfl,I.bare,Un.kept hk,⟨_,hns,λi y v e1 e2 e3=>?_⟩,λy c e=>?_,I.hok.fresh 173,λy c e=>I.freeC y c (sub y c e),λp hp=>absurd (show p∈([]:Ky) from hp) 73,I.hok.kept hk,?_⟩
 ·have hx':(relabel scope X.env).names.lookup x=some .cell∨(relabel scope X.env).names.lookup x=some .free:=hx;rcases hx' with z|z
  ·sleep 155
  ·sleep 156
 ·have e1':(x==own)=true:=e1;have e:x=own:=beq_iff_eq.mp e1';have e2':cl.lookup x=some c:=e2;rw[e,ok.noown] at e2';cases e2'
 ·rcases (hf b hb).2.2.2.1 with z|z
  ·exact I.ok.noex b o e z
  ·exact absurd (HK (85 (I.ok.bs b o e).1) z) (Ie _)
 ·rcases GM.mp (I.stkSub b z) with q|q
  ·exact (hf b hb).2.1 q
  ·exact (hf b hb).2.2.1 q
 ·cases i with
  |zero=>cases e2
  |succ i=>
   have e1':ys[i]?=some y:=e1;obtain ⟨j,hj,hN,hX,hc⟩:=ok.at_ i y e1';have e2':(bK js σ)[i]?=some (some v):=e2;unfold bK at e2';rw[GJ,hj] at e2';have hs:σ[j]?=some (some v):=by
    cases q:σ[j]? with
    |none=>rw[Io,q] at e2';cases e2'
    |some o=>rw[Io,q] at e2';exact e2'
   obtain ⟨m,hn,hl⟩:=I.loc;obtain ⟨u,r,l⟩:=hl j y v hN hs (hX.elim (λz=> .inr (.inl z)) λz=> .inr (.inr z))
   refine (u,r,.inr (hc,?_));rcases l with ⟨k,_⟩|⟨k,c,hcl,hcell⟩
   ·have k':X.env.scope.names.lookup y=some .local:=k;rcases hX with z|z<;>(rw[z] at k';cases k')
   ·have ex:∃c',cl.lookup y=some c':=by
     rcases hc with z|z
     ·sleep 155
     ·sleep 156
    obtain ⟨c',hc'⟩:=ex;have e:=sub y c' hc';rw[hcl] at e;cases e;obtain ⟨oc,hoc,hd⟩:=hcell;exact (c,hc',oc,hk _ _ hoc,hd)
 ·obtain ⟨v,oc,hoc,hd⟩:=I.cell y c (sub y c e);exact (v,oc,hk _ _ hoc,hd)
 ·show (none::bK js σ).length=(own::ys).length;simp[bK,ok.len]
theorem iB {H':Hp} {h':Heap} {σ':St} (I:aG X pins σ H s) (hf:∀b∈fp,dX X pins H b) (J:aG (X.block scope cl 35 (own::ys) own fp s H) [] σ' H' s4) (hs:Heap.SameBut 35 s4.heap h'):
  aG X pins σ H' {s4 with heap:=h'}:=by
 have low:∀b o,s.heap.get? b=some o->b≠s.heap.objs.size:=λb o e=>GL (85 e)
 have B:=J.base;have u:Un (kr X.stack) fp H H' s.heap h':={
  keep:=λb o q n hb hx=>(hs.2 b (low b o q)).trans (B.keep b o q n hb hx)
  slot:=λb o q n hb hx=>by
   obtain ⟨sl,e⟩:=B.slot b o q n hb hx;exact (sl,(hs.2 b (low b o q)).trans e)
  free:=B.free
  there:=λb o q hx=>by
   obtain ⟨o',e⟩:=B.there b o q hx;exact (o',(hs.2 b (low b o q)).trans e)
  tups:=B.tups
  frzs:=B.frzs
  tbls:=B.tbls}
 have hn:H' 35=none:=J.free;have hk:fX X.prog X.w H' h':=λa o e=>(J.hok a o e).stay (λb v hb q=>(hs.2 b (by
  intro z;rcases hb with z'|z'
  ·rw[<-z',z,hn] at e;cases e
  ·rw[z,hn] at z';cases z')).trans q) (λ_ q=>q) λ_ _ q=>q
 exact I.call' (s':={s4 with heap:=h'}) (ch:=fp) J.os u hk J.bare λb hb=>⟨(hf b hb).2.2.2.1,(hf b hb).2.1,(hf b hb).2.2.2.2.1,(hf b hb).2.2.2.2.2⟩
universe z0
section
variable {X:Cx} {scope:Scope} {cl:List (Str×Addr)} {own:Str} {ys:KA} {js:List Nat} {elt iter:Expr} {px pos:Pos} {wi:TI} {te:TE}
theorem vN (hc:X.calm=true) (ok:eI X scope cl own ys js) (hi:PI X 250 iter wi)
  (he:∀(C:Addr) (fp:KB) (s:Shared) (H:Hp),PE 72 elt te)
  (hs:∀x,foldedSetIterable iter X.env x=pure x)
  {pins:Ky} {s:Shared} {σ:St} {H:Hp} {Q:VK} {use:Option 510} {QQ:Ks} {pp:Pos} (I:aG X pins σ H s) (h:(uK wi js te) σ H Q)
  (fin:∀(p C:Addr) (s6:Shared) (H5:Hp) (v:Flow),414->143->dX X pins H5 C->Q 133 H5->compPost 69 X.A X.xe use QQ 133 C (.ok v) s6):
  wpAny 69 X.A 313 QQ X.xe s:=by
 have ncell:∀y∈scope.names,y.2≠ .cell:=λy hy z=>by
  sleep 134
 have nloc:∀y∈scope.names,y.2= .local->scope.names.lookup y.1=some .local:=λy hy z=>by
  sleep 207
  simpa using q
 sleep 24
 sleep 5
 have I3:=I2.laid (a:=s2.heap.objs.size) (o:= .lst []) (h':=s2.heap.push 129) (t':=s2.toks) 502 173
  ⟨HC _,[],0,.nil,81 _ rfl⟩
 have fpo:∀b∈fp,b<s2.heap.objs.size:=λb hb=>by
  sleep 103
 sleep 21
 sleep 19
 sleep 36
 sleep 42
 sleep 9
 sleep 18
 have fpB:∀{H':Hp},307->∀b∈fp,dX 24 [] H' b:=λ{H'} hn b hb=>
  ⟨hn b hb,GL (lt3 b hb),λz=>(GM.mp (I3.stkSub b z)).elim (f3 b hb).2.1 (f3 b hb).2.2.1,.inl hb,λx c e=>(f3 b hb).2.2.2.2.1 x c 416,λp hp=>absurd (show p∈([]:Ky) from hp) 73⟩
 have loop:codeAny 69 X.A (.compLoop 115 0 165 124 208)
   (compPost 69 X.A X.xe use QQ 124 s3.heap.objs.size) {s3 with heap:=h1,toks:=s2.toks+0}:=by
  refine jA 104 ?_ m0
   ⟨0,[],none,_,J0,t0,λb hb=>(f3 b hb).1,w0⟩
  sleep 60;rcases hw with ⟨stop,qn⟩|⟨go,hz,step⟩
  ·sleep 74
   sleep 12
  ·sleep 72
   sleep 119
   sleep 0
   sleep 204
   sleep 59
   sleep 122
   sleep 196;exact (I10.pin (b,o) 167).2.1
 sleep 71
theorem lj (hc:X.calm=true) (ok:eI X scope cl own ys js) (hi:PI X 250 iter wi)
  (he:∀(C:Addr) (fp:KB) (s:Shared) (H:Hp),PE 72 elt te)
  (hs:∀x,foldedSetIterable iter X.env x=pure x:=by intro _;rfl):PE X 115 (uK wi js te):=λpins s σ H Q I h=>by
 rw[eval_ListComp];exact vN hc ok hi he hs I h λp C s6 H5 v (m,hn) J _ q=>207
universe z0
theorem uL {X:Cx} {pins:Ky} {σ:St} {i:Nat} {y:Str} {py:Pos} {D:Ends} (hN:X.N.Nodup) (hi':X.N[i]?=some y) (hy:X.env.scope.names.lookup y=some .local) (p C:Addr) (s6:Shared) (H5:Hp) (v:Flow) (hm:∃m,s6.heap.Ns C m) (J:∀h',Heap.SameBut C s6.heap h'->aG X pins σ H5 {s6 with heap:=h'}) (fC:dX X pins H5 C) (qn:aU i 133 σ H5 D.nx):compPost 69 X.A X.xe (some (assign (.Name y py) X.env)) (λ_ s'=>SP X pins D .next s') 133 C (.ok v) s6:=by
 obtain ⟨m,hn⟩:=hm;obtain ⟨k0,k1,k2,k3,k4,k5⟩:=fC;show wpAny _ X.A (assign (.Name y py) X.env 133) _ _ _;refine wpAny_assign_Name (nC (v:= .ref p) (J s6.heap (Heap.SameBut.refl _ _)) hN hi' (.inl hy) rfl (λs7 I7 hsb=>?_) (.inr hy))
 obtain ⟨a',sb,ha⟩:=hsb;have ne:C≠a':=by
  rcases ha with z|z
  ·rw[z];exact k1
  ·exact λw=>k4 _ _ z w.symm
 exact (m,hn.sameBut sb ne,λh' hs'=>(_,H5,I7.turned (t':=s7.toks) (λb o hb e=>(hs'.2 b hb).trans e) k0 k1 k3 k4 k5,qn))
open PySem.Builtin PySem.Builtin.ObjectAttr
structure XA (K:G0) (C S:Addr):Prop where
 sa:HG K 107 "__setattr__" =some (some (.builtin "object.__setattr__"))
 mro:(PySem.W.clsIn K C).map (·.mro)=some (.ref C:: .ref S::wK)
 dct:PySem.W.hasDictIn K C=true
 ob:PySem.W.mroIn K C (.type "object")=some true
theorem xE (self:Value) (C S:Addr):refuseLoop self "__setattr__" (.ref C:: .ref S::wK)=pure ():=by
 rw[refuseLoop_ref,refuseLoop_ref]
 kernel_rfl
section
variable {prog:Program} {w:World} {A:Around} {E:Ks} {s:Shared} {K:G0} {x C S:Addr} {ox:Obj} {od:Option Obj} {name:Str} {v:Value}
open PySem.W in
theorem zm {R:Result->Shared->Prop} {tk:Tok} (X:K.In s.heap) (I:InstAt s.heap x ox C od) (N:XA K C S) (hn:findIn K 107 name=some none)
  (h:wpAny 68 A.in1 (storeInOwnDict 328 107 (.str name tk) name v false) (λfin s'=>match fin with| .done f=>R (.ok f) s'| .again c'=>c'.quiet=true/\codeAny (model prog w) A c' R s') (λe s'=>R (.error e) s') s):
  codeAny 68 A (.call (.builtin "object.__setattr__") ⟨[.ref x,.str name tk,v],[]⟩) R s:=by
 have so:=PySem.F.store_object;obtain ⟨cd,hc,hm⟩:=HB.mp N.mro;have sub:Looks 68 s.heap (isInstance 328 (.type "object")) true:=I.type.andThen (looks_mroIn X N.ob);have lm:Looks 68 s.heap (mroOf 107) cd.mro:=(looks_clsIn X hc).andThen .now;have ck:∀{A':Around} {Q':Unit->Shared->Prop} {E':Ks},Q' () s->wpAny 68 A' (checkBuiltinCall "object.__setattr__" ⟨[.ref x,.str name tk,v],[]⟩) Q' E' s:=λ{A' Q' E'} q=>
  check_slot (M:=model prog w) (A:=A') (E:=E') (s:=s) (i:= "object.__setattr__") (owner:= "object") (n:= "__setattr__") (self:= .ref x) (rest:= [.str name tk,v]) (kw:= []) (Q:=Q') so.kind so.split sub (so.args 328 (.str name tk) v) q
 refine codeAny_call_builtin so.slot.plain so.entry (ck ?_);rw[osa_eq,refuse_eq];refine wpAny_bind (wpAny_bind (I.type.here ?_));refine wpAny_bind (lm.here ?_);rw[hm,xE];refine wpAny_pure 279;refine I.type.here 279;refine (looks_findIn X hn).here (wpAny_bind 308);exact h
open PySem.W in
theorem zp {vs:Array Value} {Q:Unit->Shared->Prop} (X:K.In s.heap) (he:s.heap.get? x=some ox) (hc:ox.cls= .ref C) (hdx:ox.dict=none) (hda:ox.data= .fields vs) (N:XA K C S) (hn:findIn K 107 name=some none)
  (h:∀h',(∀b o,b≠x->s.heap.get? b=some o->h'.get? b=some o)->h'.get? x=some {ox with dict:=some 35}->h'.Ns1 35 (λy=>if y=name then some v else none)->
   Q () {s with heap:=h',toks:=s.toks+2}):wpAny 68 A (setAttr 328 name v) Q E s:=by
 have I:InstAt s.heap x ox C none:=(he,hc,by unfold notCls;rw[hda],by rw[hdx];trivial)
 apply set_plain X I N.sa;have I2:InstAt ({s with toks:=s.toks+1}:Shared).heap x ox C none:=I
 apply zm (s:={s with toks:=s.toks+1}) X I2 N hn
 obtain ⟨cd,hcd,hd⟩:=any_some N.dct;obtain ⟨oc,odi,oda,osl⟩:=ox;dsimp only at hc hdx hda;subst hc hdx hda;refine wpAny_bind (wpAny_pure (wpAny_bind (wpAny_bind (wpAny_loadPart he ?_))));refine wpAny_bind (Looks.here (s:={s with toks:=s.toks+1}) (looks_clsIn X hcd) ?_)
 rw[hd];show wpAny _ _ (alloc 182>>=λd=>update x (λo=>{o with dict:=some d})>>=λ_=>dictMade 107 x d) _ _ _
 refine wpAny_bind (wpAny_alloc ?_);have lt:=85 he;have hne:x≠s.heap.objs.size:=GL lt;have he1:=67 (h:=s.heap) 182 he;have e1:(s.heap.push HP).get? 35=some HP:=81 s.heap rfl;have e2:(s.heap.push HP).Ns 35 (λ_=>none):=(HP,#[],_,e1,rfl,(λe he=>absurd he 73),λ_=>rfl)
 refine wpAny_bind (wpAny_update he1 ?_);sleep 234;have up:∀b,b≠x->((s.heap.push HP).update x 290).get? b=(s.heap.push HP).get? b:=λb hb=>Heap.get?_update_other _ _ 248
 have e3:((s.heap.push HP).update x 290).Ns1 35 (λ_=>none):=(Heap.Ns1.of_empty e2).at λo q=>(up _ (Ne.symm hne)).trans q
 have e4:((s.heap.push HP).update x 290).get? x=some ⟨.ref C,some 35,.fields vs,osl⟩:=Heap.get?_update_self _ he1 rfl
 refine wpAny_bind (wpAny_pure 279);refine wpAny_nsSet1 (s:=⟨(s.heap.push HP).update x 290,s.gens,s.drawn,s.toks+1,s.os⟩) e3 λh' hn2 hs2=>?_
 obtain ⟨oD,esD,epD,hoD,hdD,hcD⟩:=hn2.count (ns:= [name]) (PySem.Within.cons (ns:= []) name v (λy hy=>absurd rfl hy))
 refine wpAny_bind (wpAny_lookBehind hoD (by rw[hdD];exact pastItsLine_dict (HN hcD (by show 1<=sizeLine+1;decide))) ?_)
 refine wpAny_pure (h h' (λb o hb q=>?_) ((hs2.2 x hne).trans e4) hn2)
 have hbd:b≠s.heap.objs.size:=GL (85 q);exact (hs2.2 b hbd).trans ((up b hb).trans (67 _ q))
universe z0
def Du (K:G0) (ta tv:TE) (f:Str):TS:=λD σ H=>tv σ H λy H1=>ta σ H1 λx H2=>∃a C S n,x= .ref a/\H2 a=some 507/\XA K C S/\HG K 107 f=some none/\
 ∀d,H2 d=none->D.nx σ (ay (ay H2 d 385) a 419)
section
variable {X:Cx} {o value:Expr} {f:Str} {pos pos':Pos} {ta tv:TE}
theorem zq {pins:Ky} {σ:St} {H:Hp} {s:Shared} {a C S:Addr} {y:V} {u:Value} {n:Bool} {A:Around} {E:Ks} {Q:Unit->Shared->Prop} (I:aG X pins σ H s) (e:H a=some 507) (N:XA X.K C S)
  (hn:HG X.K 107 f=some none) (ry:RelV y u) (h:∀d s',H d=none->aG X pins σ (ay (556 d 385) a 419) s'->Q () s'):
  wpAny 69 A (setAttr 134 f u) Q E s:=by
 obtain ⟨⟨ox,vs,h1,h2,h3,h4,h6,h5⟩,_⟩:=(show aY X.prog X.w H s.heap a 507 from I.hok a _ e)
 refine zp I.kIn h1 h2 h3 h4 N hn λh' kp ha hd=>?_
 have nd:H 35=none:=I.hok.fresh 173;have ad:a≠s.heap.objs.size:=bj e nd;refine h 35 _ nd ?_;have ne:∀b o,H b=some o->b≠s.heap.objs.size:=λb o q=>bj q nd
 have nea:∀b,H b=none->b≠a:=λb q z=>by rw[z,e] at q;cases q
 refine I.un (t':=s.toks+2) (h':=h') (?_,?_,?_,?_,?_,?_,?_) ?_
 ·intro b o q n hb _;exact kp b o (nea b n) q
 ·intro b o q n hb _;exact (o.slots,kp b o (nea b n) q)
 ·intro b o q n _;rw[ak (nea b n),ak (GL (Heap.lt_size q))];exact n
 ·intro b o q _
  by_cases hb:b=a
  ·subst hb;exact (_,ha)
  ·exact (o,kp b o hb q)
 ·intro b xs q;sleep 248
  rw[ak hb,ak (ne b _ q)];exact q
 ·intro b o' u' q;sleep 248
  rw[ak hb,ak (ne b _ q)];exact q
 ·intro b ps q;sleep 248
  exact (#[],by rw[ak hb,ak (ne b _ q),q];simp)
 ·intro b ob q
  by_cases hb:b=a
  ·subst hb;rw[ac] at q;cases q;exact pi ha h2 rfl h4 h6 h5
  ·rw[ak hb] at q
   by_cases hbd:b=35
   ·subst hbd;rw[ac] at q;cases q;refine (_,hd,λg=>?_)
    show fW (IY g [(f,y)]) (if g=f then some u else none)
    by_cases hg:g=f
    ·subst hg;rw[if_pos rfl];simp only[IY,beq_self_eq_true];exact ry
    ·rw[if_neg hg];have:(g==f)=false:=beq_eq_false_iff_ne.mpr hg;simp only[IY,this]
     trivial
   ·rw[ak hbd] at q;refine (I.hok b ob q).stay (λc v hc z=>kp c v (λy=>?_) z) (λc z=>?_) λc xs z=>?_
    ·rcases hc with z'|z'
     ·exact hb (z'.symm.trans y)
     ·rw[y,e] at z';cases z'
    ·have hc:c≠a:=cV z e (by intro z;cases z)
     rw[ak hc,ak (ne c _ z)];exact z
    ·have hc:c≠a:=cV z e (by intro z;cases z)
     rw[ak hc,ak (ne c _ z)];exact z
universe z0
section
variable {X:Cx} {o e value:Expr} {f:Str} {pos pos':Pos} {ta tv:TE}
theorem pk {K:G0} (hK:X.K=K) (ha:PE X o ta) (hv:PE X value tv) (hs:swapsWith value (some (.Attribute o f pos')) pos.line X.env=pure false):PS X (.Assign [.Attribute o f pos'] value pos) (Du K ta tv f):=by
 subst hK;sleep 225;refine plainObj_wpAny_Assign_Attribute (bH (hv pins s σ H _ I h) λu s1 (y,H1,I1,ry,q)=>bH (ha pins s1 σ H1 _ I1 q) λov s2 (x,H2,I2,rx,a,C,S,nb,ex,ea,n,hn,q2)=>?_) hs
 subst ex;obtain rfl:ov=Value.ref a:=rx;exact zq I2 ea n hn ry λd s3 nd I3=>(σ,_,I3,q2 d nd)
structure XF (K:G0) (C:Addr) (f:Str):Prop where
 gg:XG K C
 dct:PySem.W.hasDictIn K C=true
 no:HG K 107 f=some none
def Dv (K:G0) (ta:TE) (f:Str):TE:=λσ H Q=>ta σ H λx H1=>∃a C d fs v n,x= .ref a/\H1 a=some 419/\H1 d=some (.xd fs)/\XF K C f/\fs.lookup f=some v/\Q v H1
theorem zr {K:G0} (hK:X.K=K) (he:PE X e ta) (hb:attributeBase e f X.env (eval e X.env)=eval e X.env):PE X (.Attribute e f pos) (Dv K ta f):=by
 subst hK;sleep 66;refine uy hb (bH 296 λov s1 (x,H1,I1,rx,a,C,d,fs,v,nb,ex,ea,ed,n,l,q)=>?_)
 subst ex;obtain rfl:ov=Value.ref a:=rx;obtain ⟨⟨ox,vs,h1,h2,h3,h4,_⟩,_⟩:=(show aY X.prog X.w H1 s1.heap a (cR nb a 107 (some d)) from I1.hok a _ ea)
 obtain ⟨mA,ns,rel⟩:=(show aY X.prog X.w H1 s1.heap d (.xd fs) from I1.hok d _ ed)
 obtain ⟨od,hod,lk⟩:=nD ns;obtain ⟨u,hu,ru⟩:=fW.some_of (v:=v) (o:=mA f) (by rw[<-l];exact rel f)
 have J:PySem.W.InstAt s1.heap a ox C (some od):=(h1,h2,by unfold PySem.W.notCls;rw[h4],by rw[h3];exact hod)
 have KX:=I1.kIn;have I2:=I1.tok (s1.toks+1);obtain ⟨hh,g,dr,t,os⟩:=s1;unfold getAttr;refine wpAny_bind (wpAny_mkText (Bl (h:=hh) KX J n.gg λA'=>kQ KX J (PySem.W.findObj_own n.dct n.no rfl (by rw[lk,hu])) ?_))
 exact PySem.W.handed_on (nE ru) (v,H1,I2,ru,q)
universe z0
theorem zt {K:G0} {h:Heap} {N:Addr} {mg:Kt} {n:Str} {v:Value} (X:K.In h) (G:h.Ns N mg) (e:GR K N n=some (some v)):mg n=some v:=by
 obtain ⟨o,es,ep,ho,hd,_,hf⟩:=G;unfold GR at e
 split at e
 ·rename_i q;have z:=X _ _ q;rw[ho] at z;cases z;cases hd
  split at e
  ·rename_i he;cases e;rw[<-hf];unfold nsFind findBy;rw[<-Array.find?_toList,he]
   rfl
  ·split at e<;>cases e
 ·cases e
structure CT (K:G0) (C f:Addr):Prop where
 ex:∃bm N nm q bs hdct sn sub ab col dd k0 k1 k2 k3 k5,K.lookup C=some 163/\PySem.W.nsOkIn K N=true/\GR K N "__init__" =some (some 272)/\PySem.W.tailIn K wK bm=true
 fn:PySem.W.typeIn K 272=some (.type "function")
 kp:Hk K 107=true
section
variable {prog:Program} {w:World} {A:Around} {E:Ks} {h:Heap} {g:Array GenState} {d:Drawn} {t:Nat} {os:OsState}
variable {nm q:Str} {C N:Addr} {bs bm:KC} {hdct:Bool} {sn:KA} {sub:KC} {ab:Bool} {col:Option Bool} {dd:KG} {k0 k1 k2 k3 k5:KH}
theorem lT {mN:Kt} {rest:KC} {fI:Addr} {oI:Obj} {Q:Fin->Shared->Prop} (tl:OwnTail h wK bm)
  (cl:h.get? C=some 163) (nn:h.Ns N mN) (ni:mN "__init__" =some (.ref fI)) (gI:h.get? fI=some oI) (cI:oI.cls= .type "function")
  (kq:∀h' e,Heap.MadeExcOf h h' e 107 rest->wpAny 68 A (call (.ref fI) (.ref e::rest)) (λr s'=>r= .none/\Q (.done (.ret 538)) s') E ⟨h',g,d,t,os⟩) (lr:rest.length<=sizeLine):
  wpAny 68 A (Builtin.«type.__call__» ⟨.ref C::rest,[]⟩) Q E ⟨h,g,d,t,os⟩:=by
 have FV:=PySem.F.excBase_ValueError
 repeat (first|with_reducible refine wpAny_loadPart_at cl ?_|with_reducible refine wpAny_madeBy_exc cl ?_|wp_step)
 refine codeAny_call_builtin_code (Code.quiet_builtin _ FV.quiet) (wpAny_check_new_subT FV tl cl ?_);refine codeAny_exc_new_subT FV tl cl ?_ lr;show wpAny _ _ _ _ _ _;generalize hp:(h.push {cls:= .type "tuple",data:= .seq rest.toArray}).push {cls:= .ref C,data:= .fields #[.ref h.objs.size,.none,.none,.none,.bool false,.none]}=h2;have kp:∀b o,h.get? b=some o->h2.get? b=some o:=λb o z=>by rw[<-hp];exact 67 _ (67 _ z)
 have ge:h2.get? (h.objs.size+1)=some {cls:= .ref C,data:= .fields #[.ref h.objs.size,.none,.none,.none,.bool false,.none]}:=by rw[<-hp];heap_get
 have gt:h2.get? h.objs.size=some {cls:= .type "tuple",data:= .seq rest.toArray}:=by rw[<-hp];exact 67 _ (Heap.get?_push_at rfl rfl)
 have cl2:=kp _ _ cl;have nn2:h2.Ns N mN:=nn.keeps kp;have self:(Value.ref C::bm).contains 107=true:=by simp
 unfold isInstance
 repeat (first|with_reducible refine wpAny_loadPart_at ge ?_|(with_reducible refine wpAny_isSubtype_exc cl2 ?_;rw[self])|wp_step)
 show wpAny _ _ (typeLookup 107 _) _ _ _;refine wpAny_typeLookup_tail cl2 nn2 (tl.keeps kp) FV.mroIs FV.init.lookup ?_;rw[ni];refine wpAny_holding 279;unfold bindSpecial;refine wpAny_bind (wpAny_typeOf (T:= "function") (_,kp _ _ gI,cI) ?_);rw[if_pos 13]
 refine wpAny_pure 279;refine wpAny_mono (kq h2 (h.objs.size+1) (kp,Heap.get?_none_of_le (Nat.le_succ _),h.objs.size,ge,Heap.get?_none_of_le 173,gt)) (λr s' hr=>?_) λ_ _ z=>z
 obtain ⟨rfl,z⟩:=hr
 wp_walk
 exact z
theorem vO {mN:Kt} {rest:KC} {fI:Addr} {oI:Obj} {Q:Ks} (tl:OwnTail h wK bm)
  (cl:h.get? C=some 163) (nn:h.Ns N mN) (ni:mN "__init__" =some (.ref fI)) (gI:h.get? fI=some oI) (cI:oI.cls= .type "function")
  (kq:∀h' e,Heap.MadeExcOf h h' e 107 rest->wpAny 68 (A.under (.builtin "type.__call__" ⟨.ref C::rest,[]⟩)) (call (.ref fI) (.ref e::rest)) (λr s'=>r= .none/\Q 538 s') E ⟨h',g,d,t,os⟩) (lr:rest.length<=sizeLine):
  wpAny 68 A (call 107 rest) Q E ⟨h,g,d,t,os⟩:=by
 have a1:=tc_lookup;have a2:=tc_bind 107;have ty:(⟨h,g,d,t,os⟩:Shared).TypeIs 107 "type" :=(_,cl,rfl);refine wpAny_call (codeAny_of_tree ?_);show wpAny _ _ (callAny 107 _) _ _ _
 repeat (any_goals (first|assumption|with_reducible refine wpAny_loadPart_at cl ?_|wp_step))
 exists rfl;refine codeAny_call_builtin_at (Code.quiet_builtin _ 48) entry_typeCall (wpAny_check_type_call_sub cl ?_)
 exact lT tl cl nn ni gI cI (λh' e mk=>kq h' e mk) lr
universe z0
section
variable {X:Cx} {x:Str} {p pos:Pos} {e:Expr} {es:List Expr} {C fI:Addr} {t:TA} {k:Nat} {fd:FuncData} {ps:KA} {sp:Sp}
theorem xF {pins:Ky} {σ:St} {H:Hp} {s:Shared} {Q:Ks} {us:KC} {vs:List V} {E:Ks} {R:Addr->Hp->Prop} (M:CT X.K C fI) (F:bh X.prog X.w X.K X.mg X.base bC k fI fd ps sp) (hr:ce (k+1) X.A) (hb:Binds X.K fd ps [])
  (I:aG X pins σ H s) (r:aZ vs us) (lr:vs.length<=sizeLine) (h:∀a,H a=none->sp (.ref a::vs) (556 a 339) (λv H2=>v= .non/\R a H2) E0)
  (hq:∀a h' H2 s2,Heap.MadeExcOf s.heap h' a 107 us->s2.os=s.os->AllBare s2.gens->Un (kr X.stack) [] H H2 s.heap s2.heap->fX X.prog X.w H2 s2.heap->R a H2->Q 134 s2):
  wpAny 69 X.A (call 107 us) Q E s:=by
 sleep 229;have KX:=I.kIn;have lr':us.length<=sizeLine:=by rw[<-r.length];exact lr
 have fn:=M.fn;unfold PySem.W.typeIn at fn;obtain ⟨oI,gI,cI⟩:=HB.mp fn;have nn:s.heap.Ns N (s.heap.nsMap N):= .of_isNs (PySem.W.isNs_of_in KX ok);have key:=λh' a (mk:Heap.MadeExcOf s.heap h' a (.ref C) us)=>(uI I mk).caughtN I
 have un:=λh' a (mk:Heap.MadeExcOf s.heap h' a (.ref C) us)=>lR (o:=cR true a 107 none) (Un.kept (fs:=kr X.stack) (ex:= []) (H:=H) mk.keeps) mk.new (I.hok.none_of mk.new)
 obtain ⟨hh,g,d,tk,os⟩:=s;refine vO (PySem.W.tail_of_in KX tl) (KX _ _ lk) nn (zt KX nn ini) (KX _ _ gI) cI (λh' a mk=>?_) lr'
 have I2:=key h' a mk;have na:H a=none:=I.hok.none_of mk.new;have hs:=h a na;have r2:aZ (V.ref a::vs) (Value.ref a::us):= .cons rfl r;have hl:(Value.ref a::us++ []).length=ps.length:=by
  rw[IT,<-r2.length];exact F.len _ _ _ _ hs
 have hb':=hb (h',g,d,tk,os) (Value.ref a::us) I2.kIn hl;rw[IT] at hb';refine wpAny_call (codeAny_mono (F.run _ X.stack _ _ (Value.ref a::us,[]) (Value.ref a::us) _ _ E0 (hr.make C us []) (I2.env0.make C us []) hb' r2 hs) λrr s' hq'=>?_)
 cases rr with
 |error z=>exact hq'.elim
 |ok fl=>
  cases fl with
  |ret u=>
   obtain ⟨v,H2,os',bare,un2,hok,rv,ev,q2⟩:=hq';subst ev;exact (rv,hq a h' H2 s' mk os' bare ((un h' a mk).trans un2) hok q2)
  |next=>exact False.elim hq'
  |brk=>exact False.elim hq'
  |cont=>exact False.elim hq'
universe z0
section
variable {M:Model} {A:Around} {E:Ks} {env:Env}
variable {nm q:Str} {C N:Addr} {bs bm:KC} {hdct:Bool} {sn:KA} {sub:KC} {ab:Bool} {col:Option Bool} {dd:KG} {k0 k1 k2 k3 k5:KH} {nw:String}
theorem vP {s:Shared} {x:Sem Value} {Q:Flow->Shared->Prop} (hb:bm.contains 245=true) (hh:A.handled=none)
  (h:wpAny M A x (λv s1=>∃e dx ws sl,v= .ref e/\s1.heap.get? C=some (excClassObj nm q C N bs bm hdct sn sub ab col dd k0 k1 k2 k3 k5 nw)/\s1.heap.get? e=some ⟨.ref C,dx,.fields ws,sl⟩/\ws[1]?=some .none/\E 538 s1) E s):
  wpAny M A (raiseStmt env (some x) none) Q E s:=by
 have cb:(Value.ref C::bm).contains 245=true:=by rw[List.contains_cons,hb,Bool.or_true]
 unfold raiseStmt;sleep 17;refine wpAny_mono h (λv s1 h1=>?_) λ_ _ z=>z
 obtain ⟨e,dx,ws,sl,rfl,cl,ge,n1,he⟩:=h1;obtain ⟨hp,g,d,tk,os⟩:=s1
 repeat (first|with_reducible refine wpAny_loadPart_at ge ?_|with_reducible refine wpAny_loadPart_at cl ?_|(with_reducible refine wpAny_isSubtype_exc cl ?_;rw[cb])|wp_step)
 rw[n1];sleep 234;sleep 118
 exact wpAny_pure (wpAny_raiseNew_none hh he)
universe z0
noncomputable def del (H:Hp) (a:Addr):Hp:=λb=>if b=a then none else H b
theorem gH {H:Hp} {a b:Addr} (h:b≠a):del H a b=H b:=if_neg h
theorem lV {H:Hp} {a:Addr}:del H a a=none:=if_pos rfl
theorem Bp {fs:KB} {H H2:Hp} {h0 h:Heap} {a:Addr} (u:Un fs [] H H2 h0 h) (na:H a=none):Un fs [] H (del H2 a) h0 h where
 keep:=u.keep
 slot:=u.slot
 free:=λb o q n hx=>by
  by_cases hb:b=a
  ·rw[hb,lV]
  ·rw[gH hb];exact u.free b o q n hx
 there:=u.there
 tups:=λb xs e=>by rw[gH (bj e na)];exact u.tups b xs e
 frzs:=λb o w e=>by rw[gH (bj e na)];exact u.frzs b o w e
 tbls:=λb ps e=>by rw[gH (bj e na)];exact u.tbls b ps e
theorem zu {P:Program} {w:World} {H:Hp} {h:Heap} {a:Addr} {φ:Heap->Prop} (k:fX P w H h) (e:H a=some (.ext φ)):fX P w (del H a) h:=λb o q=>by
 by_cases hb:b=a
 ·rw[hb,lV] at q;cases q
 ·rw[gH hb] at q;refine (k b o q).stay (λc v _ z=>z) (λc z=>?_) λc xs z=>?_
  ·rw[gH (cV z e (by intro y;cases y))];exact z
  ·rw[gH (cV z e (by intro y;cases y))];exact z
def uM (C:Addr) (sp:Sp) (E:St->XK) (t:TA):TS:=λ_ σ H=>t σ H λvs H1=>vs.length<=sizeLine/\∀a,H1 a=none->sp (.ref a::vs) (ay H1 a 339) (λv H2=>v= .non/\∃d,H2 a=some 280/\E σ 107 (some d) (del H2 a)) E0
section
variable {X:Cx} {x:Str} {np cpos pos:Pos} {e₀:Expr} {rest:List Expr} {C fI:Addr} {t:TA} {k:Nat} {fd:FuncData} {ps:KA} {sp:Sp} {E:St->XK}
theorem vQ (M:CT X.K C fI) (F:bh X.prog X.w X.K X.mg X.base bC k fI fd ps sp) (hr:ce (k+1) X.A) (hg:Gl X x) (hm:X.mg x=some 107) (hb:Binds X.K fd ps []) (hc:X.calm=true) (hp:iW X E) (ha:PA X (e₀::rest) t) (hd:92=false:=by decide)
  (he:starEach (e₀::rest) X.env=(false,eval e₀ X.env)::starEach rest X.env:=by rfl) (hpl:(backTo cpos (starEach rest X.env)).any 111=false:=by rfl):
  PS X (.Raise (some 299) none pos) (uM C sp E t):=by
 sleep 225;sleep 229;have bb:bm.contains 245=true:=(PySem.W.tail_of_in I.kIn tl).hasType PySem.F.excBase_ValueError.hasBase;have body:wpAny 69 X.A (eval 299 X.env) (λv s1=>∃e dx ws sl,v= .ref e/\s1.heap.get? C=some (excClassObj nm qn C N bs bm hdct sn sub ab col dd k0 k1 k2 k3 k5 "ValueError.__new__")/\s1.heap.get? e=some ⟨.ref C,dx,.fields ws,sl⟩/\ws[1]?=some .none/\X.xe 538 s1) X.xe s:=by
  refine wpAny_Call_Name_kw (dZ I hg hm ?_ hd);refine IE (h₀:=X.base) I.ok.mod.kin M.kp (bH (ha cpos pins s σ H _ I h) λus s1 (vs,H1,I1,r,lr,q)=>(I1.kIn,?_)) he hpl
  refine xF M F hr hb I1 r lr q λa h' H2 s2 mk os bare un hok q2=>?_
  obtain ⟨d,ed,hE⟩:=q2;have I2:=I1.call' os un hok bare (λb z=>absurd z 73)
  obtain ⟨⟨ox,ws,g1,g2,g3,g4,g6,g5⟩,_⟩:=(show aY X.prog X.w H2 s2.heap a 280 from hok a _ ed)
  have na:=I1.hok.none_of mk.new;obtain ⟨oc,odx,oda,osl⟩:=ox;dsimp only at g2 g3 g4;subst g2 g3 g4;refine (a,some d,ws,osl,rfl,I2.kIn _ _ lk,g1,(g5 rfl).2,hp pins σ H1 s1 _ _ I1 (a,del H2 a,.ref C,some d,.new,rfl,(os,bare,Bp un na,zu hok ed,((_,ws,g1,rfl,rfl,rfl,((g5 rfl).1,g6),(g5 rfl).2),mk.new,lV)),hE))
 rw[arm_exec_Raise];sleep 17;apply wpAny_standAt;refine vP (C:=C) (nm:=nm) (q:=qn) (N:=N) (bs:=bs) (bm:=bm) (hdct:=hdct) (sn:=sn) (sub:=sub) (ab:=ab) (col:=col) (dd:=dd) (k0:=k0) (k1:=k1) (k2:=k2) (k3:=k3) (k5:=k5) (nw:= "ValueError.__new__") bb 231 ?_;sleep 17;refine wpAny_mono body (λv s1 h1=>?_) λ_ _ z=>z
 sleep 17;apply wpAny_standAt;exact wpAny_pure h1
universe z0
theorem iX:entryFor table "proto.unchain" =some Builtin.«proto.unchain» :=entryFor_of_fast (by kernel_rfl)
def fz (hd:KH) (H:Hp):Prop:=∀v,hd=some v->∃a n cls dx,v= .ref a/\H a=some (cR n a cls dx)
section
variable {prog:Program} {w:World} {A:Around} {E:Ks} {s:Shared}
theorem sU {it hx:Addr} {ox:Obj} {vs:Array Value} {x left step:Int} {Q:KH->Shared->Prop} (hh:A.handled=some 262) (ho:s.heap.get? hx=some ox) (hd:ox.data= .fields vs) (h2:vs[2]?=some .none)
  (hit:IsRangeIter s.heap it x left step) (hleft:left<=0) (hQ:∀h',Heap.ExtBut it s.heap h'->Q none 126):wpAny 68 A 270 Q E s:=by
 have hT:s.TypeIs 165 "range_iterator" :=(_,hit,rfl);unfold pyNext;refine wpAny_bind (wpAny_attempt (wpAny_callSpecial?_slot (name:=Str.ofString "__next__") hT F.slot_range_iterator_next
  (wpAny_call_entry F.slot_range_iterator_next hT F.entry_range_iterator_next ?_ (F.args_range_iterator_next_1 _))))
 sleep 233;refine wpAny_bind (wpAny_field hit rfl (x:=rawInt x) rfl ?_);show wpAny _ _ (field 165 1>>=_) _ _ s;refine wpAny_bind (wpAny_field hit rfl (x:=rawInt left) rfl ?_);show wpAny _ _ (field 165 2>>=_) _ _ s;refine wpAny_bind (wpAny_field hit rfl (x:=rawInt step) rfl ?_);show wpAny _ _ (if left<=0 then _ else _) _ _ s
 rw[if_pos hleft];refine wpAny_bind (wpAny_rule ?_);sleep 205;show wpAny _ _ (newExc 386 []>>=_) _ _ _;sleep 205;sleep 112
 sleep 51
 sleep 247
 sleep 178;rw[show A.in1.handled=some 262 from hh]
 sleep 110
 have ne:hx≠(s.heap.push 217).objs.size:=λz=>by
  rw[z,g0] at ho;cases ho
 dsimp only;rw[if_pos (bne_iff_ne.mpr λz=>ne (Value.ref.inj z))]
 sleep 50
 sleep 106
 refine wpAny_throw ?_;refine wpAny_bind (wpAny_isInstance (T:= "StopIteration") (b:=true) 498 isSubtype_stop ?_);refine wpAny_pure (hQ _ λb o hb e=>?_)
 rw[Heap.get?_update_other _ _ (by
  intro z;rw[z] at g0;rw[g0] at e;cases e)]
 exact 67 _ (67 _ e)
universe z0
structure nV (hd:KH) (P:Program) (w:World) (K:G0) (tg:Expr) (J:It) (fp:KB) (it:Addr) (tn:Nat->Heap->Prop):Prop where
 mem:it∈fp
 obj:∀i h,tn i h->∀b∈fp,∃o,h.get? b=some o/\∀v,o.data≠ .cell v
 keep:∀i h h',tn i h->(∀b∈fp,∀o,h.get? b=some o->h'.get? b=some o)->tn i h'
 item:∀(X:Cx),X.prog=P->X.w=w->X.K=K->X.A.handled=hd->∀(i:Nat) (pins:Ky) (s:Shared) (σ:St) (H:Hp) (E:Ks),aG X pins σ H s->(∀b∈fp,dX X pins H b)->tn i s.heap->J.go i H->
  wpAny 404 X.A 270 (λr s1=>∃u,r=some u/\
   wpAny 404 X.A (letOwnedTupleGo tg 165 u) (λ_ s2=>∃x H',aG X pins σ H' s2/\RelV x u/\J.yld i H x H'/\tn 236 s2.heap/\∀b∈fp,H' b=none) E s1) E s
 done:∀(X:Cx),X.prog=P->X.w=w->X.K=K->X.A.handled=hd->∀(i:Nat) (pins:Ky) (s:Shared) (σ:St) (H:Hp) (E:Ks),aG X pins σ H s->(∀b∈fp,dX X pins H b)->tn i s.heap->J.stop i H->
  wpAny 404 X.A 270 (λr s1=>r=none/\aG X pins σ H s1) E s
 self:∀(A:Around) (i:Nat) (s:Shared) (Q:Ks) (E:Ks),tn i s.heap->Q 165 s->wpAny 404 A (pyIter 165) Q E s
def Bq (hd:KH) (X:Cx) (pins:Ky) (σ:St) (tg:Expr) (R:It->Hp->Prop) (itv:Value) (s2:Shared):Prop:=
 ∃(it:Addr) (fp:KB) (tn:Nat->Heap->Prop) (J:It) (H':Hp),itv= .ref it/\aG X pins σ H' s2/\nV hd X.prog X.w X.K tg J fp it tn/\tn 0 s2.heap/\(∀b∈fp,dX X pins H' b)/\R J H'
def xG (hd:KH) (X:Cx) (tg iter:Expr) (wi:TI):Prop:=
 ∀(pins:Ky) (s:Shared) (σ:St) (H:Hp) (R:It->Hp->Prop),aG X pins σ H s->wi σ H R->
  wpAny 69 X.A (eval iter X.env) (λv s1=>wpAny 69 X.A (pyIter v) (Bq hd X pins σ tg R) X.xe s1) X.xe s
noncomputable def vR (hd:KH) (lo:Int) (n:Nat):It:=⟨λi _=>i<n,λi H x H'=>H'=H/\x= .int (lo+i),λi H=>n<=i/\fz hd H⟩
theorem qI {hd:KH} {P:Program} {w:World} {K:G0} {tg:Expr} (it:Addr) (lo:Int) (n:Nat):nV hd P w K tg (vR hd lo n) [it] it (λi h=>IsRangeIter h it (lo+(i:Nat)*1) ((n:Int)-(i:Nat)) 1) where
 mem:=by simp
 obj:=λi h st b hb=>by
  sleep 153
  subst e;exact ⟨_,st,λv z=>by
   have z':Data.fields _=Data.cell v:=z;cases z'⟩
 keep:=λi h h' st k=>k it 73 _ st
 item:=by
  sleep 4
  have hg':i<n:=hg;refine wpAny_pyNext_range_item st 42 λh' st' sb=>?_
  sleep 158
  have st2:IsRangeIter h' it (lo+392*1) ((n:Int)-392) 1:=by
   have e1:lo+392*1=lo+(i:Int)*1+1:=by push_cast;lia
   have e2:(n:Int)-392=(n:Int)-(i:Int)-1:=by push_cast;lia
   rw[e1,e2];exact st'
  refine ⟨_,rfl,iU (s:=394) (n:= "range_iterator") st2 rfl rfl 13 ⟨.int (lo+i),H,I1,⟨s.toks,?_⟩,⟨rfl,rfl⟩,st2,λb hb=>(hf b hb).1⟩⟩
  rw[Int.mul_one]
 done:=by
  sleep 4
  obtain ⟨hl,hk⟩:=hg;cases hd with
  |none=>exact wpAny_pyNext_range_end hA st 42 λh' eb=>333
  |some v=>
   obtain ⟨a,m,cls,dx,rfl,e⟩:=hk v rfl;obtain ⟨⟨ox,vs,h1,h2,h3,h4,h6,h5⟩,_⟩:=(show aY X.prog X.w H s.heap a (cR m a cls dx) from I.hok a _ e)
   exact sU hA h1 h4 h6 st 42 λh' eb=>98
 self:=λ_ _ _ _ _ st h=>wpAny_pyIter_rangeiter st h
def Dw (hd:KH) (ta:TA):TI:=λσ H R=>ta σ H λvs H1=>∃j:Int,vs= [.int j]/\ -(2^62)<=j/\j<2^62/\R (vR hd 0 j.toNat) H1
section
variable {X:Cx} {tg:Expr} {hd:KH}
theorem vS {pins:Ky} {σ:St} {H:Hp} {s:Shared} {R:It->Hp->Prop} {E:Ks} {lo hi:Int} {t u v:Tok} {tk:Nat} (I:aG X pins σ H s) (h1: -(2^62)<=lo) (h2:lo<2^62) (h3: -(2^62)<=hi) (h4:hi<2^62)
  (q:R (vR hd lo (hi-lo).toNat) H):wpAny 69 X.A (pyIter 285) (Bq hd X pins σ tg R) E {s with heap:=s.heap.push 117,toks:=tk}:=by
 refine wpAny_pyIter_range (IsRange.new ..) (small_one h1 h2 h3 h4) ?_;have I1:aG X pins σ H {s with heap:=s.heap.push 117,toks:=tk}:=I.kept λb o e=>67 _ e
 refine ⟨(s.heap.push 117).objs.size,[(s.heap.push 117).objs.size],_,_,H,rfl,
  I1.kept (t':=tk) λb o e=>67 _ e,qI _ lo (hi-lo).toNat,?_,λb hb=>?_,q⟩
 ·have e1:lo+331*1=lo:=by simp
  have e2:(((hi-lo).toNat:Nat):Int)-331=Builtin.Range.rangeSize lo hi 1:=by rw[rangeSize_one];split<;>lia
  show IsRangeIter _ _ (lo+331*1) ((((hi-lo).toNat:Nat):Int)-331) 1;rw[e1,e2];exact 81 _ rfl
 ·have e:b=(s.heap.push 117).objs.size:=by simpa using hb
  sleep 131
theorem vT {a:Expr} {ta:TA} {p pos:Pos} (hg:Gl X "range") (hm:X.mg "range" =none) (ha:PA X [a] ta) (hs:starEach [a] X.env= [(false,eval a X.env)]:=by rfl):xG hd X tg (.Call (.Name "range" p) [a] [] pos) (Dw hd ta):=by
 intro pins s σ H R I h;refine Call_ (fN I hg hm boot_range (Hl 402 hs rfl))
 obtain ⟨j,e,q1,q2,q⟩:=q1;subst e;cases r1 with
 |cons r rr=>
  cases rr;obtain ⟨t,rfl⟩:=r;exact call_range_1 (vS I1 42 42 q1 q2 (by simpa using q))
universe z0
section
variable {X:Cx} {scope:Scope} {cl:List (Str×Addr)} {own:Str} {ys:KA} {js:List Nat} {elt iter:Expr} {px pos:Pos} {wi:TI} {te:TE} {hd:KH}
theorem sV (hA:X.A.handled=hd) (ok:eI X scope cl own ys js) (hi:xG hd X 250 iter wi)
  (he:∀(C:Addr) (fp:KB) (s:Shared) (H:Hp),PE 72 elt te)
  (hs:∀x,foldedSetIterable iter X.env x=pure x)
  {pins:Ky} {s:Shared} {σ:St} {H:Hp} {Q:VK} {use:Option 510} {QQ:Ks} {pp:Pos} (I:aG X pins σ H s) (h:(uK wi js te) σ H Q)
  (fin:∀(p C:Addr) (s6:Shared) (H5:Hp) (v:Flow),414->143->dX X pins H5 C->Q 133 H5->compPost 69 X.A X.xe use QQ 133 C (.ok v) s6):
  wpAny 69 X.A 313 QQ X.xe s:=by
 have ncell:∀y∈scope.names,y.2≠ .cell:=λy hy z=>by
  sleep 134
 have nloc:∀y∈scope.names,y.2= .local->scope.names.lookup y.1=some .local:=λy hy z=>by
  sleep 207
  simpa using q
 sleep 24
 sleep 5
 have I3:=I2.laid (a:=s2.heap.objs.size) (o:= .lst []) (h':=s2.heap.push 129) (t':=s2.toks) 502 173
  ⟨HC _,[],0,.nil,81 _ rfl⟩
 have fpo:∀b∈fp,b<s2.heap.objs.size:=λb hb=>by
  sleep 103
 sleep 21
 sleep 19
 sleep 36
 sleep 42
 sleep 9
 sleep 18
 have fpB:∀{H':Hp},307->∀b∈fp,dX 24 [] H' b:=λ{H'} hn b hb=>
  ⟨hn b hb,GL (lt3 b hb),λz=>(GM.mp (I3.stkSub b z)).elim (f3 b hb).2.1 (f3 b hb).2.2.1,.inl hb,λx c e=>(f3 b hb).2.2.2.2.1 x c 416,λp hp=>absurd (show p∈([]:Ky) from hp) 73⟩
 have loop:codeAny 69 X.A (.compLoop 115 0 165 124 208)
   (compPost 69 X.A X.xe use QQ 124 s3.heap.objs.size) {s3 with heap:=h1,toks:=s2.toks+0}:=by
  refine jA 104 ?_ m0
   ⟨0,[],none,_,J0,t0,λb hb=>(f3 b hb).1,w0⟩
  sleep 60;rcases hw with ⟨stop,qn⟩|⟨go,hz,step⟩
  ·sleep 75
   sleep 12
  ·sleep 73
   sleep 119
   sleep 0
   sleep 204
   sleep 59
   sleep 122
   sleep 196;exact (I10.pin (b,o) 167).2.1
 sleep 71
theorem xH (hA:X.A.handled=hd) (ok:eI X scope cl own ys js) (hi:xG hd X 250 iter wi)
  (he:∀(C:Addr) (fp:KB) (s:Shared) (H:Hp),PE 72 elt te)
  (hs:∀x,foldedSetIterable iter X.env x=pure x:=by intro _;rfl):PE X 115 (uK wi js te):=λpins s σ H Q I h=>by
 rw[eval_ListComp];exact sV hA ok hi he hs I h λp C s6 H5 v (m,hn) J _ q=>207
universe z0
def Dy (K:G0) (C':Addr) (i:Nat) (t:Addr->TS) (r:TH):TH:=λD σ cls dx H a=>∃C b,cls= .ref C/\IZ K 107 517=some b/\
 if b=true then t a (Dt i D) (σ.set i (some 134)) (556 a (xB a cls dx)) else r D σ cls dx H a
section
variable {X:Cx} {x n:Str} {np pos:Pos} {b0:Stmt} {suite:List Stmt} {rest:List ExceptHandler} {i:Nat} {C':Addr} {tA:Addr->TS} {th:TH}
theorem Br (T:XT X.K C') (hg:Gl X x) (hm:X.mg x=some 517) (hN:X.N.Nodup) (hi:X.N[i]?=some n) (hloc:X.env.scope.names.lookup n=some .local)
  (hs:∀(pins:Ky) (a:Addr),kO 357 (b0::suite) (tA a)) (hrest:PH X rest th) (hd:92=false:=by decide):
  PH X (.ExceptHandler (some (.Name x np)) (some n) (b0::suite) pos::rest) (Dy X.K C' i tA th):=by
 sleep 104
 sleep 100
 sleep 261;cases b with
 |false=>exact hrest pins σ H0 s0 D a H' _ v dx _ I c h
 |true=>
  refine codeAny_handlers_suite_as ?_;refine c.flight I.stack I.stkFree λs2 c2=>?_
  have J2:=(c2.caught I).insuite a;refine fY (X:=X.suite pins a) (v:=V.ref a) J2 hN hi (.inl hloc) (show RelV (V.ref a) (Value.ref a) from rfl) (λs3 I3=>?_) (.inr hloc)
  refine wpAny_mono (hs pins a [] s3 _ _ _ I3 h) (λf s4 q=>?_) λ_ _ z=>z.elim
  exact zk I.ok hN hi hloc q
universe z0
structure dw (hd:KH) (k:Nat) (A:Around):Prop where
 hd:A.handled=hd
 dp:A.depth+3*k+5<recursionLimit
 un:A.units+16*k+200<cLine
theorem dw.mono {hd:KH} {j k:Nat} {A:Around} (r:dw hd k A) (h:j<=k):dw hd j A:=(r.hd,by have:=r.dp;lia,by have:=r.un;lia)
theorem dw.deeper {hd:KH} {k:Nat} {A:Around} (r:dw hd (k+1) A) (env:Env):dw hd k (A.deeper env):=
 ⟨r.hd,by have:=r.dp;show A.depth+1+3*k+5<_;lia,by have:=r.un;show A.units+3+16*k+200<_;lia⟩
theorem dw.depth {hd:KH} {k:Nat} {A:Around} (r:dw hd k A):A.depth<recursionLimit:=by have:=r.dp;lia
theorem dw.units0 {hd:KH} {k:Nat} {A:Around} (r:dw hd k A):A.units<cLine:=by have:=r.un;lia
theorem dw.units {hd:KH} {k:Nat} {A:Around} (r:dw hd k A):A.units+64<cLine:=by have:=r.un;lia
theorem ce.suite {k:Nat} {A:Around} (r:ce k A) (v:Value):dw (some v) k (A.mark (some v)):=(rfl,r.dp,r.un)
structure rZ (hd:KH) (P:Program) (w:World) (K:G0) (mg:Kt) (base:Heap) (k:Nat) (f:Addr) (fd:FuncData) (ps:KA) (sp:Sp):Prop where
 len:∀vs H Q E,sp vs H Q E->vs.length=ps.length
 run:∀(A:Around) (outer:List Env) (s:Shared) (H:Hp) (args:Args) (us:KC) (vs:List V) (Q:VK) (E:XK),dw hd k A->m3 P w K mg base A outer s H->BindsTo s fd args (ps.zip us)->aZ vs us->sp vs H Q E->
  codeAny 404 A (.call 272 args) (CR bC outer P w H s Q E) s
section
variable {P:Program} {w:World} {K:G0} {mg:Kt} {base:Heap} {hd:KH}
noncomputable def AN (hd:KH) (P:Program) (w:World) (K:G0) (mg:Kt) (base:Heap) (N:KA) (qual:Str) (scope:Scope) (f:Addr) (cd:Value) (A:Around) (outer:List Env) (s:Shared) (H:Hp) (E:XK):Cx:=
 {jW bC P w K mg base N qual scope f cd A outer s H E with calm:=hd.isNone}
theorem sW {N ps:KA} {qual:Str} {scope:Scope} {f:Addr} {cd:Value} {A:Around} {outer:List Env} {s s1:Shared} {H:Hp} {E:XK} {us:KC} {vs:List V}
  (S:aC N ps scope) (hA:A.handled=hd) (e0:m3 P w K mg base A outer s H) (hl:vs.length=ps.length) (r:aZ vs us)
  (x:InCallC s 35 (bindL (envOfC qual scope 35 f cd).kindOf (ps.zip us) λ_=>none) (cellsFrom (35+1) scope.names []) (bindC (envOfC qual scope 35 f cd).kindOf (ps.zip us) λ_=>none) s1):
  aG (AN hd P w K mg base N qual scope f cd A outer s H E) [] 309 H s1:=by
 have e0':m3 P w K mg base {A with handled:=none} outer s H:=(e0.frames,e0.mod,e0.bs,e0.bsz,e0.funs,e0.frf,e0.hok,e0.bare)
 have I:=nL (CX:=bC) (E:=E) S (A:={A with handled:=none}) rfl e0' hl r x
 have hh:(AN hd P w K mg base N qual scope f cd A outer s H E).calm=true->(AN hd P w K mg base N qual scope f cd A outer s H E).A.handled=none:=λz=>by
  cases hd with
  |none=>exact hA
  |some v=>cases (show false=true from z)
 exact ⟨(I.ok.mod,I.ok.kind,I.ok.glob,I.ok.blt,I.ok.above,I.ok.inj,I.ok.has,I.ok.cab,hh,I.ok.frames,I.ok.stk,I.ok.exf,I.ok.bs,I.ok.bsz,I.ok.noex,I.ok.exfs,I.ok.funs,I.ok.frf),
  I.os,I.bare,I.base,I.loc,I.cell,I.free,I.freeC,I.pin,I.hok,I.len⟩
theorem Bs {k:Nat} {f:Addr} {name qual:Str} {params:Arguments} {body:List Stmt} {scope:Scope} {dV kV doc pm cdv ct oc:Value} {an od:KG}
  {osl:Kz} {N ps:KA} {sp:Sp} (lk:K.lookup f=some ⟨oc,od,.func 168,osl⟩) (hcd:IG K cdv qual=true) (S:aC N ps scope)
  (len:∀vs H Q E,sp vs H Q E->vs.length=ps.length)
  (hbody:∀(A:Around) (outer:List Env) (s:Shared) (H:Hp) (vs:List V) (Q:VK) (E:XK),dw hd k (A.deeper (557 cdv))->sp vs H Q E->
   ∃t,kO 242 body t/\t 190 309 H):
  rZ hd P w K mg base (k+1) f 168 ps sp:=by
 refine (len,λA outer s H args us vs Q E hr e0 hb r hsp=>?_)
 have hl:=len _ _ _ _ hsp;have KX:K.In s.heap:=e0.mod.kin.keeps λb o e=>(e0.bs b o e).1
 have lim:s.heap.NoLimit:=e0.mod.nolimit.keeps λb o e=>(e0.bs b o e).1
 have hkind:∀y∈ps.zip us,scope.names.lookup y.1=some .local∨(scope.names.lookup y.1=some .cell/\((cellsFrom (35+1) scope.names []).lookup y.1).isSome=true):=λ⟨n,v⟩ hy=>by
  rcases S.par n (List.of_mem_zip hy).1 with q|q
  ·exact .inl q
  ·exact .inr (q,PySem.W.cellsFrom_some _ _ _ (.inl q))
 refine codeAny_call_function hr.depth (KX _ _ lk) rfl S.co S.gen rfl (PySem.W.codeRec_of KX hcd) (hb _ _ _ _ ?_);refine wpAny_newFunctionEnv_cells S.kind hkind λenv he s1 x=>?_
 subst he;refine (lim.keeps x.toInCall.keep,codeAny_func ?_);obtain ⟨t,ht,hq⟩:=hbody A outer s H vs Q E (hr.deeper _) hsp;have I:aG 242 [] 309 H s1:=sW S hr.hd e0 hl r x;refine wpAny_mono (ht [] s1 309 H _ I hq) (λfl s' hs=>?_) λe s' hs=>hs
 have fin:∀{σ':St} {H':Hp} {v:V} {u:Value},aG 242 [] σ' H' s'->RelV v u->Q v H'->CE outer P w H s Q u s':=
  λ{σ' H' v u} J rv q=>⟨v,H',J.os,J.bare,J.base,J.hok,rv,q⟩
 cases fl with
 |ret u=>
  obtain ⟨v,σ',H',J,rv,q⟩:=hs;exact fin J rv q
 |next=>
  obtain ⟨σ',H',J,q⟩:=hs;exact fin (v:=V.non) (u:=Value.none) J rfl q
 |brk=>
  obtain ⟨_,_,_,q⟩:=hs;exact False.elim q
 |cont=>
  obtain ⟨_,_,_,q⟩:=hs;exact False.elim q
universe z0
section
variable {X:Cx} {k:Nat} {f:Addr} {fd:FuncData} {ps:KA} {sp:Sp} {dvs:List V} {ds:KC} {x:Str} {p pos:Pos} {e:Expr} {es:List Expr} {t:TA} {hd:KH}
theorem uN {pins:Ky} {σ:St} {H:Hp} {s:Shared} {Q:VK} {us:KC} {vs:List V} (F:rZ hd X.prog X.w X.K X.mg X.base k f fd ps sp) (hr:dw hd k X.A) (hb:Binds X.K fd ps ds) (hv:aZ dvs ds)
  (I:aG X pins σ H s) (r:aZ vs us) (h:sp 377 H Q E0):wpAny 69 X.A (call 272 us) 238 X.xe s:=by
 have r2:aZ 377 (us++ds):=r.append hv;sleep 250
 refine wpAny_call (codeAny_mono (F.run X.A X.stack s H (us,[]) (us++ds) 377 Q E0 hr I.env0 (hb s us I.kIn hl) r2 h) λr s' hq=>?_)
 cases r with
 |error e=>exact False.elim hq
 |ok fl=>
  cases fl with
  |ret u=>exact I.after hq
  |next=>exact False.elim hq
  |brk=>exact False.elim hq
  |cont=>exact False.elim hq
theorem xI (F:rZ hd X.prog X.w X.K X.mg X.base k f fd ps sp) (hr:dw hd k X.A) (hg:Gl X x) (hm:X.mg x=some 272) (hk:Hk X.K 272=true) (hb:Binds X.K fd ps ds) (hv:aZ dvs ds)
  (ha:PA X (e::es) t) (hdb:92=false:=by decide) (he:starEach (e::es) X.env=(false,eval e X.env)::starEach es X.env:=by rfl) (hpl:(backTo pos 112).any 111=false:=by rfl):
  PE X 118 (nG sp dvs E0 t):=by
 sleep 66;sleep 102
 exact uN F hr hb hv I1 r q
universe z0
universe L2
namespace Sw
open PySem L2 XH
structure Dx (P:Program) (w:World) (K:G0) (mg:Kt) (base:Heap) (CX:sC) (k:Nat) (x:Str) (ps:KA) (dvs:List V) (sp:Sp) where
 f:Addr
 fd:FuncData
 ok:bh P w K mg base CX k f fd ps sp
 m:mg x=some 272
 q:Hk K 272=true
 b:Binds K fd ps []
 bd:∃ds,Binds K fd ps ds/\aZ dvs ds
noncomputable def Dx.calm {P:Program} {w:World} {K:G0} {mg:Kt} {base:Heap} {k:Nat} {x:Str} {ps:KA} {dvs:List V} {sp sp0:Sp} (D:Dx P w K mg base 138 k x ps dvs sp) (h:∀vs H Q E,sp0 vs H Q E->sp vs H Q E0):Dx P w K mg base bC k x ps dvs sp0:=
 ⟨D.f,D.fd,D.ok.noraise h,D.m,D.q,D.b,D.bd⟩
section
variable {X:Cx} {k j:Nat} {x:Str} {ps:KA} {sp:Sp} {p pos:Pos} {e:Expr} {es:List Expr} {t:TA} {dvs:List V} {E:St->XK}
theorem Bt (D:Dx X.prog X.w X.K X.mg X.base bC k x ps dvs sp) (hr:ce j X.A) (hk:k<=j) (hg:Gl X x) (ha:PA X (e::es) t) (hdb:92=false:=by decide)
  (he:starEach (e::es) X.env=(false,eval e X.env)::starEach es X.env:=by rfl) (hpl:(backTo pos 112).any 111=false:=by rfl):
  PE X 118 (nG sp [] E0 t):=
 uA D.ok 271 hg D.m D.q D.b .nil qw ha hdb he hpl
theorem pA (D:Dx X.prog X.w X.K X.mg X.base bC k x ps dvs sp) (hr:ce j X.A) (hk:k<=j) (hg:Gl X x) (ha:PA X (e::es) t) (hdb:92=false:=by decide)
  (he:starEach (e::es) X.env=(false,eval e X.env)::starEach es X.env:=by rfl) (hpl:(backTo pos 112).any 111=false:=by rfl):
  PE X 118 (nG sp dvs E0 t):=by
 obtain ⟨ds,hb,hv⟩:=D.bd;exact uA D.ok 271 hg D.m D.q hb hv qw ha hdb he hpl
theorem fQ (D:Dx X.prog X.w X.K X.mg X.base 312 k x ps dvs sp) (hr:ce j X.A) (hk:k<=j) (hg:Gl X x) (hx:iW X E) (ha:PA X (e::es) t) (hdb:92=false:=by decide)
  (he:starEach (e::es) X.env=(false,eval e X.env)::starEach es X.env:=by rfl) (hpl:(backTo pos 112).any 111=false:=by rfl):
  PE X 118 (sT sp [] E t):=
 qH D.ok 271 hg D.m D.q D.b .nil hx ha hdb he hpl
theorem pB (D:Dx X.prog X.w X.K X.mg X.base 312 k x ps dvs sp) (hr:ce j X.A) (hk:k<=j) (hg:Gl X x) (hx:iW X E) (ha:PA X (e::es) t) (hdb:92=false:=by decide)
  (he:starEach (e::es) X.env=(false,eval e X.env)::starEach es X.env:=by rfl) (hpl:(backTo pos 112).any 111=false:=by rfl):
  PE X 118 (sT sp dvs E t):=by
 obtain ⟨ds,hb,hv⟩:=D.bd;exact qH D.ok 271 hg D.m D.q hb hv hx ha hdb he hpl
universe z0
theorem bu.okX {P:Program} {w:World} {K:G0} {mg:Kt} {base:Heap} {x qual:Str} {st:Stmt} {dV:Value} {f:Addr} {fd:FuncData} {N ps:KA} {k:Nat} {sp:Sp} (F:bu K x qual st dV f fd) (S:aC N ps 297) (len:∀vs H Q E,sp vs H Q E->vs.length=ps.length)
  (hbody:∀(cdv:Value) (A:Around) (outer:List Env) (s:Shared) (H:Hp) (vs:List V) (Q:VK) (E:XK),ce k 473->sp vs H Q E->
   ∃t,kO ((jW 138 P w K mg base N qual 297 f cdv A outer s H E).wish (XS (jW 138 P w K mg base N qual 297 f cdv A outer s H E) λ_=>E)) (cD st) t/\t 190 309 H):bh P w K mg base 138 (k+1) f fd ps sp:=by
 sleep 61;exact Bk lk hcd S len λA outer s H vs Q E hr hsp=>hbody cdv A outer s H vs Q E hr hsp
def lW (c:Addr):Sp:=λvs H Q E=>∃a b:Int,vs= [.int a,.int b]/\Bd 8500 b/\(b≠0->∀p q:Int,Fr p q a b->Pair H Q p q)/\(b=0->E (.ref c) none H)
theorem Bu {c:Addr}:∀vs H Q E,qC vs H Q E->lW c vs H Q E0:=λvs H Q E (a,b,e,b0,hb,q)=>(a,b,e,hb,λ_=>q,λz=>absurd z b0)
def uO (K:G0) (c:Addr):Sp:=λvs H Q E=>∃(t t':Addr) (p q p' q':Int),vs= [.ref t,.ref t']/\b7 K 4000 H t p q/\b7 K 4000 H t' p' q'/\(p'≠0->∀r s:Int,Fr r s (p*q') (q*p')->Pair H Q r s)/\(p'=0->E (.ref c) none H)
theorem xJ {K:G0} {c:Addr}:∀vs H Q E,sS K vs H Q E->uO K c vs H Q E0:=λvs H Q E (t,t',p,q,p',q',e,h1,h2,n,z)=>(t,t',p,q,p',q',e,h1,h2,λ_=>z,λy=>absurd y n)
universe Sw
namespace L2
open PySem PySem.Spec PyProof.Rows XH
theorem vU {X:Cx} {K:G0} (hK:X.K=K):cY X 212 (λxs H Q=>∃x t T b,xs= [x,.ty T]/\f9 K H x t/\Hy K t (.type T)=some b/\Q (.bl b) H):=by
 subst hK;sleep 27;obtain ⟨x,t,T,b,rfl,ty,e,q⟩:=h;obtain ⟨u,w',rfl,e1,e2⟩:=vals2 r;cases e2;exact vF I e1 ty e λtk=>(.bl b,H,I.tok tk,rfl,q)
universe L2
namespace Sw
open PySem L2 XH
inductive Wh (K:G0) (H:Hp):V->Bool->Prop where
 |mk {x:V} {t:Value} {b1 b2:Bool} (ty:f9 K H x t) (h1:Hy K t (.type "int")=some b1) (h2:Hy K t (.type "bool")=some b2):Wh K H x (b1&& !b2)
section
variable {K:G0} {H:Hp}
theorem xK (i:Int):Wh K H (.int i) true:= .mk (b1:=true) (b2:=false) (.int i) (by kernel_rfl) (by kernel_rfl)
theorem pC {H':Hp} (g:ax H H') {x:V} {t:Value} (h:f9 K H x t):f9 K H' x t:=by
 cases h with
 |non=>exact .non
 |bl b=>exact .bl b
 |int i=>exact .int i
 |str x=>exact .str x
 |flt x=>exact .flt x
 |lst e=>exact .lst 418
 |frz e=>exact .frz 418
 |tup e=>exact .tup 418
 |dK e=>exact .dK 418
 |dT e=>exact .dT 418
 |ins e c a n k m=>exact .ins 418 c a n k m
theorem Wh.same {H':Hp} (g:ax H H') {x:V} {b:Bool} (h:Wh K H x b):Wh K H' x b:=by
 cases h with
 |mk ty h1 h2=>exact .mk (pC g ty) h1 h2
universe z0
def DB (K:G0):Sp:=λvs H Q _=>∃(x:V) (b:Bool),vs= [x]/\Wh K H x b/\Q (.bl b) H
inductive vV (K:G0) (H:Hp):V->Bool->Prop where
 |no {x:V} {t:Value} (ty:f9 K H x t) (h:Hy K t (.type "tuple")=some false):vV K H x false
 |len {a:Addr} {ys:List V} (e:H a=some (.tup ys)) (h:((ys.length:Nat):Int)≠2):vV K H (.ref a) false
 |top {a:Addr} {y z:V} (e:H a=some (.tup [y,z])) (h:Wh K H y false):vV K H (.ref a) false
 |bot {a:Addr} {y z:V} (e:H a=some (.tup [y,z])) (h:Wh K H y true) (h':Wh K H z false):vV K H (.ref a) false
 |two {a:Addr} {p q:Int} (e:H a=some (.tup [.int p,.int q])):vV K H (.ref a) (decide (1<=q)&&decide (b6 p q=1))
theorem vV.same {K:G0} {H H':Hp} (g:ax H H') {x:V} {b:Bool} (h:vV K H x b):vV K H' x b:=by
 cases h with
 |no ty h=>exact .no (pC g ty) h
 |len e h=>exact .len 418 h
 |top e h=>exact .top 418 (h.same g)
 |bot e h h'=>exact .bot 418 (h.same g) (h'.same g)
 |two e=>exact .two 418
def xL (K:G0):Sp:=λvs H Q _=>∃(x:V) (b:Bool),vs= [x]/\vV K H x b/\Q (.bl b) H
theorem lq (K:G0):Hy K 464 464=some true:=by kernel_rfl
theorem Bv {K:G0} {H:Hp} {a:Addr} {p q:Int} {b:Bool} (e:H a=some 82) (h:(decide (1<=q)&&decide (b6 p q=1))=b):vV K H 134 b:=h▸ .two e
universe Sw
namespace L2
open PySem PySem.Spec PyProof.Rows XH
def Gq:V->Prop
 | .bl _=>True
 | .int _=>True
 | .str _=>True
 | .non=>True
 |_=>False
theorem xM {A:Around} {s:Shared} {v:V} {u w:Value} (h:Gq v) (r1:RelV v u) (r2:RelV v w):SeqAt.EqAt A s u w true:=by
 cases v with
 |bl b=>
  cases r1;cases r2;have z:=SeqAt.EqAt.bool_bool (A:=A) (s:=s) b b;rw[beq_self_eq_true] at z;exact z
 |int i=>
  obtain ⟨t,rfl⟩:=r1;obtain ⟨t',rfl⟩:=r2;have z:=SeqAt.EqAt.int_int (A:=A) (s:=s) i t i t';rw[beq_self_eq_true] at z;exact z
 |str i=>
  obtain ⟨t,rfl⟩:=r1;obtain ⟨t',rfl⟩:=r2;have z:=SeqAt.EqAt.str_str (A:=A) (s:=s) i t i t';rw[beq_self_eq_true] at z;exact z
 |non=>
  cases r1;cases r2;exact SeqAt.EqAt.same _
 |_=>exact absurd h (λz=>z)
universe L2
namespace Sw
open PySem L2 XH PyProof.Rows
structure qJ (hd:KH) (P:Program) (w:World) (K:G0) (mg:Kt) (base:Heap) (k:Nat) (x:Str) (ps:KA) (sp:Sp) where
 f:Addr
 fd:FuncData
 ok:rZ hd P w K mg base k f fd ps sp
 m:mg x=some 272
 q:Hk K 272=true
 b:Binds K fd ps []
structure Bw (P:Program) (w:World) (K:G0) (mg:Kt) (base:Heap) (k:Nat) (C:Addr) (ps:KA) (sp:Sp) where
 f:Addr
 fd:FuncData
 ok:bh P w K mg base bC k f fd ps sp
 ci:CT K C f
 b:Binds K fd ps []
section
variable {X:Cx} {k j:Nat} {x:Str} {ps:KA} {sp:Sp} {p np pos cpos:Pos} {e:Expr} {es:List Expr} {t:TA} {hd:KH} {C:Addr} {E:L2.St->XK}
theorem ig (D:qJ hd X.prog X.w X.K X.mg X.base k x ps sp) (hr:dw hd j X.A) (hk:k<=j) (hg:Gl X x) (ha:PA X (e::es) t) (hdb:92=false:=by decide)
  (he:starEach (e::es) X.env=(false,eval e X.env)::starEach es X.env:=by rfl) (hpl:(backTo pos 112).any 111=false:=by rfl):
  PE X 118 (nG sp [] E0 t):=
 xI D.ok 271 hg D.m D.q D.b .nil ha hdb he hpl
theorem pD (D:Bw X.prog X.w X.K X.mg X.base k C ps sp) (hr:ce j X.A) (hk:k+1<=j) (hg:Gl X x) (hm:X.mg x=some 107) (hc:X.calm=true) (hp:iW X E) (ha:PA X (e::es) t) (hdb:92=false:=by decide)
  (he:starEach (e::es) X.env=(false,eval e X.env)::starEach es X.env:=by rfl) (hpl:(backTo cpos 112).any 111=false:=by rfl):
  PS X (.Raise (some (.Call (.Name x np) (e::es) [] cpos)) none pos) (uM C sp E t):=
 vQ D.ci D.ok 271 hg hm D.b hc hp ha hdb he hpl
universe z0
theorem bu.okH {hd:KH} {P:Program} {w:World} {K:G0} {mg:Kt} {base:Heap} {x qual:Str} {st:Stmt} {dV:Value} {f:Addr} {fd:FuncData} {N ps:KA} {k:Nat} {sp:Sp} (F:bu K x qual st dV f fd) (S:aC N ps 297) (len:∀vs H Q E,sp vs H Q E->vs.length=ps.length)
  (hbody:∀(cdv:Value) (A:Around) (outer:List Env) (s:Shared) (H:Hp) (vs:List V) (Q:VK) (E:XK),dw hd k (A.deeper (envOfC qual 297 35 f cdv))->sp vs H Q E->
   ∃t,kO (AN hd P w K mg base N qual 297 f cdv A outer s H E) (cD st) t/\t 190 309 H):rZ hd P w K mg base (k+1) f fd ps sp:=by
 sleep 61;exact Bs lk hcd S len λA outer s H vs Q E hr hsp=>hbody cdv A outer s H vs Q E hr hsp
theorem cJ {hd:KH} {H H':Hp} (h:fz hd H) (g:ax H H'):fz hd H':=λv e=>by
 obtain ⟨a,n,cls,dx,e1,e2⟩:=h v e;exact (a,n,cls,dx,e1,g _ _ e2)
theorem dA {H H':Hp} {p:Addr} (g:ax H H') (h:H p=none) (o:HO):ax H (ay H' p o):=λb u q=>by
 rw[ak (bj q h)];exact g b u q
def pE (X:Cx) (scope:Scope) (ys:KA) (js:List Nat):Prop:=∀(i:Nat) (y:Str),ys[i]?=some y->∃j:Nat,js[i]?=some j/\X.N[j]?=some y/\(X.env.scope.names.lookup y=some .cell∨X.env.scope.names.lookup y=some .free)/\((relabel scope X.env).names.lookup y=some .cell∨(relabel scope X.env).names.lookup y=some .free)
theorem xN {X:Cx} {scope:Scope}:pE X scope [] []:=λi y h=>by simp at h
theorem AO {X:Cx} {scope:Scope} {ys:KA} {js:List Nat} {y:Str} {j:Nat} (t:pE X scope ys js) (h1:X.N[j]?=some y:=by rfl) (h2:X.env.scope.names.lookup y=some .cell∨X.env.scope.names.lookup y=some .free:=by first|exact Or.inl rfl|exact Or.inr rfl)
  (h3:(relabel scope X.env).names.lookup y=some .cell∨(relabel scope X.env).names.lookup y=some .free:=by first|exact Or.inl rfl|exact Or.inr rfl):pE X scope (y::ys) (j::js):=λi z h=>by
 cases i with
 |zero=>
  cases h;exact (j,rfl,h1,h2,h3)
 |succ i=>exact t i z h
inductive vW (X:Cx):List (Str×Addr)->Prop where
 |nil:vW X []
 |cons {y:Str} {c:Addr} {cl:List (Str×Addr)} (h:X.env.cells.lookup y=some c) (t:vW X cl):vW X ((y,c)::cl)
theorem vW.all {X:Cx} {cl:List 149} (h:vW X cl):∀p∈cl,X.env.cells.lookup p.1=some p.2:=by
 induction h with
 |nil=>intro p hp;simp at hp
 |cons h _ ih=>
  intro p hp;rcases GM.mp hp with e|e
  ·rw[e];exact h
  ·exact ih p e
theorem xO {X:Cx} {scope:Scope} {cl:List 149} {own:Str} {ys:KA} {js:List Nat} (a:pE X scope ys js) (s:vW X cl) (nd:(own::ys).Nodup) (len:js.length=ys.length) (clos:closureFor scope X.env=pure cl) (nocell:(scope.names.all λp=> !(p.2== .cell))=true) (kind:scope.kind= .function)
  (loc:305=true) (ownL:scope.names.lookup own=some .local) (has:277=true) (noown:cl.lookup own=none):eI X scope cl own ys js:=
 ⟨clos,nocell,kind,loc,ownL,s.all,has,noown,nd,a,len⟩
def fR (C:Addr) (f:Str):Sp:=λvs H Q _=>∃a y n,vs= [.ref a,y]/\H a=some 507/\∀d,H d=none->Q .non (L2.ay (L2.ay H d 385) a 419)
theorem uP {H:Hp} {Q:VK} {a C:Addr} {f:Str} {y:V} (na:H a=none) (h:∀d H2,ax H H2->H2 a=some 280->H2 d=some 385->d≠a->ax H (del H2 a)->del H2 a d=some 385->Q .non H2) {E:XK}:
  fR C f [.ref a,y] (L2.ay H a 339) Q E:=by
 refine (a,y,true,rfl,ac,λd hd=>?_)
 have ne:d≠a:=by
  intro z;rw[z,ac] at hd;cases hd
 have nd:H d=none:=by rwa [ak ne] at hd
 have g:ax H (L2.ay (L2.ay (L2.ay H a 339) d 385) a 280):=dA (dA (dA (λ_ _ q=>q) na _) nd _) na _
 have e2:L2.ay (L2.ay (L2.ay H a 339) d 385) a 280 d=some (.xd [(f,y)]):=by rw[ak ne,ac]
 exact h d _ g ac e2 ne (λb o q=>by rw[gH (bj q na)];exact g b o q) (by rw[gH ne];exact e2)
structure jm (P:Program) (w:World) (K:G0) (mg:Kt) (base:Heap) (CX:sC) (k:Nat) (f:Addr) (ps:KA) (dvs:List V) (sp:Sp) where
 fd:FuncData
 ok:bh P w K mg base CX k f fd ps sp
 b:Binds K fd ps []
 bd:∃ds,Binds K fd ps ds/\aZ dvs ds
noncomputable def jm.calm {P:Program} {w:World} {K:G0} {mg:Kt} {base:Heap} {k:Nat} {f:Addr} {ps:KA} {dvs:List V} {sp sp0:Sp} (D:jm P w K mg base 138 k f ps dvs sp) (h:∀vs H Q E,sp0 vs H Q E->sp vs H Q E0):jm P w K mg base bC k f ps dvs sp0:=
 ⟨D.fd,D.ok.noraise h,D.b,D.bd⟩
def xP (K:G0) (m:Str) (f:Addr) (sp:Sp) (dvs:List V) (ta:TE) (t:TA):TE:=λσ H Q=>ta σ H λx H1=>∃a C dx fs,x= .ref a/\H1 a=some 156/\rY K C/\gz K C m f/\fs.lookup m=none/\
 t σ H1 λvs H2=>sp (x::377) H2 Q E0
section
variable {X:Cx} {k j:Nat} {f C:Addr} {ps:KA} {sp:Sp} {dvs:List V} {x m:Str} {p pos apos:Pos} {e o:Expr} {es:List Expr} {ta tb:TE} {t:TA}
theorem By (M:Mk X.K C f) (D:jm X.prog X.w X.K X.mg X.base bC k f ps dvs sp) (hr:ce j X.A) (hk:k+1<=j) (hg:Gl X x) (hm:X.mg x=some 107) (ha:PA X (e::es) t) (hdb:92=false:=by decide)
  (he:starEach (e::es) X.env=(false,eval e X.env)::starEach es X.env:=by rfl) (hpl:(backTo pos 112).any 111=false:=by rfl):PE X 118 (uz C sp [] E0 t):=
 y3 M D.ok 271 hg hm D.b .nil qw ha hdb he hpl
theorem Bz (M:Mk X.K C f) (D:jm X.prog X.w X.K X.mg X.base bC k f ps dvs sp) (hr:ce j X.A) (hk:k+1<=j) (hg:Gl X x) (hm:X.mg x=some 107) (hdb:92=false:=by decide):PE X (.Call (.Name x p) [] [] pos) (uz C sp [] E0 Ba):=
 w6 M D.ok 271 hg hm D.b .nil qw hdb
theorem xQ {pins:Ky} {σ:L2.St} {H1:Hp} {s1:Shared} {Q:VK} {a dx:Addr} {fs:List 215} {pl:Sem Bool} {ds:KC} (F:bh X.prog X.w X.K X.mg X.base bC k f fd ps sp) (hr:ce k X.A) (hb:Binds X.K fd ps ds) (hd:aZ dvs ds) (ha:PA X (e::es) t)
  (hst:starEach (e::es) X.env=(false,eval e X.env)::starEach es X.env) (hpl:(backTo pos 112).any 111=false)
  (I1:aG X pins σ H1 s1) (ea:H1 a=some 156) (c:rY X.K C) (hm:gz X.K C m f) (l:fs.lookup m=none) (q:t σ H1 λvs H2=>sp (.ref a::377) H2 Q E0):
  wpAny 69 X.A (getMethod 134 m pl) 291 X.xe s1:=by
 sleep 26
 exact wZ (us:= .ref a::us) (vs:= .ref a::vs) F hr hb hd qw I2 (.cons rfl r) q2
theorem i9 {pl:Sem Bool} (he:PE X o ta) (D:jm X.prog X.w X.K X.mg X.base bC k f ps dvs sp) (hr:ce j X.A) (hk:k<=j) (ha:PA X (e::es) t)
  (hst:starEach (e::es) X.env=(false,eval e X.env)::starEach es X.env:=by rfl) (hpl:(backTo pos 112).any 111=false:=by rfl)
  (ht:eval 108 X.env=(do
   let ov<-eval o X.env
   standAt apos.atName
   let (f,first)<-holding [ov] (getMethod ov m pl)
   callWith pos f first (backTo pos 197) 160):=by rfl):
  PE X 108 (xP X.K m f sp [] ta t):=by
 sleep 39
 sleep 62;exact xQ D.ok 271 D.b .nil ha hst hpl I1 ea c hm l q
universe z0
def xR (K:G0) (m:Str) (f:Addr) (sp:Sp) (dvs:List V) (E:L2.St->XK) (ta:TE) (t:TA):TE:=λσ H Q=>ta σ H λx H1=>∃a C dx fs,x= .ref a/\H1 a=some 156/\rY K C/\gz K C m f/\fs.lookup m=none/\
 t σ H1 λvs H2=>sp (x::377) H2 Q (E σ)
section
variable {X:Cx} {k j:Nat} {f C:Addr} {ps:KA} {sp:Sp} {dvs:List V} {x m:Str} {p pos apos:Pos} {e o:Expr} {es:List Expr} {ta tb:TE} {t:TA} {E:L2.St->XK}
theorem vX {pins:Ky} {σ:L2.St} {H1:Hp} {s1:Shared} {Q:VK} {a dx:Addr} {fs:List 215} {pl:Sem Bool} {ds:KC} {fd:FuncData} (F:bh X.prog X.w X.K X.mg X.base 312 k f fd ps sp) (hr:ce k X.A) (hb:Binds X.K fd ps ds) (hd:aZ dvs ds) (hx:iW X E) (ha:PA X (e::es) t)
  (hst:starEach (e::es) X.env=(false,eval e X.env)::starEach es X.env) (hpl:(backTo pos 112).any 111=false)
  (I1:aG X pins σ H1 s1) (ea:H1 a=some 156) (c:rY X.K C) (hm:gz X.K C m f) (l:fs.lookup m=none) (q:t σ H1 λvs H2=>sp (.ref a::377) H2 Q (E σ)):
  wpAny 69 X.A (getMethod 134 m pl) 291 X.xe s1:=by
 sleep 26
 exact uH (us:= .ref a::us) (vs:= .ref a::vs) F hr hb hd hx I2 (.cons rfl r) q2
theorem sY {pl:Sem Bool} (D:jm X.prog X.w X.K X.mg X.base 312 k f ps dvs sp) (hr:ce j X.A) (hk:k<=j) (hx:iW X E) (he:PE X o ta) (ha:PA X (e::es) t)
  (hst:starEach (e::es) X.env=(false,eval e X.env)::starEach es X.env:=by rfl) (hpl:(backTo pos 112).any 111=false:=by rfl)
  (ht:eval 108 X.env=(do
   let ov<-eval o X.env
   standAt apos.atName
   let (f,first)<-holding [ov] (getMethod ov m pl)
   callWith pos f first (backTo pos 197) 160):=by rfl):
  PE X 108 (xR X.K m f sp [] E ta t):=by
 sleep 39
 sleep 62;exact vX D.ok 271 D.b .nil hx ha hst hpl I1 ea c hm l q
universe z0
universe Sw
namespace L2
open PySem PySem.Spec PyProof.Rows XH
noncomputable def AQ (x:Str):It:=⟨λi _=>i<x.cps.size,λi H v H'=>H'=H/\∃c,x.cps[i]?=some c/\v= .str ⟨#[c]⟩,λi _=>i=x.cps.size⟩
theorem jB {P:Program} {w:World} {K:G0} {tg:Expr} {ty:String} (hty:ty= "str_ascii_iterator" ∨ty= "str_iterator") (it:Addr) (x:Str) (t:Tok):Turn P w K tg (AQ x) [it] it (λi h=>h.IsStrIter it ty x t i) where
 mem:=by simp
 obj:=λi h st b hb=>by
  sleep 153
  sleep 40
 keep:=λi h h' st k=>by
  sleep 65
 item:=by
  sleep 8
  have W:Walks X.prog X.w X.A it [it] [it] x.cps.size (SignAt x) (λi h=>h.IsStrIter it ty x t i):=by
   rcases hty with rfl|rfl
   ·exact Walks.strAscii 231 it x t
   ·exact Walks.strWide 231 it x t
  refine W.item i s _ _ hg st λv h' tk hv st' kk=>?_
  obtain ⟨c,u,hc',rfl⟩:=hv;have I1:aG X pins σ H {s with heap:=h',toks:=tk}:=I.turned (λb o hb e=>kk b o (by simpa using hb) e) f0 f1 f3 f4 f5
  obtain ⟨o,e,c1,d1⟩:=id st';refine ⟨_,rfl,iU (s:=181) (n:=ty) e c1 d1 (by rcases hty with rfl|rfl<;>decide) ⟨.str ⟨#[c]⟩,H,I1,⟨u,rfl⟩,⟨rfl,c,hc',rfl⟩,st',λb hb=>(hf b hb).1⟩⟩
 done:=by
  sleep 8
  have W:Walks X.prog X.w X.A it [it] [it] x.cps.size (SignAt x) (λi h=>h.IsStrIter it ty x t i):=by
   rcases hty with rfl|rfl
   ·exact Walks.strAscii 231 it x t
   ·exact Walks.strWide 231 it x t
  have hg':i=x.cps.size:=hg;subst hg';exact W.done s _ _ st λh' tk kk=>(rfl,I.turned (λb o hb e=>kk b o (by simpa using hb) e) f0 f1 f3 f4 f5)
 self:=λ_ _ _ _ _ st h=>by
  rcases hty with rfl|rfl
  ·exact wpAny_pyIter_striter_ascii st h
  ·exact wpAny_pyIter_striter_wide st h
def FN (tl:TE):TI:=λσ H R=>tl σ H λx H1=>∃z,x= .str z/\R (AQ z) H1
variable {X:Cx} {tg:Expr}
theorem BA {l:Expr} {tl:TE} (hl:PE X l tl):PI X tg l (FN tl):=by
 sleep 16
 obtain ⟨z,rfl,q⟩:=q1;obtain ⟨t,rfl⟩:=r1;have fin:∀{ty:String} {o:Obj},481->(s1.heap.push o).IsStrIter 101 ty z t 0->Fp X pins σ tg R (.ref 101) {s1 with heap:=s1.heap.push o}:=λ{ty o} hty st=>by
  refine (101,[101],_,_,H1,rfl,I1.kept (t':=s1.toks) λb o e=>67 _ e,jB hty _ z t,st,λb hb=>?_,q)
  sleep 54
  sleep 131
 cases ha:z.cps.all (· <128)
 ·sleep 232
 ·sleep 230
theorem zw {z:Str} {g:TG} {tb:TS} {D:Ends} {σ:St} {H:Hp} (Pv:Nat->St->Hp->Prop) (h0:Pv 0 σ H)
  (hs:∀i c σ H,z.cps[i]?=some c->Pv i σ H->g (.str ⟨#[c]⟩) σ H λσ2 H2=>tb 110 σ2 H2) (hd:∀σ H,Pv z.cps.size σ H->D.nx σ H):
  ∃W:Nat->Nat->St->Hp->Prop,251/\∀i m σ H,W i m σ H->
   ((AQ z).stop i H/\D.nx σ H)∨((AQ z).go i H/\∃N:St->Hp->Prop,94/\∀x H',(AQ z).yld i H x H'->g x σ H' λσ2 H2=>tb 151 σ2 H2):=by
 sleep 215
 sleep 98
 by_cases hlt:i<z.cps.size
 ·sleep 213
  obtain ⟨e,c,hc,rfl⟩:=y;subst e;exact hs i c σ _ hc p
 ·have e:i=z.cps.size:=by lia
  subst e;exact .inl (rfl,hd σ H p)
noncomputable def eU (x:Str) (lo hi:Option Int):Str:=⟨((x.cps.toList.drop (HT.fH x.length 0 lo)).take (HT.fH x.length x.length hi-HT.fH x.length 0 lo)).toArray⟩
theorem DC (lo hi:Option Int) (n:Nat):Builtin.Str.strSliceIndices lo hi 1 n=(List.range (HT.fH n n hi-HT.fH n 0 lo)).map (HT.fH n 0 lo+ ·):=by
 have h1:(match lo with|none=>(0:Int)|some i=>max 0 (min (if i<0 then i+(n:Int) else i) n))=((HT.fH n 0 lo:Nat):Int):=by
  cases lo with
  |none=>simp[HT.fH]
  |some i=>
   simp only[HT.fH]
   by_cases h:i<0
   ·simp only[h,if_true]<;>lia
   ·simp only[h,if_false]<;>lia
 have h2:(match hi with|none=>(n:Int)|some i=>max 0 (min (if i<0 then i+(n:Int) else i) n))=((HT.fH n n hi:Nat):Int):=by
  cases hi with
  |none=>simp[HT.fH]
  |some i=>
   simp only[HT.fH]
   by_cases h:i<0
   ·simp only[h,if_true]<;>lia
   ·simp only[h,if_false]<;>lia
 rw[<-sliceRange_one,<-h1,<-h2];cases lo<;>cases hi<;>rfl
theorem qK (x:Str) (l u:Option (Int×Tok)):(⟨((slicePicked x l u none).filterMap (x.cps[·]?)).toArray⟩:Str)=eU x 458 (u.map 111):=by
 show (⟨((Builtin.Str.strSliceIndices 458 456 1 x.length).filterMap (x.cps[·]?)).toArray⟩:Str)=_;rw[DC,pick_run]
 rfl
theorem fM (x:Str) (lo hi:Option Int):(eU x lo hi).length<=x.length:=by
 show ((x.cps.toList.drop _).take _).toArray.size<=x.cps.size;rw[HF,GX,List.length_drop];simp only[Hi]
 lia
theorem sZ (x:Str) (l u:Option (Int×Tok)) (h:(slicePicked x l u none).length=x.length):eU x 458 456=x:=by
 have h':(Builtin.Str.strSliceIndices 458 456 1 x.length).length=x.length:=h;rw[DC,G2,List.length_range] at h';have hs:HT.fH x.length x.length 456<=x.length∨x.length<HT.fH x.length x.length (u.map 111):=by lia
 have hu:HT.fH x.length x.length 456<=x.length:=by
  cases u with
  |none=>exact G4 _
  |some p=>
   show (if p.1<0 then (p.1+(x.length:Int)).toNat else min p.1.toNat x.length)<=x.length
   by_cases hp:p.1<0
   ·rw[if_pos hp];lia
   ·rw[if_neg hp];lia
 unfold eU
 by_cases hx:x.length=0
 ·have e:x.cps.toList= []:=by
   have:x.cps.toList.length=0:=by rw[Hi];exact hx
   exact II this
  rw[e,List.drop_nil,List.take_nil];obtain ⟨c⟩:=x;have e':c= #[]:=Array.toList_inj.mp (by simpa using e)
  rw[e']
 ·have h0:HT.fH x.length 0 458=0:=by lia
  rw[h0,List.drop_zero,Hn (by rw[Hi];show x.length<=_;lia)]
theorem part_of {v:Value} {o:Option Int} (p:IsPart v o):∃l:Option (Int×Tok),partValue l=v/\l.map 111=o:=by
 cases p with
 |none=>exact ⟨none,rfl,rfl⟩
 |int i t=>exact ⟨some (i,t),rfl,rfl⟩
theorem ja {X:Cx}:Fw X (λx lo hi H Q=>∃z,x= .str z/\z.length<=sizeLine/\Q (.str (eU z lo hi)) H):=by
 intro pins s σ H x v vl vu lo hi sl Q I rx hs pl pu h;obtain ⟨z,rfl,hz,q⟩:=h;obtain ⟨t,rfl⟩:=rx;obtain ⟨l,rfl,rfl⟩:=part_of pl;obtain ⟨u,rfl,rfl⟩:=part_of pu;exists "str",_,slot_str_getitem.lookup,typeIs_str s z t;refine wpAny_getItem_str_slice (l:=l) (u:=u) (st:=none) hs rfl ?_;unfold sliceMade
 by_cases hw:(slicePicked z l u none).length=z.length
 ·rw[if_pos (by simp[hw])]
  refine (.str (eU z 458 456),H,I,(t,by rw[sZ z l u hw]),q)
 ·rw[if_neg (by simp[hw])]
  rw[qK];exact (HN (fM _ _ _) hz,.str (eU z 458 456),H,I.tok _,⟨ν⟩,q)
universe L2
namespace Sw
open PySem PySem.NumText
universe Sw
namespace L2
open PySem PySem.Spec PyProof.Rows XH
section
variable {X:Cx} {a b e o:Expr} {es:List Expr} {t te to:TE} {ta:TA} {pos apos cpos:Pos} {x y:Str}
theorem qL {z:Str} {p:Pos} (hg:Gl X x) (h:∃t,X.mg x=some (.str z t)) (hd:92=false:=by decide):PE X (.Name x p) (tC 216):=by
 obtain ⟨t,h⟩:=h;exact uu hg h (t,rfl) hd
theorem lX {i:Int} {p:Pos} (hg:Gl X x) (h:∃t,X.mg x=some (.int i t)) (hd:92=false:=by decide):PE X (.Name x p) (tC (.int i)):=by
 obtain ⟨t,h⟩:=h;exact uu hg h (t,rfl) hd
universe z0
universe L2
namespace Sw
open PySem L2 XH PySem.NumText
noncomputable def sL (z:Str):List Nat:=z.cps.toList
noncomputable def FO (l:List Nat):Str:=⟨l.toArray⟩
theorem lY (z:Str):(sL z).length=z.length:=by simp[sL,Str.length]
theorem BB (x y:Str):sL (x++y)=sL x++sL y:=by
 show (x.cps++y.cps).toList=_;rw[Array.toList_append]
 rfl
theorem DE:Str.empty=FO []:=rfl
theorem BC (z:Str) (c:Nat):(!(Builtin.Str.occurrences z (FO [c]) 0 z.length 1).isEmpty)=decide (c∈sL z):=StrLaws.found_one z c
theorem E5 {b:Bool} {A B:Prop} (h1:b=false->A) (h2:b=true->B):if (!b)=true then A else B:=by
 cases b with
 |false=>exact gG (h1 rfl)
 |true=>exact dP (h2 rfl)
theorem BE {xs:List V} {i:Int} (h0:0<=i) (h:i<(xs.length:Int)):∃v∈xs,iR xs i=some v:=by
 have hk:i.toNat<xs.length:=by lia
 have ek:i=((i.toNat:Nat):Int):=by lia
 exists xs[i.toNat],List.getElem_mem hk;sleep 226
theorem zx {xs:List Nat} {i:Int} (h0:0<=i) (h:i<(xs.length:Int)):∃v,iR xs i=some v:=by
 have hk:i.toNat<xs.length:=by lia
 have ek:i=((i.toNat:Nat):Int):=by lia
 exists xs[i.toNat];sleep 226
universe Sw
namespace L2
open PySem PySem.Spec PyProof.Rows XH
theorem lZ {K:G0} {a:Addr} {xs:List V} {js:List Nat} {te:TE} {σ:L2.St} {H1:Hp} {Q:VK} (P:V->V->Prop) (hS:aQ K H1 a xs) (hz:xs.length<=sizeLine)
  (step:∀x∈xs,∀H3,ax H1 H3->∀Q':VK,(∀y H4,P x y->ax H3 H4->Q' y H4)->te (some x::bK js σ) H3 Q')
  (fin:∀(p:Addr) (ys:List V) (H':Hp),H1 p=none->ys.length=xs.length->425->ax H1 H'->H' p=some 263->Q 133 H'):uJ js te σ Q (wT K a) H1:=by
 sleep 57
 sleep 146
 by_cases hin:i<xs.length
 ·sleep 183
  sleep 23
  by_cases hj:j<ys.length
  ·rw[G6 hj] at e2;exact hP j x' y' e1 e2
  ·have ej:j=i:=by
    have:=(G3.mp e2).1;simp at this
    lia
   subst ej;rw[G7 42,hl] at e2
   simp at e2;subst e2;rw[ex] at e1;cases e1;exact py
 ·sleep 287
  subst e2;exact .inl ((xs,S2,G4 _),fin p ys H2 hp hl hP g e)
universe L2
namespace Sw
open PySem L2 XH PySem.NumText
noncomputable def BF:Str:= "abcdefghijklmnopqrstuvwxyz"
def Nm (z:Str):Prop:=1<=(sL z).length/\(sL z).length<=12/\∀c∈sL z,97<=c/\c<=122
theorem pG (c:Nat):(!(Builtin.Str.occurrences BF (FO [c]) 0 BF.length 1).isEmpty)=decide (97<=c/\c<=122):=by
 rw[BC];have e:sL BF=(List.range 26).map (97+ ·):=by decide
 rw[e];apply decide_eq_decide.mpr;constructor
 ·intro h;obtain ⟨i,hi,rfl⟩:=G9.mp h;have:=IX.mp hi
  lia
 ·intro h;exact G9.mpr (c-97,IX.mpr 42,by lia)
def l7 (K:G0):Sp:=λvs H Q _=>∃x:V,vs= [x]/\((∃z:Str,x= .str z/\z.length<=1000000/\(Nm z->Q 71 H)/\(¬Nm z->Q 541 H))∨∃ty,f9 K H x ty/\Hy K ty (.type "str")=some false/\Q 541 H)
def lA (x:V):Prop:=∃z,x= .str z/\Nm z
def gc (K:G0) (H:Hp) (x:V):Prop:=(∃z,x= .str z/\z.length<=1000000/\¬Nm z)∨∃ty,f9 K H x ty/\Hy K ty (.type "str")=some false
theorem gc.same {K:G0} {H H':Hp} {x:V} (g:ax H H') (h:gc K H x):gc K H' x:=by
 rcases h with h|⟨ty,a,b⟩
 ·exact .inl h
 ·exact .inr (ty,pC g a,b)
theorem vY {xs:List V} (h:1<=xs.length):jt xs none (some (-1))=xs.dropLast:=by
 unfold jt;have e1:HT.fH xs.length 0 none=0:=rfl;have e2:HT.fH xs.length xs.length (some (-1))=xs.length-1:=by
  unfold HT.fH;simp;omega
 rw[e1,e2,List.drop_zero,Nat.sub_zero,List.dropLast_eq_take]
def jC:Sp:=λ_ _ _ _=>False
theorem xS {z:Str} (h:Nm z):z.length<=1000000:=by
 have:=h.2.1;have e:=lY z
 lia
def AR:Sp:=λvs H Q _=>∃(l:Addr) (xs:List V),vs= [.ref l]/\H l=some 389/\(∀x∈xs,lA x)/\Q .non H
def gJ (K:G0) (c:Addr):Sp:=λvs H Q E=>∃(l:Addr) (xs:List V),vs= [.ref l]/\H l=some 389/\(∀x∈xs,lA x∨gc K H x)/\((∀x∈xs,lA x)->Q .non H)/\((¬ ∀x∈xs,lA x)->∀H',ax H H'->E (.ref c) none H')
theorem BG {K:G0} {c:Addr} {vs:List V} {H:Hp} {Q:VK} {E:XK} (h:AR vs H Q E):gJ K c vs H Q E0:=by
 obtain ⟨l,xs,e,h1,h2,h3⟩:=h;exact (l,xs,e,h1,λx hx=> .inl (h2 x hx),λ_=>h3,λz=>absurd h2 z)
universe Sw
namespace So
open PySem PyProof.Rows
noncomputable def kk (κ:KeyKind) (p:Keyed):κ.α:=(κ.keyOf p.1).getD κ.dflt
def Kd (κ:KeyKind) (p:Keyed):Prop:=∃a,κ.keyOf p.1=some a
def CU (prog:Program) (w:World) (A:Around) (E:Ks) (s:Shared) (κ:KeyKind) (kd:SortKind):Prop:=∀(st:SortSt) (x y:Keyed) (Q:Option Bool->SortSt->Prop),kindOf st=kd->Kd κ x->Kd κ y->Q 257 st->wpS 68 A E s (lt' x y) Q st
section
variable {prog:Program} {w:World} {A:Around} {E:Ks} {s:Shared} {κ:KeyKind} {kd:SortKind}
theorem l8 {α β:Type} {st:SortSt} {x:StateT SortSt Sem α} {f:α->StateT SortSt Sem β} {Q:β->SortSt->Prop} (h:wpS 68 A E s (x>>=f) Q st):wpS 68 A E s (x>>=f) Q st:=h
theorem xT (hO:CU prog w A E s κ kd) {st:SortSt} {x y:Keyed} {Q:Option Bool->SortSt->Prop} (hk:kindOf st=kd) (hx:Kd κ x) (hy:Kd κ y) (h:Q 257 st):wpS 68 A E s (lt' x y) Q st:=hO st x y Q hk hx hy h
theorem jD {st:SortSt} {arr:Array Keyed} {i:Nat} {p:Keyed} {Q:Keyed->SortSt->Prop} (e:arr[i]?=some p) (h:Q p st):wpS 68 A E s (elem' arr i) Q st:=by
 rw[elem'_eq,e];exact wpS_pure h
universe z0
def Lq (κ:KeyKind) (p q:Keyed):Prop:=κ.kle (kk κ p) (kk κ q)
section
variable {prog:Program} {w:World} {A:Around} {E:Ks} {s:Shared} {κ:KeyKind} {kd:SortKind}
theorem qM {st:SortSt} {r:String} {Q:Unit->SortSt->Prop} (h:Q () st):wpS 68 A E s (liftM (rule r):StateT SortSt Sem Unit) Q st:=wpS_lift (wpAny_rule (rfl,h))
universe z0
section
variable {prog:Program} {w:World} {A:Around} {E:Ks} {s:Shared} {κ:KeyKind} {kd:SortKind}
theorem zy {arr:Array Keyed} {P R:List Keyed} (e:arr.toList=P++R) {i:Nat} {x:Keyed} (h:R[i]?=some x):arr[P.length+i]?=some x:=by
 have:arr.toList[P.length+i]?=some x:=by rw[e,G7 42,Nat.add_sub_cancel_left];exact h
 simpa using this
theorem jE (hO:CU prog w A E s κ kd) {st:SortSt} {P R:List Keyed} {i j i' j':Nat} {x y:Keyed} {Q:Option Bool->SortSt->Prop} (hk:kindOf st=kd) (ka:∀x∈R,Kd κ x) (e:(arrOf st).toList=P++R)
  (hi:R[i]?=some x) (hj:R[j]?=some y) (ei:i'=P.length+i) (ej:j'=P.length+j) (h:Q 257 st):wpS 68 A E s (ltAt' i' j') Q st:=by
 subst ei ej;rw[ltAt'_eq];sleep 139;exact wpS_bind (jD (zy e hi) (wpS_bind (jD (zy e hj) (xT hO hk (ka x (G5 hi)) (ka y (G5 hj)) h))))
theorem take_snoc {R:List Keyed} {n:Nat} {x:Keyed} (h:R[n]?=some x):R.take (n+1)=R.take n++ [x]:=by
 rw[IL,h]
 rfl
theorem rise {R:List Keyed} {n:Nat} {x y:Keyed} (h1:1<=n) (hs:(R.take n).Pairwise 384) (hy:R[n-1]?=some y) (hx:R[n]?=some x) (l:Lq κ y x):(R.take (n+1)).Pairwise (Lq κ):=by
 have e1:R.take n=R.take (n-1)++ [y]:=by
  have:=take_snoc hy
  rwa [show n-1+1=n by lia] at this
 rw[take_snoc hx,IH];refine (hs,by simp,λu hu v hv=>?_)
 simp at hv;rw[hv];rw[e1] at hu hs;rcases GU.mp hu with k|k
 ·exact KeyOrd.kle_trans ((IH.mp hs).2.2 u k y 73) l
 ·simp at k;rw[k];exact l
theorem uQ {st:SortSt} {R:List Keyed} {n0 N:Nat} (hN:N=R.length) {body:Nat->Option (Option Nat)×Nat->StateT SortSt Sem (ForInStep (Option (Option Nat)×Nat))} {Q:Option (Option Nat)×Nat->SortSt->Prop} (h1:1<=n0) (hn:n0<=R.length) (hs:(R.take n0).Pairwise 384)
  (hb:∀n x y (i:Nat) (Q':ForInStep (Option (Option Nat)×Nat)->SortSt->Prop),1<=n->R[n]?=some x->R[n-1]?=some y->(κ.blt (kk κ x) (kk κ y)=true->Q' (.done (none,n)) st)->(κ.blt (kk κ x) (kk κ y)=false->Q' (.yield (none,n+1)) st)->wpS 68 A E s (body i (none,n)) Q' st)
  (h:∀n,n0<=n->n<=R.length->(R.take n).Pairwise 384->(n=R.length∨∃x y,R[n]?=some x/\R[n-1]?=some y/\κ.blt (kk κ x) (kk κ y)=true)->Q (none,n) st):wpS 68 A E s (forIn [n0:N] (none,n0) body) Q st:=by
 subst hN;refine wpS_forRange (I:=λi c st'=>st'=st/\c=(none,i)/\n0<=i/\(R.take i).Pairwise 384) ?_ ?_ (rfl,rfl,G4 _,hs)
 ·rintro i c st' hi1 hi2 ⟨rfl,rfl,h3,h4⟩;have ex:=G1 hi2;have ey:=G1 (show i-1<R.length by lia)
  refine hb i _ _ i _ 42 ex ey (λc=>h i h3 42 h4 (.inr (_,_,ex,ey,c))) (λc=>(rfl,rfl,by lia,rise 42 h4 ey ex c))
 ·rintro c st' ⟨rfl,rfl,h3,h4⟩;rw[Nat.max_eq_right hn] at h3 h4⊢;exact h _ h3 173 h4 (.inl rfl)
theorem kD {arr:Array Keyed} {P D S:List Keyed} (e:arr.toList=P++(D++S)):(mirror arr P.length (P.length+D.length) 396).toList=P++(D.reverse++S):=by
 have sz:arr.size=P.length+(D.length+S.length):=by
  have:=congrArg List.length e
  simpa using this
 apply IW;intro k;have q:=getElem?_mirror_all (xs:=arr) (i:=P.length) (j:=P.length+D.length) 42 k
 have q':(mirror arr P.length (P.length+D.length) 396).toList[k]?=(mirror arr P.length (P.length+D.length) 396)[k]?:=by simp
 have ga:∀i,arr[i]?=(P++(D++S))[i]?:=λi=>by rw[<-e,HX]
 rw[q',q,ga,ga]
 by_cases c:P.length<=k/\k<P.length+D.length
 ·rw[if_pos c,G7 42,G6 42,G7 42,G6 (by rw[Hj];lia),List.getElem?_reverse 42]
  congr 1
  lia
 ·rw[if_neg c]
  by_cases c2:k<P.length
  ·rw[G6 c2,G6 c2]
  ·rw[G7 42,G7 42,G7 42,G7 (by rw[Hj];lia),Hj]
structure Kp (st st':SortSt):Prop where
 kind:kindOf st'=kindOf st
 failed:failedOf st'=failedOf st
 pend:pendingOf st'=pendingOf st
def NI (κ:KeyKind) (L:List Keyed) (n:Nat):Prop:=((L.map 459).take n).Pairwise λa b=>κ.blt a b=false
theorem NI.snoc {L:List Keyed} {n:Nat} {x y:Keyed} (h1:1<=n) (h:NI κ L n) (hy:L[n-1]?=some y) (hx:L[n]?=some x) (l:κ.blt (kk κ y) (kk κ x)=false):NI κ L (n+1):=by
 have ey:(L.map 459)[n-1]?=some (kk κ y):=by rw[GJ,hy];rfl
 have ex:(L.map 459)[n]?=some (kk κ x):=by rw[GJ,hx];rfl
 unfold NI at h⊢;have e1:(L.map 459).take n=(L.map 459).take (n-1)++ [kk κ y]:=by
  have:=IL (l:=L.map 459) (i:=n-1);rw[show n-1+1=n by lia,ey] at this
  exact this
 have e2:(L.map 459).take (n+1)=(L.map 459).take n++ [kk κ x]:=by
  rw[IL,ex]
  rfl
 rw[e2,IH];refine (h,by simp,λu hu v hv=>?_)
 simp at hv;rw[hv];rw[e1] at hu h;rcases GU.mp hu with k|k
 ·have q:=(IH.mp h).2.2 u k (kk κ y) 73
  exact KeyOrd.kle_trans (O:=κ.toKeyOrd) l q
 ·simp at k;rw[k];exact l
theorem NI.falls {L:List Keyed} {n:Nat} (h:NI κ L n):(L.take n).Pairwise (λp q=>Lq κ q p):=by
 unfold NI at h;rw[<-List.map_take,IV] at h;exact h
def AS (κ:KeyKind) (L:List Keyed) (n m:Nat):Prop:=∃(D1 D2 S:List Keyed) (a:κ.α),L=D1++(D2++S)/\D1.length+D2.length=n/\D2.length=m+1/\∀x∈D2,kk κ x=a
theorem vZ {D:List Keyed} {a:κ.α} (h:∀x∈D,kk κ x=a):D.reverse.map 459=D.map (kk κ):=by
 have e1:D.map 459=List.replicate D.length a:=List.eq_replicate_iff.mpr ⟨by simp,λb hb=>by
  obtain ⟨x,hx,rfl⟩:=G9.mp hb;exact h x hx⟩
 have e2:D.reverse.map 459=List.replicate D.length a:=List.eq_replicate_iff.mpr ⟨by simp,λb hb=>by
  obtain ⟨x,hx,rfl⟩:=G9.mp hb;exact h x (List.mem_reverse.mp hx)⟩
 rw[e1,e2]
theorem l9 {st:SortSt} {P L:List Keyed} {n m i j:Nat} {Q:Unit->SortSt->Prop} (e:(arrOf st).toList=P++L) (q:AS κ L n m) (ei:i=P.length+n-(m+1)) (ej:j=P.length+n)
  (h:∀st' L',Kp st st'->(arrOf st').toList=P++L'->L'.Perm L->L'.map 459=L.map 459->(∀k,n<=k->L'[k]?=L[k]?)->Q () st'):wpS 68 A E s (reverseSlice' i j) Q st:=by
 obtain ⟨D1,D2,S,a,rfl,l1,l2,al⟩:=q;refine wpS_reverse ?_;have er:(arrOf st).toList=(P++D1)++(D2++S):=by rw[e];simp
 have em:=kD er;have i1:i=(P++D1).length:=by rw[G8];lia
 have j1:j=(P++D1).length+D2.length:=by rw[G8];lia
 rw[i1,j1];refine h (setArr st (mirror (arrOf st) (P++D1).length ((P++D1).length+D2.length) (((P++D1).length+D2.length-(P++D1).length)/2))) (D1++(D2.reverse++S)) (rfl,rfl,rfl) ?_ ?_ ?_ λk hk=>?_
 ·rw[<-List.append_assoc];exact em
 ·exact List.Perm.append_left _ 484
 ·simp only[GW];rw[vZ al]
 ·rw[G7 42,G7 (by rw[Hj];lia),G7 42,G7 42,Hj]
theorem Kp.trans {a b c:SortSt} (h1:Kp a b) (h2:Kp b c):Kp a c:=(h2.kind.trans h1.kind,h2.failed.trans h1.failed,h2.pend.trans h1.pend)
theorem pH {L:List Keyed} {n:Nat} (h:n<L.length):AS κ L (n+1) 0:=by
 refine (L.take n,[L[n]],L.drop (n+1),kk κ L[n],?_,by rw[GX];simp;lia,rfl,λx hx=>by simp at hx;rw[hx])
 have:=List.drop_eq_getElem_cons h;rw[List.singleton_append,<-this,Hg]
theorem AS.more {L:List Keyed} {n m:Nat} {x y:Keyed} (h:AS κ L n m) (hy:L[n-1]?=some y) (hx:L[n]?=some x) (e:kk κ x=kk κ y):AS κ L (n+1) (m+1):=by
 obtain ⟨D1,D2,S,a,rfl,l1,l2,al⟩:=h;have my:y∈D2:=by
  rw[G7 42,G6 42] at hy
  exact G5 hy
 rw[G7 42,G7 42] at hx
 have z:n-D1.length-D2.length=0:=by lia
 rw[z] at hx;cases S with
 |nil=>simp at hx
 |cons s S=>
  simp at hx;subst hx;refine (D1,D2++ [s],S,a,by simp,by simp;lia,by simp;lia,λu hu=>?_)
  rcases GU.mp hu with k|k
  ·exact al u k
  ·simp at k;rw[k,e];exact al y my
theorem xU {st st6:SortSt} {P L R:List Keyed} {n:Nat} {f:Unit->StateT SortSt Sem (Option Nat)} {Q:Option Nat->SortSt->Prop} (kp:Kp st st6) (e:(arrOf st6).toList=P++L) (pr:L.Perm R) (hn:n<=R.length) (ni:NI κ L n)
  (h:∀st7 M,Kp st st7->(arrOf st7).toList=P++M->M.Perm R->(M.take n).Pairwise 384->wpS 68 A E s (f ()) Q st7):wpS 68 A E s (reverseSlice' P.length (P.length+n)>>=f) Q st6:=by
 have tl:(L.take n).length=n:=by rw[GX,pr.length_eq];lia
 have er:(arrOf st6).toList=P++(L.take n++L.drop n):=by rw[Hg];exact e
 have em:=kD er;rw[tl] at em;refine wpS_bind (wpS_reverse (h _ ((L.take n).reverse++L.drop n) (kp.kind,kp.failed,kp.pend) em ?_ ?_))
 ·refine List.Perm.trans 484 ?_;rw[Hg];exact pr
 ·rw[List.take_left' (by rw[Hj,tl]),List.pairwise_reverse]
  exact ni.falls
theorem qN (hO:CU prog w A E s κ kd) {st:SortSt} {P R:List Keyed} {Q:Option Nat->SortSt->Prop} (hk:kindOf st=kd) (ka:∀x∈R,Kd κ x) (e:(arrOf st).toList=P++R) (hR:1<=R.length)
  (h:∀st' X S,Kp st st'->(arrOf st').toList=P++(X++S)->X.Pairwise 384->(X++S).Perm R->1<=X.length->Q (some X.length) st'):wpS 68 A E s (countRun' P.length R.length) Q st:=by
 have got:∀n,1<=n->n<=R.length->(R.take n).Pairwise 384->Q (some n) st:=λn h1 h2 h3=>by
  have q:=h st (R.take n) (R.drop n) (rfl,rfl,rfl) (by rw[Hg];exact e) h3 (by rw[Hg]) 383
  rwa [GX,Nat.min_eq_left h2] at q
 unfold countRun';refine l8 ?_;try dsimp only
 refine wpS_bind (uQ (κ:=κ) (R:=R) rfl (G4 1) hR ?_ (λn x y i Q' h1 hx hy ht hf=>?_) λn h1 h2 h3 h4=>?_)
 ·cases R with
  |nil=>simp
  |cons=>simp
 ·refine wpS_bind (jE hO hk ka e hx hy rfl 42 ?_)
  cases c:κ.blt (kk κ x) (kk κ y) with
  |true=>exact wpS_pure (ht c)
  |false=>exact wpS_pure (hf c)
 try dsimp only
 by_cases c1:n=R.length
 ·rw[if_pos (beq_iff_eq.mpr c1)];exact wpS_pure (got n h1 h2 h3)
 rw[if_neg (λz=>c1 (beq_iff_eq.mp z))]
 rcases h4 with h4|⟨x,y,hx,hy,lt⟩
 ·exact absurd h4 c1
 have nl:n<R.length:=by lia
 have all:∀(i j:Nat) (u v:Keyed),i<=j->j<n->R[i]?=some u->R[j]?=some v->Lq κ u v:=λi j u v hij hj hu hv=>by
  rcases Nat.lt_or_ge i j with c|c
  ·obtain ⟨l1,g1⟩:=G3.mp hu;obtain ⟨l2,g2⟩:=G3.mp hv;have q:=List.pairwise_iff_getElem.mp h3 i j 383 383 c
   rw[List.getElem_take,List.getElem_take,g1,g2] at q;exact q
  ·have:i=j:=by lia
   subst this;rw[hu] at hv;cases hv;exact KeyOrd.kle_refl _
 by_cases c2:n>1
 case' pos=>
  rw[if_pos c2];obtain ⟨x0,hx0⟩:∃x,R[0]?=some x:=⟨_,G1 42⟩
  refine wpS_bind (jE hO hk ka e hx0 hy rfl 42 ?_)
  try dsimp only
  cases rose:κ.blt (kk κ x0) (kk κ y) with
  |true=>exact wpS_pure (got n h1 h2 h3)
  |false=>?_
  try dsimp only
  sleep 118
  have al:∀z∈R.take n,kk κ z=kk κ x0:=λz hz=>by
   obtain ⟨k,hk'⟩:=GP.mp hz;have kn:k<n:=by
    have:=(G3.mp hk').1;rw[GX] at this
    lia
   rw[Iq kn] at hk';have a1:=all 0 k x0 z 42 kn hx0 hk'
   have a2:=all k (n-1) z y 42 42 hk' hy
   exact KeyOrd.kle_antisymm (O:=κ.toKeyOrd) (KeyOrd.kle_trans (O:=κ.toKeyOrd) a2 rose) a1
  have eq0:AS κ R n (n-1):=([],R.take n,R.drop n,kk κ x0,by simp,by rw[GX];simp;lia,by rw[GX];lia,al)
  have ni0:NI κ R n:=by
   unfold NI;rw[<-List.map_take];refine IV.mpr (Ig (R:=λ_ _=>True) (λ{u v} hu hv _=>?_) (List.pairwise_of_forall λ_ _=>trivial))
   rw[al u hu,al v hv];exact κ.irrefl _
  have ni1:NI κ R (n+1):=ni0.snoc h1 hy hx (KeyOrd.kle_of_klt lt);refine wpS_bind (l9 (κ:=κ) e eq0 42 rfl λst1 L0 kp1 e1 p1 m1 _=>?_)
  have niL:NI κ L0 (n+1):=by
   unfold NI at ni1⊢;rw[m1];exact ni1
 case' neg=>
  rw[if_neg c2];have n1:n=1:=by lia
  have ni1:NI κ R (n+1):=by
   refine NI.snoc h1 ?_ hy hx (KeyOrd.kle_of_klt lt);rw[n1];unfold NI;cases R with
   |nil=>simp
   |cons=>simp
  have kp1:Kp st st:=(rfl,rfl,rfl);have e1:=e;have p1:=List.Perm.refl R;have niL:=ni1
 all_goals
  refine wpS_bind (qM ?_);have n2:2<=n+1:=by lia
  refine wpS_bind (wpS_mono (wpS_forRange (I:=λi c st'=>∃L m,c=(none,i,m)/\Kp st st'/\(arrOf st').toList=P++L/\L.Perm R/\NI κ L i/\AS κ L i m/\2<=i)
   (Q:=λc st'=>∃n' L m,c=(none,n',m)/\Kp st st'/\(arrOf st').toList=P++L/\L.Perm R/\NI κ L n'/\AS κ L n' m/\2<=n'/\n'<=R.length) ?ds ?de ⟨_,0,rfl,kp1,e1,p1,niL,?i0,n2⟩) ?dp)
  case i0=>
   exact pH (by rw[p1.length_eq];lia)
  case de=>
   rintro c st' ⟨L,m,rfl,kp,eL,pL,ni,eq,g1⟩;have:max (n+1) R.length=R.length:=by lia
   rw[this] at ni eq g1⊢;exact (_,L,m,rfl,kp,eL,pL,ni,eq,g1,G4 _)
  case ds=>
   rintro i c st' hi1 hi2 ⟨L,m,rfl,kp,eL,pL,ni,eq,g1⟩;have hi3:i<L.length:=by rw[pL.length_eq];exact hi2
   have ex:=G1 hi3;have ey:=G1 (show i-1<L.length by lia)
   have kL:∀x∈L,Kd κ x:=λx hx=>ka x (pL.mem_iff.mp hx)
   have hk':=kp.kind.trans hk;try dsimp only
   refine wpS_bind (jE hO hk' kL eL ex ey rfl 42 ?_)
   try dsimp only
   cases c:κ.blt (kk κ L[i]) (kk κ L[i-1]) with
   |true=>
    rw[if_pos rfl]
    by_cases hm:m>0
    ·rw[if_pos hm];refine wpS_bind (l9 (κ:=κ) eL eq rfl rfl λst6 L6 kp6 e6 p6 m6 g6=>wpS_pure (L6,0,rfl,kp.trans kp6,e6,p6.trans pL,?_,pH (by rw[p6.length_eq];lia),by lia))
     have:=ni.snoc 42 ey ex (KeyOrd.kle_of_klt c)
     unfold NI at this⊢;rw[m6];exact this
    ·rw[if_neg hm];exact wpS_pure (L,0,rfl,kp,eL,pL,ni.snoc 42 ey ex (KeyOrd.kle_of_klt c),pH 42,by lia)
   |false=>
    sleep 118
    refine wpS_bind (jE hO hk' kL eL ey ex 42 rfl ?_)
    try dsimp only
    cases c':κ.blt (kk κ L[i-1]) (kk κ L[i]) with
    |true=>exact wpS_pure ⟨i,L,m,rfl,kp,eL,pL,ni,eq,g1,by lia⟩
    |false=>exact wpS_pure ⟨L,m+1,rfl,kp,eL,pL,ni.snoc 42 ey ex c',eq.more ey ex (κ.total _ _ c c'),by lia⟩
  case dp=>
   rintro c st' ⟨n',L,m,rfl,kp,eL,pL,ni,eq,g1,g2⟩;try dsimp only
   by_cases hm:m>0
   case' pos=>
    rw[if_pos hm];refine wpS_bind (l9 (κ:=κ) eL eq rfl rfl λst6 L6 kp6' e6 p6' m6 g6=>?_)
    have kp6:=kp.trans kp6';have p6:=p6'.trans pL;have ni6:NI κ L6 n':=by
     unfold NI at ni⊢;rw[m6];exact ni
   case' neg=>
    rw[if_neg hm];have kp6:=kp;have e6:=eL;have p6:=pL;have ni6:=ni
   all_goals
    refine xU (κ:=κ) kp6 e6 p6 g2 ni6 λst7 M kp7 e7 p7 s7=>?_
    have rl:=p7.length_eq;have kM:∀x∈M,Kd κ x:=λx hx=>ka x (p7.mem_iff.mp hx)
    refine wpS_bind (uQ (κ:=κ) (R:=M) rl.symm 42 42 s7 (λm x y i Q' h1 hx hy ht hf=>?_) λm h1 h2 h3 _=>?_)
    ·try dsimp only
     refine wpS_bind (jE hO (kp7.kind.trans hk) kM e7 hx hy rfl 42 ?_)
     cases c:κ.blt (kk κ x) (kk κ y) with
     |true=>exact wpS_pure (ht c)
     |false=>exact wpS_pure (hf c)
    ·have q:=h st7 (M.take m) (M.drop m) kp7 (by rw[Hg];exact e7) h3 (by rw[Hg];exact p7) 383
     rw[GX,Nat.min_eq_left h2] at q;exact wpS_pure q
universe z0
theorem qO {arr:Array Keyed} {B V W:List Keyed} {x:Keyed} (e:arr.toList=B++(V++x::W)):(bubble arr (B.length+V.length) V.length).toList=B++(x::(V++W)):=by
 have sz:arr.size=B.length+(V.length+(W.length+1)):=by
  have:=congrArg List.length e
  simpa using this
 apply IW;intro k;have q:=getElem?_bubble (xs:=arr) (src:=B.length+V.length) 42 V.length 42 k
 rw[Nat.add_sub_cancel] at q;have ga:∀i,arr[i]?=(B++(V++x::W))[i]?:=λi=>by rw[<-e,HX]
 rw[HX,q,ga,ga,ga]
 by_cases c1:k=B.length
 ·rw[if_pos c1];subst c1;simp
 rw[if_neg c1]
 by_cases c2:B.length<k/\k<=B.length+V.length
 ·rw[if_pos c2,G7 42,G6 42,G7 42]
  have:k-B.length=(k-1-B.length)+1:=by lia
  rw[this,List.getElem?_cons_succ,G6 42]
 rw[if_neg c2]
 by_cases c3:k<B.length
 ·rw[G6 c3,G6 c3]
 ·rw[G7 42,G7 42,G7 42]
  have e1:k-B.length-V.length=(k-B.length-V.length-1)+1:=by lia
  have e2:k-B.length=(k-B.length-1)+1:=by lia
  rw[e1,List.getElem?_cons_succ,e2,List.getElem?_cons_succ,G7 42]
  congr 1
  lia
section
variable {prog:Program} {w:World} {A:Around} {E:Ks} {s:Shared} {κ:KeyKind} {kd:SortKind}
theorem v3 (hO:CU prog w A E s κ kd) {st:SortSt} {P D S:List Keyed} {ok n:Nat} {Q:Bool->SortSt->Prop} (hn:n=D.length) (hk:kindOf st=kd) (ka:∀x∈D,Kd κ x) (e:(arrOf st).toList=P++(D++S)) (h1:1<=ok) (h2:ok<=D.length) (hs:(D.take ok).Pairwise 384)
  (h:∀st' X,Kp st st'->(arrOf st').toList=P++(X++S)->X.Pairwise 384->X.Perm D->Q true st'):wpS 68 A E s (binarySort' P.length n ok) Q st:=by
 subst hn;unfold binarySort';refine l8 ?_;try dsimp only
 have mx:max ok 1=ok:=by lia
 rw[mx];refine wpS_bind (wpS_mono (wpS_forRange (I:=λk c st'=>c=(none,())/\Kp st st'/\∃X,(arrOf st').toList=P++(X++S)/\X.Perm D/\(X.take k).Pairwise 384)
  (Q:=λc st'=>c=(none,())/\Kp st st'/\∃X,(arrOf st').toList=P++(X++S)/\X.Perm D/\X.Pairwise 384) ?s1 ?e1 ⟨rfl,⟨rfl,rfl,rfl⟩,D,e,List.Perm.refl _,hs⟩) ?p1)
 case e1=>
  rintro c st' ⟨rfl,kp,X,eX,pX,sX⟩;rw[Nat.max_eq_right h2,Hn (by rw[pX.length_eq];exact G4 _)] at sX
  exact (rfl,kp,X,eX,pX,sX)
 case p1=>
  rintro c st' ⟨rfl,kp,X,eX,pX,sX⟩;exact wpS_pure (h st' X kp eX sX pX)
 case s1=>
  rintro k c st' hk1 hk2 ⟨rfl,kp,X,eX,pX,sX⟩;have xl:=pX.length_eq;have kaX:∀x∈X++S,x∈X->Kd κ x:=λx _ hx=>ka x (pX.mem_iff.mp hx)
  have hkx:k<X.length:=by lia
  have ex:=G1 hkx;generalize X[k]=x at ex;have eX':(arrOf st').toList=P++X++S:=by rw[eX,List.append_assoc]
  have lt:∀{i:Nat} {y:Keyed} {Q':Option Bool->SortSt->Prop},X[i]?=some y->Q' 257 st'->wpS 68 A E s (ltAt' (P.length+k) (P.length+i)) Q' st':=λ{i y Q'} hy hq=>by
   have il:=(G3.mp hy).1;rw[ltAt'_eq];sleep 139;exact wpS_bind (jD (zy eX (by rw[G6 hkx];exact ex)) (wpS_bind (jD (zy eX (by rw[G6 il];exact hy)) (xT hO (kp.kind.trans hk) (ka x (pX.mem_iff.mp (G5 ex))) (ka y (pX.mem_iff.mp (G5 hy))) hq))))
  have mono:∀{i j:Nat} {u v:Keyed},i<=j->j<k->X[i]?=some u->X[j]?=some v->Lq κ u v:=λ{i j u v} hij hj hu hv=>by
   rcases Nat.lt_or_ge i j with c|c
   ·obtain ⟨l1,g1⟩:=G3.mp hu;obtain ⟨l2,g2⟩:=G3.mp hv;have q:=List.pairwise_iff_getElem.mp sX i j 383 383 c
    rw[List.getElem_take,List.getElem_take,g1,g2] at q;exact q
   ·have:i=j:=by lia
    subst this;rw[hu] at hv;cases hv;exact KeyOrd.kle_refl _
  try dsimp only
  refine wpS_bind (wpS_mono (wpS_forRange (I:=λi c st''=>st''=st'/\∃l r,c=(none,l,r)/\l<=r/\r<=k/\(∀j u,j<l->X[j]?=some u->Lq κ u x)/\(∀j u,r<=j->j<k->X[j]?=some u->Lq κ x u)/\r-l+i<=k)
   (Q:=λc st''=>st''=st'/\∃l,c=(none,l,l)/\l<=k/\(∀j u,j<l->X[j]?=some u->Lq κ u x)/\(∀j u,l<=j->j<k->X[j]?=some u->Lq κ x u)) ?s2 ?e2 ⟨rfl,0,k,rfl,by lia,by lia,λj u z=>absurd z 42,λj u z z'=>absurd z' 42,by lia⟩) ?p2)
  case e2=>
   rintro c st'' ⟨rfl,l,r,rfl,a1,a2,a3,a4,a5⟩;have:l=r:=by lia
   subst this;exact (rfl,l,rfl,a2,a3,a4)
  case s2=>
   rintro i c st'' _ hi ⟨rfl,l,r,rfl,a1,a2,a3,a4,a5⟩;try dsimp only
   by_cases c:l≥r
   ·rw[if_pos c];have:l=r:=by lia
    subst this;exact wpS_pure (rfl,l,rfl,a2,a3,a4)
   ·rw[if_neg c];have ml:(l+r)/2<X.length:=by lia
    have em:=G1 ml;refine wpS_bind (lt em ?_);try dsimp only
    cases cc:κ.blt (kk κ x) (kk κ X[(l+r)/2]) with
    |true=>exact wpS_pure ⟨rfl,_,_,rfl,by lia,by lia,a3,λj u hj hj2 hu=>KeyOrd.kle_trans (KeyOrd.kle_of_klt cc) (mono hj hj2 em hu),by lia⟩
    |false=>exact wpS_pure ⟨rfl,_,_,rfl,by lia,by lia,λj u hj hu=>KeyOrd.kle_trans (mono (show j<=(l+r)/2 by lia) 42 hu em) cc,a4,by lia⟩
  case p2=>
   rintro c st'' ⟨rfl,l,rfl,a2,a3,a4⟩;try dsimp only
   have eX2:X=X.take l++((X.take k).drop l++x::X.drop (k+1)):=by
    obtain ⟨l1,g1⟩:=G3.mp ex;have d1:X.drop k=x::X.drop (k+1):=by rw[List.drop_eq_getElem_cons l1,g1]
    have t1:X.take k=X.take l++(X.take k).drop l:=by
     sleep 259;exact q
    rw[<-d1,<-List.append_assoc,<-t1,Hg]
   have lv:((X.take k).drop l).length=k-l:=by rw[List.length_drop,GX];lia
   have lu:(X.take l).length=l:=by rw[GX];lia
   have mU:∀u∈X.take l,Lq κ u x:=λu hu=>by
    obtain ⟨j,hj⟩:=GP.mp hu;have jl:=(G3.mp hj).1;rw[lu] at jl;rw[Iq jl] at hj;exact a3 j u jl hj
   have mV:∀u∈(X.take k).drop l,Lq κ x u:=λu hu=>by
    obtain ⟨j,hj⟩:=GP.mp hu;have jl:=(G3.mp hj).1;rw[lv] at jl;rw[List.getElem?_drop,Iq 42] at hj
    exact a4 (l+j) u 42 42 hj
   have sUV:(X.take l++(X.take k).drop l).Pairwise (Lq κ):=by
    sleep 259;rw[<-q];exact sX
   generalize X.take l=U at*;generalize (X.take k).drop l=V at*;generalize X.drop (k+1)=W at*;subst eX2;have eb:(arrOf st'').toList=(P++U)++(V++x::(W++S)):=by rw[eX];simp
   have bl:=qO eb;have l1:(P++U).length+V.length=P.length+k:=by rw[G8];lia
   rw[l1] at bl;have l2:P.length+k-(P.length+l)=V.length:=by lia
   have sp:=IH.mp sUV;refine wpS_bind ?_;show wpS _ _ _ _ (moveDown' (P.length+k) (P.length+l)) _ _;rw[moveDown'_eq];refine wpS_modify (wpS_pure (rfl,(kp.kind,kp.failed,kp.pend),U++(x::(V++W)),?_,?_,?_))
   ·show (bubble (arrOf st'') (P.length+k) (P.length+k-(P.length+l))).toList=_;rw[l2,bl];simp
   ·refine List.Perm.trans (List.Perm.append_left _ ?_) pX;exact (List.perm_middle).symm
   ·have t:U++(x::(V++W))=(U++x::V)++W:=by simp
    rw[t,List.take_left' 324,IH,List.pairwise_cons]
    refine (sp.1,(mV,sp.2.1),λu hu v hv=>?_)
    rcases GM.mp hv with c|c
    ·rw[c];exact mU u hu
    ·exact sp.2.2 u hu v c
universe z0
universe So
namespace L2
open PySem PySem.Spec PyProof.Rows XH
noncomputable def zz (a:Addr) (o:Obj) (kvs:List 103):It:=
 ⟨λi H=>H a=some 185/\i<kvs.length,λi H v H'=>H'=H/\∃k x,kvs[i]?=some (k,x)/\v=kV k,λi H=>H a=some 185/\i=kvs.length⟩
theorem nW {P:Program} {w:World} {k:Key} {u:Value} (h:(bE P w).is k u=true):RelV (kV k) u:=by
 rcases ca h with ⟨i,t,rfl,rfl⟩|⟨x,t,rfl,rfl⟩
 ·exact (t,rfl)
 ·exact (t,rfl)
theorem qP {κ:Type}:∀{kvs:List 337} {vs:List 527} (r:KV kvs vs) (i:Nat) {k:κ} {x:V},kvs[i]?=some (k,x)->∃u,vs[i]?=some (k,u)/\RelV x u
 |_,_,.nil,i,k,x,h=>by simp at h
 |_,_,.cons (b:=q) r t,0,k,x,h=>by
  simp at h;subst h;obtain ⟨q1,q2⟩:=q;have e:k=q1:=r.1;subst e;exact (q2,by simp,r.2)
 |_,_,.cons r t,i+1,k,x,h=>by
  obtain ⟨u,e,rx⟩:=qP t i 209
  exact (u,by simpa using e,rx)
theorem jF {X:Cx} {pins:Ky} {σ:St} {H:Hp} {s:Shared} {a:Addr} {o:Obj} {kvs:List 103} {es0:Array DictEntry} {ep:Nat} (I:aG X pins σ H s) (h:H a=some 185) (hd:o.data= .dict es0 ep):
  ∃vs,KV kvs vs/\s.heap.DictAt 315 a vs ep:=by
 obtain ⟨ho,z,y,vs,rel,ob,es,ep',e,c,d,rest⟩:=(show aY X.prog X.w H s.heap a 185 from I.hok a _ h)
 rw[ho] at e;cases e;have e2:ep'=ep:=by rw[hd] at d;cases d;rfl
 subst e2;exact (vs,rel,o,es,ho,c,d,rest)
theorem v4 {P:Program} {w:World} {K:G0} {tg:Expr} (it a:Addr) (o:Obj) (kvs:List 103) {es0:Array DictEntry} {ep:Nat} (hd:o.data= .dict es0 ep):Turn P w K tg (zz a o kvs) [it] it 219 where
 mem:=by simp
 obj:=λi h st b hb=>by
  sleep 153
  sleep 40
 keep:=λi h h' st k=>by
  sleep 65
 item:=by
  sleep 8
  obtain ⟨hz,hlt⟩:=hg;sleep 53
  rw[<-rel.length] at hit';sleep 28
  sleep 76
 done:=by
  sleep 8
  obtain ⟨hz,rfl⟩:=hg;obtain ⟨vs,rel,D⟩:=jF I hz hd;rw[rel.length] at st;refine wpAny_pyNext_dict_end 231 st D 73 λh' he'=>137
 self:=λ_ _ _ _ _ st h=>wpAny_pyIter_keyiter st h
def NF (X:Cx) (a:Addr):Prop:=∀o u,X.H₀ a≠some (.frz o u)
theorem aG.nf {X:Cx} {pins:Ky} {σ:St} {H:Hp} {s:Shared} {a:Addr} {kvs:List 103} (I:aG X pins σ H s) (h:H a=some 109):NF X a:=λo u e=>by
 have:=I.base.frzs a o u e;rw[h] at this;cases this
theorem aG.freeze {X:Cx} {pins:Ky} {σ:St} {H:Hp} {s:Shared} {a:Addr} {kvs:List 103} {o:Obj} (I:aG X pins σ H s) (h:H a=some 109) (ho:s.heap.get? a=some o):aG X pins σ (556 a 185) s:=by
 refine I.un (H':=ay H a 185) (h':=s.heap) (t':=s.toks) 194 ?_
 ·sleep 199
 ·rw[ak 144];exact q
 ·rw[ak 144];exact q
 ·rw[ak 144,q];simp
 ·intro b u q
  by_cases hb:b=a
  ·subst hb;rw[ac] at q;cases q;exact (ho,(I.hok b _ h).stay 344 (λc q=>by rw[ak 144];exact q) λc xs q=>by rw[ak 144];exact q)
  ·rw[ak hb] at q;exact (I.hok b _ q).stay 344 (λc q=>by rw[ak 144];exact q) λc xs q=>by rw[ak 144];exact q
theorem aG.thaw {X:Cx} {pins:Ky} {σ:St} {H:Hp} {s:Shared} {a:Addr} {kvs:List 103} {o:Obj} (I:aG X pins σ H s) (h:H a=some 185) (nf:NF X a):aG X pins σ (556 a 109) s:=by
 have hn:∀{b:Addr} {u:HO},H b=some u->(∀o' v,u≠ .frz o' v)->ay H a 109 b=some u:=λ{b u} q n=>by
  sleep 284
 have hf:∀{b:Addr},H b=none->ay H a 109 b=none:=λ{b} n=>by
  sleep 199
 sleep 41
 ·sleep 277
  exact q'
 ·sleep 238
 ·obtain ⟨p1,p2,p3⟩:=I.pin p hp;exact (p1,hf p2,p3)
 ·intro b u q
  by_cases hb:b=a
  ·subst hb;rw[ac] at q;cases q;obtain ⟨_,q2⟩:=(show aY X.prog X.w H s.heap b 185 from I.hok b _ h)
   exact aY.stay (o:= .dK kvs) q2 344 (λc q=>hn q 213) λc xs q=>hn q 213
  ·sleep 144
def DF (X:Cx) (tl:TE):TI:=λσ H R=>tl σ H λx H1=>∃a kvs,x= .ref a/\H1 a=some 109/\∀o,NF X a->R (zz a o kvs) (ay H1 a 185)
variable {X:Cx} {tg:Expr}
theorem uR {l:Expr} {tl:TE} (hl:PE X l tl):PI X tg l (DF X tl):=by
 sleep 16
 sleep 245;cases r1;sleep 173
 sleep 149;refine (101,[101],_,_,ν,I2.kept (t':=s1.toks) λb o e=>67 _ e,v4 _ a ob kvs d,(_,81 _ rfl,rfl,by rw[rel.length];rfl),λb hb=>?_,q ob (I1.nf hk))
 sleep 54
 sleep 130
def DG (X:Cx) (P:Hp->Prop) (H:Hp):Prop:=∃a o kvs,H a=some 185/\NF X a/\P (556 a 109)
noncomputable def FP (X:Cx) (D:Ends):Ends:={nx:=λσ=>DG X (D.nx σ),bk:=λσ=>DG X (D.bk σ),ct:=λσ=>DG X (D.ct σ),rt:=λv=>DG X (D.rt v)}
theorem pI {X:Cx} {st:Stmt} {t:TS} (h:PS X st t):PS X st (λD σ H=>t (FP X D) σ H):=by
 sleep 276
 cases f with
 |next=>
  sleep 89;exact (σ',_,I'.thaw e nf,p)
 |brk=>
  sleep 89;exact (σ',_,I'.thaw e nf,p)
 |cont=>
  sleep 89;exact (σ',_,I'.thaw e nf,p)
 |ret u=>
  obtain ⟨v,σ',H',I',r,a,o,kvs,e,nf,p⟩:=q1;exact (v,σ',_,I'.thaw e nf,r,p)
theorem BH {X:Cx} {e:Expr} {t:TE} (h:PE X e t):PE X e (λσ H Q=>t σ H λv=>DG X (Q v)):=by
 sleep 202
 exact (v,_,I1.thaw e nf,r,p)
theorem xV {a:Addr} {o:Obj} {kvs:List 103} {g:TG} {tb:TS} {D:Ends} {σ:St} {H:Hp} (Pv:Nat->St->Hp->Prop) (h0:Pv 0 σ H) (hz:∀i σ H,i<=kvs.length->Pv i σ H->H a=some 185)
  (hs:∀i k x σ H,kvs[i]?=some (k,x)->Pv i σ H->g (kV k) σ H λσ2 H2=>tb 110 σ2 H2) (hd:∀σ H,Pv kvs.length σ H->D.nx σ H):
  ∃W:Nat->Nat->St->Hp->Prop,251/\∀i m σ H,W i m σ H->
   ((zz a o kvs).stop i H/\D.nx σ H)∨((zz a o kvs).go i H/\∃N:St->Hp->Prop,94/\∀x H',(zz a o kvs).yld i H x H'->g x σ H' λσ2 H2=>tb 151 σ2 H2):=by
 sleep 94
 sleep 98
 by_cases hlt:i<kvs.length
 ·refine .inr ((hz i σ H hi p,hlt),Pv 236,λσ' H' p'=>(kvs.length-236,by lia,rfl,hlt,p'),λx H' y=>?_)
  obtain ⟨e,k,v,hk,rfl⟩:=y;subst e;exact hs i k v σ _ hk p
 ·have e:i=kvs.length:=by lia
  subst e;exact .inl ((hz _ σ H hi p,rfl),hd σ H p)
def jZ (js:List Nat) (tc:TT) (te:TE) (σ:St) (Q:VK):It->Hp->Prop:=λJ H1=>∀p,H1 p=none->∃W:Nat->Nat->List V->Hp->Prop,(∃m,W 0 m [] (ay H1 p 130))/\
 ∀i m ys H2,W i m ys H2->H2 p=some 263/\((J.stop i H2/\Q 133 H2)∨(J.go i H2/\ys.length<sizeLine/\∀x H3,J.yld i H2 x H3->tc (some x::bK js σ) H3 λb H4=>
  if b=true then te (some x::bK js σ) H4 λy H5=>H5 p=some 263/\∃m',m'<m/\W 236 m' (ys++ [y]) (ay H5 p (.lst (ys++ [y]))) else ∃m',m'<m/\W 236 m' ys H4))
def iC (wi:TI) (js:List Nat) (tc:TT) (te:TE):TE:=λσ H Q=>wi σ H (jZ js tc te σ Q)
section
variable {prog:Program} {w:World} {A:Around} {R:Result->Shared->Prop} {s:Shared}
theorem kE {elt target iter cond:Expr} {scope:Scope} {pos:Pos} {it acc:Value} {env:Env} (I:Nat->Shared->Prop)
  (turn:∀n s,I n s->wpAny 68 A (pyNext it) (λr s1=>match r with
   |none=>R (.ok .next) s1
   |some v=>wpAny 68 A (letOwnedTupleGo target it v) (λ_ s2=>wpAny 68 A (assign target env v) (λ_ s3=>wpAny 68 A (isTrue cond env (eval cond env)) (λok s4=>
     if ok=true then wpAny 68 A (eval elt env) (λx s5=>wpAny 68 A (call (.builtin "list.append") [acc,x]) (λ_ s6=>∃m,m<n/\I m s6) 169 s5) 169 s4
     else ∃m,m<n/\I m s4) 169 s3) 169 s2) 169 s1) 169 s)
  (n:Nat) (h:I n s):codeAny 68 A (.compLoop 440 0 it acc env) R s:=by
 apply codeAny_loop rfl I ?_ n h;intro n s hI;show wpAny _ _ ((compTurn 440 0 it acc env).onRaise _) _ _ s;apply wpAny_noted;rw[compTurn_list];sleep 17;apply wpAny_standAt;sleep 17;refine wpAny_mono (turn n s hI) (λr s1 h1=>?_) λ_ _ z=>z.elim
 cases r with
 |none=>exact wpAny_pure h1
 |some v=>
  sleep 17;refine wpAny_mono h1 (λ_ s2 h2=>?_) λ_ _ z=>z.elim
  sleep 17;refine wpAny_mono h2 (λ_ s3 h3=>?_) λ_ _ z=>z.elim
  sleep 17;refine wpAny_mono (wpAny_tests_one h3) (λok s4 h4=>?_) λ_ _ z=>z.elim
  cases ok with
  |true=>
   sleep 17;sleep 17;refine wpAny_mono h4 (λx s5 h5=>?_) λ_ _ z=>z.elim
   sleep 17;refine wpAny_mono h5 (λ_ s6 h6=>?_) λ_ _ z=>z.elim
   exact wpAny_pure (wpAny_pure (rfl,h6))
  |false=>
   have h4':∃m,m<n/\I m s4:=h4;exact wpAny_pure (rfl,h4')
universe z0
section
variable {scope:Scope} {cl:List (Str×Addr)} {own:Str} {ys:KA} {js:List Nat} {elt iter cond:Expr} {px pos:Pos} {wi:TI} {te:TE} {tc:TT}
theorem kG (hc:X.calm=true) (ok:eI X scope cl own ys js) (hi:PI X 250 iter wi)
  (hq:∀(C:Addr) (fp:KB) (s:Shared) (H:Hp),PT 72 cond tc)
  (he:∀(C:Addr) (fp:KB) (s:Shared) (H:Hp),PE 72 elt te)
  (hs:∀x,foldedSetIterable iter X.env x=pure x)
  {pins:Ky} {s:Shared} {σ:St} {H:Hp} {Q:VK} {use:Option 510} {QQ:Ks} {pp:Pos} (I:aG X pins σ H s) (h:(iC wi js tc te) σ H Q)
  (fin:∀(p C:Addr) (s6:Shared) (H5:Hp) (v:Flow),414->143->dX X pins H5 C->Q 133 H5->compPost 69 X.A X.xe use QQ 133 C (.ok v) s6):
  wpAny 69 X.A 320 QQ X.xe s:=by
 have ncell:∀y∈scope.names,y.2≠ .cell:=λy hy z=>by
  sleep 134
 have nloc:∀y∈scope.names,y.2= .local->scope.names.lookup y.1=some .local:=λy hy z=>by
  sleep 207
  simpa using q
 sleep 24
 sleep 5
 have I3:=I2.laid (a:=s2.heap.objs.size) (o:= .lst []) (h':=s2.heap.push 129) (t':=s2.toks) 502 173
  ⟨HC _,[],0,.nil,81 _ rfl⟩
 have fpo:∀b∈fp,b<s2.heap.objs.size:=λb hb=>by
  sleep 103
 sleep 21
 sleep 19
 sleep 36
 sleep 42
 sleep 9
 sleep 18
 have fpB:∀{H':Hp},307->∀b∈fp,dX 24 [] H' b:=λ{H'} hn b hb=>
  ⟨hn b hb,GL (lt3 b hb),λz=>(GM.mp (I3.stkSub b z)).elim (f3 b hb).2.1 (f3 b hb).2.2.1,.inl hb,λx c e=>(f3 b hb).2.2.2.2.1 x c 416,λp hp=>absurd (show p∈([]:Ky) from hp) 73⟩
 have loop:codeAny 69 X.A (.compLoop 76 0 165 124 208)
   (compPost 69 X.A X.xe use QQ 124 s3.heap.objs.size) {s3 with heap:=h1,toks:=s2.toks+0}:=by
  refine kE 104 ?_ m0
   ⟨0,[],none,_,J0,t0,λb hb=>(f3 b hb).1,w0⟩
  sleep 60;rcases hw with ⟨stop,qn⟩|⟨go,hz,step⟩
  ·sleep 74
   sleep 12
  ·sleep 72
   sleep 119
   sleep 0
   sleep 244
   have frame:∀{s':Shared} {H':Hp},aG 24 ([]++i5 fp s7.heap) (some x::bK js σ) H' s'->tn 236 s'.heap/\∀b∈fp,H' b=none:=λ{s' H'} I'=>
    ⟨T.keep _ _ _ t7 λb hb o e=>(I'.pin (b,o) 167).1,λb hb=>by
     sleep 196;exact (I'.pin (b,o) 167).2.1⟩
   cases ok with
   |true=>
    sleep 221
    sleep 56
    sleep 209
   |false=>
    sleep 191
 sleep 71
theorem nX (hc:X.calm=true) (ok:eI X scope cl own ys js) (hi:PI X 250 iter wi)
  (hq:∀(C:Addr) (fp:KB) (s:Shared) (H:Hp),PT 72 cond tc)
  (he:∀(C:Addr) (fp:KB) (s:Shared) (H:Hp),PE 72 elt te)
  (hs:∀x,foldedSetIterable iter X.env x=pure x:=by intro _;rfl):PE X 76 (iC wi js tc te):=λpins s σ H Q I h=>by
 rw[eval_ListComp];exact kG hc ok hi hq he hs I h λp C s6 H5 v (m,hn) J _ q=>207
universe z0
theorem nY:Fx X "dict.setdefault" (λx vs H Q=>∃a kvs k v,x= .ref a/\vs= [kV k,v]/\H a=some 109/\kvs.length<sizeLine/\(∀w,aT kvs k=some w->Q w H)/\(aT kvs k=none->Q v (556 a (.dK 491)))):=by
 sleep 185;obtain ⟨a,kvs,k,y,rfl,rfl,hk,hz,q1,q2⟩:=h;cases rx;obtain ⟨u,w',rfl,ru,rw'⟩:=vals2 rv;obtain ⟨z,hS,ws,rel,D⟩:=jx I.hok hk;refine call_meetsIn F.slot_dict_setdefault D.typeIs F.entry_dict_setdefault (F.args_dict_setdefault_3 _ _ _) (kt_meets_setdefault 315 a (kB ru) hS w') (ws,D,by rw[<-rel.length];exact z,λv' hv=>?_,λhn h' D' hs'=>?_)
 ·have r:=rel.val k;rw[hv] at r;cases e:aT kvs k with
  |none=>rw[e] at r;exact r.elim
  |some y'=>
   rw[e] at r;exact (y',H,I.tok _,r,q1 y' e)
 ·have r:=rel.val k;rw[hn] at r;have e:aT kvs k=none:=by
   cases e:aT kvs k with
   |none=>rfl
   |some y'=>rw[e] at r;exact r.elim
  obtain ⟨od,_,_,ho,_⟩:=id D';refine (y,_,kZ I (by rw[hk];trivial) hs' (od,ho) (sK (by have:=eB kvs k y;lia) hS (rel.put k rw') D'),rw',q2 e)
theorem uS:typeLookup (.type "list_reverseiterator") "__len__" =pure none:=by
 rw[typeLookup_type,builtinLookup_eq_fast]
 kernel_rfl
theorem qQ:typeLookup (.type "list_reverseiterator") "__length_hint__" =pure (some (.builtin "list_reverseiterator.__length_hint__")):=by
 rw[typeLookup_type,builtinLookup_eq_fast]
 kernel_rfl
section
variable {prog:Program} {w:World} {A:Around} {R:Result->Shared->Prop} {s:Shared} {I l S:Addr} {items:Array Value}
abbrev xW (items:Array Value):Nat->Value->Prop:=λi v=>items[items.size-1-i]?=some v
theorem tj (hh:A.in1.handled=none) (hlI:l≠I) (hSI:S≠I) (hSl:S≠l) (res:Value) (c:Nat) (hit:s.heap.IsRevIter I l (191-1)) (hl:s.heap.IsList l items)
  (hS:s.heap.get? S=some 322) (hn:items.size<=sizeLine)
  (fin:∀s' acc c',Moved [S,I] (λa b=>b=a) s s'->s'.heap.get? S=some 105->ItemsOf (xW items) acc items.size->R (.ok (.ret res)) s'):
  wpAny 68 A.in1 463
   (λfin s'=>match fin with| .done f=>R (.ok f) s'| .again c'=>c'.quiet=true/\codeAny (model prog w) A c' R s') (λe s'=>R (.error e) s') s:=by
 have ty:s.TypeIs (.ref I) "list_reverseiterator" :=hit.typeIs;have ns:Builtin.List.listSameRef (.ref S) (.ref I)=false:=by
  simp[Builtin.List.listSameRef,hSI]
 unfold Builtin.List.listExtendWith;sleep 17;sleep 201
 sleep 17;apply wpAny_pyIter_revIter hit;sleep 17;apply wpAny_holding;unfold Builtin.List.listLengthHint;sleep 17;sleep 163;sleep 17;sleep 197
 wp_delta
 sleep 186
 subst hid;sleep 17;sleep 251
 apply wpAny_pure;sleep 118
 have W:=(Walks.listRev (prog:=prog) (w:=w) hh I l hlI items).toS;have out:S∉ [I,l]:=by
  sleep 138;exact (hSI,hSl)
 have st:(0:Nat)<=items.size/\s.heap.IsRevIter I l (191-1-331)/\s.heap.IsList l items:=(HC _,by simpa using hit,hl)
 sleep 95
theorem qT {E:Ks} {Q:Ks} (hh:A.handled=none) (hlI:l≠I) (hit:s.heap.IsRevIter I l (191-1)) (hl:s.heap.IsList l items) (hn:items.size<=sizeLine)
  (fin:∀h' tk acc c',436->h'.get? 35=some 105->ItemsOf (xW items) acc items.size->Q 285 181):
  wpAny 68 A (call 249 [.ref I]) Q E s:=by
 have lI:I<s.heap.objs.size:=by
  obtain ⟨o,e,_⟩:=hit;exact 85 e
 have ll:l<s.heap.objs.size:=by
  obtain ⟨o,e,_⟩:=hl;exact 85 e
 sleep 14
 sleep 13
 sleep 17;unfold Builtin.List.listItems;sleep 17;sleep 55
 sleep 17;sleep 68
 have old:∀b o,b≠s.heap.objs.size->s.heap.get? b=some o->((s.heap.push 142).update 35 184).get? b=some o:=λb o hb e=>
  (Heap.get?_update_other _ _ 248).trans (67 _ e)
 sleep 17;apply wpAny_letGo;refine tj (A:=A.in1) (by simpa using hh) hlI (IB lI) (IB ll) .none _ ?_ ?_ e1 hn λs' acc c' mv eS it=>?_
 ·obtain ⟨o,e,z⟩:=hit;exact (o,old _ _ (GL lI) e,z)
 ·obtain ⟨o,e,z⟩:=hl;exact (o,old _ _ (GL ll) e,z)
 ·sleep 46;refine 497
  refine mv.heap b o ?_ (old b o 532 e);sleep 138;exact (GL (85 e),hb)
universe z0
theorem jG:∀{xs:List V} {us:KC},aZ xs us->aZ xs.reverse us.reverse
 |_,_,.nil=> .nil
 |_,_,.cons r t=>by
  rw[List.reverse_cons,List.reverse_cons];exact (jG t).append (.cons r .nil)
theorem j0 {us:KC} {acc:Array Value} (h:ItemsOf (xW us.toArray) acc us.toArray.size):acc.toList=us.reverse:=by
 obtain ⟨h1,h2⟩:=h;refine IW λi=>?_
 by_cases hi:i<acc.size
 ·have e:=h2 i acc[i] (ID hi);rw[HX,ID hi,List.getElem?_reverse (by simpa [h1] using hi)]
  simpa using e.symm
 ·rw[Hh (by simpa using hi),Hh (by rw[Hj];simp[h1] at hi;lia)]
def FQ (K:G0) (te:TE):TE:=λσ H Q=>te σ H λx H1=>∃a xs,x= .ref a/\aQ K H1 a xs/\∀l,H1 l=none->Q 176 (ay H1 l (.lst xs.reverse))
section
variable {e:Expr} {te:TE} {p1 p2 pos pos2:Pos}
theorem tD (hc:X.calm=true) (g1:Gl X "list") (m1:X.mg "list" =none) (g2:Gl X "reversed") (m2:X.mg "reversed" =none) (b1:bootBuiltins "list" =some 249) (b2:bootBuiltins "reversed" =some (.type "reversed")) (he:PE X e te)
  (hs:starEach [e] X.env= [(false,eval e X.env)]:=by rfl):
  PE X 321 (FQ X.K te):=by
 sleep 66;sleep 267
 sleep 77
 refine Hl ?_ hs rfl;rw[hs];refine Calls.spliced_cons (x:=eval e X.env) (rest:= []) (bH 296 λv s1 (x,H1,I1,r1,a,xs,ex,hq,q)=>?_)
 subst ex;cases r1;sleep 168;have alt:a<s1.heap.objs.size:=by
  obtain ⟨o,eo,_⟩:=id hli;exact 85 eo
 sleep 67
 have sz:its.toArray.size=xs.length:=by rw[HF,rv.length]
 refine qT (l:=a) (items:=its.toArray) 231 (GL alt) 240 (hli.push _) (by rw[sz];exact hz) λh' tk acc c' kp eL itm=>?_
 have er:=j0 itm;have sl:s1.heap.objs.size<=(s1.heap.push 183).objs.size:=by
  sleep 279
 sleep 15
 sleep 159
 rw[Array.toArray_toList];exact eL
universe z0
theorem j5 {X:Cx}:cY X 435 (λxs H Q=>∃a kvs,xs= [.ref a]/\Rd H a 109/\Q (.int kvs.length) H):=by
 sleep 27;obtain ⟨a,kvs,rfl,e,q⟩:=h;obtain ⟨u,rfl,r1⟩:=vals1 r;cases r1;exact Dl I e λt s' I'=>(.int kvs.length,H,I',(t,rfl),q)
universe L2
namespace Sw
open PySem L2
inductive Led (ps:Kx) (x:Str):Str->Prop where
 |self:Led ps x x
 |step {y z:Str}:Led ps x y->(y,z)∈ps->Led ps x z
theorem Led.closed {ps:Kx} {x y:Str} {S:Str->Prop} (hx:S x) (hc:∀a b,S a->(a,b)∈ps->S b) (l:Led ps x y):S y:=by
 induction l with
 |self=>exact hx
 |step _ m ih=>exact hc _ _ ih m
noncomputable def bg (ks:KA) (v:V):List (Key×V):=ks.map λy=>(.inr y,v)
noncomputable def cB (ks:KA) (y:Str):KA:=if y∈ks then ks else ks++ [y]
theorem cu (ks:KA) (v:V):(bg ks v).length=ks.length:=G2 _
theorem xX (ks:KA) (v:V) (y:Str):((bg ks v).any λkv=>decide (kv.1=(.inr y:Key)))=decide (y∈ks):=by
 unfold bg;rw[Ic];simp
theorem ik (ks:KA) (v:V) (y:Str):aT (bg ks v) 264=if y∈ks then some v else none:=by
 induction ks with
 |nil=>rfl
 |cons k ks ih=>
  by_cases e:k=y
  ·subst e;rw[if_pos 73]
   exact bO rfl
  ·have n:¬((.inr k:Key)= .inr y):=λz=>e (Sum.inr.inj z)
   have h:aT (bg (k::ks) v) 264=aT (bg ks v) (.inr y):=bR n;rw[h,ih];simp[Ne.symm e,show ¬y=k from λz=>e z.symm]
theorem gj (ks:KA) (v:V) (y:Str):putK (bg ks v) 264 v=bg (cB ks y) v:=by
 unfold putK cB;rw[xX]
 by_cases h:y∈ks
 ·rw[if_pos (decide_eq_true h),if_pos h];unfold bg;rw[He];refine Il λz hz=>?_
  show (if (.inr z:Key)= .inr y then (Prod.mk ((.inr z:Key)) (v)) else (Prod.mk (.inr z) (v)))=_
  split<;>rfl
 ·rw[if_neg 209,if_neg h]
  unfold bg;simp
theorem df {ks:KA} {y z:Str}:z∈cB ks y↔z∈ks∨z=y:=by
 unfold cB
 split
 ·rename_i h;constructor
  ·exact .inl
  ·rintro (k|rfl)
   ·exact k
   ·exact h
 ·simp
theorem fA {ks:KA} {y:Str} (h:ks.Nodup):(cB ks y).Nodup:=by
 unfold cB
 split
 ·exact h
 ·rename_i n;rw[Hz];exists h,by simp
  intro a ha b hb;simp at hb;subst hb;exact λe=>n (e▸ha)
theorem eD (ks:KA) (y:Str):ks.length<=(cB ks y).length/\((cB ks y).length=ks.length->y∈ks)/\(cB ks y).length<=ks.length+1:=by
 unfold cB
 split
 ·rename_i h;exact (G4 _,λ_=>h,Nat.le_succ _)
 ·simp
noncomputable def jH (l ks:KA):Nat:=(l.filter λy=> !decide (y∈ks)).length
theorem zA (l:KA) {ks ks':KA} (h:∀y∈ks,y∈ks'):jH l ks'<=jH l ks:=by
 unfold jH
 induction l with
 |nil=>exact G4 _
 |cons a l ih=>
  by_cases h1:a∈ks
  ·simp[h1,h a h1,ih]
  ·by_cases h2:a∈ks'
   ·simp[h1,h2];lia
   ·simp[h1,h2];lia
theorem kH (l ks:KA):jH l ks<=l.length:=IN _ _
theorem zB {l ks ks':KA} {y:Str} (h:∀z∈ks,z∈ks') (yl:y∈l) (n:y∉ks) (y':y∈ks'):jH l ks'<jH l ks:=by
 unfold jH
 induction l with
 |nil=>simp at yl
 |cons a l ih=>
  have le:=zA l h;unfold jH at le
  by_cases e:a=y
  ·subst e;simp[n,y']
   lia
  ·have yl':y∈l:=by
    rcases GM.mp yl with z|z
    ·exact absurd z.symm e
    ·exact z
   have ih:=ih yl'
   by_cases h1:a∈ks
   ·simp[h1,h a h1];exact ih
   ·by_cases h2:a∈ks'
    ·simp[h1,h2];lia
    ·simp[h1,h2];exact ih
theorem nZ {l ks:KA} {y:Str} (yl:y∈l):(cB ks y).length+jH l (cB ks y)<=ks.length+jH l ks:=by
 by_cases h:y∈ks
 ·unfold cB;rw[if_pos h];exact G4 _
 ·have lt:=zB (ks':=cB ks y) (λz hz=>df.mpr (.inl hz)) yl h (df.mpr (.inr rfl))
  have:=(eD ks y).2.2
  lia
noncomputable def fB:Str:= "abcdefghijklmnopqrstuvwxyz"
theorem uT {i:Int} (h0:0<=i) (h:i<26):∃c,iR fB.cps.toList i=some c:=by
 refine zx h0 ?_;have e:fB.cps.toList.length=26:=by decide
 rw[e];exact h
noncomputable def bx:Kw->Str->Str->Kw
 | [],x,y=> [(x,[y])]
 |(a,ys)::r,x,y=>if a=x then (a,cB ys y)::r else (a,ys)::bx r x y
def me (rows:Kw) (x y:Str):Prop:=∃ys,(x,ys)∈rows/\y∈ys
theorem dj {a:Str} {ys:KA} {r:Kw} {x y:Str}:me ((a,ys)::r) x y↔(a=x/\y∈ys)∨me r x y:=by
 constructor
 ·rintro ⟨zs,h,k⟩;rcases GM.mp h with e|e
  ·cases e;exact .inl (rfl,k)
  ·exact .inr (zs,e,k)
 ·rintro (⟨rfl,k⟩|⟨zs,h,k⟩)
  ·exact (ys,by simp,k)
  ·exact (zs,by simp[h],k)
theorem mf:∀(rows:Kw) (x y a b:Str),me (bx rows x y) a b↔me rows a b∨(a=x/\b=y)
 | [],x,y,a,b=>by
  simp only[bx,dj];constructor
  ·rintro (⟨rfl,k⟩|⟨_,h,_⟩)
   ·exact .inr (rfl,by simpa using k)
   ·simp at h
  ·rintro (⟨_,h,_⟩|⟨rfl,rfl⟩)
   ·simp at h
   ·exact .inl (rfl,by simp)
 |(c,ys)::r,x,y,a,b=>by
  have ih:=mf r x y a b;unfold bx
  by_cases e:c=x
  ·subst e;rw[if_pos rfl,dj,dj,df];constructor
   ·rintro (⟨rfl,k|rfl⟩|h)
    ·exact .inl (.inl (rfl,k))
    ·exact .inr 239
    ·exact .inl (.inr h)
   ·rintro ((⟨rfl,k⟩|h)|⟨rfl,rfl⟩)
    ·exact .inl (rfl,.inl k)
    ·exact .inr h
    ·exact .inl (rfl,.inr rfl)
  ·rw[if_neg e,dj,dj,ih];constructor
   ·rintro (h|h|h)
    ·exact .inl (.inl h)
    ·exact .inl (.inr h)
    ·exact .inr h
   ·rintro ((h|h)|h)
    ·exact .inl h
    ·exact .inr (.inl h)
    ·exact .inr (.inr h)
theorem gK:∀(rows:Kw) (x y:Str),(bx rows x y).map 111=cB (rows.map 111) x
 | [],x,y=>by simp[bx,cB]
 |(c,ys)::r,x,y=>by
  have ih:=gK r x y;unfold bx
  by_cases e:c=x
  ·subst e;rw[if_pos rfl];simp[cB]
  ·rw[if_neg e];simp only[HY,ih];unfold cB;have e':¬x=c:=λz=>e z.symm
   simp only[GM,e',false_or]
   split<;>rfl
theorem m7 {n:Nat}:∀{rows:Kw} (x y:Str),rows.length<=n->(∀p∈rows,p.2.length<=n/\p.2.Nodup)->(bx rows x y).length<=n+1/\∀p∈bx rows x y,p.2.length<=n+1/\p.2.Nodup:=by
 intro rows x y h1 h2;have hl:(bx rows x y).length<=rows.length+1:=by
  have:=congrArg List.length (gK rows x y);rw[G2] at this;have k:=(eD (rows.map 111) x).2.2;rw[G2] at k
  lia
 exists by lia
 clear hl h1
 induction rows with
 |nil=>
  intro p hp;simp[bx] at hp;subst hp;simp
 |cons a r ih=>
  obtain ⟨c,ys⟩:=a;have ih:=ih λp hp=>h2 p (by simp[hp])
  have hc:=h2 (c,ys) 73
  intro p hp;unfold bx at hp
  split at hp
  ·rcases GM.mp hp with rfl|k
   ·have:=(eD ys y).2.2;exact (HN this (by have:=hc.1;simp at this⊢;lia),fA hc.2)
   ·have:=h2 p (by simp[k])
    exact (by lia,this.2)
  ·rcases GM.mp hp with rfl|k
   ·exact (by have:=hc.1;simp at this⊢;lia,hc.2)
   ·exact ih p k
structure cF (rows:Kw) (ps:Kx):Prop where
 mem:∀a b,me rows a b↔(a,b)∈ps
 keys:(rows.map 111).Nodup
 few:rows.length<=ps.length
 small:∀p∈rows,p.2.length<=ps.length/\p.2.Nodup
theorem cF.nil:cF [] []:=⟨λa b=>⟨λ⟨_,h,_⟩=>by simp at h,λh=>by simp at h⟩,by simp,by simp,λp hp=>by simp at hp⟩
theorem cF.add {rows:Kw} {ps:Kx} (h:cF rows ps) (p:Str×Str):cF (bx rows p.1 p.2) (ps++ [p]):=by
 obtain ⟨k1,k2⟩:=m7 p.1 p.2 h.few h.small;refine (λa b=>?_,by rw[gK];exact fA h.keys,by simpa using k1,λq hq=>by simpa using k2 q hq)
 rw[mf,h.mem];obtain ⟨p1,p2⟩:=p;simp
def bW (H:Hp):Kw->KB->Prop
 | [],[]=>True
 |(_,ys)::rows,r::rs=>H r=some 152/\bW H rows rs
 |_,_=>False
noncomputable def eE:Kw->KB->List 103
 |(x,_)::rows,r::rs=>(.inr x,.ref r)::eE rows rs
 |_,_=> []
theorem bW.len {H:Hp}:∀{rows:Kw} {rs:KB},bW H rows rs->rs.length=rows.length/\(eE rows rs).length=rows.length
 | [],[],_=>⟨rfl,rfl⟩
 |_::_,_::_,h=>by
  have:=bW.len h.2;exact (by simp[this.1],by simp[eE,this.2])
 | [],_::_,h=>h.elim
 |_::_,[],h=>h.elim
theorem bW.same {H H':Hp} (g:ax H H'):∀{rows:Kw} {rs:KB},bW H rows rs->bW H' rows rs
 | [],[],_=>trivial
 |_::_,_::_,h=>⟨g _ _ h.1,bW.same g h.2⟩
 | [],_::_,h=>h.elim
 |_::_,[],h=>h.elim
theorem bW.other {H:Hp} {a:Addr} {o:HO}:∀{rows:Kw} {rs:KB},bW H rows rs->a∉rs->bW (556 a o) rows rs
 | [],[],_,_=>trivial
 |_::_,r::_,h,n=>⟨by rw[ak (λe=>n (by simp[e]))];exact h.1,bW.other h.2 λk=>n (by simp[k])⟩
 | [],_::_,h,_=>h.elim
 |_::_,[],h,_=>h.elim
theorem bW.at_some {H:Hp} {x y:Str} {w:V}:∀{rows:Kw} {rs:KB},bW H rows rs->rs.Nodup->aT 230 278=some w->
  ∃r ys,w= .ref r/\r∈rs/\(x,ys)∈rows/\H r=some 152/\bW (556 r 540) (bx rows x y) rs/\eE (bx rows x y) rs=eE rows rs
 | [],[],_,_,e=>by cases e
 |(c,ys)::rows,r::rs,h,nd,e=>by
  by_cases z:c=x
  ·sleep 211;cases e;exists r,ys,rfl,by simp,by simp,h.1,?_
   ·unfold bx;rw[if_pos rfl];exact (ac,h.2.other (HL.mp nd).1)
   ·unfold bx;rw[if_pos rfl]
    rfl
  ·have n:¬((.inr c:Key)= .inr x):=λq=>z (Sum.inr.inj q)
   sleep 210;obtain ⟨r',ys',rfl,hr,hm,hH,hD,hT⟩:=bW.at_some (y:=y) h.2 (HL.mp nd).2 e;exists r',ys',rfl,by simp[hr],by simp[hm],hH,?_
   ·unfold bx;rw[if_neg z];refine (?_,hD);rw[ak]
    ·exact h.1
    ·intro q;exact (HL.mp nd).1 (q▸hr)
   ·unfold bx;rw[if_neg z];show _::_=_::_;rw[hT]
 | [],_::_,h,_,_=>h.elim
 |_::_,[],h,_,_=>h.elim
theorem bW.at_none {H:Hp} {x y:Str} {p:Addr}:∀{rows:Kw} {rs:KB},bW H rows rs->aT 230 278=none->
  bx rows x y=rows++ [(x,[y])]/\eE (rows++ [(x,[y])]) (rs++ [p])=eE rows rs++ [(.inr x,.ref p)]/\∀b,¬me rows x b
 | [],[],_,_=>⟨rfl,rfl,λb ⟨_,h,_⟩=>by simp at h⟩
 |(c,ys)::rows,r::rs,h,e=>by
  have z:¬c=x:=λz=>by
   sleep 211;cases e
  have n:¬((.inr c:Key)= .inr x):=λq=>z (Sum.inr.inj q)
  sleep 210;obtain ⟨h1,h2,h3⟩:=bW.at_none (y:=y) (p:=p) h.2 e;refine (?_,?_,λb hb=>?_)
  ·unfold bx;rw[if_neg z,h1]
   rfl
  ·exact congrArg (((.inr c:Key),V.ref r):: ·) h2
  ·rcases dj.mp hb with ⟨q,_⟩|k
   ·exact z q
   ·exact h3 b k
 | [],_::_,h,_=>h.elim
 |_::_,[],h,_=>h.elim
theorem bW.snoc {H:Hp} {x:Str} {ys:KA} {p:Addr} (e:H p=some 152):∀{rows:Kw} {rs:KB},bW H rows rs->bW H (rows++ [(x,ys)]) (rs++ [p])
 | [],[],_=>⟨e,trivial⟩
 |_::_,_::_,h=>⟨h.1,bW.snoc e h.2⟩
 | [],_::_,h=>h.elim
 |_::_,[],h=>h.elim
structure DD (H:Hp) (d:Addr) (rows:Kw):Prop where
 ex:∃rs:KB,bW H rows rs/\H d=some (.dK 230)/\rs.Nodup/\d∉rs
theorem DD.same {H H':Hp} {d:Addr} {rows:Kw} (h:DD H d rows) (g:ax H H'):DD H' d rows:=by
 obtain ⟨rs,h1,h2,h3,h4⟩:=h.ex;exact (rs,h1.same g,g _ _ h2,h3,h4)
noncomputable def qU:Option Str->V
 |none=> .non
 |some p=> .str p
noncomputable def aP (es:List 90):List (Key×V):=es.map λe=>(.inr e.1,qU e.2)
noncomputable def aH (es:List 90):KA:=es.map 111
theorem dm (es:List 90):(aP es).length=(aH es).length:=by simp[aP,aH]
theorem iD:∀(es:List 90) (b:Str),(aT (aP es) (.inr b)).isSome=decide (b∈aH es)
 | [],b=>by simp[aP,aH,aT]
 |(c,o)::es,b=>by
  by_cases e:c=b
  ·subst e;have:aT (aP ((c,o)::es)) (.inr c)=some (qU o):=bO rfl;rw[this];simp[aH]
  ·have n:¬((.inr c:Key)= .inr b):=λz=>e (Sum.inr.inj z)
   have h:aT (aP ((c,o)::es)) (.inr b)=aT (aP es) (.inr b):=bR n;rw[h,iD es b];have e':¬b=c:=λz=>e z.symm
   show decide (b∈aH es)=decide (b∈c::aH es);rw[decide_eq_decide];simp[e']
theorem tE {es:List 90} {b:Str} (h:b∉aH es):aT (aP es) (.inr b)=none:=by
 have:=iD es b;rw[decide_eq_false h] at this;cases e:aT (aP es) (.inr b) with
 |none=>rfl
 |some=>rw[e] at this;cases this
theorem n8 {es:List 90} {b nm:Str} (h:b∉aH es):putK (aP es) (.inr b) (.str nm)=aP (es++ [(b,some nm)]):=by
 rw[hZ _ (tE h)];simp[aP,qU]
theorem qV {es:List 90} (nd:(aH es).Nodup) {i:Nat} {y:Str} {o:Option Str} (h:es[i]?=some (y,o)):aT (aP es) 264=some (qU o):=by
 induction es generalizing i with
 |nil=>simp at h
 |cons e es ih=>
  obtain ⟨c,oc⟩:=e;cases i with
  |zero=>
   simp at h;obtain ⟨rfl,rfl⟩:=h;exact bO rfl
  |succ i=>
   have hm:y∈aH es:=G9.mpr ((y,o),G5 209,rfl)
   have nd':=HL.mp nd;have n:¬((.inr c:Key)= .inr y):=λz=>nd'.1 (by rw[Sum.inr.inj z];exact hm)
   have hv:aT (aP ((c,oc)::es)) 264=aT (aP es) (.inr y):=bR n;rw[hv];exact ih nd'.2 209
structure dS (ps:Kx) (good:Str) (es:List (Str×Option Str)):Prop where
 first:es[0]?=some 405
 nd:(aH es).Nodup
 led:∀y∈aH es,Led ps good y
 par:∀(i:Nat) (y:Str) (o:Option Str),es[i]?=some (y,o)->(o=none->i=0)/\∀p,o=some p->(p,y)∈ps/\∃j o',j<i/\es[j]?=some (p,o')
 room:(aH es).length+jH 379 (aH es)<=1001
theorem dS.start (ps:Kx) (good:Str) (few:ps.length<=1000):dS ps good [405] where
 first:=rfl
 nd:=by simp[aH]
 led:=λy hy=>by simp[aH] at hy;subst hy;exact .self
 par:=λi y o h=>by
  cases i with
  |zero=>simp at h;exact (λ_=>rfl,λp hp=>by rw[<-h.2] at hp;cases hp)
  |succ i=>simp at h
 room:=by
  have:=kH 379 (aH [405]);rw[G2] at this;show 1+_<=_
  lia
theorem fD (es:List 90) (b:Str) (o:Option Str):aH (es++ [(b,o)])=aH es++ [b]:=by simp[aH]
theorem dS.add {ps:Kx} {good:Str} {es:List 90} (h:dS ps good es) {nm b:Str} (hn:nm∈aH es) (hb:b∉aH es) (hp:(nm,b)∈ps):dS ps good (es++ [(b,some nm)]) where
 first:=by
  rw[G6]
  ·exact h.first
  ·exact (G3.mp h.first).1
 nd:=by
  rw[fD,Hz];exists h.nd,by simp
  intro u hu v hv;simp at hv;subst hv;exact λz=>hb (z▸hu)
 led:=λy hy=>by
  rw[fD] at hy;rcases GU.mp hy with k|k
  ·exact h.led y k
  ·simp at k;subst k;exact .step (h.led nm hn) hp
 par:=λi y o hi=>by
  by_cases c:i<es.length
  ·rw[G6 c] at hi;obtain ⟨h1,h2⟩:=h.par i y o hi;refine (h1,λp e=>?_)
   obtain ⟨k1,j,o',jl,ej⟩:=h2 p e;exact (k1,j,o',jl,by rw[G6 42];exact ej)
  ·rw[G7 42] at hi
   have e0:i-es.length=0:=by
    rcases Ib (i-es.length) with z|z
    ·exact z
    ·rw[Hh 324] at hi;cases hi
   rw[e0] at hi;simp at hi;obtain ⟨rfl,rfl⟩:=hi;refine (123,λp e=>?_)
   cases e;obtain ⟨q,hq,rfl⟩:=G9.mp hn;obtain ⟨j,hj⟩:=GP.mp hq;have jl:=(G3.mp hj).1;exact (hp,j,q.2,by lia,by rw[G6 jl];exact hj)
 room:=by
  have:=nZ (ks:=aH es) (show b∈ps.map (·.2) from G9.mpr (_,hp,rfl))
  have e:cB (aH es) b=aH es++ [b]:=if_neg hb;rw[e] at this;rw[fD];exact HN this h.room
theorem dS.good {ps:Kx} {good:Str} {es:List 90} (h:dS ps good es):good∈aH es:=G9.mpr (405,G5 h.first,rfl)
theorem qW {H H':Hp} (g:ax H H') (a:Addr) (o:HO):ax (556 a o) (ay H' a o):=λb u e=>by
 by_cases z:b=a
 ·subst z;rw[ac] at e⊢;exact e
 ·rw[ak z] at e⊢;exact g b u e
theorem uU {ys:KA} {v x:V} {i:Nat} {k:Key} (h:(bg ys v)[i]?=some (k,x)):∃b,ys[i]?=some b/\k= .inr b:=by
 unfold bg at h;rw[GJ] at h;cases e:ys[i]? with
 |none=>rw[e] at h;cases h
 |some b=>rw[e] at h;cases h;exact (b,rfl,rfl)
structure zC (ps:Kx) (good:Str) (es:List (Str×Option Str)):Prop where
 base:dS ps good es
 all:∀y,y∈aH es↔Led ps good y
def gL:Sp:=λvs H Q _=>∃(d:Addr) (good:Str) (rows:Kw) (ps:Kx),vs= [.ref d,.str good]/\DD H d rows/\cF rows ps/\ps.length<=1000/\
 ∀(ah:Addr) (H':Hp) (es:List 90),ax H H'->H' ah=some 330->zC ps good es->Q (.ref ah) H'
theorem xY {H:Hp} {rows:Kw} {rs:KB} {ps:Kx} {x:Str} (dr:bW H rows rs) (nd:rs.Nodup) (ok:cF rows ps):
  (aT 230 278=none/\∀b,(x,b)∉ps)∨∃r ys,aT 230 278=some (.ref r)/\r∈rs/\H r=some 152/\ys.length<=ps.length/\ys.Nodup/\∀b,b∈ys↔(x,b)∈ps:=by
 cases e:aT (eE rows rs) (.inr x) with
 |none=>
  refine .inl (rfl,λb hb=>?_)
  exact (dr.at_none (y:=x) (p:=0) e).2.2 b ((ok.mem x b).mpr hb)
 |some w=>
  obtain ⟨r,ys,rfl,hr,hm,hH,_,_⟩:=dr.at_some (y:=x) nd e;refine .inr (r,ys,rfl,hr,hH,(ok.small _ hm).1,(ok.small _ hm).2,λb=>?_)
  rw[<-ok.mem];constructor
  ·exact λh=>(ys,hm,h)
  ·rintro ⟨zs,hz,hb⟩;have:zs=ys:=by
    have inj:∀{l:Kw},(l.map 111).Nodup->∀{a b c},(a,b)∈l->(a,c)∈l->b=c:=by
     intro l
     induction l with
     |nil=>intro _ a b c h;simp at h
     |cons p l ih=>
      intro nd a b c h1 h2;have nd':=HL.mp nd;rcases GM.mp h1 with e1|e1
      ·rcases GM.mp h2 with e2|e2
       ·rw[<-e1] at e2;cases e2;rfl
       ·exact absurd (G9.mpr ((a,c),e2,by rw[<-e1])) nd'.1
      ·rcases GM.mp h2 with e2|e2
       ·exact absurd (G9.mpr ((a,b),e1,by rw[<-e2])) nd'.1
       ·exact ih nd'.2 e1 e2
    exact inj ok.keys hz hm
   rw[<-this];exact hb
structure Way (ps:Kx) (good goal:Str) (c:KA):Prop where
 first:c[0]?=some good
 last:c.getLast?=some goal
 nd:c.Nodup
 pair:∀(i:Nat) (a b:Str),c[i]?=some a->c[i+1]?=some b->(a,b)∈ps
 alone:goal=good->c= [good]
 few:c.length<=1001
structure Back (ps:Kx) (good goal:Str) (es:List (Str×Option Str)) (rc:KA) (o:Option Str):Prop where
 nd:rc.Nodup
 pair:∀(i:Nat) (a b:Str),rc[i]?=some a->rc[i+1]?=some b->(b,a)∈ps
 first:rc.head?=some goal∨(rc= []/\o=some goal)
 nxt:∀y,o=some y->∃(i:Nat) (oy:Option Str),es[i]?=some (y,oy)/\(∀x∈rc,∃(j:Nat) (ox:Option Str),i<j/\es[j]?=some (x,ox))/\(∀a,rc.getLast?=some a->(y,a)∈ps)/\rc.length+i<es.length
 fin:o=none->rc.getLast?=some good
 alone:goal=good->rc= []∨(rc= [good]/\o=none)
 few:rc.length<=es.length
theorem im {es:List 90} {i:Nat} {y:Str} {o:Option Str} (h:es[i]?=some (y,o)):(aH es)[i]?=some y:=by
 unfold aH;rw[GJ,h]
 rfl
theorem DH {xs:KA} (nd:xs.Nodup) {i j:Nat} {y:Str} (h1:xs[i]?=some y) (h2:xs[j]?=some y):i=j:=by
 obtain ⟨l1,e1⟩:=G3.mp h1;obtain ⟨l2,e2⟩:=G3.mp h2;exact (List.getElem_inj nd).mp (e1.trans e2.symm)
theorem dS.at {ps:Kx} {good:Str} {es:List 90} (h:dS ps good es) {i j:Nat} {y:Str} {o o':Option Str} (h1:es[i]?=some (y,o)) (h2:es[j]?=some (y,o')):i=j:=
 DH h.nd (im h1) (im h2)
theorem Back.start {ps:Kx} {good goal:Str} {es:List 90} (hg:goal∈aH es):Back ps good goal es [] (some goal) where
 nd:=Ih
 pair:=λi a b h=>by simp at h
 first:= .inr ⟨rfl,rfl⟩
 nxt:=λy e=>by
  cases e;obtain ⟨p,hp,rfl⟩:=G9.mp hg;obtain ⟨i,hi⟩:=GP.mp hp;exists i,p.2,hi,by simp,by simp
  have:=(G3.mp hi).1
  simpa using this
 fin:=λe=>nomatch e
 alone:=λ_=> .inl rfl
 few:=by simp
theorem Back.step {ps:Kx} {good goal:Str} {es:List 90} (ab:dS ps good es) {rc:KA} {y:Str} {oy:Option Str} {i:Nat} (h:Back ps good goal es rc (some y)) (hi:es[i]?=some (y,oy)):Back ps good goal es (rc++ [y]) oy:=by
 obtain ⟨i',oy',h1,h2,h3,h4⟩:=h.nxt y rfl;obtain rfl:=ab.at hi h1;have par:=ab.par i y oy hi;have ny:y∉rc:=λm=>by
  obtain ⟨j,ox,lt,e⟩:=h2 y m;have:=ab.at hi e
  lia
 exists ?_,?_,?_,?_,?_,?_
 ·rw[Hz];exists h.nd,by simp
  intro u hu v hv;simp at hv;subst hv;exact λz=>ny (z▸hu)
 ·intro k a b ha hb
  by_cases c:k+1<rc.length
  ·rw[G6 42] at ha
   rw[G6 c] at hb;exact h.pair k a b ha hb
  ·have kl:k+1<(rc++ [y]).length:=(G3.mp hb).1;simp at kl;have ke:k+1=rc.length:=by lia
   rw[G7 42,ke] at hb
   simp at hb;subst hb;rw[G6 42] at ha
   refine h3 a ?_;rw[List.getLast?_eq_getElem?,<-ha]
   congr 1
   lia
 ·rcases h.first with k|⟨rfl,k⟩
  ·left;cases rc with
   |nil=>simp at k
   |cons z zs=>simpa using k
  ·cases k;left
   rfl
 ·intro p e;obtain ⟨hp,j,o',jl,ej⟩:=par.2 p e;exists j,o',ej,?_,?_
  ·intro x hx;rcases GU.mp hx with k|k
   ·obtain ⟨j2,ox,lt,e2⟩:=h2 x k;exact (j2,ox,by lia,e2)
   ·simp at k;subst k;exact (i,oy,jl,hi)
  ·intro a ha;simp at ha;subst ha;exact hp
  ·simp
   lia
 ·intro e;have i0:=par.1 e;subst i0;rw[ab.first] at hi;cases hi;simp
 ·intro e;subst e;rcases h.alone rfl with rfl|⟨_,k⟩
  ·rcases h.first with k|⟨_,k⟩
   ·simp at k
   ·cases k;right;have:=ab.at hi ab.first;subst this;rw[ab.first] at hi;cases hi;exact 239
  ·cases k
 ·simp
  lia
theorem Back.way {ps:Kx} {good goal:Str} {es:List 90} (ab:dS ps good es) {rc:KA} (h:Back ps good goal es rc none):Way ps good goal rc.reverse where
 first:=by
  have:=h.fin rfl;rw[<-List.head?_eq_getElem?,List.head?_reverse];exact this
 last:=by
  rw[List.getLast?_reverse];rcases h.first with k|⟨_,k⟩
  ·exact k
  ·cases k
 nd:=by
  unfold List.Nodup;rw[List.pairwise_reverse];exact h.nd.imp λn=>Ne.symm n
 pair:=λi a b ha hb=>by
  have l:i+1<rc.reverse.length:=(G3.mp hb).1;rw[Hj] at l;rw[List.getElem?_reverse 42] at ha hb
  refine h.pair (rc.length-1-236) b a hb ?_;rw[<-ha]
  congr 1
  lia
 alone:=λe=>by
  rcases h.alone e with k|⟨k,_⟩
  ·subst k;have:=h.fin rfl;simp at this
  ·rw[k]
   rfl
 few:=by
  rw[Hj];have:=h.few;have r:=ab.room;have l:(aH es).length=es.length:=by simp[aH]
  lia
noncomputable def n9 (es:List 90):Option (Option V)->Nat
 |some (some (.str y))=>(aH es).idxOf y+1
 |_=>0
theorem qX {ps:Kx} {good:Str} {es:List 90} (ab:dS ps good es) {i:Nat} {y:Str} {o:Option Str} (h:es[i]?=some (y,o)):n9 es (some (some (.str y)))=i+1:=by
 show (aH es).idxOf y+1=i+1;have hk:=im h;obtain ⟨l,e⟩:=G3.mp hk;rw[<-e,ab.nd.idxOf_getElem]
theorem qY {ps:Kx} {good:Str} {es:List 90} (ab:dS ps good es) {i:Nat} {y:Str} {o:Option Str} (h:es[i]?=some (y,o)):n9 es (some (some (qU o)))<n9 es (some (some (.str y))):=by
 rw[qX ab h];cases o with
 |none=>exact Nat.succ_pos _
 |some p=>
  obtain ⟨_,j,o',jl,ej⟩:=(ab.par i y _ h).2 p rfl;show n9 es (some (some (.str p)))<_;rw[qX ab ej]
  lia
universe Sw
namespace L2
open PySem PySem.Spec PyProof.Rows XH
section
variable {X:Cx} {scope:Scope} {cl:List (Str×Addr)} {own:Str} {ys:KA} {js:List Nat} {elt iter cond:Expr} {px pos:Pos} {wi:TI} {te:TE} {tc:TT}
theorem og {i:Nat} {y:Str} {py spos:Pos} (hN:X.N.Nodup) (hi':X.N[i]?=some y) (hy:X.env.scope.names.lookup y=some .local) (hc:X.calm=true) (ok:eI X scope cl own ys js) (hi:PI X 250 iter wi)
  (hq:∀(C:Addr) (fp:KB) (s:Shared) (H:Hp),PT 72 cond tc)
  (he:∀(C:Addr) (fp:KB) (s:Shared) (H:Hp),PE 72 elt te)
  (hsw:swapsWith 76 (some (.Name y py)) spos.line X.env=pure true:=by rfl) (hs:∀x,foldedSetIterable iter X.env x=pure x:=by intro _;rfl):
  PS X (.Assign [.Name y py] 76 spos) (yW (iC wi js tc te) (aU i)):=λpins s σ H D I h=>by
 sleep 30
 exact wpAny_bind (wpAny_mono (kG hc ok hi hq he hs I h (uL hN hi' hy)) (λ_ s' hq=>wpAny_pure (wpAny_pure hq)) λ_ _ e=>e)
universe z0
theorem tF {X:Cx} {K:G0} (h:X.K=K):iQ X (compareOp .In) (E3 K false):=by
 subst h;exact nM
theorem xZ {X:Cx} (hu:X.A.units<cLine):iQ X (compareOp .Eq) (λx y H Q=>∃a b zs,x= .ref a/\y= .ref b/\aQ X.K H a zs/\aQ X.K H b []/\Q (.bl zs.isEmpty) H):=by
 sleep 63;obtain ⟨a,b,zs,rfl,rfl,h1,h2,hq⟩:=h;cases rx;cases ry;sleep 274;cases r2;cases zs with
 |nil=>
  cases r1;refine SeqAt.eq_listAt (e:=λ_=>true) p1.isList p2.isList rfl hu (λj g1 g2=>absurd g1 73) ?_
  exact 428
 |cons z zs=>
  cases r1 with
  |cons r rr=>
   refine SeqAt.eq_list_lengthsAt p1.isList p2.isList 73 hu ?_
   exact (.bl false,H,I,rfl,hq)
theorem qZ {a:Addr} {o:Obj} {kvs:List 103} {js:List Nat} {tc:TT} {σ:L2.St} {H1:Hp} {Q:VK} (pr:Key->Bool) (hf:H1 a=some 185) (hz:kvs.length<=sizeLine)
  (step:∀(i:Nat) (k:Key) (x:V),kvs[i]?=some (k,x)->∀H3,ax H1 H3->∀R:Bool->Hp->Prop,R (pr k) H3->tc 529 H3 R)
  (fin:∀p H',ax H1 H'->H' p=some 267->Q 133 H'):jZ js tc (vC 0) σ Q (zz a o kvs) H1:=by
 sleep 22
 sleep 85
 by_cases hin:i<kvs.length
 ·sleep 269
  ·have:=IN (λe:Key×V=>pr e.1) (kvs.take i)
   rw[G2];rw[GX] at this
   lia
  obtain ⟨rfl,k,v,hk,rfl⟩:=hy;have tk:363=391++(if pr k=true then [(k,v)] else []):=by
   rw[IL,hk,List.filter_append]
   congr 1
   simp[Ii]
  refine step i k v hk H3 g _ ?_;cases hpr:pr k with
  |true=>
   sleep 157
  |false=>
   sleep 212
   sleep 118
   exact 506
 ·have e2:i=kvs.length:=by lia
  subst e2;refine .inl ((f2,rfl),fin p H2 g ?_);rw[e,Hn 173]
theorem kI {K:G0} {a:Addr} {xs:List V} {js:List Nat} {tc:TT} {σ:L2.St} {H1:Hp} {Q:VK} (pr:V->Bool) (hS:aQ K H1 a xs) (hz:xs.length<=sizeLine)
  (step:∀x∈xs,∀H3,ax H1 H3->∀R:Bool->Hp->Prop,R (pr x) H3->tc (some x::bK js σ) H3 R)
  (fin:∀p H',ax H1 H'->H' p=some (.lst (xs.filter pr))->Q 133 H'):jZ js tc (vC 0) σ Q (wT K a) H1:=by
 intro p hp;exists λi m ys H2=>i<=xs.length/\m=xs.length-i/\ys=(xs.take i).filter pr/\ax H1 H2/\H2 p=some 263,(xs.length,HC _,rfl,rfl,Sw.ag hp _,ac)
 rintro i m ys H2 ⟨hi,rfl,rfl,g,e⟩;exists e;have S2:=g.seq hS
 by_cases hin:i<xs.length
 ·refine .inr ((xs,xs[i],S2,G1 hin),?_,λx H3 hy=>?_)
  ·have:=IN pr (xs.take i);rw[GX] at this
   lia
  obtain ⟨rfl,hx⟩:=hy;have ex:=hx xs S2;have tk:(xs.take 236).filter pr=(xs.take i).filter pr++(if pr x=true then [x] else []):=by
   rw[IL,ex,List.filter_append]
   congr 1
   simp[Ii]
  refine step x (G5 ex) H3 g _ ?_;cases hpr:pr x with
  |true=>
   rw[hpr,if_pos rfl] at tk;rw[if_pos rfl];exact (e,xs.length-236,by lia,hin,rfl,by rw[tk],Sw.dA g hp _,ac)
  |false=>
   sleep 212
   sleep 118
   exact (xs.length-236,by lia,hin,rfl,by rw[tk],g,e)
 ·sleep 287
  subst e2;refine .inl ((xs,S2,G4 _),fin p H2 g ?_);rw[e,Hn 173]
universe L2
namespace Sw
open PySem L2 PyProof.Rows
theorem j6 {α β:Type} {F:α->β->Prop}:∀{l:List α} {m:List β},Paired F l m->∀{i:Nat} {b:β},m[i]?=some b->∃a,l[i]?=some a/\F a b
 |_,_,.nil,i,b,h=>by simp at h
 |_,_,.cons r t,0,b,h=>by simp at h;subst h;exact (ν,r)
 |_,_,.cons r t,i+1,b,h=>by
  obtain ⟨a,h1,h2⟩:=j6 t (i:=i) 209
  exact (a,by simpa using h1,h2)
noncomputable def E6 (gs:KA):Key->Bool
 | .inr y=>decide (y∈gs)
 |_=>false
theorem mh (gs:KA):∀es:List 90,(((aP es).filter λe=>E6 gs e.1).map λe=>kV e.1)=((aH es).filter λy=>decide (y∈gs)).map V.str
 | []=>rfl
 |(c,o)::es=>by
  have ih:=mh gs es;show ((((.inr c,qU o)::aP es).filter λe=>E6 gs e.1).map λe=>kV e.1)=(((c::aH es).filter λy=>decide (y∈gs)).map V.str)
  by_cases h:c∈gs
  ·rw[List.filter_cons_of_pos (by show decide (c∈gs)=true;exact decide_eq_true h),List.filter_cons_of_pos (by exact decide_eq_true h),HY,HY,ih]
   rfl
  ·rw[List.filter_cons_of_neg (by show ¬decide (c∈gs)=true;simp[h]),List.filter_cons_of_neg 369,ih]
theorem iE (x:Str) (gs:KA):sG (.str x) 275=decide (x∈gs):=by
 unfold sG;rw[Ic];simp[yN]
theorem eZ (gs:KA):(gs.map V.str).all ju=true:=by
 rw[Hw];intro x hx;obtain ⟨y,_,rfl⟩:=G9.mp hx
 rfl
universe Sw
namespace L2
open PySem PySem.Spec PyProof.Rows XH Sw So
theorem uV:∀{acc:KC} {ks:KA},acc.length=ks.length->(∀(j:Nat) (v:Value),acc[j]?=some v->∃y t,ks[j]?=some y/\v= .str y t)->StrsAre acc ks
 | [],[],_,_=> .nil
 |v::acc,k::ks,hl,h=>by
  obtain ⟨y,t,e,rfl⟩:=h 0 v rfl;simp at e;subst e;exact .cons _ _ (uV (by simpa using hl) λj u hu=>h (j+1) u (by simpa using hu))
 | [],_::_,hl,_=>by simp at hl
 |_::_,[],hl,_=>by simp at hl
theorem jI:∀{us:KC} {ks:KA},StrsAre us ks->aZ (ks.map V.str) us
 |_,_,.nil=> .nil
 |_,_,.cons y t h=> .cons ⟨t,rfl⟩ (jI h)
theorem rb {prog:Program} {w:World} {A:Around} {E:Ks} {s:Shared} {T:String} {r d:Addr} {n:Nat} {P:Nat->Value->Prop} {OK:Heap->Prop} {R:KC->Shared->Prop} (K:PySem.W.KdlSrc prog w T r d n P OK) (hh:A.handled=none) (hok:OK s.heap) (hn:n<=sizeLine)
  (h:∀(h':Heap) (tk:Nat) (acc:Array Value),35<h'.objs.size->155->PySem.ItemsOf P acc n->R acc.toList 181):
  wpAny 68 A (collect (.ref r)) R E s:=by
 have hlt:=K.there _ hok;unfold collect;refine wpAny_bind (wpAny_runValue (codeAny_builtin entry_proto_collect' ?_));rw[Around.under_plainId PySem.F.plain_proto_collect _];show wpAny _ A.in1 (newList []>>=λl=>again (.builtin "list.__iadd__" ⟨[l,.ref r],[]⟩)) _ _ s
 refine wpAny_bind (wpAny_newObj_type (wpAny_pure (plainId_quiet PySem.F.plain_list_iadd _,codeAny_builtin entry_list_iadd' ?_)));rw[Around.under_plainId PySem.F.plain_list_iadd _];have fresh:(s.heap.push 479).get? 35=some {cls:= .type "list",data:= .seq #[]}:=81 _ rfl;show wpAny _ A.in1 (Builtin.List.listExtendWith 285 (.ref r) 285) _ _ _;have key:=PySem.W.kdl_extend (A:=A) (s:={s with heap:=s.heap.push 479})
  (R:=λ(q:Result) (s':Shared)=>∃(h':Heap) (tk:Nat) (acc:Array Value) (c:Nat),q= .ok (.ret 285)/\s'=181/\(∀b o,s.heap.get? b=some o->h'.get? b=some o)/\h'.get? 35=some 395/\PySem.ItemsOf P acc n)
  K hh (K.keep _ _ hok λb _ o e=>67 _ e) 35 (IB hlt.1) (IB hlt.2) 285 0 fresh
  (λh' tk acc c hk hS ha=>⟨h',tk,acc,c,rfl,rfl,λb o e=>hk b o 532 (67 _ e),hS,ha⟩) hn
 have fin:∀{h':Heap} {tk c:Nat} {acc:Array Value},155->h'.get? 35=some 395->PySem.ItemsOf P acc n->R acc.toList {s with heap:=h',toks:=tk}:=
  λ{h' tk c acc} hk hS ha=>h h' tk acc (85 hS) hk ha
 refine wpAny_mono key (λf s' x=>?_) λe s' x=>?_
 ·cases f with
  |done f=>
   obtain ⟨h',tk,acc,c,e,rfl,hk,hS,ha⟩:=x;cases e;sleep 169
  |again c₁=>
   refine (x.1,codeAny_mono x.2 λq s₂ y=>?_)
   obtain ⟨h',tk,acc,c,rfl,rfl,hk,hS,ha⟩:=y;sleep 169
 ·obtain ⟨_,_,_,_,e',_⟩:=x;cases e'
universe L2
namespace So
open PySem PySem.Spec PyProof.Rows
def v5 (x y:Str):Prop:=¬(y.cps.toList<x.cps.toList)
theorem v6 {x y z:Str} (h1:v5 x y) (h2:v5 y z):v5 x z:=λh=>by
 unfold v5 at h1 h2;exact h1 (List.lt_of_le_of_lt (List.not_lt.mp h2) h)
theorem mi {x y:Str} (h1:v5 x y) (h2:v5 y x):x=y:=by
 have e:=List.le_antisymm (List.not_lt.mp h1) (List.not_lt.mp h2);cases x;cases y
 congr 1
 exact Array.toList_inj.mp e
theorem oh:∀(r:KA) (x:Str),risingS x r=true->(x::r).Pairwise v5
 | [],x,_=>by simp
 |y::r,x,h=>by
  unfold risingS at h;have h':ltCps y.cps.toList x.cps.toList=false/\risingS y r=true:=by
   simpa [Bool.and_eq_true] using h
  have ih:=oh r y h'.2;have xy:v5 x y:=by
   have:=h'.1;rw[ltCps_eq] at this;exact of_decide_eq_false this
  refine List.pairwise_cons.mpr (λz hz=>?_,ih)
  rcases GM.mp hz with e|e
  ·rw[e];exact xy
  ·exact v6 xy ((List.pairwise_cons.mp ih).1 z e)
theorem j7 {l:KA} (h:sortedS l=true):l.Pairwise v5:=by
 cases l with
 |nil=>simp
 |cons x r=>exact oh r x h
theorem re {l m:KA} (h1:sortedS l=true) (h2:sortedS m=true) (p:l.Perm m):l=m:=
 List.Perm.eq_of_pairwise (λa b _ _ ha hb=>mi ha hb) (j7 h1) (j7 h2) p
universe So
namespace Sw
open PySem L2 PyProof.Rows So
theorem rg (es:List 90):(aP es).map 111=(aH es).map (λy=>(.inr y:Key)):=by
 unfold aP aH;rw[He,He]
 rfl
theorem bW.free {H:Hp} {p:Addr} (hn:H p=none):∀{rows:Kw} {rs:KB},bW H rows rs->p∉rs
 | [],[],_=>by simp
 |_::_,r::_,h=>λm=>by
  rcases GM.mp m with e|e
  ·have:=h.1;rw[<-e,hn] at this;cases this
  ·exact bW.free hn h.2 e
 | [],_::_,h=>h.elim
 |_::_,[],h=>h.elim
theorem cO:∀{l m:KA},l.Nodup->(∀y∈l,y∈m)->l.length<=m.length
 | [],m,_,_=>by simp
 |x::l,m,nd,h=>by
  obtain ⟨n1,n2⟩:=HL.mp nd;have hx:=h x 73
  have ih:=cO (l:=l) (m:=m.erase x) n2 λy hy=>(List.mem_erase_of_ne (λe:y=x=>n1 (e▸hy))).mpr (h y (HA _ hy))
  rw[List.length_erase_of_mem hx] at ih;have:=List.length_pos_of_mem hx;simp;omega
theorem uW {ps:Kx} {good:Str} {ys:KA} (nd:ys.Nodup) (h:∀y,y∈ys↔Led ps good y):ys.length<=ps.length+1:=by
 have:=cO (l:=ys) (m:=good::ps.map (·.2)) nd λy hy=>by
  cases (h y).mp hy with
  |self=>simp
  |step _ m=>exact HA _ (G9.mpr ⟨_,m,rfl⟩)
 simpa using this
theorem DD.put_none {H:Hp} {d pn:Addr} {rows:Kw} {rs:KB} {x y:Str} (hn:H pn=none) (dr:bW H rows rs) (e:H d=some (.dK 230)) (nd:rs.Nodup) (dn:d∉rs) (hw:aT 230 278=none):
  DD 293 d (bx rows x y):=by
 have g3:=ag hn 83;obtain ⟨h1,h2,_⟩:=(dr.same g3).at_none (y:=y) (p:=pn) hw;have pd:pn≠d:=λz=>by rw[z,e] at hn;cases hn
 have pr:pn∉rs:=bW.free hn dr;exists rs++ [pn],?_,?_,?_
 ·rw[h1];have eN:293 pn=some (.dK (bg [y] 71)):=ac;refine bW.snoc eN ?_;exact (((dr.same g3).other dn).other pr)
 ·rw[h1,h2,ak (Ne.symm pd),ac,hZ _ hw]
 ·rw[Hz];exists nd,by simp
  intro u hu v hv;simp at hv;subst hv;exact λz=>pr (z▸hu)
 ·simp;exact (dn,Ne.symm pd)
open XH
def KF (F:KB) (H H':Hp):Prop:=∀a o,a∉F->H a=some o->H' a=some o
theorem KF.refl {F:KB} {H:Hp}:KF F H H:=λ_ _ _ e=>e
theorem KF.trans {F:KB} {H H' H'':Hp} (h:KF F H H') (k:KF F H' H''):KF F H H'':=λa o n e=>k a o n (h a o n e)
theorem KF.of {F:KB} {H H':Hp} (h:ax H H'):KF F H H':=λa o _ e=>h a o e
theorem KF.put {F:KB} {H:Hp} {a:Addr} (o:HO) (h:a∈F):KF F H (ay H a o):=λb ob n e=>by
 have q:b≠a:=λz=>n (by rw[z];exact h)
 rw[ak q];exact e
def FG (F F':KB) (H:Hp):Prop:=∀a∈F',a∈F∨H a=none
theorem FG.refl {F:KB} {H:Hp}:FG F F H:=λ_ h=> .inl h
structure LA (C:Addr) (F:KB) (H:Hp) (x:Addr) (rows:Kw) (ns:KA):Prop where
 ex:∃(dx p n:Addr) (fs:List 215) (rs:KB),H x=some 156/\fs.lookup 496=some 133/\fs.lookup ("names" :Str)=some 485/\bW H rows rs/\H p=some (.dK 230)/\H n=some (.dK (bg ns 71))/\
  F=p::n::rs/\F.Nodup/\∀m:Str,m∈ [("part" :Str),"learn","known","held"]->fs.lookup m=none
theorem LA.same {C:Addr} {F:KB} {H H':Hp} {x:Addr} {rows:Kw} {ns:KA} (h:LA C F H x rows ns) (g:ax H H'):LA C F H' x rows ns:=by
 obtain ⟨dx,p,n,fs,rs,a,b,c,d,e,f,i,j,k⟩:=h.ex;exact (dx,p,n,fs,rs,g _ _ a,b,c,d.same g,g _ _ e,g _ _ f,i,j,k)
theorem bW.dict {H:Hp} {a:Addr}:∀{rows:Kw} {rs:KB},bW H rows rs->a∈rs->∃kv,H a=some (.dK kv)
 | [],[],_,h=>by simp at h
 |_::_,r::_,h,m=>by
  rcases GM.mp m with e|e
  ·subst e;exact (_,h.1)
  ·exact bW.dict h.2 e
 | [],_::_,h,_=>h.elim
 |_::_,[],h,_=>h.elim
theorem LA.dict {C:Addr} {F:KB} {H:Hp} {x:Addr} {rows:Kw} {ns:KA} (h:LA C F H x rows ns) {a:Addr} (m:a∈F):∃kv,H a=some (.dK kv):=by
 obtain ⟨dx,p,n,fs,rs,_,_,_,d,e,f,i,_,_⟩:=h.ex;subst i;rcases GM.mp m with e'|m
 ·subst e';exact (_,e)
 rcases GM.mp m with e'|m
 ·subst e';exact (_,f)
 exact d.dict m
theorem LA.not {C:Addr} {F:KB} {H:Hp} {x:Addr} {rows:Kw} {ns:KA} (h:LA C F H x rows ns) {a:Addr} {o:HO} (e:H a=some o) (k:∀kv,o≠ .dK kv):a∉F:=λm=>by
 obtain ⟨kv,e'⟩:=h.dict m;rw[e] at e';exact k kv (HH e')
theorem LA.free {C:Addr} {F:KB} {H:Hp} {x:Addr} {rows:Kw} {ns:KA} (h:LA C F H x rows ns) {a:Addr} (e:H a=none):a∉F:=λm=>by
 obtain ⟨kv,e'⟩:=h.dict m;rw[e] at e';cases e'
theorem LA.dd {C:Addr} {F:KB} {H:Hp} {x:Addr} {rows:Kw} {ns:KA} (h:LA C F H x rows ns):∃(dx p n:Addr) (fs:List 215),H x=some 156/\fs.lookup 496=some 133/\fs.lookup ("names" :Str)=some 485/\DD H p rows/\H n=some (.dK (bg ns 71))/\p∈F/\n∈F/\∀m:Str,m∈ [("part" :Str),"learn","known","held"]->fs.lookup m=none:=by
 obtain ⟨dx,p,n,fs,rs,a,b,c,d,e,f,i,j,k⟩:=h.ex;sleep 154;exact (dx,p,n,fs,a,b,c,(rs,d,e,j2.2,λz=>j1.1 (HA _ z)),f,by simp,by simp,k)
theorem LA.learn {C:Addr} {F:KB} {H:Hp} {x n dx:Addr} {fs:List 215} {rows:Kw} {ns ms:KA} (h:LA C F H x rows ns) (ex:H x=some 156) (en:fs.lookup ("names" :Str)=some 485):LA C F (556 n (.dK (bg ms 71))) x rows ms/\KF F H (556 n (.dK (bg ms 71)))/\n∈F:=by
 obtain ⟨dx',p,n',fs',rs,a,b,c,d,e,f,i,j,k⟩:=h.ex;rw[a] at ex;cases ex;rw[c] at en;cases en;sleep 154;have pn:p≠n:=λz=>j1.1 199
 have xn:x≠n:=λz=>by rw[z,f] at a;cases a
 exact ((dx,p,n,fs,rs,by rw[ak xn];exact a,b,c,d.other j2.1,by rw[ak pn];exact e,ac,rfl,j,k),KF.put _ 73,by simp)
theorem LA.put_some {C:Addr} {F:KB} {H:Hp} {x p dx:Addr} {fs:List 215} {rows:Kw} {ns:KA} {g y:Str} {kvs:List 103} (h:LA C F H x rows ns) (ex:H x=some 156) (ep:fs.lookup 496=some 133) (e1:H p=some 109) {w:V} (hw:aT kvs (.inr g)=some w):
  ∃r ys,w= .ref r/\(g,ys)∈rows/\H r=some 152/\LA C F (556 r 540) x (bx rows g y) ns/\KF F H (ay H r 540):=by
 obtain ⟨dx',p',n,fs',rs,a,b,c,d,e,f,i,j,k⟩:=h.ex;rw[a] at ex;cases ex;rw[b] at ep;cases ep;rw[e] at e1;cases e1;sleep 154;obtain ⟨r,ys,rfl,hr,hm,hH,hD,hT⟩:=d.at_some (y:=y) j2.2 hw;have pr:p≠r:=λz=>j1.1 (by rw[z];exact HA _ hr)
 have nr:n≠r:=λz=>j2.1 (by rw[z];exact hr)
 have xr:x≠r:=λz=>by rw[z,hH] at a;cases a
 exact (r,ys,rfl,hm,hH,(dx,p,n,fs,rs,by rw[ak xr];exact a,b,c,hD,by rw[ak pr,hT];exact e,by rw[ak nr];exact f,rfl,j,k),KF.put _ (by simp[hr]))
theorem LA.put_none {C:Addr} {F:KB} {H:Hp} {x p dx pn:Addr} {fs:List 215} {rows:Kw} {ns:KA} {g y:Str} {kvs:List 103} (h:LA C F H x rows ns) (ex:H x=some 156) (ep:fs.lookup 496=some 133) (e1:H p=some 109) (hn:H pn=none) (hw:aT kvs (.inr g)=none):
  LA C (F++ [pn]) (ay 477 pn (.dK (putK [] 264 71))) x (bx rows g y) ns/\KF F H (ay 477 pn (.dK (putK [] 264 71))):=by
 have hf:=h.free hn;obtain ⟨dx',p',n,fs',rs,a,b,c,d,e,f,i,j,k⟩:=h.ex;rw[a] at ex;cases ex;rw[b] at ep;cases ep;rw[e] at e1;cases e1;sleep 154;have pr:p∉rs:=λz=>j1.1 (HA _ z)
 obtain ⟨rs',hD,hP,hN,hd⟩:=(DD.put_none (y:=y) hn d e j2.2 pr hw).ex;have g3:=ag hn 83;obtain ⟨h1,h2,_⟩:=(d.same g3).at_none (y:=y) (p:=pn) hw;have pp:pn≠p:=λz=>hf 199
 have np:pn≠n:=λz=>hf 199
 have xp:pn≠x:=λz=>by rw[z,a] at hn;cases hn
 have nr:pn∉rs:=λz=>hf 199
 have nn:n≠p:=λz=>j1.1 199
 have xx:x≠p:=λz=>by rw[z,e] at a;cases a
 exists (dx,p,n,fs,rs++ [pn],?_,b,c,?_,?_,?_,rfl,?_,k)
 ·rw[ak 424,ak xx,ak 424];exact a
 ·rw[h1];exact bW.snoc (ys:= [y]) ac (((d.same g3).other pr).other nr)
 ·rw[h1,h2,ak (Ne.symm pp),ac,hZ _ hw]
 ·rw[ak (Ne.symm np),ak nn,ak (Ne.symm np)];exact f
 ·show (_::_::_++ [pn]).Nodup;rw[Hz];exists j,by simp
  intro u hu v hv;simp only[GK] at hv;subst hv;exact λz=>hf (z▸hu)
 ·exact λq ob nq eq=>by
   have q1:q≠pn:=λz=>by rw[z,hn] at eq;cases eq
   rw[ak q1,ak (λz=>nq 199),ak q1];exact eq
noncomputable def jJ (p st b n:V):List (Str×V):=aJ "names" n (aJ "bars" b (aJ "stands" st (aJ "parts" p [])))
theorem pJ {p st b n:V}:(jJ p st b n).lookup 496=some p/\(jJ p st b n).lookup ("names" :Str)=some n/\∀m:Str,m∈ [("part" :Str),"learn","known","held"]->(jJ p st b n).lookup m=none:=by
 refine (?_,?_,λm hm=>?_)
 ·unfold jJ;sleep 223
 ·unfold jJ;rw[aK,if_pos rfl]
 ·simp only[GM,HQ,or_false] at hm;unfold jJ;rcases hm with rfl|rfl|rfl|rfl<;>(rw[aK,if_neg 13,aK,if_neg 13,aK,if_neg 13,aK,if_neg 13];rfl)
def j8 (x:Addr) (H H':Hp):Prop:=∀a o,a≠x->H a=some o->H' a=some o
theorem j8.trans {x:Addr} {H H' H'':Hp} (h:j8 x H H') (k:j8 x H' H''):j8 x H H'':=λa o n e=>k a o n (h a o n e)
theorem j8.step {x d:Addr} {H:Hp} {o:HO} (o0:HO) (nd:H d=none):j8 x H (ay (556 d o0) x o):=λa ob n e=>by
 rw[ak n,ak (λz=>by rw[z,nd] at e;cases e)]
 exact e
def lB (C:Addr):Sp:=λvs H Q _=>∃(x l:Addr) (F:KB) (rows:Kw) (ns xs:KA),vs= [.ref x,.ref l]/\LA C F H x rows ns/\H l=some (.lst (xs.map V.str))/\ns.length+xs.length<=80/\ns.Nodup/\
 ∀(H':Hp) (ms:KA),KF F H H'->LA C F H' x rows ms->ms.Nodup->(∀y,y∈ms↔y∈ns∨y∈xs)->Q .non H'
def uX (K:G0) (C cN cI:Addr):Sp:=λvs H Q E=>∃(x:Addr) (g o:V) (F:KB) (rows:Kw) (ns:KA) (ps:Kx),vs= [.ref x,g,o]/\LA C F H x rows ns/\cF rows ps/\ps.length<=900/\ns.Nodup/\ns.length<=78/\(lA g∨gc K H g)/\(lA o∨gc K H o)/\
 (¬(lA g/\lA o)->∀H',ax H H'->E (.ref cN) none H')/\
 ∀zg zo,g= .str zg->o= .str zo->Nm zg->Nm zo->
  (Led ps zo zg->∀d l H' c,ax H H'->H' l=some (.lst ((zg::List.dropLast c).map V.str))->H' d=some (.xd [("ring",.ref l)])->Way ps zo zg c->E (.ref cI) (some d) H')/\
  (¬Led ps zo zg->∀F' H' ms,KF F H H'->FG F F' H->LA C F' H' x (bx rows zg zo) ms->ms.Nodup->341->Q .non H')
noncomputable def io (ns xs:KA):KA:=xs.foldl cB ns
theorem oj {z:Str}:∀{xs ns:KA},z∈io ns xs↔z∈ns∨z∈xs
 | [],_=>by simp[io]
 |x::xs,ns=>by
  show z∈io (cB ns x) xs↔_;rw[oj,df,GM];exact or_assoc
theorem kJ:∀{xs ns:KA},ns.Nodup->(io ns xs).Nodup
 | [],_,h=>h
 |_::xs,_,h=>kJ (xs:=xs) (fA h)
theorem tG (ns xs:KA) (y:Str):io ns (xs++ [y])=cB (io ns xs) y:=by
 unfold io;rw[List.foldl_append]
 rfl
theorem om:∀(xs ns:KA),(io ns xs).length<=ns.length+xs.length
 | [],_=>G4 _
 |x::xs,ns=>by
  have h:=om xs (cB ns x);have:=(eD ns x).2.2;show (io (cB ns x) xs).length<=_;simp only[HS]
  lia
structure pK (p q p2 q2 a0 b0 n l m:Int):Prop where
 nn:0<=n
 lo:0<=n*346-360*q2
 hi:0<n->n*346-360*q2<p2*q*b0
 low:mW l m
 same:l*(q*q2*b0)=(n*346-360*q2)*m
 bn:Bd 2200 n
 bl:Bd 4300 l
 bm:Bd 4300 m
def rh (H:Hp) (Q:VK) (n l m:Int):Prop:=∀(tl tt:Addr) (H':Hp),ax H H'->H' tl=some (.tup [.int l,.int m])->H' tt=some (.tup [.int n,.ref tl])->Q (.ref tt) H'
theorem v7 {p q p2 q2 a0 b0 n u v g h l m:Int} (v0:0<v) (h0:0<h) (e1:u*(1*q2)=(n*p2)*v) (e2:g*(b0*v)=(a0*v+u*b0)*h) (e3:l*(h*q)=(g*q-p*h)*m):
  l*(q*q2*b0)=(n*346-360*q2)*m:=by
 refine fP (k:=h*v) ?_ (ph h0 v0);have e1':u*q2=n*p2*v:=by rw[Int.one_mul] at e1;exact e1
 have s1:l*(q*q2*b0)*(h*v)=(l*(h*q))*(q2*b0*v):=by grind
 have s2:(g*q-p*h)*m*(q2*b0*v)=m*q2*(q*(g*(b0*v))-p*h*b0*v):=by grind
 rw[s1,e3,s2,e2];have s3:m*q2*(q*((a0*v+u*b0)*h)-p*h*b0*v)=m*h*(q*a0*v*q2+q*b0*(u*q2)-p*b0*v*q2):=by grind
 rw[s3,e1']
 grind
theorem v8 {a b k:Int} (k0:0<k) (h:a*k<=b*k):a<=b:=Int.le_of_mul_le_mul_right h k0
theorem wa {a b k:Int} (k0:0<k) (h:a*k<b*k):a<b:=Int.lt_of_mul_lt_mul_right h (Hv k0)
theorem tH {p q p2 q2 a0 b0 m1 m2 r s:Int} (e1:m1*(q*b0)=360*m2) (m0:0<m2) (e2:r*(m2*p2)=(m1*q2)*s):r*346=(360*q2)*s:=by
 refine fP (k:=m2) ?_ 42
 have s1:r*346*m2=(r*(m2*p2))*(q*b0):=by grind
 rw[s1,e2];have s2:m1*q2*s*(q*b0)=(m1*(q*b0))*(q2*s):=by grind
 rw[s2,e1]
 grind
theorem zD {p q p2 q2 a0 b0 m1 m2 r s u v g h l m:Int} (q0:0<q) (z2:0<p2) (b00:0<b0) (e1:m1*(q*b0)=360*m2) (m0:0<m2) (e2:r*(m2*p2)=(m1*q2)*s) (s0:0<s)
  (v0:0<v) (h0:0<h) (e3:u*(1*q2)=((if-332>0 then-332 else 0)*p2)*v) (e4:g*(b0*v)=(a0*v+u*b0)*h) (e5:l*(h*q)=(g*q-p*h)*m) (lo:mW l m)
  (br:Bd 2199 r) (bl:Bd 4300 l) (bm:Bd 4300 m):pK p q p2 q2 a0 b0 (if-332>0 then-332 else 0) l m:=by
 have ub:=vK (p:=r) s0;have ubd:Bd 2200 (-332):=((uF br.neg).neg).mono 13
 have es:=tH e1 m0 e2;have sm:=v7 v0 h0 e3 e4 e5;generalize-332=U at*;have P0:0<p2*q*b0:=HU (HU z2 q0) b00;have lo1:360*q2<=U*(p2*q*b0):=by
  refine v8 s0 ?_;rw[<-es];have k:=Hs ub.1 (Hv P0);have s1:U*346*s=U*s*(p2*q*b0):=by grind
  rw[s1];exact k
 have hi1:(U-1)*346<360*q2:=by
  refine wa s0 ?_;rw[<-es];have k:=Int.mul_lt_mul_of_pos_right ub.2 P0;have s1:(U-1)*346*s=(U-1)*s*(p2*q*b0):=by grind
  rw[s1];exact k
 have hs:(U-1)*346=U*346-p2*q*b0:=by rw[Int.sub_mul,Int.one_mul]
 by_cases hU:U>0
 ·rw[if_pos hU] at*;exact (by lia,by lia,λ_=>by lia,lo,sm,ubd,bl,bm)
 ·rw[if_neg hU] at*;refine (by lia,?_,λz=>absurd z 42,lo,sm,Bd.zero.mono 13,bl,bm)
  have k:U*346<=0:=Int.mul_nonpos_of_nonpos_of_nonneg 42 (Hv P0)
  rw[Int.zero_mul]
  lia
universe Sw
namespace L2
open PySem PySem.Spec PyProof.Rows
universe L2
namespace Sw
open PySem L2 XH
theorem uY {p q:Int} (f:Fr p q 0 1):p=0/\q=1:=by
 have h1:=f.bt;have h2:=f.bb;have h3:=f.pos;simp only[Int.natAbs_zero,Int.natAbs_one] at h1 h2
 lia
theorem ri {p q n:Int} (f:Fr p q n 1):p=n/\q=1:=by
 have h2:=f.bb;have h3:=f.pos;have h4:=f.same;simp only[Int.natAbs_one] at h2;have e:q=1:=by lia
 subst e;rw[Int.mul_one,Int.mul_one] at h4;exact (h4,rfl)
theorem zE {p q c d:Int} (h:p*d=c*q) (d0:0<d) (q0:0<q) (z:0<c):0<p:=by
 have k:=HU z q0;rw[<-h] at k;exact Int.pos_of_mul_pos_left k d0
theorem take_snoc {α:Type} {l:List α} {i:Nat} {x:α} (h:l[i]?=some x):l.take 236=l.take i++ [x]:=by
 rw[IL,h]
 rfl
universe Sw
namespace L2
open PySem PySem.Spec PyProof.Rows
universe L2
namespace Sw
open PySem L2 XH
universe Sw
namespace So
open PySem PyProof.Rows
section
variable {prog:Program} {w:World} {A:Around} {E:Ks} {s:Shared} {κ:KeyKind} {kd:SortKind}
theorem wb (hO:CU prog w A E s κ kd) {a0:List Keyed} {st:SortSt} {Q:Unit->SortSt->Prop} (hk:kindOf st=kd) (hf:failedOf st=none) (hp:pendingOf st= #[]) (ha:(arrOf st).toList=a0) (k0:∀x∈a0,Kd κ x) (h64:a0.length<64)
  (h:∀st',(arrOf st').toList.Perm a0->failedOf st'=none->(arrOf st').toList.Pairwise 384->Q () st'):wpS 68 A E s sortRuns' Q st:=by
 have sz:(arrOf st).size=a0.length:=by rw[<-ha];simp
 have mr:minRun' a0.length a0.length 0=a0.length:=by
  cases n:a0.length with
  |zero=>rfl
  |succ m=>
   rw[n] at h64;rw[minRun'_succ,if_pos h64,Nat.add_zero]
 unfold sortRuns';refine l8 ?_;sleep 139;dsimp only;rw[sz];change wpS _ _ _ _ (_>>=_) _ _;have mr':(sortPriv% PySem.Builtin.minRun) a0.length a0.length 0=a0.length:=mr;rw[mr'];refine wpS_bind (wpS_mono (wpS_forRange (I:=λx c st'=>(x=0/\c=(none,0)/\st'=st)∨(c=(none,a0.length)/\(arrOf st').toList.Perm a0/\failedOf st'=none/\(arrOf st').toList.Pairwise 384/\(pendingOf st').size<=1))
  (Q:=λc st'=>∃lo,c=(none,lo)/\(arrOf st').toList.Perm a0/\failedOf st'=none/\(arrOf st').toList.Pairwise 384/\(pendingOf st').size<=1) ?s1 ?e1 (.inl ⟨rfl,rfl,rfl⟩)) ?p1)
 case e1=>
  rintro c st' (⟨h0,rfl,rfl⟩|⟨rfl,z⟩)
  ·have z0:a0= []:=II 42
   refine (ν,by rw[ha],hf,by rw[ha,z0];exact List.Pairwise.nil,by rw[hp];decide)
  ·exact (ν,z)
 case p1=>
  rintro c st' ⟨lo,rfl,p1,p2,p3,p4⟩;try dsimp only
  refine wpS_bind (wpS_mono (wpS_forRange (I:=λx c st''=>c=(none,())/\st''=st') (Q:=λc st''=>c=(none,())/\st''=st') ?s4 (λ_ _ z=>z) 239) ?p4)
  case s4=>
   rintro x c st'' _ hx ⟨rfl,rfl⟩;sleep 139;rw[if_pos p4];exact wpS_pure 239
  case p4=>
   rintro c st'' ⟨rfl,rfl⟩;exact wpS_pure (h _ p1 p2 p3)
 case s1=>
  rintro x c st1 _ hx (⟨h0,rfl,rfl⟩|⟨rfl,z⟩)
  ·try dsimp only
   rw[if_neg 42]
   have e0:(arrOf st1).toList= []++a0:=by simpa using ha
   refine wpS_bind (qN hO (P:= []) (R:=a0) hk k0 e0 42 λst3 X3 S3 kp3 e3 s3 p3 l3=>?_)
   try dsimp only
   have n3:X3.length+S3.length=a0.length:=by rw[<-G8];exact p3.length_eq
   have pe3:pendingOf st3= #[]:=kp3.pend.trans hp
   by_cases cm:X3.length<a0.length
   ·rw[if_pos cm];refine wpS_bind (qM (wpS_bind (v3 hO (P:= []) (D:=X3++S3) (S:= []) (by rw[G8,n3];lia) (kp3.kind.trans hk) (λx hx=>k0 x (p3.mem_iff.mp hx)) (by rw[IT];exact e3) l3 (by rw[G8];lia) (by rw[List.take_left];exact s3) λst4 X4 kp4 e4 s4 p4=>?_)))
    simp only[Bool.not_true,Ia,if_false];sleep 139;have pe4:pendingOf st4= #[]:=kp4.pend.trans pe3;have e4':(arrOf st4).toList=X4:=by simpa using e4
    split
    ·rename_i q;have q':(pendingOf st4).back?=some _:=q;rw[pe4] at q';cases q'
    ·refine wpS_bind 490
     ·rw[Nat.zero_add,Nat.sub_zero,Nat.min_self]
     ·show (arrOf st4).toList.Perm a0;rw[e4'];exact p4.trans p3
     ·exact kp4.failed.trans (kp3.failed.trans hf)
     ·show (arrOf st4).toList.Pairwise 384;rw[e4'];exact s4
     ·show ((pendingOf st4).push _).size<=1;rw[pe4];exact G4 1
   ·rw[if_neg cm];sleep 139;have S0:S3= []:=II 42
    subst S0;have e3':(arrOf st3).toList=X3:=by simpa using e3
    split
    ·rename_i q;have q':(pendingOf st3).back?=some _:=q;rw[pe3] at q';cases q'
    ·refine wpS_bind 490
     ·have:X3.length=a0.length:=by simpa using n3
      rw[Nat.zero_add,this]
     ·show (arrOf st3).toList.Perm a0;rw[e3']
      simpa using p3
     ·exact kp3.failed.trans hf
     ·show (arrOf st3).toList.Pairwise 384;rw[e3'];exact s3
     ·show ((pendingOf st3).push _).size<=1;rw[pe3];exact G4 1
  ·try dsimp only
   rw[if_pos 173];exact wpS_pure (ν,z)
universe z0
universe So
namespace L2
open PySem PySem.Spec PyProof.Rows XH Sw So
noncomputable def cK (nm:Addr->Option Str):PyProof.Rows.KeyKind:={PyProof.Rows.strKind with keyOf:=λv=>match v with| .ref a=>(nm a).map λy=>y.cps.toList|_=>none}
theorem uZ {nm:Addr->Option Str} {v:Value} {k:List Nat} (h:(cK nm).keyOf v=some k):∃a y,v= .ref a/\nm a=some y/\k=y.cps.toList:=by
 cases v with
 |ref a=>
  cases e:nm a with
  |none=>
   have h':((nm a).map λy=>y.cps.toList)=some k:=h
   rw[e] at h';cases h'
  |some y=>
   have h':((nm a).map λy=>y.cps.toList)=some k:=h
   rw[e] at h';cases h';exact (a,y,rfl,e,rfl)
 |_=>cases h
section
variable {prog:Program} {w:World} {A:Around} {E:Ks} {s:Shared}
theorem wc (M:Model) (h:Heap) (y:Str) (t:Tok):PySem.W.Looks M h (typeOf (.str y t)) (.type "str"):=PySem.W.Looks.of_pure rfl
universe z0
theorem oo:∀(as:KB),aZ (as.map V.ref) (as.map Value.ref)
 | []=> .nil
 |_::as=> .cons rfl (oo as)
theorem wd {α β:Type} {g:α->β} {k:β->α} (hk:∀a,k (g a)=a) {l:List β} {as:List α} (h:l.Perm (as.map g)):∃bs:List α,bs.Perm as/\l=bs.map g:=by
 exists l.map k,?_
 ·have:=h.map k;rw[He] at this;have e:as.map (k ∘ g)=as:=by
   conv=>rhs;rw[<-List.map_id as]
   exact Il λa _=>hk a
  rw[e] at this;exact this
 ·rw[He]
  conv=>lhs;rw[<-List.map_id l]
  refine Il λx hx=>?_
  obtain ⟨a,_,rfl⟩:=G9.mp (h.mem_iff.mp hx);show g a=g (k (g a));rw[hk]
theorem rj {α β:Type} (g:α->β):∀as:List α,(as.map g).zip (as.map g)=as.map λa=>(g a,g a)
 | []=>rfl
 |a::as=>by
  have:=rj g as;simp[this]
universe L2
namespace Sw
open PySem L2 XH PyProof.Rows
universe Sw
namespace L2
open PySem PySem.Spec PyProof.Rows XH Sw
universe L2
namespace Sw
open PySem L2 XH PyProof.Rows
universe Sw
namespace L2
open PySem PySem.Spec PyProof.Rows XH Sw
theorem zF {X:Cx} {e:Expr} {ta:TE} {f:Str} {pos:Pos} {K:G0} (hK:X.K=K) (he:PE X e ta) (hb:attributeBase e f X.env (eval e X.env)=eval e X.env):PE X (.Attribute e f pos) (De K ta f):=by
 subst hK;exact cA he hb
section
variable {X:Cx} {k j:Nat} {f C:Addr} {ps:KA} {sp:Sp} {dvs:List V} {x m:Str} {p pos apos:Pos} {e o:Expr} {es:List Expr} {ta tb:TE} {t:TA} {E:L2.St->XK}
theorem zG {pl:Sem Bool} {K:G0} (hK:X.K=K) (D:jm X.prog X.w X.K X.mg X.base 312 k f ps dvs sp) (hr:ce j X.A) (hk:k<=j) (he:PE 509 o ta) (ha:PA 509 (e::es) t)
  (hst:starEach (e::es) X.env=(false,eval e X.env)::starEach es X.env:=by rfl) (hpl:(backTo pos 112).any 111=false:=by rfl)
  (ht:eval 108 X.env=(do
   let ov<-eval o X.env
   standAt apos.atName
   let (f,first)<-holding [ov] (getMethod ov m pl)
   callWith pos f first (backTo pos 197) 160):=by rfl):
  PE 509 108 (xR K m f sp [] E ta t):=by
 subst hK;exact sY (X:=X.wish (XS X E)) D hr hk cG he ha hst hpl ht
universe z0
open So
universe L2
namespace Sw
open PySem L2 XH PyProof.Rows
def Lt (z:Str):Prop:=∀c∈sL z,97<=c/\c<=122
theorem Lt.app {x y:Str} (h:Lt x) (k:Lt y):Lt (x++y):=λc hc=>by
 rw[BB] at hc;rcases GU.mp hc with q|q
 ·exact h c q
 ·exact k c q
theorem Lt.cut {x:Str} (h:Lt x) (lo hi:Option Int):Lt (eU x lo hi):=λc hc=>by
 have hc':c∈((sL x).drop (HT.fH x.length 0 lo)).take (HT.fH x.length x.length hi-HT.fH x.length 0 lo):=by simpa [sL,eU] using hc
 exact h c (List.mem_of_mem_drop (List.mem_of_mem_take hc'))
theorem Lt.nil:Lt "" :=λc hc=>by
 have:c∈([]:List Nat):=hc;simp at this
theorem x2 {i:Int} (h0:0<=i) (h:i<26):∃c,iR fB.cps.toList i=some c/\97<=c/\c<=122:=by
 obtain ⟨c,hc⟩:=uT h0 h;exists c,hc;have hm:c∈fB.cps.toList:=by
  unfold iR at hc;obtain ⟨j,_,hj⟩:=HV.mp hc;exact G5 hj
 have e:fB.cps.toList=(List.range 26).map (97+ ·):=by decide
 rw[e] at hm;obtain ⟨k,hk,rfl⟩:=G9.mp hm;have:=IX.mp hk
 lia
theorem Lt.one {c:Nat} (h:97<=c/\c<=122):Lt ⟨#[c]⟩:=λd hd=>by
 have:d∈ [c]:=hd;rw[GK.mp this];exact h
theorem jK {x:Str} {i:Int} (h:0<=i):(eU x none (some i)).length=min i.toNat x.length:=by
 have e1:HT.fH x.length 0 none=0:=rfl;have e2:HT.fH x.length x.length (some i)=min i.toNat x.length:=by
  unfold HT.fH;simp;omega
 sleep 222;have:x.cps.toList.length=x.length:=by simp[Str.length]
 lia
theorem zH {x:Str} {i:Int} (h:0<=i):(eU x (some i) none).length=x.length-i.toNat:=by
 have e1:HT.fH x.length 0 (some i)=min i.toNat x.length:=by
  unfold HT.fH;simp;omega
 have e2:HT.fH x.length x.length none=x.length:=rfl;sleep 222;have:x.cps.toList.length=x.length:=by simp[Str.length]
 lia
theorem Lt.nm {z:Str} (h:Lt z) (h1:1<=z.length) (h2:z.length<=12):Nm z:=(by rw[lY];exact h1,by rw[lY];exact h2,h)
theorem jL:∀{rows:Kw} {x y:Str},(rows.map 111).Nodup->me rows x y->bx rows x y=rows
 | [],x,y,_,⟨_,h,_⟩=>by simp at h
 |(c,ys)::r,x,y,nd,h=>by
  have nd':=HL.mp (show (c::r.map 111).Nodup from nd)
  unfold bx
  by_cases z:c=x
  ·rw[if_pos z];rcases dj.mp h with ⟨_,q⟩|⟨zs,q,_⟩
   ·have:cB ys y=ys:=by unfold cB;rw[if_pos q]
    rw[this]
   ·exact absurd (G9.mpr (_,q,z.symm)) nd'.1
  ·rw[if_neg z];rcases dj.mp h with ⟨e,_⟩|q
   ·exact absurd e z
   ·rw[jL nd'.2 q]
universe Sw
namespace Hm
open PySem PySem.SeqAt PySem.MeetsSeq
open PySem.MeetsSeq3
noncomputable def rn:KA->KA->Bool
 |_,[]=>false
 | [],_::_=>true
 |x::xs,y::ys=>if x=y then rn xs ys else decide (x.cps.toList<y.cps.toList)
universe Hm
namespace Wo
open PySem Hm So
def yO (x y:Str):Prop:=x.cps.toList<y.cps.toList
instance (x y:Str):Decidable (yO x y):=inferInstanceAs (Decidable (x.cps.toList<y.cps.toList))
theorem u0 {x:Str}:¬yO x x:=List.lt_irrefl _
theorem we {x y z:Str} (h1:yO x y) (h2:yO y z):yO x z:=List.lt_trans h1 h2
theorem DI {x y:Str} (h:v5 x y) (n:x≠y):yO x y:=by
 refine Classical.byContradiction λc=>n (mi h ?_)
 exact c
theorem fE (x y:Str) (xs ys:KA):rn (x::xs) (y::ys)=if x=y then rn xs ys else decide (yO x y):=rfl
theorem u3:∀(c:KA),rn c c=false
 | []=>rfl
 |x::c=>by rw[fE,if_pos rfl];exact u3 c
theorem oq:∀{a b c:KA},rn a b=true->rn b c=true->rn a c=true
 | [],[],c,h,_=>by cases h
 | [],_::_,[],_,h=>by cases h
 | [],_::_,_::_,_,_=>rfl
 |_::_,[],_,h,_=>by cases h
 |_::_,_::_,[],_,h=>by cases h
 |x::a,y::b,z::c,h1,h2=>by
  rw[fE] at h1 h2⊢
  by_cases e1:x=y
  ·subst e1;rw[if_pos rfl] at h1
   by_cases e2:x=z
   ·subst e2;rw[if_pos rfl] at h2⊢;exact oq h1 h2
   ·rw[if_neg e2] at h2⊢;exact h2
  ·rw[if_neg e1] at h1;have h1:=of_decide_eq_true h1
   by_cases e2:y=z
   ·subst e2;rw[if_neg e1];exact decide_eq_true h1
   ·rw[if_neg e2] at h2;have h2:=of_decide_eq_true h2;have h3:=we h1 h2;rw[if_neg (λe=>by subst e;exact u0 h3)]
    exact decide_eq_true h3
theorem u4:∀{a b:KA},a.length=b.length->rn a b=true->∀x y,rn (a++ [x]) (b++ [y])=true
 | [],[],_,h,_,_=>by cases h
 | [],_::_,e,_,_,_=>by simp at e
 |_::_,[],e,_,_,_=>by simp at e
 |u::a,v::b,e,h,x,y=>by
  rw[Ij,Ij,fE];rw[fE] at h
  by_cases c:u=v
  ·rw[if_pos c] at h⊢;exact u4 (by simpa using e) h x y
  ·rw[if_neg c] at h⊢;exact h
theorem ro:∀(c:KA) {x y:Str},yO x y->rn 420 (c++ [y])=true
 | [],x,y,h=>by
  rw[List.nil_append,List.nil_append,fE,if_neg (λe=>by subst e;exact u0 h)]
  exact decide_eq_true h
 |u::c,x,y,h=>by
  rw[Ij,Ij,fE,if_pos rfl];exact ro c h
noncomputable def pM (c d:KA):Bool:=if c.length≠d.length then decide (c.length<d.length) else rn c d
def cC (c d:KA):Prop:=pM c d=true
theorem dL {c d:KA} (h:c.length<d.length):cC c d:=by
 unfold cC pM;rw[if_pos 42]
 exact decide_eq_true h
theorem fF {c d:KA} (e:c.length=d.length) (h:rn c d=true):cC c d:=by
 unfold cC pM;rw[if_neg 42]
 exact h
theorem ip {c d:KA} (h:cC c d):c.length<d.length∨c.length=d.length/\rn c d=true:=by
 unfold cC pM at h
 by_cases e:c.length=d.length
 ·rw[if_neg 42] at h
  exact .inr (e,h)
 ·rw[if_pos e] at h;exact .inl (of_decide_eq_true h)
theorem cC.le {c d:KA} (h:cC c d):c.length<=d.length:=by rcases ip h with z|z<;>lia
theorem cC.trans {a b c:KA} (h1:cC a b) (h2:cC b c):cC a c:=by
 rcases ip h1 with z|⟨e,z⟩
 ·exact dL (by have:=h2.le;lia)
 ·rcases ip h2 with y|⟨f,y⟩
  ·exact dL 42
  ·exact fF 42 (oq z y)
theorem cC.irr {a:KA} (h:cC a a):False:=by
 rcases ip h with z|⟨e,z⟩
 ·lia
 ·rw[u3] at z;cases z
theorem cC.app {c d:KA} (h:cC c d) (x y:Str):cC 420 (d++ [y]):=by
 rcases ip h with z|⟨e,z⟩
 ·exact dL (by rw[G8,G8];simp;exact z)
 ·exact fF (by rw[G8,G8,e];rfl) (u4 e z x y)
theorem tI (c:KA) {x y:Str} (h:yO x y):cC 420 (c++ [y]):=fF (by rw[G8,G8];rfl) (ro c h)
noncomputable def aI (c:KA):Str:=c.getLastD ""
theorem bS (c:KA) (x:Str):aI 420=x:=by unfold aI;rw[List.getLastD_concat]
structure gR (R:Str->Str->Prop) (good:Str) (cs:List KA) (i:Nat) (S:Str->Prop):Prop where
 first:cs[0]?=some [good]
 from_:∀(k:Nat) (d:KA),0<k->cs[k]?=some d->∃(j:Nat) (c:KA) (x:Str),j<k/\j<=i/\cs[j]?=some c/\d=c++ [x]/\R 348 x/\(j=i->S x)
 nd:(cs.map aI).Nodup
 rise:∀(k:Nat) (c d:KA),cs[k]?=some c->cs[k+1]?=some d->cC c d
 shut:∀(j:Nat) (c:KA) (x:Str),j<i->cs[j]?=some c->R 348 x->∃(k:Nat) (d:KA),cs[k]?=some d/\aI d=x/\¬cC 420 d
 now:∀(c:KA) (x:Str),cs[i]?=some c->S x->∃(k:Nat) (d:KA),cs[k]?=some d/\aI d=x/\¬cC 420 d
theorem gR.pair {R:Str->Str->Prop} {good:Str} {cs:List KA} {i:Nat} {S:Str->Prop} (h:gR R good cs i S):∀(n k:Nat) (c d:KA),cs[k]?=some c->cs[k+1+n]?=some d->cC c d
 |0,k,c,d,h1,h2=>h.rise k c d h1 h2
 |n+1,k,c,d,h1,h2=>by
  have l:=(G3.mp h2).1;have e:=G1 (show k+1+n<cs.length by lia)
  exact (h.pair n k c _ h1 e).trans (h.rise _ _ d e h2)
theorem gR.lt {R:Str->Str->Prop} {good:Str} {cs:List KA} {i:Nat} {S:Str->Prop} (h:gR R good cs i S) {j k:Nat} {c d:KA} (hj:cs[j]?=some c) (hk:cs[k]?=some d) (l:j<k):cC c d:=by
 obtain ⟨n,rfl⟩:∃n,k=j+1+n:=⟨k-j-1,by lia⟩
 exact h.pair n j c d hj hk
theorem gR.ne {R:Str->Str->Prop} {good:Str} {cs:List KA} {i:Nat} {S:Str->Prop} (h:gR R good cs i S) {k:Nat} {d:KA} (hk:cs[k]?=some d):d≠ []:=by
 rcases Ib k with e|e
 ·subst e;rw[h.first] at hk;cases hk;exact nofun
 ·obtain ⟨j,c,x,_,_,_,rfl,_⟩:=h.from_ k d e hk;simp
theorem gR.long {R:Str->Str->Prop} {good:Str} {cs:List KA} {i:Nat} {S:Str->Prop} (h:gR R good cs i S):∀(k:Nat) (d:KA),cs[k]?=some d->d.length<=k+1:=by
 intro k
 induction k using Nat.strongRecOn with
 |ind k ih=>
  intro d hk;rcases Ib k with e|e
  ·subst e;rw[h.first] at hk;cases hk;exact G4 _
  ·obtain ⟨j,c,x,l,_,hj,rfl,_⟩:=h.from_ k d e hk;have:=ih j l c hj;rw[G8,GV]
   lia
theorem gR.start {R:Str->Str->Prop} {good:Str}:gR R good [[good]] 0 289 where
 first:=rfl
 from_:=λk d k0 hk=>by
  rw[Hh 324] at hk
  cases hk
 nd:=by simp
 rise:=λk c d _ h=>by
  rw[Hh 73] at h
  cases h
 shut:=λj c x hj=>absurd hj (IU _)
 now:=λc x _ h=>h.elim
theorem gR.seen {R:Str->Str->Prop} {good:Str} {cs:List KA} {i:Nat} {S:Str->Prop} (h:gR R good cs i S) {x:Str} {c:KA} (hi:cs[i]?=some c) (hx:x∈cs.map aI):gR R good cs i (λy=>S y∨y=x) where
 first:=h.first
 from_:=λk d k0 hk=>by
  obtain ⟨j,c,y,a1,a2,a3,a4,a5,a6⟩:=h.from_ k d k0 hk;exact (j,c,y,a1,a2,a3,a4,a5,λe=> .inl (a6 e))
 nd:=h.nd
 rise:=h.rise
 shut:=h.shut
 now:=λc' y hc hy=>by
  rcases hy with hy|rfl
  ·exact h.now c' y hc hy
  ·rw[hi] at hc;cases hc;obtain ⟨d,hd,e⟩:=G9.mp hx;obtain ⟨k,hk⟩:=GP.mp hd;refine (k,d,hk,e,λa=>?_)
   have c1:=Hx.mpr (h.ne hi);rcases Ib k with z|z
   ·subst z;rw[h.first] at hk;cases hk;have:=a.le;rw[G8,GV,GV] at this
    lia
   ·obtain ⟨j,b,u,_,ji,hj,rfl,_⟩:=h.from_ k d z hk;rw[bS] at e;subst e;rcases Nat.lt_or_eq_of_le ji with l|rfl
    ·exact (a.trans ((h.lt hj hi l).app u u)).irr
    ·rw[hi] at hj;cases hj;exact a.irr
theorem gR.more {R:Str->Str->Prop} {good:Str} {cs:List KA} {i:Nat} {S:Str->Prop} (h:gR R good cs i S) {x:Str} {c:KA} (hi:cs[i]?=some c) (hx:x∉cs.map aI) (r:R 348 x) (hS:∀y,S y->y≠x->yO y x):gR R good (cs++ [c++ [x]]) i (λy=>S y∨y=x):=by
 have il:=(G3.mp hi).1;have at_:∀{k:Nat} {d:KA},cs[k]?=some d->(cs++ [c++ [x]])[k]?=some d:=λ{k d} e=>by
  rw[G6 (G3.mp e).1];exact e
 have or_:∀{k:Nat} {d:KA},(cs++ [c++ [x]])[k]?=some d->cs[k]?=some d∨(k=cs.length/\d=c++ [x]):=λ{k d} e=>by
  rcases Nat.lt_or_ge k cs.length with l|l
  ·rw[G6 l] at e;exact .inl e
  ·have kl:=(G3.mp e).1;rw[G8,GV] at kl;have:k=cs.length:=by lia
   subst this;rw[G7 173,IK] at e;cases e;exact .inr 239
 have c1:=Hx.mpr (h.ne hi);refine (at_ h.first,λk d k0 hk=>?_,?_,λk b d h1 h2=>?_,λj b y hj hb hr=>?_,λb y hb hy=>?_)
 ·rcases or_ hk with hk|⟨rfl,rfl⟩
  ·obtain ⟨j,b,y,a1,a2,a3,a4,a5,a6⟩:=h.from_ k d k0 hk;exact (j,b,y,a1,a2,at_ a3,a4,a5,λe=> .inl (a6 e))
  ·exact (i,c,x,il,G4 _,at_ hi,rfl,r,λ_=> .inr rfl)
 ·rw[GW,List.map_singleton,bS,Hz];refine (h.nd,by simp,λa ha b hb=>?_)
  rw[GK.mp hb];intro z;subst z;exact hx ha
 ·rcases or_ h2 with h2'|⟨e,rfl⟩
  ·have kl:=(G3.mp h2').1;rw[G6 42] at h1
   exact h.rise k b d h1 h2'
  ·rw[G6 42] at h1
   rcases Ib k with z|z
   ·subst z;rw[h.first] at h1;cases h1;refine dL ?_;rw[G8,GV,GV]
    lia
   ·obtain ⟨j,b',u,_,ji,hj,rfl,_,hu⟩:=h.from_ k b z h1;rcases Nat.lt_or_eq_of_le ji with l|rfl
    ·exact (h.lt hj hi l).app u x
    ·rw[hi] at hj;cases hj;refine tI c (hS u (hu rfl) λz=>hx ?_)
     subst z;exact G9.mpr (_,G5 h1,bS _ _)
 ·have bl:j<cs.length:=by lia
  rw[G6 bl] at hb;obtain ⟨k,d,a1,a2⟩:=h.shut j b y hj hb hr;exact (k,d,at_ a1,a2)
 ·rw[G6 il,hi] at hb;cases hb;rcases hy with hy|rfl
  ·obtain ⟨k,d,a1,a2⟩:=h.now c y hi hy;exact (k,d,at_ a1,a2)
  ·refine (cs.length,c++ [y],?_,bS _ _,λa=>a.irr)
   rw[G7 173,IK]
   rfl
theorem gR.next {R:Str->Str->Prop} {good:Str} {cs:List KA} {i:Nat} {S:Str->Prop} (h:gR R good cs i S) {c:KA} (hi:cs[i]?=some c) (all:∀y,R (aI c) y->S y):gR R good cs (i+1) (λ_=>False) where
 first:=h.first
 from_:=λk d k0 hk=>by
  obtain ⟨j,b,y,a1,a2,a3,a4,a5,_⟩:=h.from_ k d k0 hk;exact (j,b,y,a1,by lia,a3,a4,a5,λe=>absurd e 42)
 nd:=h.nd
 rise:=h.rise
 shut:=λj b x hj hb hr=>by
  rcases HR.mp hj with l|rfl
  ·exact h.shut j b x l hb hr
  ·rw[hi] at hb;cases hb;exact h.now _ x hi (all x hr)
 now:=λ_ _ _ z=>z.elim
theorem cO:∀{l m:KA},l.Nodup->(∀x∈l,x∈m)->l.length<=m.length
 | [],m,_,_=>HC _
 |x::l,m,nd,sub=>by
  have hx:=sub x Ho;have nd':=HL.mp nd;have:=cO (m:=m.erase x) nd'.2 λy hy=>(List.mem_erase_of_ne (a:=y) (b:=x) (λe=>nd'.1 (by rw[<-e];exact hy))).mpr (sub y (HA _ hy))
  rw[List.length_erase_of_mem hx] at this;have p:=List.length_pos_of_mem hx;rw[HS]
  lia
theorem gR.few {R:Str->Str->Prop} {good:Str} {cs:List KA} {i:Nat} {S:Str->Prop} (h:gR R good cs i S) {U:KA} (hU:∀x y,R x y->y∈U):cs.length<=U.length+1:=by
 have:=cO (m:=good::U) h.nd λx hx=>by
  obtain ⟨d,hd,e⟩:=G9.mp hx;obtain ⟨k,hk⟩:=GP.mp hd;rcases Ib k with z|z
  ·subst z;rw[h.first] at hk;cases hk;rw[<-e];exact Ho
  ·obtain ⟨j,c,y,_,_,_,rfl,r,_⟩:=h.from_ k d z hk;rw[bS] at e;subst e;exact HA _ (hU _ _ r)
 rw[G2] at this;exact this
universe Wo
namespace L2
open PySem PySem.Spec PyProof.Rows XH
section
variable {prog:Program} {w:World} {A:Around} {E:Ks} {s:Shared}
def x3 (h:Heap) (d:Addr) (es:Array DictEntry) (ep:Nat):Prop:=∃o,h.get? d=some o/\o.ExactDict/\o.data= .dict es ep
theorem rp {d:Addr} {es:Array DictEntry} {ep:Nat} {Q:Ks} (hd:(d==sysModules)=false) (hm:x3 s.heap d es ep)
  (hQ:Q 285 {s with heap:=s.heap.push {cls:= .type "dict_keyiterator",data:= .fields #[.ref d,.int 0 0,.int es.size 0,.int ep 0]}}):
  wpAny 68 A (pyIter 486) Q E s:=by
 obtain ⟨o,ho,hc,hdat⟩:=hm;have hT:s.TypeIs 486 "dict" :=(o,ho,hc.1);refine wpAny_pyIter_slot hT F.slot_dict_iter (wpAny_call_entry F.slot_dict_iter hT F.entry_dict_iter (wpAny_bind (wpAny_bind (wpAny_notOrdered_dict hT 308))) (F.args_dict_iter_1 _));refine (show wpAny _ _ (Builtin.Dict.showsAll d>>=_) _ _ s from ?_)
 have sh:Builtin.Dict.showsAll d=pure ():=by unfold Builtin.Dict.showsAll;rw[hd];rfl
 rw[sh];refine wpAny_bind (wpAny_pure (wpAny_bind (wpAny_dictEntries ho hdat (wpAny_bind (wpAny_dictEpoch ho hdat (wpAny_bind (wpAny_newObj_type (wpAny_pure (ν,"dict_keyiterator",_,(_,81 _ rfl,rfl),F.slot_dict_keyiterator_next.lookup,?_)))))))))
 simpa [rawInt] using hQ
theorem rq {it d:Addr} {i ep:Nat} {es:Array DictEntry} {Q:KH->Shared->Prop} (hi:i<es.size) (hit:s.heap.IsKeyIter it d i es.size ep) (hm:x3 s.heap d es ep)
  (hQ:∀h',h'.IsKeyIter it d 236 es.size ep->Heap.SameBut it s.heap h'->Q (some es[i].key) 126):wpAny 68 A 270 Q E s:=by
 sleep 93;obtain ⟨od,hod,hcd,hdd⟩:=hm;sleep 1
 sleep 81
 sleep 37
 sleep 83
 sleep 234;have n0:¬((i:Int)<0):=by lia
 simp only[n0,if_false,IJ,ID hi];refine wpAny_bind (wpAny_bind (wpAny_typeNameOfWhole_keyiter ty (wpAny_pure (wpAny_bind (wpAny_isOneOf_keyiter ty ?_)))));refine (show wpAny _ _ (setField 165 1 (rawInt ((i:Int)+1))>>=_) _ _ s from wpAny_bind 441)
 have hit':(s.heap.update it (Obj.mapFields (·.setIfInBounds 1 (rawInt ((i:Int)+1))))).IsKeyIter it d 236 es.size ep:=(_,Heap.get?_update_self _ ho (Obj.isFreed_of_fields (Obj.data_mapFields hd _)),(Obj.cls_mapFields ..).trans hc,by rw[Obj.data_mapFields hd];simp[rawInt])
 refine wpAny_bind (wpAny_holding (wpAny_bind (wpAny_isOneOf_keyiter (s:={s with heap:=s.heap.update it _}) hit'.typeIs ?_)))
 exact (show wpAny _ _ (pure es[i].key) _ _ _ from wpAny_pure (wpAny_pure (ν,wpAny_pure (hQ _ hit' (Heap.SameBut.update ..)))))
theorem u5 {it d:Addr} {ep:Nat} {es:Array DictEntry} {Q:KH->Shared->Prop} (hh:A.handled=none) (hit:s.heap.IsKeyIter it d es.size es.size ep) (hm:x3 s.heap d es ep)
  (hQ:∀h',Heap.ExtBut it s.heap h'->Q none 126):wpAny 68 A 270 Q E s:=by
 sleep 93;obtain ⟨od,hod,hcd,hdd⟩:=hm;sleep 1
 sleep 81
 sleep 37
 sleep 83
 sleep 234;have n0:¬((es.size:Int)<0):=by lia
 sleep 43
 refine (show wpAny _ _ (newExc 386 []>>=_) _ _ _ from wpAny_bind ?_)
 sleep 112
 sleep 51
 sleep 247
 sleep 178;have hn:A.in1.handled=none:=hh;rw[hn];refine wpAny_bind (wpAny_pure (wpAny_throw ?_));refine wpAny_bind (wpAny_isInstance (T:= "StopIteration") (b:=true) (_,81 _ rfl,rfl) isSubtype_stop ?_);exact wpAny_pure (hQ _ (((Heap.SameBut.update ..).extBut.push _).push _))
universe z0
noncomputable def wf (a:Addr) (o:Obj) (kvs:List 125):It:=
 ⟨λi H=>H a=some 120/\i<kvs.length,λi H v H'=>H'=H/\∃k x b,kvs[i]?=some (k,x)/\v= .ref b/\H b=some 254,λi H=>H a=some 120/\i=kvs.length⟩
theorem mj {α β:Type} {R:α->β->Prop}:∀{xs:List α} {ys:List β},Paired R xs ys->∀(i:Nat) {x:α},xs[i]?=some x->∃y,ys[i]?=some y/\R x y
 |_,_,.nil,i,x,h=>nomatch h
 |_,_,.cons r t,0,x,h=>by cases h;exact (ν,r)
 |_,_,.cons r t,i+1,x,h=>mj t i 209
theorem iF {X:Cx} {pins:Ky} {σ:St} {H:Hp} {s:Shared} {a:Addr} {o:Obj} {kvs:List 125} {es:Array DictEntry} {ep:Nat} (I:aG X pins σ H s) (h:H a=some 120) (hd:o.data= .dict es ep):
  x3 s.heap a es ep/\es.size=kvs.length/\∀(i:Nat) (k:List Key) (x:V),kvs[i]?=some (k,x)->∃(b:Addr) (e:DictEntry),es[i]?=some e/\e.key=Value.ref b/\H b=some (.tup (k.map kV)):=by
 obtain ⟨ho,z,y,xs,rel,ob,es',ep',e,c,d,l,_⟩:=(show aY X.prog X.w H s.heap a 120 from I.hok a _ h)
 rw[ho] at e;cases e;rw[hd] at d;cases d;refine ((o,ho,c,hd),?_,λi k x hk=>?_)
 ·rw[<-Hi,l,G2,rel.length]
 ·obtain ⟨q,hq,q1,q2,_⟩:=mj rel i hk;refine (q.2.1,entryOfKey (tupleKind 315) q,?_,rfl,q2);rw[<-HX,l,GJ,hq]
  rfl
theorem tJ {P:Program} {w:World} {K:G0} {tg:Expr} (it a:Addr) (o:Obj) (kvs:List 125) {es0:Array DictEntry} {ep:Nat} (hd:o.data= .dict es0 ep):Turn P w K tg (wf a o kvs) [it] it 219 where
 mem:=by simp
 obj:=λi h st b hb=>by
  sleep 153
  sleep 40
 keep:=λi h h' st k=>by
  sleep 65
 item:=by
  sleep 8
  sleep 64
  refine rq il st D λh' hit' hs'=>?_
  rw[sz] at hit';sleep 28
  obtain ⟨oi,ei,ci,di⟩:=id hit';have ee:es0[i].key= .ref b:=by
   rw[ID il] at he;cases he;exact ek
  sleep 92
 done:=by
  sleep 8
  obtain ⟨hz,rfl⟩:=hg;obtain ⟨D,sz,_⟩:=iF I hz hd;rw[<-sz] at st;refine u5 231 st D λh' he'=>137
 self:=λ_ _ _ _ _ st h=>wpAny_pyIter_keyiter st h
theorem aG.nfT {X:Cx} {pins:Ky} {σ:St} {H:Hp} {s:Shared} {a:Addr} {kvs:List 125} (I:aG X pins σ H s) (h:H a=some 223):NF X a:=λo u e=>by
 have:=I.base.frzs a o u e;rw[h] at this;cases this
theorem aG.freezeT {X:Cx} {pins:Ky} {σ:St} {H:Hp} {s:Shared} {a:Addr} {kvs:List 125} {o:Obj} (I:aG X pins σ H s) (h:H a=some 223) (ho:s.heap.get? a=some o):aG X pins σ (556 a 120) s:=by
 have ne:∀{b:Addr} {u:HO},H b=some u->(∀v,u≠ .dT v)->b≠a:=λ{b u} q n z=>by subst z;rw[h] at q;cases q;exact n _ rfl
 have nn:∀{b:Addr},H b=none->b≠a:=λ{b} q z=>by subst z;rw[h] at q;cases q
 refine I.un (H':=ay H a 120) (h':=s.heap) (t':=s.toks) 194 ?_
 ·rw[ak (nn n)];exact n
 ·rw[ak 206];exact q
 ·rw[ak 206];exact q
 ·rw[ak 206,q];simp
 ·intro b u q
  by_cases hb:b=a
  ·subst hb;rw[ac] at q;cases q;exact (ho,(I.hok b _ h).stay 344 (λc q=>by rw[ak 206];exact q) λc xs q=>by rw[ak 206];exact q)
  ·rw[ak hb] at q;exact (I.hok b _ q).stay 344 (λc q=>by rw[ak 206];exact q) λc xs q=>by rw[ak 206];exact q
theorem aG.thawT {X:Cx} {pins:Ky} {σ:St} {H:Hp} {s:Shared} {a:Addr} {kvs:List 125} {o:Obj} (I:aG X pins σ H s) (h:H a=some 120) (nf:NF X a):aG X pins σ (556 a 223) s:=by
 have hn:∀{b:Addr} {u:HO},H b=some u->(∀o' v,u≠ .frz o' v)->ay H a 223 b=some u:=λ{b u} q n=>by
  sleep 284
 have hf:∀{b:Addr},H b=none->ay H a 223 b=none:=λ{b} n=>by
  sleep 199
 sleep 41
 ·sleep 277
  exact q'
 ·sleep 238
 ·obtain ⟨p1,p2,p3⟩:=I.pin p hp;exact (p1,hf p2,p3)
 ·intro b u q
  by_cases hb:b=a
  ·subst hb;rw[ac] at q;cases q;obtain ⟨_,q2⟩:=(show aY X.prog X.w H s.heap b 120 from I.hok b _ h)
   exact aY.stay (o:= .dT kvs) q2 344 (λc q=>hn q 213) λc xs q=>hn q 213
  ·sleep 144
def BI (X:Cx) (tl:TE):TI:=λσ H R=>tl σ H λx H1=>∃a kvs,x= .ref a/\H1 a=some 223/\∀o,NF X a->R (wf a o kvs) (ay H1 a 120)
variable {X:Cx} {tg:Expr}
theorem x4 {l:Expr} {tl:TE} (hl:PE X l tl):PI X tg l (BI X tl):=by
 sleep 16
 sleep 245;cases r1;sleep 175
 sleep 239
 refine rp y (ob,e,c,d) ?_;refine (101,[101],_,_,ν,I2.kept (t':=s1.toks) λb o e=>67 _ e,tJ _ a ob kvs d,(_,81 _ rfl,rfl,by rw[sz];rfl),λb hb=>?_,q ob (I1.nfT hk))
 sleep 54
 sleep 130
def x5 (X:Cx) (P:Hp->Prop) (H:Hp):Prop:=∃a o kvs,H a=some 120/\NF X a/\P (556 a 223)
noncomputable def DJ (X:Cx) (D:Ends):Ends:={nx:=λσ=>x5 X (D.nx σ),bk:=λσ=>x5 X (D.bk σ),ct:=λσ=>x5 X (D.ct σ),rt:=λv=>x5 X (D.rt v)}
theorem zI {X:Cx} {st:Stmt} {t:TS} (h:PS X st t):PS X st (λD σ H=>t (DJ X D) σ H):=by
 sleep 276
 cases f with
 |next=>
  sleep 89;exact 525
 |brk=>
  sleep 89;exact 525
 |cont=>
  sleep 89;exact 525
 |ret u=>
  obtain ⟨v,σ',H',I',r,a,o,kvs,e,nf,p⟩:=q1;exact (v,σ',_,I'.thawT e nf,r,p)
open Hm
theorem AT {H H':Hp} {l:Addr} {u v:HO} (h:H l=some u) (g:ax (556 l v) H'):ax H (ay H' l u):=λb o q=>by
 by_cases e:b=l
 ·subst e;rw[h] at q;cases q;exact ac
 ·rw[ak e];exact g b o (by rw[ak e];exact q)
universe L2
namespace Sw
open PySem L2 XH Hm Wo So PyProof.Rows
noncomputable def dy (row:List 149):List (Key×V):=row.map λp=>((.inr p.1:Key),V.ref p.2)
theorem ot (row:List 149):(dy row).map 111=(row.map 111).map λy=>(.inr y:Key):=by
 unfold dy;rw[He,He]
 rfl
theorem iq:∀{row:List 149},(row.map 111).Nodup->∀{y:Str} {t:Addr},(y,t)∈row->aT 530 264=some 246
 | [],_,_,_,h=>nomatch h
 |p::row,nd,y,t,h=>by
  rw[HY,HL] at nd;show aT (((.inr p.1:Key),V.ref p.2)::dy row) _=_;rcases GM.mp h with e|e
  ·subst e;exact bO rfl
  ·rw[bR (by
    show ¬(Sum.inr p.1:Key)=Sum.inr y;intro z;injection z with z
    exact nd.1 (z▸G9.mpr (_,e,rfl)))]
   exact iq nd.2 e
structure x6 (K:G0) (b:Nat) (vw:Kr) (H:Hp) (d:Addr) (g:Kq):Prop where
 ex:∃kvs:List 103,H d=some 109/\∀x:Str,(aT kvs 278=none/\∀y,g x y=none)∨
  ∃(a:Addr) (row:List 149),aT kvs 278=some 134/\H a=some (.dK 530)/\(row.map 111).Nodup/\row.length<=200/\∀y t,g x y=some t↔(y,t)∈row
 fr:∀x y t,g x y=some t->b7 K b H t (vw x y).1 (vw x y).2
theorem x6.same {K:G0} {b:Nat} {vw:Kr} {H H':Hp} {d:Addr} {g:Kq} (h:x6 K b vw H d g) (e:ax H H'):x6 K b vw H' d g:=by
 obtain ⟨⟨kvs,h1,h2⟩,h3⟩:=h;refine ((kvs,e _ _ h1,λx=>?_),λx y t z=>?_)
 ·rcases h2 x with z|⟨a,row,q1,q2,q3⟩
  ·exact .inl z
  ·exact .inr (a,row,q1,e _ _ q2,q3)
 ·exact (h3 x y t z).same e
structure GG (K:G0) (b:Nat) (Rt:KA->Int->Int->Prop) (F:Addr->Prop) (H:Hp) (l:Addr) (cs:List KA):Prop where
 ex:∃ts:KB,H l=some 146/\ts.length=cs.length/\∀(i:Nat) (t:Addr) (c:KA),ts[i]?=some t->cs[i]?=some c->
  ∃(cl rl:Addr) (p q:Int),H t=some 283/\H cl=some 329/\b7 K (b*c.length) H rl p q/\Rt c p q/\F cl/\H rl=some 82
def dM (l r:Addr) (H H':Hp):Prop:=∀b o,b≠l->b≠r->H b=some o->H' b=some o
theorem dM.refl (l r:Addr) (H:Hp):dM l r H H:=λ_ _ _ _ h=>h
theorem dM.thenS {l r:Addr} {H H1 H2:Hp} (a:dM l r H H1) (b:ax H1 H2):dM l r H H2:=λc o h1 h2 h=>b c o (a c o h1 h2 h)
theorem dM.putL {l r:Addr} {H H1:Hp} (a:dM l r H H1) (u:HO):dM l r H (ay H1 l u):=λc o h1 h2 h=>by rw[ak h1];exact a c o h1 h2 h
theorem dM.putR {l r:Addr} {H H1:Hp} (a:dM l r H H1) (u:HO):dM l r H (ay H1 r u):=λc o h1 h2 h=>by rw[ak h2];exact a c o h1 h2 h
theorem dM.sqT {K:G0} {l r:Addr} {H H':Hp} {ls:List V} {rs:List 103} (g:dM l r H H') (el:H l=some (.lst ls)) (er:H r=some (.dK rs)) {t:Addr} {xs:List V} (h:bU K H t xs):bU K H' t xs:=by
 rcases h with (w|⟨o,w⟩)|w
 ·exact .inl (.inl (g _ _ (cV w el 123) (cV w er 123) w))
 ·exact .inl (.inr (o,g _ _ (cV w el 123) (cV w er 123) w))
 ·exact .inr w
theorem dM.fr {K:G0} {n:Nat} {l r:Addr} {H H':Hp} {ls:List V} {rs:List 103} (g:dM l r H H') (el:H l=some (.lst ls)) (er:H r=some (.dK rs)) {t:Addr} {p q:Int} (h:b7 K n H t p q):b7 K n H' t p q:=(g.sqT el er h.at_,h.pos,h.bp,h.bq)
theorem ou {ts:KB} {c:KA} (n:c≠ []):(c.map V.str)≠ts.map V.ref:=by
 cases c with
 |nil=>exact absurd rfl n
 |cons x c=>
  cases ts with
  |nil=>exact nofun
  |cons t ts=>intro z;injection z with z;cases z
def sd (K:G0) (b:Nat) (Rt:KA->Int->Int->Prop) (F:Addr->Prop) (H:Hp) (ts:KB) (cs:List KA):Prop:=ts.length=cs.length/\∀(i:Nat) (t:Addr) (c:KA),ts[i]?=some t->cs[i]?=some c->
  ∃(cl rl:Addr) (p q:Int),H t=some 283/\H cl=some 329/\b7 K (b*c.length) H rl p q/\Rt c p q/\F cl/\H rl=some 82
theorem sd.same {K:G0} {b:Nat} {Rt:KA->Int->Int->Prop} {F:Addr->Prop} {H H':Hp} {ts:KB} {cs:List KA} (h:sd K b Rt F H ts cs) (g:ax H H'):sd K b Rt F H' ts cs:=⟨h.1,λi t c h1 h2=>by
 obtain ⟨cl,rl,p,q,a1,a2,a3,a4,a5,a6⟩:=h.2 i t c h1 h2;exact (cl,rl,p,q,g _ _ a1,g _ _ a2,a3.same g,a4,a5,g _ _ a6)⟩
theorem sd.keep {K:G0} {b:Nat} {Rt:KA->Int->Int->Prop} {F:Addr->Prop} {l r:Addr} {H H':Hp} {ts ts0:KB} {cs:List KA} {rs:List 103} (h:sd K b Rt F H ts cs) (nz:∀c∈cs,c≠ []) (g:dM l r H H') (el:H l=some (.lst (ts0.map V.ref))) (er:H r=some (.dK rs)):sd K b Rt F H' ts cs:=⟨h.1,λi t c h1 h2=>by
 obtain ⟨cl,rl,p,q,a1,a2,a3,a4,a5,a6⟩:=h.2 i t c h1 h2;have cn:=nz c (G5 h2);exact ⟨cl,rl,p,q,g _ _ (cV a1 el 123) (cV a1 er 123) a1,g _ _ (cV a2 el (λz=>by injection z with z;exact ou cn z)) (cV a2 er 123) a2,g.fr el er a3,a4,a5,g _ _ (cV a6 el 123) (cV a6 er 123) a6⟩⟩
theorem sd.snoc {K:G0} {b:Nat} {Rt:KA->Int->Int->Prop} {F:Addr->Prop} {H:Hp} {ts:KB} {cs:List KA} {t cl rl:Addr} {c:KA} {p q:Int} (h:sd K b Rt F H ts cs) (a1:H t=some 283) (a2:H cl=some 329) (a3:b7 K (b*c.length) H rl p q) (a4:Rt c p q) (a5:F cl) (a6:H rl=some 82):sd K b Rt F H (ts++ [t]) (cs++ [c]):=by
 refine (by rw[G8,G8,h.1];rfl,λi t' c' h1 h2=>?_)
 rcases Nat.lt_or_ge i ts.length with l|l
 ·rw[G6 l] at h1;rw[G6 (by rw[<-h.1];exact l)] at h2
  exact h.2 i t' c' h1 h2
 ·have il:=(G3.mp h1).1;rw[G8,GV] at il;have e:i=ts.length:=by lia
  subst e;rw[G7 173,IK] at h1;rw[h.1,G7 173,IK] at h2;cases h1;cases h2;exact (cl,rl,p,q,a1,a2,a3,a4,a5,a6)
theorem zJ {row:List 149} {ks:KA} (h:ks≠ []):dy row≠bg ks (.bl true):=by
 cases ks with
 |nil=>exact absurd rfl h
 |cons k ks=>
  cases row with
  |nil=>exact nofun
  |cons p row=>intro z;injection z with z;injection z with _ z;cases z
theorem fc {c:KA} (n:c≠ []):iR 159 (-1)=some (.str 348):=by
 obtain ⟨a,x,rfl⟩:∃a x,c=a++ [x]:=365;rw[GW,bS];exact qm _ _
theorem BJ {p q:Int} (f:Fr p q 1 1):p=1/\q=1:=by
 have h1:=f.pos;have h2:=f.same;have h3:=f.bb
 lia
def u6 (g:Kq) (x y:Str):Prop:=∃t,g x y=some t
theorem iG {κ:Type} [DecidableEq κ]:∀{kvs:List 337} {k:κ} {v:V},aT kvs k=some v->(k,v)∈kvs
 | [],_,_,h=>by cases h
 |p::r,k,v,h=>by
  by_cases e:p.1=k
  ·rw[bO e] at h;cases h;subst e;exact Ho
  ·rw[bR e] at h;exact HA _ (iG h)
theorem pN {κ:Type} [DecidableEq κ]:∀{kvs:List 337} {k:κ} {v:V},(k,v)∈kvs->∃w,aT kvs k=some w
 |p::r,k,v,h=>by
  by_cases e:p.1=k
  ·exact (_,bO e)
  ·rw[bR e];rcases GM.mp h with z|z
   ·subst z;exact absurd rfl e
   ·exact pN z
theorem mn {zs:KA} {i:Int} (h0:0<=i) (h:i<(zs.length:Int)):∃v,iR (zs.map V.str) i=some (.str v)/\v∈zs:=by
 obtain ⟨j,rfl⟩:∃j:Nat,i=(j:Int):=⟨i.toNat,by lia⟩
 exact (zs[j]'(by lia),b9 (by rw[GJ,G1 42];rfl),List.getElem_mem _)
noncomputable def fS (row:List 149) (y:Str) (t:Addr):List (Str×Addr):=if (row.any λp=>decide (p.1=y))=true then row.map (λp=>if p.1=y then (p.1,t) else p) else row++ [(y,t)]
theorem rA (row:List 149) (y:Str) (t:Addr):putK 530 264 246=dy (fS row y t):=by
 have e:((dy row).any λkv=>decide (kv.1=(.inr y:Key)))=row.any λp=>decide (p.1=y):=by
  unfold dy;rw[List.any_map]
  congr 1
  funext p
  simp
 unfold putK fS;rw[e]
 split
 ·unfold dy;rw[He,He]
  congr 1
  funext p
  show (if (Sum.inr p.1:Key)=Sum.inr y then (Prod.mk ((Sum.inr p.1:Key)) (V.ref t)) else (Prod.mk (Sum.inr p.1) (V.ref p.2)))=(Prod.mk ((Sum.inr (if p.1=y then (Prod.mk (p.1) (t)) else p).1:Key)) (V.ref (if p.1=y then (Prod.mk (p.1) (t)) else p).2))
  by_cases c:p.1=y
  ·rw[if_pos c,if_pos (by rw[c])]
  ·rw[if_neg c,if_neg 342]
 ·unfold dy;rw[GW]
  rfl
theorem eV (row:List 149) (y:Str) (t:Addr) (nd:(row.map 111).Nodup):((fS row y t).map 111).Nodup/\(fS row y t).length<=row.length+1/\∀z s,(z,s)∈fS row y t↔if z=y then s=t else (z,s)∈row:=by
 unfold fS
 by_cases c:(row.any λp=>decide (p.1=y))=true
 ·rw[if_pos c];obtain ⟨p,hp,hy⟩:=List.any_eq_true.mp c;have hy:=of_decide_eq_true hy;have e:(row.map λp=>if p.1=y then (p.1,t) else p).map 111=row.map (·.1):=by
   rw[He]
   congr 1
   funext p
   show (if p.1=y then (p.1,t) else p).1=p.1
   split<;>rfl
  refine (by rw[e];exact nd,by rw[G2];lia,λz s=>(λh=>?_,λh=>?_))
  ·obtain ⟨q,hq,e⟩:=G9.mp h
   by_cases d:q.1=y
   ·rw[if_pos d] at e;cases e;rw[if_pos d]
   ·rw[if_neg d] at e;subst e;rw[if_neg d];exact hq
  ·by_cases d:z=y
   ·rw[if_pos d] at h;subst h d;exact G9.mpr (p,hp,by rw[if_pos hy,hy])
   ·rw[if_neg d] at h;exact G9.mpr (_,h,by rw[if_neg d])
 ·rw[if_neg c];have no:∀q∈row,q.1≠y:=λq hq e=>c (List.any_eq_true.mpr (q,hq,decide_eq_true e))
  refine (?_,by rw[G8];exact G4 _,λz s=>(λh=>?_,λh=>?_))
  ·rw[GW,Hz];refine (nd,by simp,λa ha b hb=>?_)
   obtain ⟨q,hq,rfl⟩:=G9.mp ha;cases GK.mp hb;exact no q hq
  ·rcases GU.mp h with h|h
   ·rw[if_neg (no _ h)];exact h
   ·cases GK.mp h;rw[if_pos rfl]
  ·by_cases d:z=y
   ·rw[if_pos d] at h;subst h d;exact GN _ (GK.mpr rfl)
   ·rw[if_neg d] at h;exact Hu _ h
structure BD (H H':Hp) (d:Addr) (n:Nat) (dk:List (Key×V)) (g:Kq):Prop where
 at_:H' d=some (.dK dk)
 few:dk.length<=n
 inj:∀x x' a,aT dk 278=some 134->aT dk (.inr x')=some 134->x=x'
 ex:∀x:Str,(aT dk 278=none/\∀y,g x y=none)∨
  ∃(a:Addr) (row:List 149),aT dk 278=some 134/\H' a=some (.dK 530)/\H a=none/\a≠d/\(row.map 111).Nodup/\row.length<=n/\∀y t,g x y=some t↔(y,t)∈row
theorem BD.same {H H1 H2:Hp} {d:Addr} {n:Nat} {dk:List 103} {g:Kq} (h:BD H H1 d n dk g) (e:ax H1 H2):BD H H2 d n dk g:=by
 refine (e _ _ h.at_,h.few,h.inj,λx=>?_)
 rcases h.ex x with z|⟨a,row,q1,q2,q3⟩
 ·exact .inl z
 ·exact .inr (a,row,q1,e _ _ q2,q3)
theorem BD.open {H H1:Hp} {d pn:Addr} {n:Nat} {dk:List 103} {g:Kq} {x0:Str} (h:BD H H1 d n dk g) (hv:aT dk (.inr x0)=none) (hp:H1 pn=some (.dK (dy []))) (hn:H pn=none) (nd:pn≠d) (new:∀x,aT dk (.inr x)≠some 352):BD H (ay H1 d (.dK (putK dk (.inr x0) 352))) d (n+1) (putK dk (.inr x0) 352) g:=by
 refine (ac,HN (eB _ _ _) (by have:=h.few;lia),λx x' a e1 e2=>?_,λx=>?_)
 ·rw[hV] at e1 e2
  split at e1
  ·rename_i c1;injection c1 with c1
   cases e1
   split at e2
   ·rename_i c2;injection c2 with c2
    rw[c1,c2]
   ·exact absurd e2 (new _)
  ·split at e2
   ·cases e2;exact absurd e1 (new _)
   ·exact h.inj x x' a e1 e2
 ·rw[hV]
  by_cases c:x=x0
  ·subst c;rw[if_pos rfl];rcases h.ex x with ⟨z1,z2⟩|⟨a,row,q1,_⟩
   ·refine .inr (pn,[],rfl,by rw[ak nd];exact hp,hn,nd,by simp,HC _,λy t=>?_)
    rw[z2];simp
   ·rw[hv] at q1;cases q1
  ·rw[if_neg 342]
   rcases h.ex x with z|⟨a,row,q1,q2,q3,q4,q5,q6,q7⟩
   ·exact .inl z
   ·exact .inr (a,row,q1,by rw[ak q4];exact q2,q3,q4,q5,by lia,q7)
theorem BD.put {H H1:Hp} {d a:Addr} {n:Nat} {dk:List 103} {g g':Kq} {x0 y0:Str} {t0:Addr} {row:List 149} (h:BD H H1 d n dk g) (hv:aT dk (.inr x0)=some 134) (hr:H1 a=some (.dK 530))
  (hg:∀x y,g' x y=if x=x0/\y=y0 then some t0 else g x y):BD H (ay H1 a (.dK (putK 530 (.inr y0) (.ref t0)))) d (n+1) dk g':=by
 obtain ⟨na,hx⟩:a≠d/\H a=none/\(row.map (·.1)).Nodup/\row.length<=n/\∀y t,g x0 y=some t↔(y,t)∈row:=by
  rcases h.ex x0 with ⟨z,_⟩|⟨a',row',q1,q2,q3,q4,q5,q6,q7⟩
  ·rw[hv] at z;cases z
  ·rw[hv] at q1;cases q1;rw[hr] at q2;have e:dy row=dy row':=by injection q2 with q2;injection q2
   have e':row=row':=by
    unfold dy at e;refine (List.map_inj_right ?_).mp e;rintro ⟨u1,u2⟩ ⟨w1,w2⟩ z;injection z with z1 z2
    injection z1 with z1
    injection z2 with z2
    exact Prod.ext z1 z2
   subst e';exact (q4,q3,q5,q6,q7)
 obtain ⟨hn,nd,ln,mem⟩:=hx;obtain ⟨p1,p2,p3⟩:=eV row y0 t0 nd;refine (by rw[ak (Ne.symm na)];exact h.at_,by have:=h.few;lia,h.inj,λx=>?_)
 by_cases c:x=x0
 ·subst c;refine .inr (a,fS row y0 t0,hv,by rw[ac,rA],hn,na,p1,by lia,λy t=>?_)
  rw[hg,p3]
  by_cases e:y=y0
  ·rw[if_pos ⟨rfl,e⟩,if_pos e];exact ⟨λz=>by injection z with z;exact z.symm,λz=>by rw[z]⟩
  ·rw[if_neg (λz=>e z.2),if_neg e]
   exact mem y t
 ·rcases h.ex x with ⟨z1,z2⟩|⟨b,row',q1,q2,q3,q4,q5,q6,q7⟩
  ·refine .inl (z1,λy=>?_)
   rw[hg,if_neg (λz=>c z.1)]
   exact z2 y
  ·have ba:b≠a:=λe=>c (h.inj x x0 a (e▸q1) hv)
   refine .inr (b,row',q1,by rw[ak ba];exact q2,q3,q4,q5,by lia,λy t=>?_)
   rw[hg,if_neg (λz=>c z.1)]
   exact q7 y t
theorem BD.done {K:G0} {b:Nat} {vw:Kr} {H H':Hp} {d:Addr} {n:Nat} {dk:List 103} {g:Kq} (h:BD H H' d n dk g) (h2:n<=200) (f:∀x y t,g x y=some t->b7 K b H' t (vw x y).1 (vw x y).2):x6 K b vw H' d g:=by
 refine ((dk,h.at_,λx=>?_),f)
 rcases h.ex x with z|⟨a,row,q1,q2,q3,q4,q5,q6,q7⟩
 ·exact .inl z
 ·exact .inr (a,row,q1,q2,q5,by lia,q7)
universe Sw
namespace L2
open PySem PySem.Spec PyProof.Rows
section
variable {X:Cx} {pins:Ky} {σ:St} {H:Hp} {s:Shared} {h':Heap}
theorem aG.turnedNew {ch:KB} {T:Addr} {o:HO} {t':Nat} (I:aG X pins σ H s) (hf:∀b∈ch,dX X pins H b) (k:∀b u,b∉ch->s.heap.get? b=some u->h'.get? b=some u) (hp:s.heap.objs.size<=T) (new:aY X.prog X.w (556 T o) h' T o):
  aG X pins σ (556 T o) {s with heap:=h',toks:=t'}:=by
 have nT:H T=none:=I.hok.fresh hp;have ne:∀b u,H b=some u->b≠T:=λb u e z=>by rw[z,nT] at e;cases e
 have nch:∀b u,H b=some u->b∉ch:=λb u e z=>by rw[(hf b z).1] at e;cases e
 have up:∀b u,H b=some u->ay H T o b=some u:=λb u e=>by rw[ak (ne b u e)];exact e
 refine I.step (g':=s.gens) (d':=s.drawn) (ch:=ch) (λb hb=>?_) (λb u _ _ hc e _=>k b u hc e) (λb u _ _ hc e _=>(u.slots,k b u hc e)) (λb u _ e n=>?_)
  (λb u hc e=>⟨u,k b u hc e⟩) (λb xs e=>up b _ e) (λb u v e=>up b _ e) (λb ps e=>⟨#[],by rw[up b _ e];simp⟩) (λm hm=>?_) (λb u e=>?_) I.bare
 ·obtain ⟨f0,f1,f2,f3,f4,f5⟩:=hf b hb;exact (f3,f1,f4,f5)
 ·have:b≠T:=GL (HK (85 e) hp);rw[ak this];exact n
 ·sleep 237
 ·by_cases c:b=T
  ·subst c;rw[ac] at e;cases e;exact new
  ·rw[ak c] at e;refine (I.hok b u e).stay (λc' v hc q=>k c' v ?_ q) (λ_ q=>up _ _ q) λ_ _ q=>up _ _ q
   rcases hc with z|z
   ·rw[z];exact nch b u e
   ·exact nch c' _ z
theorem aG.turnedAll {ch:KB} {t':Nat} (I:aG X pins σ H s) (hf:∀b∈ch,dX X pins H b) (k:∀b u,b∉ch->s.heap.get? b=some u->h'.get? b=some u):aG X pins σ H {s with heap:=h',toks:=t'}:=by
 have nch:∀b u,H b=some u->b∉ch:=λb u e z=>by rw[(hf b z).1] at e;cases e
 refine I.step (g':=s.gens) (d':=s.drawn) (ch:=ch) (λb hb=>?_) (λb u _ _ hc e _=>k b u hc e) (λb u _ _ hc e _=>(u.slots,k b u hc e)) (λb u _ e n=>n)
  (λb u hc e=>⟨u,k b u hc e⟩) (λb xs e=>e) (λb u v e=>e) (λb ps e=>⟨#[],by rw[e];simp⟩) (λm hm=>?_) (λb u e=>?_) I.bare
 ·obtain ⟨f0,f1,f2,f3,f4,f5⟩:=hf b hb;exact (f3,f1,f4,f5)
 ·sleep 237
 ·refine (I.hok b u e).stay (λc' v hc q=>k c' v ?_ q) (λ_ q=>q) λ_ _ q=>q
  rcases hc with z|z
  ·rw[z];exact nch b u e
  ·exact nch c' _ z
universe z0
noncomputable def DK (K:G0) (l1 l2:Addr):It:=
  ⟨λi H=>∃xs ys x y,aQ K H l1 xs/\aQ K H l2 ys/\xs[i]?=some x/\ys[i]?=some y,
   λi H v H'=>∃(T:Addr) (x y:V),v= .ref T/\H T=none/\(∀xs,aQ K H l1 xs->xs[i]?=some x)/\(∀ys,aQ K H l2 ys->ys[i]?=some y)/\H'=ay H T (.tup [x,y]),
   λi H=>∃xs ys,aQ K H l1 xs/\aQ K H l2 ys/\(xs.length<=i∨ys.length<=i)⟩
structure x8 (h:Heap) (z TI TO i1 i2 l1 l2:Addr) (i:Nat):Prop where
 zip:IsZip h z TI TO .none
 ti:IsPair h TI (.ref i1) (.ref i2)
 to:∃a b,IsPair h TO a b
 it1:h.IsListIter i1 l1 i
 it2:h.IsListIter i2 l2 i
theorem jM {h:Heap} {l b:Addr} {its:Array Value} {o:Obj} {n:String} (hl:h.IsList l its) (e:h.get? b=some o) (c:o.cls= .type n) (ne:n≠ "list"):l≠b:=λz=>by
 obtain ⟨o',e',c',_⟩:=hl;rw[z,e] at e';cases e';rw[c] at c';injection c' with c'
 exact ne c'
theorem x8.apart {h:Heap} {z TI TO i1 i2 l1 l2:Addr} {i:Nat} {xs ys:Array Value} (st:x8 h z TI TO i1 i2 l1 l2 i) (d: [z,TI,TO,i1,i2].Nodup) (h1:h.IsList l1 xs) (h2:h.IsList l2 ys):ZipApart z TI TO i1 i2 l1 l2:=by
 obtain ⟨a,b,eto⟩:=st.to;obtain ⟨o1,e1,c1,_⟩:=st.it1;obtain ⟨o2,e2,c2,_⟩:=st.it2;simp only[HL,GM,HQ,or_false,not_or,Ih,and_true] at d;obtain ⟨⟨d1,d2,d3,d4⟩,⟨d5,d6,d7⟩,⟨d8,d9⟩,d10,_⟩:=d;have lz:∀{l:Addr} {its:Array Value},h.IsList l its->l≠z/\l≠TI/\l≠TO/\l≠i1/\l≠i2:=λhl=>(jM hl st.zip rfl 13,jM hl st.ti rfl 13,jM hl eto rfl 13,jM hl e1 c1 13,jM hl e2 c2 13)
 obtain ⟨p1,p2,p3,p4,p5⟩:=lz h1;obtain ⟨q1,q2,q3,q4,q5⟩:=lz h2;constructor<;>first|assumption|exact Ne.symm (by assumption)
theorem x9 {P:Program} {w:World} {K:G0} {elts:List Expr} {k:Nat} {pos:Pos} (l1 l2 z TI TO i1 i2:Addr) (d: [z,TI,TO,i1,i2].Nodup):Turn P w K (.Tuple elts k pos) (DK K l1 l2) [z,TI,TO,i1,i2] z (λi h=>x8 h z TI TO i1 i2 l1 l2 i) where
 mem:=by simp
 obj:=λi h st b hb=>by
  obtain ⟨a,b',eto⟩:=st.to;obtain ⟨o1,e1,c1,d1⟩:=st.it1;obtain ⟨o2,e2,c2,d2⟩:=st.it2;simp only[GM,HQ,or_false] at hb;rcases hb with q|q|q|q|q<;>subst q
  ·exact (_,st.zip,λv z=>by cases z)
  ·exact (_,st.ti,λv z=>by cases z)
  ·exact (_,eto,λv z=>by cases z)
  ·exact (o1,e1,λv z=>by rw[d1] at z;cases z)
  ·exact (o2,e2,λv z=>by rw[d2] at z;cases z)
 keep:=λi h h' st k=>⟨k _ 73 _ st.zip,k _ 73 _ st.ti,let ⟨a,b,e⟩:=st.to;⟨a,b,k _ (by simp) _ e⟩,st.it1.at λo q=>k _ (by simp) o q,st.it2.at λo q=>k _ (by simp) o q⟩
 item:=by
  intro X hP hw hK hc i pins s σ H E I hf st hg;subst hP hw hK;obtain ⟨xs,ys,x,y,hq1,hq2,hx,hy⟩:=hg;sleep 240;obtain ⟨u,hu,ru⟩:=rv1.get hx;obtain ⟨v,hv,rv⟩:=rv2.get hy;sleep 285;refine wpAny_pyNext_zip_item ap st.zip st.ti eto st.it1 st.it2 p1.isList p2.isList (x:=u) (y:=v) (by simpa using hu) (by simpa using hv) λh1 ho hto hi1 hi2 hT hsz hk=>?_
  refine ⟨_,rfl,wpAny_letOwnedTupleGo_zip (s:={s with heap:=h1}) ho λh2 hz2' hs2=>?_⟩
  have nT:H 35=none:=I.hok.fresh 173;have lt:∀b∈ [z,TI,TO,i1,i2],b<s.heap.objs.size:=λb hb=>by
   obtain ⟨o1,e1,_⟩:=st.it1;obtain ⟨o2,e2,_⟩:=st.it2;simp only[GM,HQ,or_false] at hb;rcases hb with q|q|q|q|q<;>subst q
   ·exact 85 st.zip
   ·exact 85 st.ti
   ·exact 85 eto
   ·exact 85 e1
   ·exact 85 e2
  have zl:=lt z 73
  have hT2:IsPair h2 35 u v:=(hs2.2 _ (IB zl)).trans hT;have kp:∀b o,b∉ [z,TI,TO,i1,i2]->s.heap.get? b=some o->h2.get? b=some o:=λb o hb q=>by
   simp only[GM,HQ,or_false,not_or] at hb;exact (hs2.2 b hb.1).trans (hk b o hb.1 hb.2.2.1 hb.2.2.2.1 hb.2.2.2.2 q)
  have eti:h1.get? TI=some {cls:= .type "tuple",data:= .seq #[.ref i1,.ref i2]}:=hk TI _ ap.TIz ap.TITO ap.TIi1 ap.TIi2 st.ti;refine ⟨.ref 35,ay H 35 (.tup [x,y]),I.turnedNew (t':=s.toks) (ch:= [z,TI,TO,i1,i2]) hf kp 173 (by show 2<=sizeLine;decide,[u,v],.cons ru (.cons rv .nil),(_,hT2,rfl,0,rfl)),rfl,
   ⟨_,x,y,rfl,nT,λys hy'=>by rw[I.list_inj hy' hq1];exact hx,λys hy'=>by rw[I.list_inj hy' hq2];exact hy,rfl⟩,⟨hz2',(hs2.2 _ ap.TIz).trans eti,⟨u,v,(hs2.2 _ ap.TOz).trans hto⟩,hi1.at λo q=>(hs2.2 _ ap.i1z).trans q,hi2.at λo q=>(hs2.2 _ ap.i2z).trans q⟩,λb hb=>?_⟩
  rw[ak (GL (lt b hb))];exact (hf b hb).1
 done:=by
  intro X hP hw hK hc i pins s σ H E I hf st hg;subst hP hw hK;obtain ⟨xs,ys,hq1,hq2,hx⟩:=hg;sleep 240;sleep 285;have e1:=rv1.length;have e2:=rv2.length;refine wpAny_pyNext_zip_end 231 ap st.zip st.ti eto st.it1 st.it2 p1.isList p2.isList (by rcases hx with q|q;exact .inl 324;exact .inr 324) λh' hk=>⟨rfl,I.turnedAll (t':=s.toks) (ch:= [z,TI,TO,i1,i2]) hf λb o hb q=>?_⟩
  simp only[GM,HQ,or_false,not_or] at hb;exact hk b o hb.1 hb.2.2.1 hb.2.2.2.1 hb.2.2.2.2 q
 self:=λ_ _ _ _ _ st h=>wpAny_pyIter_zip st.zip h
theorem BK (n:Nat): [n+4,n+2,n+3,n,n+1].Nodup:=by
 simp
def FR (K:G0) (ta:TA):TI:=λσ H R=>ta σ H λvs H1=>∃l1 l2:Addr,vs= [.ref l1,.ref l2]/\(∃xs,aQ K H1 l1 xs)/\(∃ys,aQ K H1 l2 ys)/\R (DK K l1 l2) H1
theorem boot_zip:bootBuiltins "zip" =some (.type "zip"):=by kernel_rfl
theorem tK {X:Cx} {a b:Expr} {ta:TA} {elts:List Expr} {k:Nat} {tp p pos:Pos} (hg:Gl X "zip") (hm:X.mg "zip" =none) (ha:PA X [a,b] ta) (hs:starEach [a,b] X.env= [(false,eval a X.env),(false,eval b X.env)]:=by rfl) (hs2:starEach [b] X.env= [(false,eval b X.env)]:=by rfl):
  PI X (.Tuple elts k tp) (.Call (.Name "zip" p) [a,b] [] pos) (FR X.K ta):=by
 intro pins s σ H R I h;refine Call_ (fN I hg hm boot_zip (Hl 402 (by rw[hs,hs2]) (by rw[hs2];rfl)))
 obtain ⟨l1,l2,e,⟨xs,hq1⟩,⟨ys,hq2⟩,q⟩:=q1;subst e;cases r1 with
 |cons r rr=>
  cases rr with
  |cons r' rr=>
   cases rr;cases r;cases r';obtain ⟨is1,rv1,p1,hz1⟩:=I1.list hq1;obtain ⟨is2,rv2,p2,hz2⟩:=I1.list hq2;refine call_zip_2 p1.isList p2.isList λh' hz hti hto hi1 hi2 hsz hk=>?_
   refine wpAny_pyIter_zip (s:={s1 with heap:=h'}) hz ?_
   have I2:aG X pins σ H1 {s1 with heap:=h'}:=I1.kept (t':=s1.toks) hk
   refine (101+4,[101+4,101+2,101+3,101,101+1],_,_,H1,rfl,I2,x9 l1 l2 _ _ _ _ _ (BK _),(hz,hti,(_,_,hto),hi1,hi2),λb hb=>?_,q)
   have bl:s1.heap.objs.size<=b:=by
    simp only[GM,HQ,or_false] at hb;rcases hb with q|q|q|q|q<;>rw[q]<;>first|exact G4 _|exact Nat.le_add_right _ _
   exact I1.fpOk bl (I1.hok.fresh bl)
theorem pO {K:G0} {l1 l2:Addr} {xs ys:List V} {g:TG} {tb:TS} {D:Ends} {σ:St} {H:Hp} (Pv:Nat->St->Hp->Prop) (h0:Pv 0 σ H) (hl:∀i σ H,i<=min xs.length ys.length->Pv i σ H->aQ K H l1 xs/\aQ K H l2 ys)
  (hs:∀i x y σ H (T:Addr),xs[i]?=some x->ys[i]?=some y->Pv i σ H->H T=none->g (.ref T) σ (556 T (.tup [x,y])) λσ2 H2=>tb 110 σ2 H2) (hd:∀σ H,Pv (min xs.length ys.length) σ H->D.nx σ H):
  ∃W:Nat->Nat->St->Hp->Prop,251/\∀i m σ H,W i m σ H->
   ((DK K l1 l2).stop i H/\D.nx σ H)∨((DK K l1 l2).go i H/\∃N:St->Hp->Prop,94/\∀x H',(DK K l1 l2).yld i H x H'->g x σ H' λσ2 H2=>tb 151 σ2 H2):=by
 exists λi m σ H=>m=min xs.length ys.length-i/\i<=min xs.length ys.length/\Pv i σ H,(min xs.length ys.length,by simp,HC _,h0)
 sleep 98;obtain ⟨q1,q2⟩:=hl i σ H hi p
 by_cases hlt:i<min xs.length ys.length
 ·refine .inr ((xs,ys,xs[i]'(by lia),ys[i]'(by lia),q1,q2,G1 _,G1 _),Pv 236,λσ' H' p'=>(min xs.length ys.length-236,by lia,rfl,by lia,p'),λx H' y=>?_)
  obtain ⟨T,a,b,rfl,nT,ha,hb,rfl⟩:=y;exact hs i a b σ H T (ha xs q1) (hb ys q2) p nT
 ·have e:i=min xs.length ys.length:=by lia
  subst e;exact .inl ((xs,ys,q1,q2,by lia),hd σ H p)
open XH
theorem mq {X:Cx}:cY X (.type "dict") (λxs H Q=>∃(d:Addr) (kvs:List 103),xs= [.ref d]/\H d=some 109/\∀p,H p=none->Q 133 (556 p 109)):=by
 sleep 27;obtain ⟨d,kvs,rfl,hd,q⟩:=h;cases r with
 |cons r rr=>
  cases rr;cases r;obtain ⟨z,y,vs,rel,D⟩:=jx I.hok hd;refine kt_call_dict y D 237 λh' hm hs=>?_
  have kp:∀b o,s.heap.get? b=some o->h'.get? b=some o:=λb o e=>(hs.2 b 532).trans (67 _ e)
  have big:(35==sysModules)=false:=by
   have:=I.big;exact beq_eq_false_iff_ne.mpr (IB this)
  exact (.ref 35,_,I.laid (o:= .dK kvs) (t':=s.toks) kp 173 (z,big,vs,rel,hm),rfl,q _ I.fresh)
def BL:V->List V->Hp->VK->Prop:=λx vs H Q=>∃(d:Addr) (kvs:List 103),x= .ref d/\vs= []/\H d=some 109/\∀v,H v=none->Q (.ref v) (556 v 295)
theorem ya {X:Cx}:FF X "dict.items" BL:=by
 sleep 185;obtain ⟨d,kvs,rfl,rfl,hd,q⟩:=h;cases rx;have hus:=rv.zero;subst hus;obtain ⟨z,y,ws,rel,D⟩:=jx I.hok hd;refine call_meetsIn PySem.F.slot_dict_items D.typeIs PySem.F.entry_dict_items (PySem.F.args_dict_items_1 _) (meets_dict_items 315 d y) ((ws,D),?_);refine (.ref 35,_,I.laid (o:= .ext λh=>h.IsItemsView 35 d) (t':=s.toks) (λb o e=>67 _ e) 173 (240,(_,81 _ rfl),λh1 h2 (o,e,c,f) k=>(o,k o e,c,f)),rfl,q _ I.fresh)
open Sw So Hm
theorem yb {X:Cx} (hu:X.A.units<cLine):iQ X (compareOp .NotEq) (λx y H Q=>∃a b zs,x= .ref a/\y= .ref b/\aQ X.K H a zs/\aQ X.K H b []/\Q (.bl (!zs.isEmpty)) H):=by
 sleep 63;obtain ⟨a,b,zs,rfl,rfl,h1,h2,hq⟩:=h;cases rx;cases ry;sleep 274;cases r2;cases zs with
 |nil=>
  cases r1;refine SeqAt.RcNeAt.lists (e:=λ_=>true) p1.isList p2.isList rfl hu (λj g1 g2=>absurd g1 73) _ _ _ _ ?_
  exact (.bl false,H,I,by show Value.bool _=Value.bool _;simp,hq)
 |cons z zs=>
  cases r1 with
  |cons r rr=>
   refine SeqAt.RcNeAt.lists_lengths p1.isList p2.isList 73 hu _ _ _ _ ?_
   exact (.bl true,H,I,rfl,hq)
universe L2
namespace Sw
open PySem L2 XH Hm
universe Sw
namespace L2
open PySem PySem.Spec PyProof.Rows XH Sw Hm
theorem yc {K:G0} {a:Addr} {xs:List V} {js:List Nat} {te:TE} {σ:L2.St} {H1:Hp} {Q:VK} (P:Hp->V->V->Hp->Prop) (hS:aQ K H1 a xs) (hz:xs.length<=sizeLine)
  (step:∀x∈xs,∀H3,ax H1 H3->∀Q':VK,(∀y H4,P H3 x y H4->ax H3 H4->Q' y H4)->te (some x::bK js σ) H3 Q')
  (fin:∀(p:Addr) (ys:List V) (H':Hp),H1 p=none->ys.length=xs.length->(∀(i:Nat) (x y:V),xs[i]?=some x->ys[i]?=some y->∃H3 H4,ax H1 H3/\H3 p≠none/\P H3 x y H4/\∀b o,b≠p->H4 b=some o->H' b=some o)->ax H1 H'->H' p=some 263->Q 133 H'):uJ js te σ Q (wT K a) H1:=by
 intro p hp;exists λi m ys H2=>i<=xs.length/\m=xs.length-i/\ys.length=i/\(∀(i:Nat) (x y:V),xs[i]?=some x->ys[i]?=some y->∃H3 H4,ax H1 H3/\H3 p≠none/\P H3 x y H4/\∀b o,b≠p->H4 b=some o->H2 b=some o)/\ax H1 H2/\H2 p=some 263,(xs.length,HC _,rfl,rfl,λi x y _ e=>by simp at e,Sw.ag hp _,ac)
 sleep 146
 by_cases hin:i<xs.length
 ·sleep 183
  sleep 23
  by_cases hj:j<ys.length
  ·rw[G6 hj] at e2;obtain ⟨A,B,q1,q2,q3,q4⟩:=hP j x' y' e1 e2;exact (A,B,q1,q2,q3,λb o n q=>by rw[ak n];exact g4 _ _ (q4 b o n q))
  ·have ej:j=i:=by
    have:=(G3.mp e2).1;simp at this
    lia
   subst ej;rw[G7 42,hl] at e2
   simp at e2;subst e2;rw[ex] at e1;cases e1;exact (H3,H4,g,by rw[e];exact nofun,py,λb o n q=>by rw[ak n];exact q)
 ·sleep 287
  subst e2;exact .inl ((xs,S2,G4 _),fin p ys H2 hp hl hP g e)
universe L2
namespace Sw
open PySem L2 XH Hm
def kR {α:Type} (R:Addr->α->Prop) (as:KB) (xs:List α):Prop:=as.length=xs.length/\∀(i:Nat) (a:Addr) (x:α),as[i]?=some a->xs[i]?=some x->R a x
theorem kR.imp {α:Type} {R S:Addr->α->Prop} {as:KB} {xs:List α} (h:kR R as xs) (f:∀a x,R a x->S a x):kR S as xs:=(h.1,λi a x e1 e2=>f a x (h.2 i a x e1 e2))
theorem kR.nil {α:Type} {R:Addr->α->Prop}:kR R [] ([]:List α):=(rfl,λi a x e=>by simp at e)
theorem kR.snoc {α:Type} {R:Addr->α->Prop} {as:KB} {xs:List α} (h:kR R as xs) {a:Addr} {x:α} (r:R a x):kR R (as++ [a]) (xs++ [x]):=by
 refine (by simp[h.1],λi b y e1 e2=>?_)
 have il:=(G3.mp e1).1
 by_cases c:i<as.length
 ·rw[G6 c] at e1;rw[G6 (by rw[<-h.1];exact c)] at e2
  exact h.2 i b y e1 e2
 ·have ei:i=as.length:=by simp at il;lia
  subst ei;rw[G7 173] at e1;rw[G7 (by rw[h.1];exact G4 _),h.1] at e2
  simp at e1 e2;subst e1 e2;exact r
universe Sw
namespace L2
open PySem PySem.Spec PyProof.Rows XH
theorem iH {X:Cx} {K:G0} (h:X.K=K):CQ X (Dj K):=by
 subst h;exact aA
theorem yd {X:Cx} {K:G0} (h:X.K=K):CQ X (Di K):=by
 subst h;exact aS
theorem tL {X:Cx} {K:G0} (h:X.K=K):cY X 249 (λxs H Q=>∃p ys,xs= [.ref p]/\(aQ K H p ys∨bU K H p ys)/\∀l,H l=none->Q 176 (556 l 263)):=by
 subst h;exact eP
theorem mw:bootBuiltins "dict" =some (.type "dict"):=by kernel_rfl
universe L2
namespace Sw
open PySem L2 XH Hm
universe Sw
namespace L2
open PySem PySem.Spec PyProof.Rows XH
universe L2
namespace Sw
open PySem L2 XH
universe Sw
namespace L2
open PySem PySem.Spec PyProof.Rows XH
def pP (R:V->V->Prop):List V->List V->Prop
 | [],[]=>True
 |x::xs,y::ys=>R x y/\pP R xs ys
 |_,_=>False
theorem pP.len {R:V->V->Prop}:∀{xs ys:List V},pP R xs ys->xs.length=ys.length
 | [],[],_=>rfl
 |_::_,_::_,h=>by simp[pP.len h.2]
 | [],_::_,h=>h.elim
 |_::_,[],h=>h.elim
def DL (K:G0) (H:Hp):Nat->V->V->Prop
 |0,x,y=>x=y/\Gq x
 |n+1,x,y=>DL K H n x y∨∃a b xs ys,x= .ref a/\y= .ref b/\((bU K H a xs/\bU K H b ys)∨(aQ K H a xs/\aQ K H b ys))/\pP (DL K H n) xs ys
theorem lC {A:Around} {s:Shared} {R:V->V->Prop} (hR:∀x y u w,R x y->RelV x u->RelV y w->SeqAt.EqAt A s u w true):∀{xs ys:List V} {us ws:KC},pP R xs ys->aZ xs us->aZ ys ws->∀j (h1:j<us.length) (h2:j<ws.length),SeqAt.EqAt A s us[j] ws[j] true
 | [],[],_,_,_,.nil,.nil,j,h1,_=>absurd h1 73
 |_::_,_::_,_,_,h,.cons r1 _,.cons r2 _,0,_,_=>hR _ _ _ _ h.1 r1 r2
 |_::_,_::_,_,_,h,.cons _ t1,.cons _ t2,j+1,h1,h2=>lC hR h.2 t1 t2 j (by simpa using h1) (by simpa using h2)
theorem tM {X:Cx} {pins:Ky} {σ:St} {H:Hp} {s:Shared} (I:aG X pins σ H s):∀(n:Nat) (A:Around) (x y:V) (u w:Value),A.units+n<cLine->DL X.K H n x y->RelV x u->RelV y w->SeqAt.EqAt A s u w true
 |0,A,x,y,u,w,_,h,r1,r2=>by
  obtain ⟨rfl,hs⟩:=h;exact xM hs r1 r2
 |n+1,A,x,y,u,w,hu,h,r1,r2=>by
  rcases h with h|⟨a,b,xs,ys,rfl,rfl,hq,hA⟩
  ·exact tM I n A x y u w 42 h r1 r2
  cases r1;cases r2
  by_cases e:a=b
  ·subst e;exact SeqAt.EqAt.same _
  refine SeqAt.EqAt.of_refs e ?_;have ih:=λx y u w=>tM I n A.in1 x y u w (by show A.units+1+n<_;lia)
  rcases hq with ⟨h1,h2⟩|⟨h1,h2⟩
  ·obtain ⟨i1,v1,p1,_⟩:=I.tuple h1;obtain ⟨i2,v2,p2,_⟩:=I.tuple h2;have k:=SeqAt.RcAt.tuples (A:=A) (e:=λ_=>true) p1 p2 42 λj g1 g2=>lC (A:=A.in1) (s:=s) ih hA v1 v2 j (by simpa using g1) (by simpa using g2)
   have e1:∀m,((List.range m).all λ_=>true)=true:=λm=>by simp
   rw[e1] at k
   simpa [<-v1.length,<-v2.length,hA.len] using k
  ·sleep 273;have k:=SeqAt.RcAt.lists (A:=A) (e:=λ_=>true) p1.isList p2.isList (by simp[<-v1.length,<-v2.length,hA.len]) 42 λj g1 g2=>lC (A:=A.in1) (s:=s) ih hA v1 v2 j (by simpa using g1) (by simpa using g2)
   have e1:∀m,((List.range m).all λ_=>true)=true:=λm=>by simp
   rw[e1] at k;exact k
theorem BM {X:Cx} (n:Nat) (hu:X.A.units+(n+1)<cLine):iQ X (compareOp .Eq) (λx y H Q=>∃a b xs ys,x= .ref a/\y= .ref b/\aQ X.K H a xs/\aQ X.K H b ys/\pP (DL X.K H n) xs ys/\Q 71 H):=by
 sleep 63;obtain ⟨a,b,xs,ys,rfl,rfl,h1,h2,hA,hq⟩:=h;cases rx;cases ry;sleep 273;refine SeqAt.eq_listAt (e:=λ_=>true) p1.isList p2.isList (by simp[<-v1.length,<-v2.length,hA.len]) 42 (λj g1 g2=>?_) ?_
 ·exact lC (A:=X.A.in1) (s:=s) (λx y u w=>tM I n X.A.in1 x y u w (by show X.A.units+1+n<_;lia)) hA v1 v2 j (by simpa using g1) (by simpa using g2)
 ·exact 428
universe L2
namespace Sw
open PySem L2 XH
universe Sw
namespace L2
open PySem PySem.Spec PyProof.Rows XH Sw So
universe L2
namespace Sw
open PySem L2 XH Hm
universe Sw
namespace L2
open PySem PySem.Spec PyProof.Rows XH Sw Hm
universe L2
namespace Sw
open PySem L2 XH Hm
theorem jN {as:KB} {i:Nat} {y:V} (h:(as.map V.ref)[i]?=some y):∃a,as[i]?=some a/\y= .ref a:=by
 rw[GJ] at h;obtain ⟨a,e,rfl⟩:=HB.mp h;exact (a,e,rfl)
theorem gM {α:Type} {f:α->V} {xs:List α} {i:Nat} {x:α} (h:xs[i]?=some x):(xs.map f)[i]?=some (f x):=by rw[GJ,h];rfl
universe Sw
namespace L2
open PySem PySem.Spec PyProof.Rows XH Sw Hm
universe L2
namespace Sw
open PySem L2 XH Hm
universe Sw
namespace L2
open PySem PySem.Spec PyProof.Rows XH Sw Hm
universe L2
namespace Sw
open PySem L2 XH Hm
universe Sw
namespace L2
open PySem PySem.Spec PyProof.Rows XH Sw Hm
universe L2
namespace Sw
open PySem L2 XH Hm
theorem fT {α:Type} {P:List α->Prop} (h:∀a,P [a]):∀us:List α,us.length=1->P us
 | [a],_=>h a
theorem bX {α:Type} {P:List α->Prop} (h:∀a b,P [a,b]):∀us:List α,us.length=2->P us
 | [a,b],_=>h a b
theorem fU {α:Type} {P:List α->Prop} (h:∀a b c,P [a,b,c]):∀us:List α,us.length=3->P us
 | [a,b,c],_=>h a b c
theorem mC {α:Type} {P:List α->Prop} (h:∀a b c d,P [a,b,c,d]):∀us:List α,us.length=4->P us
 | [a,b,c,d],_=>h a b c d
theorem BN {α:Type} {P:List α->Prop} (h:∀a b c d e,P [a,b,c,d,e]):∀us:List α,us.length=5->P us
 | [a,b,c,d,e],_=>h a b c d e
universe Sw
namespace Wo
open PySem Hm So
universe Wo
namespace L2
open PySem PySem.Spec PyProof.Rows XH Hm Wo
universe L2
namespace Sw
open PySem L2 XH Hm Wo So PyProof.Rows
noncomputable def dN (vw:Kr) (c:KA):Nat->Int×Int
 |0=>(1,1)
 |n+1=>((dN vw c n).1*(vw (c.getD n "") (c.getD (n+1) "")).1,(dN vw c n).2*(vw (c.getD n "") (c.getD (n+1) "")).2)
theorem u7 (vw:Kr) (c:KA) (x:Str):∀n,n<c.length->dN vw 420 n=dN vw c n
 |0,_=>rfl
 |n+1,h=>by
  have ih:=u7 vw c x n 42
  have e1:(c++ [x]).getD n "" =c.getD n "" :=by rw[GS,GS,G6 42]
  have e2:(c++ [x]).getD (n+1) "" =c.getD (n+1) "" :=by rw[GS,GS,G6 h]
  unfold dN;rw[ih,e1,e2]
theorem ye (vw:Kr) (c:KA) (x:Str) (n:c≠ []):dN vw 420 c.length=((dN vw c 96).1*(vw 348 x).1,(dN vw c 96).2*(vw 348 x).2):=by
 obtain ⟨a,y,rfl⟩:∃a y,c=a++ [y]:=365;have l:(a++ [y]).length=a.length+1:=by rw[G8];rfl
 rw[bS,l,Nat.add_sub_cancel];show (Prod.mk ((dN vw (a++ [y]++ [x]) a.length).1*_) ((dN vw (a++ [y]++ [x]) a.length).2*_))=_;rw[u7 vw (a++ [y]) x a.length 42]
 have e1:(a++ [y]++ [x]).getD a.length "" =y:=by rw[GS,List.append_assoc,G7 173,IK];rfl
 have e2:(a++ [y]++ [x]).getD (a.length+1) "" =x:=by rw[GS,G7 42,l,IK];rfl
 rw[e1,e2]
def oz (vw:Kr) (c:KA) (p q:Int):Prop:=c≠ []/\p*(dN vw c 96).2=(dN vw c 96).1*q/\b6 p q=1/\0<q
theorem yf (vw:Kr) (x:Str):oz vw [x] 1 1:=(nofun,rfl,by decide,by decide)
theorem u8 {vw:Kr} {c:KA} {p q r s:Int} {x:Str} (h:oz vw c p q) (f:Fr r s (p*(vw 348 x).1) (q*(vw 348 x).2)):oz vw 420 r s:=by
 obtain ⟨n,e,_,q0⟩:=h;refine (by simp,?_,f.low,f.pos)
 rw[G8,GV,Nat.add_sub_cancel,ye vw c x n];have e2:=f.same;sleep 228;generalize (vw 348 x).1=u at*;generalize (vw 348 x).2=v at*;show r*(B*v)=(T*u)*s;refine fP (k:=q) ?_ 42
 grind
theorem BD.mono {H H1:Hp} {d:Addr} {n m:Nat} {dk:List 103} {g:Kq} (h:BD H H1 d n dk g) (l:n<=m):BD H H1 d m dk g:=⟨h.at_,HN h.few l,h.inj,λx=>by
 rcases h.ex x with z|⟨a,row,q1,q2,q3,q4,q5,q6,q7⟩
 ·exact .inl z
 ·exact .inr (a,row,q1,q2,q3,q4,q5,HN q6 l,q7)⟩
theorem BD.new {H H1:Hp} {d pn:Addr} {n:Nat} {dk:List 103} {g:Kq} (h:BD H H1 d n dk g) (hn:H1 pn=none) (x:Str):aT dk (.inr x)≠some (.ref pn):=λz=>by
 rcases h.ex x with ⟨w,_⟩|⟨a,row,q1,q2,_⟩
 ·rw[w] at z;cases z
 ·rw[z] at q1;cases q1;rw[hn] at q2;cases q2
noncomputable def hF (F:KB):Hp:=λa=>if a∈F then none else some 130
theorem gO {F:KB} {a:Addr}:hF F a=none↔a∈F:=by
 unfold hF
 by_cases h:a∈F
 ·simp[h]
 ·simp[h]
theorem zK {F F':KB} {H1:Hp} {d:Addr} {n:Nat} {dk:List 103} {g:Kq} (h:BD (hF F) H1 d n dk g) (s:∀a∈F,a∈F'):BD (hF F') H1 d n dk g:=
 ⟨h.at_,h.few,h.inj,λx=>by
  rcases h.ex x with z|⟨a,row,q1,q2,q3,q4⟩
  ·exact .inl z
  ·exact .inr (a,row,q1,q2,gO.mpr (s a (gO.mp q3)),q4)⟩
theorem pQ {H0 H1:Hp} {d l:Addr} {n:Nat} {dk:List 103} {g:Kq} (h:BD H0 H1 d n dk g) (ld:l≠d) (li:∀y,aT dk (.inr y)≠some 176) (u:HO):BD H0 (ay H1 l u) d n dk g:=
 ⟨by rw[ak (λz=>ld z.symm)];exact h.at_,h.few,h.inj,λx=>by
  rcases h.ex x with z|⟨a,row,q1,q2,q3⟩
  ·exact .inl z
  ·exact .inr (a,row,q1,by rw[ak (λz=>li x (by rw[<-z];exact q1))];exact q2,q3)⟩
theorem zL {H0 H1 H2:Hp} {d:Addr} {n:Nat} {dk:List 103} {g:Kq} {F0:KB} (h:BD H0 H1 d n dk g) (k:KF F0 H1 H2) (hd:d∉F0) (hi:∀y a,aT dk 264=some 134->a∉F0):BD H0 H2 d n dk g:=
 ⟨k _ _ hd h.at_,h.few,h.inj,λx=>by
  rcases h.ex x with z|⟨a,row,q1,q2,q3⟩
  ·exact .inl z
  ·exact .inr (a,row,q1,k _ _ (hi x a q1) q2,q3)⟩
noncomputable def E7:KA:= ["part","stand","bar","allow","known","held","barred","stand_in","learn"]
structure LB (C:Addr) (F:KB) (H:Hp) (x:Addr) (rows:Kw) (m:Nat) (g:Kq) (bs ns:KA):Prop where
 ex:∃(F0:KB) (dx s b:Addr) (fs:List 215) (dk:List 103),LA C F0 H x rows ns/\H x=some 156/\fs.lookup ("stands" :Str)=some (.ref s)/\fs.lookup ("bars" :Str)=some 447/\BD (hF F) H s m dk g/\H b=some (.dK (bg bs 71))/\
  s≠b/\s∉F0/\b∉F0/\(∀y a,aT dk 264=some 134->a∉F0/\a≠b)/\(∀a∈F0,a∈F)/\s∈F/\b∈F/\(∀a∈F,∃kv,H a=some (.dK kv))/\∀m∈E7,fs.lookup m=none
section
variable {C:Addr} {F:KB} {H H':Hp} {x:Addr} {rows:Kw} {m:Nat} {g:Kq} {bs ns:KA}
theorem LB.same (h:LB C F H x rows m g bs ns) (e:ax H H'):LB C F H' x rows m g bs ns:=by
 sleep 10;exact ⟨F0,dx,s,b,fs,dk,la.same e,e _ _ ex,es,eb,bd.same e,e _ _ hb,q1,q2,q3,q4,q5,q6,q7,λa ha=>by obtain ⟨kv,z⟩:=q8 a ha;exact ⟨kv,e _ _ z⟩,q9⟩
theorem LB.not (h:LB C F H x rows m g bs ns) {a:Addr} {o:HO} (e:H a=some o) (k:∀kv,o≠ .dK kv):a∉F:=λz=>by
 sleep 10;obtain ⟨kv,e'⟩:=q8 a z;rw[e] at e';exact k kv (HH e')
theorem LB.free (h:LB C F H x rows m g bs ns) {a:Addr} (e:H a=none):a∉F:=λz=>by
 sleep 10;obtain ⟨kv,e'⟩:=q8 a z;rw[e] at e';cases e'
theorem LB.la (h:LB C F H x rows m g bs ns):∃F0,LA C F0 H x rows ns/\(∀a∈F0,a∈F)/\∀H' rows' ms,LA C F0 H' x rows' ms->KF F0 H H'->LB C F H' x rows' m g bs ms:=by
 sleep 10;refine (F0,la,q5,λH' rows' ms la' k=>?_)
 have xn:x∉F0:=la.not ex 84
 refine (F0,dx,s,b,fs,dk,la',k _ _ xn ex,es,eb,zL bd k q2 λy a e=>(q4 y a e).1,k _ _ q3 hb,q1,q2,q3,q4,q5,q6,q7,λa ha=>?_,q9)
 by_cases c:a∈F0
 ·exact la'.dict c
 ·obtain ⟨kv,e⟩:=q8 a ha;exact (kv,k _ _ c e)
theorem LB.at_ (h:LB C F H x rows m g bs ns):∃(dx s b:Addr) (fs:List 215) (dk:List 103),H x=some 156/\fs.lookup ("stands" :Str)=some (.ref s)/\fs.lookup ("bars" :Str)=some 447/\BD (hF F) H s m dk g/\H b=some (.dK (bg bs 71))/\(∀m∈E7,fs.lookup m=none)/\s∈F/\b∈F/\
  (∀ms,LB C F (556 b (.dK (bg ms 71))) x rows m g ms ns/\KF F H (556 b (.dK (bg ms 71)))):=by
 sleep 10;refine (dx,s,b,fs,dk,ex,es,eb,bd,hb,q9,q6,q7,λms=>((F0,dx,s,b,fs,dk,?_,?_,es,eb,pQ bd (λz=>q1 z.symm) (λy e=>(q4 y b e).2 rfl) _,ac,q1,q2,q3,q4,q5,q6,q7,λa ha=>?_,q9),KF.put _ q7))
 ·obtain ⟨dx',p,n,fs',rs,a,b',c,d,e,f,i,j,k⟩:=la.ex;subst i;have bp:p≠b:=λz=>q3 199
  have bn:n≠b:=λz=>q3 199
  have br:b∉rs:=λz=>q3 199
  have xb:x≠b:=λz=>by rw[z,hb] at a;cases a
  exact (dx',p,n,fs',rs,by rw[ak xb];exact a,b',c,d.other br,by rw[ak bp];exact e,by rw[ak bn];exact f,rfl,j,k)
 ·rw[ak (λz=>by rw[z,hb] at ex;cases ex)]
  exact ex
 ·by_cases c:a=b
  ·exact (_,by rw[c];exact ac)
  ·obtain ⟨kv,e⟩:=q8 a ha;exact (kv,by rw[ak c];exact e)
theorem LB.stands (h:LB C F H x rows m g bs ns) {s r:Addr} {dx:Addr} {fs:List 215} {u:HO} {m':Nat} {dk':List 103} {g':Kq} {F':KB} (ex:H x=some 156) (es:fs.lookup ("stands" :Str)=some (.ref s)) (kF:∀a∈F,a∈F') (K2:∀a o,a∉F'->H a=some o->H' a=some o)
  (keep:∀a o,H a=some o->a≠s->(∀dk,H s=some (.dK dk)->∀y,aT dk (.inr y)≠some 134)->H' a=some o) (bd:BD (hF F') H' s m' dk' g') (inn:∀dk,H s=some (.dK dk)->∀y a,aT dk' 264=some 134->aT dk 264=some (.ref a)∨H a=none) (dd:∀a∈F',∃kv,H' a=some (.dK kv)):LB C F' H' x rows m' g' bs ns:=by
 obtain ⟨F0,dx',s',b,fs',dk,la,ex',es',eb,bd0,hb,q1,q2,q3,q4,q5,q6,q7,q8,q9⟩:=h.ex;rw[ex'] at ex;cases ex;rw[es'] at es;cases es;have out:∀a,a∈F0->a≠s/\(∀dk,H s=some (.dK dk)->∀y,aT dk (.inr y)≠some 134):=λa ha=>⟨λz=>q2 (by rw[<-z];exact ha),λdk2 e y z=>by
  rw[bd0.at_] at e;cases e;exact (q4 y a z).1 ha⟩
 have bo:b≠s/\(∀dk,H s=some (.dK dk)->∀y,aT dk (.inr y)≠some 447):=⟨λz=>q1 z.symm,λdk2 e y z=>by
  rw[bd0.at_] at e;cases e;exact (q4 y b z).2 rfl⟩
 have kp:∀a∈F0,∀o,H a=some o->H' a=some o:=λa ha o e=>keep a o e (out a ha).1 (out a ha).2
 have xk:H' x=some (.ins C dx fs):=keep x _ ex' (λz=>by rw[z,bd0.at_] at ex';cases ex') λdk2 e y z=>by
  rw[bd0.at_] at e;cases e;rcases bd0.ex y with ⟨z1,_⟩|⟨a,row,z1,z2,_⟩
  ·rw[z] at z1;cases z1
  ·rw[z] at z1;cases z1;rw[ex'] at z2;cases z2
 refine (F0,dx,s,b,fs,dk',?_,xk,es',eb,bd,keep b _ hb bo.1 bo.2,q1,q2,q3,λy a e=>?_,λa ha=>kF a (q5 a ha),kF s q6,kF b q7,dd,q9)
 ·obtain ⟨dx',p,n,fs',rs,a,b',c,d,e,f,i,j,k⟩:=la.ex;subst i;rw[ex'] at a;cases a;refine (dx,p,n,fs,rs,xk,b',c,?_,kp p 73 _ e,kp n 73 _ f,rfl,j,k)
  clear f e c b' k;have:∀{rows:Kw} {rs:KB},bW H rows rs->(∀a∈rs,∀o,H a=some o->H' a=some o)->bW H' rows rs:=λ{rows}=>by
   induction rows with
   |nil=>intro rs d _;cases rs with|nil=>exact d|cons _ _=>exact d.elim
   |cons r1 rows ih=>
    intro rs d kk;cases rs with
    |nil=>exact d.elim
    |cons a rs=>exact ⟨kk a 73 _ d.1,ih d.2 λb hb=>kk b (by simp[hb])⟩
  exact this d λa ha=>kp a (by simp[ha])
 ·rcases inn dk bd0.at_ y a e with z|z
  ·exact q4 y a z
  ·refine (λw=>?_,λw=>?_)
   ·obtain ⟨kv,e'⟩:=la.dict w;rw[z] at e';cases e'
   ·rw[w,hb] at z;cases z
universe z0
universe Sw
namespace L2
open PySem PySem.Spec PyProof.Rows XH
open Sw So
theorem ir {X:Cx} (hc:X.calm=true):cY X (.builtin "sorted") (λxs H Q=>∃d ks kvs,xs= [.ref d]/\H d=some 109/\kvs.map 111=ks.map (λy=>(.inr y:Key))/\ks.Nodup/\ks.length<64/\
  ∀p ys,H p=none->ys.Perm ks->sortedS ys=true->Q 133 (556 p 153)):=by
 sleep 27;obtain ⟨d,ks,kvs,rfl,hk,ek,nd,l64,q⟩:=h;sleep 254;cases ru;sleep 137;have lw:ws.length=ks.length:=by
  rw[<-rel.length];have:=congrArg List.length ek
  simpa using this
 sleep 82;refine wpAny_bind (rb (A:=X.A.in1) 214 231 hat 237 λh' tk acc hlt hkp hacc=>?_)
 have la:acc.toList.length=ks.length:=by rw[Hi,hacc.1,lw]
 have SA:StrsAre acc.toList ks:=uV la λj v hv=>by
  obtain ⟨k,x,e1,e2⟩:=hacc.2 j v (by rw[<-HX];exact hv)
  obtain ⟨⟨k',v'⟩,e3,rfl,_⟩:=j6 rel e1;have e4:(kvs.map 111)[j]?=some k':=by rw[GJ,e3];rfl
  rw[ek,GJ] at e4;cases e5:ks[j]? with
  |none=>rw[e5] at e4;cases e4
  |some y=>
   rw[e5] at e4;cases e4;obtain ⟨t,ht⟩:=nW e2;exact (y,t,rfl,ht)
 refine wpAny_bind (wpAny_newList ?_ (by rw[la,<-lw,<-rel.length];exact z))
 have hoL:(h'.push (seqObj "list" acc.toList.toArray 0)).get? h'.objs.size=some (seqObj "list" acc.toList.toArray 0):=81 _ rfl;refine wpAny_bind (wpAny_holding (wpAny_call_entry slot_list_sort (_,hoL,rfl) entry_list_sort (list_sort_treeK strKind_oneLt hoL SA.keysOf (λv₁ v₂ rest e=>keyKind_strs (by rw[<-e];exact SA)) (by rw[la];exact l64) λst' hp hs=>(ν,?_)) (args_list_sort _)))
 obtain ⟨ys,h1,h2,h3⟩:=sorted_out_str SA hp hs;have sl:s.heap.objs.size<=h'.objs.size:=Nat.le_of_lt hlt;refine wpAny_pure (ν,.ref h'.objs.size,_,I.laid (a:=h'.objs.size) (o:= .lst 410) (h':=sortedHeap (h'.push (seqObj "list" acc.toList.toArray 0)) h'.objs.size acc.toList 286) (t':=tk) (λb o eo=>?_) sl ?_,rfl,q _ ys (I.hok.fresh sl) h2 h3)
 ·have eo':=hkp b o eo;have bl:=85 eo';sleep 170
  exact 67 _ eo'
 ·sleep 286;exists by rw[G2,h2.length_eq,<-lw,<-rel.length];exact z,((arrOf st').map (·.2)).toList,e,jI h1
  rw[Array.toArray_toList];exact he
universe L2
namespace Sw
open PySem L2 XH Hm
universe Sw
namespace L2
open PySem PySem.Spec PyProof.Rows XH Sw Hm
universe L2
namespace Sw
open PySem L2 XH Hm
universe Sw
namespace L2
open PySem PySem.Spec PyProof.Rows XH Sw
universe L2
namespace Sw
open PySem L2 XH Hm
universe Sw
namespace L2
open PySem PySem.Spec PyProof.Rows XH Sw
universe L2
namespace Sw
open PySem L2 XH Hm PySem.NumText
universe Sw
namespace L2
open PySem PySem.Spec PyProof.Rows XH Sw
theorem pR:∀{xs:List V} {us:KC},xs.length=us.length->(∀(j:Nat) (x:V) (u:Value),xs[j]?=some x->us[j]?=some u->RelV x u)->aZ xs us
 | [],[],_,_=> .nil
 |x::xs,u::us,h,f=> .cons (f 0 x u rfl rfl) (pR 209 λj y w e1 e2=>f (j+1) y w (by simpa using e1) (by simpa using e2))
 | [],_::_,h,_=>by simp at h
 |_::_,[],h,_=>by simp at h
theorem tN {X:Cx} (hc:X.calm=true):cY X 249 (λxs H Q=>∃(d:Addr) (kvs:List 103),xs= [.ref d]/\H d=some 109/\∀l,H l=none->Q 176 (556 l (.lst 417))):=by
 sleep 27;obtain ⟨d,kvs,rfl,hk,q⟩:=h;sleep 254;cases ru;sleep 137;refine PySem.W.kdl_call 214 231 hat 237 λh' tk acc' c' kp hS' hacc=>?_
 have hv:aZ 417 acc'.toList:=pR (by
   have el:acc'.toList.length=acc'.size:=by simp
   rw[G2,el,hacc.1,rel.length]) λj x u e1 e2=>by
  sleep 162
  obtain ⟨u',e6,_⟩:=qP rel j e3;rw[e6] at e4;cases e4;exact nW e5
 sleep 80
universe L2
namespace Sw
open PySem L2 XH PyProof.Rows Wo Hm
def AU (K:G0):Sp:=λvs H Q _=>∃(d:Addr) (good:Str) (b m:Nat) (vw:Kr) (g:Kq) (U:KA) (Rt:KA->Int->Int->Prop),vs= [.ref d,.str good]/\x6 K b vw H d g/\
 (∀x y,u6 g x y->y∈U)/\U.length<=m/\m<=60/\1<=b/\b*(m+2)<=4000/\Rt [good] 1 1/\(∀c p q x t r s,Rt c p q->g 348 x=some t->Fr r s (p*(vw 348 x).1) (q*(vw 348 x).2)->Rt 420 r s)/\
 ∀(l:Addr) (cs:List KA) (H':Hp),ax H H'->H l=none->GG K b Rt 376 H' l cs->gR (u6 g) good cs cs.length 289->Q 176 H'
def oA:Sp:=λvs H Q _=>∃(d:Addr) (good:Str) (rows:Kw) (ps:Kx),vs= [.ref d,.str good]/\DD H d rows/\cF rows ps/\ps.length<=60/\
 ∀(l:Addr) (H':Hp) (ys:KA),ax H H'->H l=none->H' l=some 153->sortedS ys=true->ys.Nodup->(∀y,y∈ys↔Led ps good y)->Q 176 H'
theorem mD {p st b n:V}:(jJ p st b n).lookup ("stands" :Str)=some st/\(jJ p st b n).lookup ("bars" :Str)=some b/\∀m∈E7,(jJ p st b n).lookup m=none:=by
 refine (?_,?_,λm hm=>?_)
 ·unfold jJ;rw[aK,if_neg 13,aK,if_neg 13,aK,if_pos rfl]
 ·unfold jJ;rw[aK,if_neg 13,aK,if_pos rfl]
 ·unfold E7 at hm;simp only[GM,HQ,or_false] at hm;unfold jJ;rcases hm with rfl|rfl|rfl|rfl|rfl|rfl|rfl|rfl|rfl<;>(rw[aK,if_neg 13,aK,if_neg 13,aK,if_neg 13,aK,if_neg 13];rfl)
theorem BO {H0 H1:Hp} {d:Addr} (e:H1 d=some 83):BD H0 H1 d 0 [] (λ_ _=>none):=(e,G4 _,λx x' a h=>314,λx=> .inl (rfl,λ_=>rfl))
def tO (H:Hp) (r:V) (p q:Int):Prop:=(r= .non/\p=1/\q=1)∨∃t,r= .ref t/\H t=some 82/\0<p/\mW p q/\Bd 200 p/\Bd 200 q
def kK (K:G0) (H:Hp) (r:V):Prop:=r≠ .non/\(vV K H r false∨∃(t:Addr) (p q:Int),r= .ref t/\H t=some 82/\vV K H r true/\p<=0)
theorem kK.same {K:G0} {H H':Hp} {r:V} (h:kK K H r) (g:ax H H'):kK K H' r:=by
 obtain ⟨n,h|⟨t,p,q,e,et,f,z⟩⟩:=h
 ·exact (n,.inl (h.same g))
 ·exact (n,.inr (t,p,q,e,g _ _ et,f.same g,z))
noncomputable def pS (g:Kq) (zg zo:Str) (t:Addr):Str->Str->KG:=λa b=>if a=zg/\b=zo then some t else g a b
section
variable (K:G0) (C cN cS cI:Addr)
def oB:Sp:=λvs H Q _=>∃(x dx:Addr),vs= [.ref x]/\H x=some (.ins C dx [])/\∀H' F,(∀a o,a≠x->H a=some o->H' a=some o)->(∀a∈F,H a=none)->LB C F H' x [] 0 (λ_ _=>none) [] []->Q .non H'
def yg:Sp:=λvs H Q E=>∃(x:Addr) (v:V) (F:KB) (rows:Kw) (m:Nat) (g:Kq) (bs ns:KA),vs= [.ref x,v]/\LB C F H x rows m g bs ns/\bs.length<=200/\ns.Nodup/\ns.length<=79/\(lA v∨gc K H v)/\
 (¬lA v->∀H',ax H H'->E (.ref cN) none H')/\
 ∀z,v= .str z->Nm z->∀H' ms,KF F H H'->LB C F H' x rows m g (cB bs z) ms->ms.Nodup->(∀y,y∈ms↔y∈ns∨y=z)->Q .non H'
def mE:Sp:=λvs H Q E=>∃(x:Addr) (v w r:V) (F:KB) (rows:Kw) (m:Nat) (g:Kq) (bs ns:KA),vs= [.ref x,v,w,r]/\LB C F H x rows m g bs ns/\m<=1000/\ns.Nodup/\ns.length<=78/\(lA v∨gc K H v)/\(lA w∨gc K H w)/\((∃p q,tO H r p q)∨kK K H r)/\
 (¬(lA v/\lA w)->∀H',ax H H'->E (.ref cN) none H')/\
 ∀zg zo,v= .str zg->w= .str zo->Nm zg->Nm zo->
  ((zg=zo∨u6 g zg zo∨kK K H r)->∀H',ax H H'->E (.ref cS) none H')/\
  (zg≠zo->¬u6 g zg zo->∀p q,tO H r p q->∀(F':KB) (H':Hp) (ms:KA) (t:Addr),KF F H H'->FG F F' H->LB C F' H' x rows (m+2) (pS g zg zo t) bs ms->H' t=some 82->(∀r',r= .ref r'->t=r')->ms.Nodup->341->Q .non H')
def Blk (ps:Kx) (bs:KA) (y:Str):Prop:=∃b∈bs,Led ps y b
structure wg (K:G0) (H:Hp) (g:Kq) (vw:Kr):Prop where
 fr:∀x y t,g x y=some t->H t=some (.tup [.int (vw x y).1,.int (vw x y).2])/\0<(vw x y).1/\mW (vw x y).1 (vw x y).2/\Bd 200 (vw x y).1/\Bd 200 (vw x y).2
 nm:∀x y t,g x y=some t->Nm x/\Nm y
universe z0
universe Sw
namespace L2
open PySem PySem.Spec PyProof.Rows XH Sw So
structure T2 (h:Heap) (a:Addr) (y:Str) (m:Addr):Prop where
 ex:∃(o:Obj) (n:Nat) (t:Tok),h.get? a=some o/\o.cls= .type "tuple" /\o.data= .seq #[.str y t,.ref m] n
section
variable {prog:Program} {w:World} {A:Around} {E:Ks} {s:Shared}
theorem zM {nm:Addr->Option Str} (inj:∀a b y,nm a=some y->nm b=some y->a=b) (tup:∀a y,nm a=some y->∃m,T2 s.heap a y m):CU prog w A E s (cK nm) (tuples' true):=by
 intro st x y Q hk hx hy h;obtain ⟨ka,ha⟩:=hx;obtain ⟨kb,hb⟩:=hy;have e1:kk (cK nm) x=ka:=by unfold kk;rw[ha];rfl
 have e2:kk (cK nm) y=kb:=by unfold kk;rw[hb];rfl
 rw[e1,e2] at h;obtain ⟨a,na,xa,ea,rfl⟩:=uZ ha;obtain ⟨b,nb,xb,eb,rfl⟩:=uZ hb;obtain ⟨m1,o1,n1,t1,g1,c1,d1⟩:=tup a na ea;obtain ⟨m2,o2,n2,u1,g2,c2,d2⟩:=tup b nb eb;rw[lt'_eq];sleep 139;rw[hk,xa,xb];refine wpS_bind (wpS_lift (wpAny_attempt (PySem.W.kat_lt (b:=true) g1 d1 g2 d2 ?_)))
 by_cases hab:a=b
 ·subst hab;rw[g1] at g2;cases g2;rw[d1] at d2;cases d2;sleep 263;sleep 263;refine PySem.W.kat_nil (rfl,?_);rw[ea] at eb;cases eb;have z:(cK nm).blt na.cps.toList na.cps.toList=false:=(cK nm).irrefl _;rw[z] at h;exact wpS_pure h
 ·have ne:na≠nb:=λz=>hab (inj a b na ea (z▸eb))
  refine PySem.W.kat_cons ?_;have q:=SeqAt.EqAt.str_str (A:=A) (s:=s) na t1 nb u1;rw[show (na==nb)=false from beq_eq_false_iff_ne.mpr ne] at q
  refine q _ _ _ _ (PySem.W.kat_no ?_);refine strKind_oneLt prog w A _ s (.str na t1) (.str nb u1) na.cps.toList nb.cps.toList rfl rfl (rfl,?_);exact wpS_pure h
theorem rB {h:Heap}:∀{vs:KC},(∀v∈vs,∃x y m,v= .ref x/\T2 h x y m)->∃fs:KC,PySem.W.KatTups h vs fs/\fs.length=vs.length/\∀f∈fs,∃y t,f= .str y t
 | [],_=>⟨[],trivial,rfl,by simp⟩
 |v::vs,hv=>by
  obtain ⟨fs,k1,k2,k3⟩:=rB (vs:=vs) λu hu=>hv u (HA _ hu)
  obtain ⟨x,y,m,rfl,o,n,t,g,c,d⟩:=hv v 73
  refine (.str y t::fs,((x,o,_,n,rfl,g,c,d,rfl),k1),by simp[k2],λf hf=>?_)
  rcases GM.mp hf with e|e
  ·exact (y,t,e)
  ·exact k3 f e
theorem yh {a:Addr} {vs:KC} {n:Nat} {P:Fin->Shared->Prop} {nm:Addr->Option Str} (ho:s.heap.get? a=some (seqObj "list" vs.toArray n)) (inj:∀a b y,nm a=some y->nm b=some y->a=b)
  (keys:∀v∈vs,∃x y,v= .ref x/\nm x=some y) (tup:∀x y,nm x=some y->∃m,T2 s.heap x y m) (nd:vs.Nodup) (hz:vs.length<=sizeLine) (h64:vs.length<64)
  (h:∀st':SortSt,(arrOf st').toList.Perm (pairsOf vs).toList->(arrOf st').toList.Pairwise (Lq (cK nm))->P (.done (.ret .none)) {s with heap:=sortedHeap s.heap a vs 286}):
  wpAny 68 A (Builtin.«list.sort» ⟨[.ref a],[]⟩) P E s:=by
 rw[list_sort_plain];have ha:a<s.heap.objs.size:=85 ho;refine wpAny_bind (listItems_at ho rfl ?_);refine wpAny_bind (listUpdate_at ho rfl ?_);obtain ⟨e1,ho1⟩:∃e1,(s.heap.update a (Obj.mapSeq λ_=> #[])).get? a=some (seqObj "list" #[] e1):=⟨_,get?_update_seq ho (λ_=> #[])⟩
 refine wpAny_bind (seqEpoch_at ho1 rfl (wpAny_bind (wpAny_newTuple (wpAny_bind (wpAny_newList (wpAny_holding ?_))))));have ho6:(((s.heap.update a 298).push 235).push 310).get? a=some (seqObj "list" #[] e1):=by
  rw[Heap.get?_push_ne _ _ _ (by rw[size_push',Heap.size_update];exact GL (IC ha)),Heap.get?_push_ne _ _ _ (by rw[Heap.size_update];exact GL ha)]
  exact ho1
 have old:∀{b:Addr} {o:Obj},b≠a->s.heap.get? b=some o->(((s.heap.update a 298).push 235).push 310).get? b=some o:=λ{b o} hb e=>by
  have bl:=85 e;rw[Heap.get?_push_ne _ _ _ (by rw[size_push',Heap.size_update];exact GL (IC bl)),Heap.get?_push_ne _ _ _ (by rw[Heap.size_update];exact GL bl),Heap.get?_update_other _ _ 248]
  exact e
 show wpAny 68 A _ P E {s with heap:=((s.heap.update a 298).push 235).push 310}
 dsimp only;have tna:∀{x:Addr} {y:Str} {m:Addr},T2 s.heap x y m->x≠a:=λ{x y m} t z=>by
  obtain ⟨o,n',t1,g,c,d⟩:=t.ex;rw[z,ho] at g;cases g;have c':("list" :String)= "tuple" :=by injection c
  exact absurd c' 13
 have fin:∀st':SortSt,(arrOf st').toList.Perm (pairsOf vs).toList->failedOf st'=none->(arrOf st').toList.Pairwise (Lq (cK nm))->P (.done (.ret .none)) {s with heap:=sortedHeap s.heap a vs 286}/\((arrOf st').map (·.2)).size<=sizeLine+1:=λst' hp hf hs=>by
  exists h st' hp hs;have:=hp.length_eq;rw[Array.size_map];have e:(pairsOf vs).toList.length=vs.length:=by rw[pairsOf_toList];simp
  rw[e,Hi] at this
  lia
 by_cases h2:vs.toArray.size<2
 ·rw[if_pos h2,if_pos h2];refine wpAny_bind 308;have st0:=fin (SortSt.mk' general' (vs.toArray.zip vs.toArray) #[] 7 none) (List.Perm.refl _) rfl (by
   have:(pairsOf vs).toList.length<2:=by rw[pairsOf_toList];simp at h2⊢;exact h2
   match e:(pairsOf vs).toList,this with
   | [],_=>exact List.Pairwise.nil
   | [x],_=>exact List.pairwise_singleton _ _
   |_::_::_,l=>simp at l;lia)
  refine wpAny_bind 308;dsimp only;refine wpAny_bind (seqEpoch_at ho6 rfl ?_);refine wpAny_bind (listUpdate_at ho6 rfl ?_ (hsz2:=st0.2));simp only[bne_self_eq_false,Ia,if_false];exact wpAny_pure st0.1
 ·rw[if_neg h2,if_neg h2];have tup6:∀x y,nm x=some y->∃m,T2 (((s.heap.update a 298).push 235).push 310) x y m:=λx y hx=>by
   obtain ⟨m,t⟩:=tup x y hx;have na:=tna t;obtain ⟨o,n',t1,g,c,d⟩:=t.ex;exact (m,o,n',t1,old na g,c,d)
  obtain ⟨fs,kt,kl,kf⟩:=rB (h:=((s.heap.update a 298).push 235).push 310) (vs:=vs) λv hv=>by
   obtain ⟨x,y,rfl,hx⟩:=keys v hv;obtain ⟨m,t⟩:=tup6 x y hx;exact (x,y,m,rfl,t)
  have l2:2<=vs.length:=by simpa using h2
  refine wpAny_bind (PySem.W.kat_kind (T:= .type "str") kt 42 (λv hv=>by obtain ⟨y,t,rfl⟩:=kf v hv;exact wc _ _ _ _) rfl ?_)
  refine wpAny_bind (wpAny_mono (wb (κ:=cK nm) (kd:=tuples' true) (zM inj tup6) (a0:=(pairsOf vs).toList) (st:=SortSt.mk' (tuples' true) (vs.toArray.zip vs.toArray) #[] 7 none)
   (Q:=λ_ st'=>(arrOf st').toList.Perm (pairsOf vs).toList/\failedOf st'=none/\(arrOf st').toList.Pairwise (Lq (cK nm)))
   rfl rfl rfl rfl (λx hx=>?_) (by rw[pairsOf_toList];simpa using h64) λst' pr fl sr=>⟨pr,fl,sr⟩) ?_ λ_ _ e=>e)
  ·rw[pairsOf_toList] at hx;have hm:x.1∈vs:=(List.of_mem_zip hx).1;obtain ⟨z,y,e,hy⟩:=keys _ hm;exists y.cps.toList;rw[e];show ((nm z).map λy=>y.cps.toList)=_
   rw[hy]
   rfl
  rintro ⟨⟨⟩,st'⟩ s' ⟨rfl,hp,hf,hs⟩;have f:=fin st' hp hf hs;dsimp only;refine wpAny_bind (seqEpoch_at ho6 rfl ?_);refine wpAny_bind (listUpdate_at ho6 rfl ?_ (hsz2:=f.2));rw[hf];simp only[bne_self_eq_false,Ia,if_false];exact wpAny_pure f.1
universe z0
universe L2
namespace Sw
open PySem L2 XH PyProof.Rows
theorem zN {i:Int} (h0:0<=i) (h:i<26):iR fB.cps.toList i=some (97+i.toNat):=by
 have key:∀n:Nat,n<26->fB.cps.toList[n]?=some (97+n):=by decide
 have:=key i.toNat 42
 have e:=b9 this
 rwa [Int.toNat_of_nonneg h0] at e
noncomputable def sgn (c st:Int) (k:Nat):Nat:=97+((c+533*st).fmod 26).toNat
def pT (st:Int):Prop:=st=1∨st=3∨st=5∨st=7∨st=9∨st=11∨st=15∨st=17
theorem zO {c st:Int} (hs:pT st) {k k':Nat} (h:k<14) (h':k'<14) (e:sgn c st k=sgn c st k'):k=k':=by
 unfold sgn at e;rw[Int.fmod_eq_emod_of_nonneg _ 13,Int.fmod_eq_emod_of_nonneg _ 13] at e
 rcases hs with rfl|rfl|rfl|rfl|rfl|rfl|rfl|rfl<;>omega
theorem pU (x y:Str):(x++y).cps.toList=x.cps.toList++y.cps.toList:=by
 show (x.cps++y.cps).toList=_;simp
structure m8 (p q:Int):Prop where
 nn:0<=p
 low:mW p q
 bp:Bd 150 p
 bq:Bd 150 q
def yi:Sp:=λvs H Q _=>∃a b:Int,vs= [.int a,.int b]/\0<b/\Q (.int (b6 a b)) H
theorem m8.fr {K:G0} {H:Hp} {t:Addr} {p q:Int} (h:m8 p q) (e:H t=some 82) {n:Nat} (hn:150<=n:=by decide):b7 K n H t p q:=(bU.of e,h.low.pos,h.bp.mono hn,h.bq.mono hn)
theorem m8.zero:m8 0 1:=(by decide,(by decide,rfl),Bd.zero.mono 13,Bd.one.mono 13)
abbrev jb:=Str->Option (Int×Int)
structure DA (H:Hp) (d:Addr) (kvs:List (Key×V)) (g:jb):Prop where
 e:H d=some 109
 few:kvs.length<=100
 no:∀x,g x=none->aT kvs 278=none
 yes:∀x p q,g x=some (p,q)->m8 p q/\∃t:Addr,aT kvs 278=some 246/\H t=some 82
theorem DA.same {H H':Hp} {d:Addr} {kvs:List 103} {g:jb} (h:DA H d kvs g) (s:ax H H'):DA H' d kvs g:=
 ⟨s _ _ h.e,h.few,h.no,λx p q e=>by obtain ⟨a,t,b,c⟩:=h.yes x p q e;exact ⟨a,t,b,s _ _ c⟩⟩
theorem DA.nil {H:Hp} {d:Addr} (e:H d=some 83):DA H d [] (λ_=>none):=(e,by simp,λ_ _=>rfl,λx p q e=>by cases e)
theorem DA.upd {H:Hp} {d b:Addr} {kvs:List 103} {g:jb} (h:DA H d kvs g) (bd:b≠d) (nt:∀xs,H b≠some 282) (o:HO):DA (L2.ay H b o) d kvs g:=
 ⟨by rw[ak (λz=>bd z.symm)];exact h.e,h.few,h.no,λx p q e=>by
  obtain ⟨a,t,hv,c⟩:=h.yes x p q e;exact (a,t,hv,by rw[ak (λz=>nt _ (by rw[<-z];exact c))];exact c)⟩
noncomputable def aJ (g:jb) (x:Str) (p q:Int):jb:=λy=>if y=x then some (p,q) else g y
theorem DA.put {H:Hp} {d t:Addr} {kvs:List 103} {g:jb} {x:Str} {p q:Int} (h:DA H d kvs g) (ok:m8 p q) (et:H t=some 82) (f:kvs.length<=99):DA (L2.ay H d (.dK (putK kvs 278 246))) d (putK kvs 278 246) (aJ g x p q):=by
 have td:t≠d:=λz=>by rw[z,h.e] at et;cases et
 have lk:(putK kvs 278 (V.ref t)).length<=100:=by
  unfold putK
  split
  ·rw[G2];lia
  ·rw[G8];simp;lia
 have vp:=λy:Str=>hV kvs (.inr x:Key) 264 246
 refine (ac,lk,λy hy=>?_,λy p' q' hy=>?_)
 ·unfold aJ at hy
  by_cases c:y=x
  ·rw[if_pos c] at hy;cases hy
  ·rw[if_neg c] at hy;rw[vp,if_neg 342,h.no y hy]
 ·unfold aJ at hy
  by_cases c:y=x
  ·rw[if_pos c] at hy;cases hy;exact (ok,t,by rw[vp,if_pos (by rw[c])],by rw[ak td];exact et)
  ·rw[if_neg c] at hy;obtain ⟨a,t',hv,c'⟩:=h.yes y p' q' hy;exists a,t',by rw[vp,if_neg 342];exact hv
   rw[ak (λz=>by rw[z,h.e] at c';cases c')]
   exact c'
structure mF where
 t:Addr
 s:Str
 a:Addr
 p:Int
 q:Int
noncomputable def aV (gh:jb) (s:Str):Int×Int:=(gh s).getD (0,1)
noncomputable def iu (gh:jb) (n:mF):Bool:=decide ((aV gh n.s).1*n.q<n.p*(aV gh n.s).2)
noncomputable def yj (gs gh:jb) (n:mF):Bool:=(gs n.s).isNone&&iu gh n
structure rC (gs gh:jb) (n:mF) (k l m:Int):Prop where
 low:mW l m
 bl:Bd 4300 l
 bm:Bd 4300 m
 no:iu gh n=false->k=0/\l*((aV gh n.s).2*n.q)=((aV gh n.s).1*n.q-n.p*(aV gh n.s).2)*m
 yes:iu gh n=true->∃p2 q2,gs n.s=some (p2,q2)/\pK n.p n.q p2 q2 (aV gh n.s).1 (aV gh n.s).2 k l m
structure yP (H:Hp) (gs gh:jb) (t:Addr) (n:mF):Prop where
 ex:∃(tl:Addr) (k l m:Int),H t=some (.tup [.str n.s,.int k,.ref tl])/\H tl=some (.tup [.int l,.int m])/\rC gs gh n k l m
theorem yP.tups {H H':Hp} {gs gh:jb} {t:Addr} {n:mF} (h:yP H gs gh t n) (g:∀a xs,H a=some 282->H' a=some 282):yP H' gs gh t n:=by
 obtain ⟨tl,k,l,m,a,b,c⟩:=h.ex;exact (tl,k,l,m,g _ _ a,g _ _ b,c)
theorem yP.same {H H':Hp} {gs gh:jb} {t:Addr} {n:mF} (h:yP H gs gh t n) (g:ax H H'):yP H' gs gh t n:=h.tups λa xs e=>g _ _ e
theorem DA.have {H:Hp} {dh tz:Addr} {kh:List 103} {gh:jb} (D:DA H dh kh gh) (s:Str) (ez:H tz=some 222):∃th,(aT kh (.inr s)).getD (.ref tz)= .ref th/\H th=some (.tup [.int (aV gh s).1,.int (aV gh s).2])/\m8 (aV gh s).1 (aV gh s).2:=by
 unfold aV;cases hg:gh s with
 |none=>
  rw[D.no s hg];exact (tz,rfl,ez,m8.zero)
 |some pq=>
  obtain ⟨p,q⟩:=pq;obtain ⟨ok,t,hv,et⟩:=D.yes s p q hg;rw[hv];exact (t,rfl,et,ok)
def FS (H:Hp) (gs gh:jb) (l:Addr) (nds:List mF):Prop:=∃ts:KB,H l=some 146/\kR (yP H gs gh) ts nds
def m9 (gs:jb):Prop:=∀x p q,gs x=some (p,q)->0<p
theorem rC.nn {gs gh:jb} {n:mF} {k l m:Int} (h:rC gs gh n k l m):0<=k:=by
 cases hl:iu gh n with
 |false=>rw[(h.no hl).1];exact Int.le_refl _
 |true=>
  obtain ⟨p2,q2,_,ok⟩:=h.yes hl;exact ok.nn
open Wo Hm
def zP (md:Int) (pre suf:List Nat) (k:Nat) (s:Nat) (z:Str):Prop:=if md=1 then z.length=k+1 else if md=2 then ∃x,z.cps.toList=x++ [s] else z.cps.toList=pre++s::suf
theorem wj {zs:KA} {md c st:Int} (hs:pT st) {pre suf:List Nat} (l:zs.length<=12) (h:∀(k:Nat) (z:Str),zs[k]?=some z->Nm z/\zP md pre suf k (sgn c st k) z):zs.Nodup:=by
 unfold List.Nodup;rw[List.pairwise_iff_getElem];intro i j hi hj ij e;have h1:=(h i _ (G1 hi)).2;have h2:=(h j _ (G1 hj)).2;rw[e] at h1;unfold zP at h1 h2
 by_cases c1:md=1
 ·rw[if_pos c1] at h1 h2
  lia
 rw[if_neg c1] at h1 h2;have:sgn c st i=sgn c st j:=by
  by_cases c2:md=2
  ·rw[if_pos c2] at h1 h2;obtain ⟨x,h1⟩:=h1;obtain ⟨y,h2⟩:=h2;rw[h1] at h2;have:=(List.append_inj' h2 rfl).2;injection this
  ·rw[if_neg c2] at h1 h2;rw[h1] at h2;have:=List.append_cancel_left h2;injection this
 have:=zO hs 42 42 this
 lia
def rD:Sp:=λvs H Q _=>∃n m:Int,vs= [.int n,.int m]/\0<=m/\m<=12/\∀(l:Addr) (H':Hp) (zs:KA),ax H H'->H' l=some 202->(zs.length:Int)=m->(∀z∈zs,Nm z)->zs.Nodup->Q 176 H'
universe Sw
namespace L2
open PySem PySem.Spec PyProof.Rows XH Sw
theorem zQ {X:Cx} {e:Expr} {t:TE} (h:PE X e t):PE X e (λσ H Q=>t σ H λv=>x5 X (Q v)):=by
 sleep 202
 exact (v,_,I1.thawT e nf,r,p)
universe L2
namespace Sw
open PySem L2 XH PyProof.Rows Wo Hm
theorem LB.far {C:Addr} {F:KB} {H:Hp} {x l:Addr} {rows:Kw} {m:Nat} {g:Kq} {bs ns:KA} {o:HO} (h:LB C F H x rows m g bs ns) (e:H l=some o) (k1:∀kv,o≠ .dK kv) (k2:∀C dx fs,o≠ .ins C dx fs) (u:HO):LB C F (556 l u) x rows m g bs ns:=by
 have lF:=h.not e k1;sleep 10;have xl:x≠l:=λz=>by
  rw[z,e] at ex;exact k2 _ _ _ (HH ex)
 have sl:s≠l:=λz=>lF (by rw[<-z];exact q6)
 have bl:b≠l:=λz=>lF (by rw[<-z];exact q7)
 sleep 117
 ·sleep 176
  have nl:n≠l:=λz=>lF (q5 _ 199)
  have rl:l∉rs:=λz=>lF (q5 _ 199)
  sleep 167
 ·rcases bd.ex y with ⟨z1,_⟩|⟨a,row,z1,z2,_⟩
  ·rw[z] at z1;cases z1
  ·rw[z] at z1;cases z1;rw[e] at z2;exact k1 _ (HH z2)
 ·sleep 216
theorem wg.keep {K:G0} {H H':Hp} {g:Kq} {vw:Kr} (h:wg K H g vw) (k:∀a xs,H a=some 282->H' a=some 282):wg K H' g vw:=(λx y t e=>(k _ _ (h.fr x y t e).1,(h.fr x y t e).2),h.nm)
noncomputable def oC (es:Ku):List (List Key×V):=es.map λe=>([.inr e.1,.inr e.2.1],.ref e.2.2)
theorem zR (es:Ku):(oC es).length=es.length:=G2 _
theorem u9 {es:Ku} {a b:Str} {v:V} (h:aT (oC es) [.inr a,.inr b]=some v):∃t,v= .ref t/\(a,b,t)∈es:=by
 obtain ⟨e,he,z⟩:=G9.mp (iG h);cases z;exact (ν,he)
theorem yk {es:Ku} {a b:Str} (h:∀t,(a,b,t)∉es):aT (oC es) [.inr a,.inr b]=none:=by
 cases e:aT (oC es) [.inr a,.inr b] with
 |none=>rfl
 |some v=>
  obtain ⟨t,rfl,z⟩:=u9 e;exact absurd z (h t)
theorem rE {es:Ku} {a b:Str} {t:Addr} (h:(a,b,t)∈es):∃t',aT (oC es) [.inr a,.inr b]=some (.ref t')/\(a,b,t')∈es:=by
 obtain ⟨w,hw⟩:=pN (kvs:=oC es) (k:= [.inr a,.inr b]) (v:= .ref t) (G9.mpr ⟨_,h,rfl⟩);obtain ⟨t',rfl,z⟩:=u9 hw;exact (t',hw,z)
theorem zS {es:Ku} {a b:Str} (h:∀t,(a,b,t)∉es) (t:Addr):putK (oC es) [.inr a,.inr b] 246=oC (es++ [(a,b,t)]):=by
 rw[L2.hZ _ (yk h)];unfold oC;rw[GW]
 rfl
theorem DM {K:G0} {H:Hp} {x:V} {b:Bool} {i:Int} (h:Wh K H x b) (e:x= .int i):b=true:=by
 cases h with
 |mk ty h1 h2=>
  subst e;cases ty;have k1:Hy K (.type "int") (.type "int")=some true:=by kernel_rfl
  have k2:Hy K (.type "int") (.type "bool")=some false:=by kernel_rfl
  rw[k1] at h1;rw[k2] at h2;cases h1;cases h2
  rfl
theorem DN {K:G0} {H:Hp} {t:Addr} {v:V} {b:Bool} {p q:Int} (h:vV K H v b) (ev:v= .ref t) (e:H t=some 82) (lo:mW p q):b=true:=by
 cases h with
 |no ty h=>
  subst ev;cases ty with
  |tup e'=>
   have k1:Hy K 464 464=some true:=by kernel_rfl
   rw[k1] at h;cases h
  |lst e'=>rw[e] at e';cases e'
  |frz e'=>rw[e] at e';cases e'
  |dK e'=>rw[e] at e';cases e'
  |dT e'=>rw[e] at e';cases e'
  |ins e'=>rw[e] at e';cases e'
 |len e' h=>
  cases ev;rw[e] at e';cases e';exact absurd rfl h
 |top e' h=>
  cases ev;rw[e] at e';cases e';have:=DM h rfl;cases this
 |bot e' h h'=>
  cases ev;rw[e] at e';cases e';have:=DM h' rfl;cases this
 |two e'=>
  cases ev;rw[e] at e';cases e';rw[decide_eq_true (show 1<=q from lo.pos),decide_eq_true lo.low]
  rfl
theorem BP {K:G0} {H:Hp} {v:V} {p q:Int} (ok:tO H v p q) (bad:kK K H v):False:=by
 rcases ok with ⟨e,_⟩|⟨t,rfl,et,p0,lo,_⟩
 ·exact bad.1 e
 ·rcases bad.2 with h|⟨t',p',q',e',et',_,z⟩
  ·have:=DN h rfl et lo;cases this
  ·cases e';rw[et] at et';cases et'
   lia
theorem wk {H:Hp} {v:V} {p q p' q':Int} (h:tO H v p q) (k:tO H v p' q'):p=p'/\q=q':=by
 rcases h with ⟨e,rfl,rfl⟩|⟨t,e,et,_⟩
 ·rcases k with ⟨_,rfl,rfl⟩|⟨t',e',_⟩
  ·exact 239
  ·rw[e] at e';cases e'
 ·rcases k with ⟨e',_⟩|⟨t',e',et',_⟩
  ·rw[e] at e';cases e'
  ·rw[e] at e';cases e';rw[et] at et';cases et';exact 239
universe Sw
namespace L2
open PySem PySem.Spec PyProof.Rows XH Sw
section
variable {prog:Program} {w:World} {A:Around} {E:Ks} {s:Shared}
theorem oE {α:Type} {hx:Addr} {ox:Obj} {vs:Array Value} {Q:α->Shared->Prop} (hh:A.handled=some 262) (ho:s.heap.get? hx=some ox) (hd:ox.data= .fields vs) (h2:vs[2]?=some .none)
  (k:∀(e:Addr) (h':Heap),155->({s with heap:=h'}:Shared).TypeIs 538 "StopIteration" ->E 538 126):wpAny 68 A (newExc 386 []>>=raiseNew) Q E s:=by
 sleep 205;sleep 112
 sleep 51
 sleep 247
 sleep 178;rw[hh];sleep 110
 have ne:hx≠(s.heap.push 217).objs.size:=λz=>by
  rw[z,g0] at ho;cases ho
 dsimp only;rw[if_pos (bne_iff_ne.mpr λz=>ne (Value.ref.inj z))]
 sleep 50
 sleep 106
 refine wpAny_throw (k _ _ (λb o e=>?_) 498)
 rw[Heap.get?_update_other _ _ (by
  intro z;rw[z] at g0;rw[g0] at e;cases e)]
 exact 67 _ (67 _ e)
theorem wm {it l hx:Addr} {ox:Obj} {vs:Array Value} {i:Nat} {items:Array Value} {Q:KH->Shared->Prop} (hh:A.handled=some 262) (hox:s.heap.get? hx=some ox) (hdx:ox.data= .fields vs) (h2:vs[2]?=some .none)
  (hit:s.heap.IsListIter it l i) (hl:s.heap.IsList l items) (hi:items[i]?=none)
  (hQ:∀h',Heap.ExtBut it s.heap h'->Q none 126):wpAny 68 A 270 Q E s:=by
 sleep 93;obtain ⟨ol,hol,_,nl,hdl⟩:=hl;have ne:hx≠it:=λz=>by
  rw[z,ho] at hox;cases hox;rw[hd] at hdx;cases hdx;cases h2
 unfold pyNext;refine wpAny_bind (wpAny_attempt (wpAny_callSpecial?_slot (name:=Str.ofString "__next__") hit.typeIs slot_listiter_next
  (wpAny_call_entry slot_listiter_next hit.typeIs entry_listiter_next ?_ (args_listiter_next _))))
 sleep 233;refine wpAny_bind (wpAny_field ho hd (x:= .ref l) rfl ?_);show wpAny _ _ (if (Value.ref l==Value.none)=true then _ else _) _ _ s
 rw[if_neg (show ¬((Value.ref l==Value.none)=true) from GQ)]
 sleep 179;show wpAny _ _ (seqItems? 176>>=_) _ _ s;sleep 123
 sleep 20
 sleep 3
theorem tP {it hx:Addr} {ox:Obj} {vs:Array Value} {x:Str} {t:Tok} {i:Nat} {Q:KH->Shared->Prop} (hh:A.handled=some 262) (hox:s.heap.get? hx=some ox) (hdx:ox.data= .fields vs) (h2:vs[2]?=some .none)
  (hit:s.heap.IsStrIter it "str_ascii_iterator" x t i) (hi:x.cps[i]?=none)
  (hQ:∀h',Heap.ExtBut it s.heap h'->Q none 126):wpAny 68 A 270 Q E s:=by
 sleep 93;have ne:hx≠it:=λz=>by
  rw[z,ho] at hox;cases hox;rw[hd] at hdx;cases hdx;cases h2
 unfold pyNext;refine wpAny_bind (wpAny_attempt (wpAny_callSpecial?_slot (name:=Str.ofString "__next__") hit.typeIs F.slot_str_ascii_iterator_next
  (wpAny_call_entry F.slot_str_ascii_iterator_next hit.typeIs F.entry_str_ascii_iterator_next ?_ (F.args_str_ascii_iterator_next_1 _))))
 sleep 25
 sleep 20
 sleep 3
theorem wn {it hx:Addr} {ox:Obj} {vs:Array Value} {x:Str} {t:Tok} {i:Nat} {Q:KH->Shared->Prop} (hh:A.handled=some 262) (hox:s.heap.get? hx=some ox) (hdx:ox.data= .fields vs) (h2:vs[2]?=some .none)
  (hit:s.heap.IsStrIter it "str_iterator" x t i) (hi:x.cps[i]?=none)
  (hQ:∀h',Heap.ExtBut it s.heap h'->Q none 126):wpAny 68 A 270 Q E s:=by
 sleep 93;have ne:hx≠it:=λz=>by
  rw[z,ho] at hox;cases hox;rw[hd] at hdx;cases hdx;cases h2
 unfold pyNext;refine wpAny_bind (wpAny_attempt (wpAny_callSpecial?_slot (name:=Str.ofString "__next__") hit.typeIs F.slot_str_iterator_next
  (wpAny_call_entry F.slot_str_iterator_next hit.typeIs F.entry_str_iterator_next ?_ (F.args_str_iterator_next_1 _))))
 sleep 25
 sleep 20
 sleep 3
universe z0
noncomputable def wp (hd:KH) (K:G0) (a:Addr):It:=⟨(wT K a).go,(wT K a).yld,λi H=>(wT K a).stop i H/\fz hd H⟩
noncomputable def wq (hd:KH) (x:Str):It:=⟨(AQ x).go,(AQ x).yld,λi H=>(AQ x).stop i H/\fz hd H⟩
theorem tQ {hd:KH} {P:Program} {w:World} {K:G0} {tg:Expr} (a it:Addr):nV hd P w K tg (wp hd K a) [it] it (λi h=>h.IsListIter it a i) where
 mem:=by simp
 obj:=(iA (P:=P) (w:=w) (K:=K) (tg:=tg) a it).obj
 keep:=(iA (P:=P) (w:=w) (K:=K) (tg:=tg) a it).keep
 item:=by
  intro X hP hw hK hA i pins s σ H E I hf st hg;subst hP hw hK;obtain ⟨xs,x,hq,hx⟩:=hg;obtain ⟨its,rv,p,hz⟩:=I.list hq;obtain ⟨u,hu,ru⟩:=rv.get hx;obtain ⟨f0,f1,f2,f3,f4,f5⟩:=hf it 73
  refine wpAny_pyNext_list_item st p.isList (x:=u) (by simpa using hu) λh' st' sb=>?_
  have I1:aG X pins σ H {s with heap:=h'}:=I.turned (t':=s.toks) (λb o hb e=>(sb.2 b hb).trans e) f0 f1 f3 f4 f5
  obtain ⟨o,e,c,d⟩:=id st';exact ⟨u,rfl,iU (s:=126) e c d 13 ⟨x,H,I1,ru,⟨rfl,λys hy=>by rw[I.list_inj hy hq];exact hx⟩,st',λb hb=>(hf b hb).1⟩⟩
 done:=by
  intro X hP hw hK hA i pins s σ H E I hf st hg;subst hP hw hK;obtain ⟨⟨xs,hq,hx⟩,hk⟩:=hg;obtain ⟨its,rv,p,hz⟩:=I.list hq;obtain ⟨f0,f1,f2,f3,f4,f5⟩:=hf it 73
  have hl:=rv.length;cases hd with
  |none=>exact wpAny_pyNext_list_end hA st p.isList 324 λh' eb=>333
  |some v=>
   sleep 116
   exact wm hA h1 h4 h6 st p.isList 324 λh' eb=>98
 self:=(iA (P:=P) (w:=w) (K:=K) (tg:=tg) a it).self
theorem wu {hd:KH} {P:Program} {w:World} {K:G0} {tg:Expr} {ty:String} (hty:ty= "str_ascii_iterator" ∨ty= "str_iterator") (it:Addr) (x:Str) (t:Tok):nV hd P w K tg (wq hd x) [it] it (λi h=>h.IsStrIter it ty x t i) where
 mem:=by simp
 obj:=(jB (P:=P) (w:=w) (K:=K) (tg:=tg) hty it x t).obj
 keep:=(jB (P:=P) (w:=w) (K:=K) (tg:=tg) hty it x t).keep
 item:=by
  sleep 4
  have hi:i<x.cps.size:=hg;have fin:∀(h':Heap),h'.IsStrIter it ty x t 236->Heap.SameBut it s.heap h'->(∃u,some (Value.str ⟨#[x.cps[i]]⟩ s.toks)=some u/\wpAny 69 X.A (letOwnedTupleGo tg 165 u) (λ_ s2=>∃y H',aG X pins σ H' s2/\RelV y u/\(wq hd x).yld i H y H'/\s2.heap.IsStrIter it ty x t 236/\∀b∈ [it],H' b=none) E 394):=λh' st' sb=>by
   sleep 158
   obtain ⟨o,e,c1,d1⟩:=id st';exact ⟨_,rfl,iU (s:=394) (n:=ty) e c1 d1 (by rcases hty with rfl|rfl<;>decide) ⟨.str ⟨#[x.cps[i]]⟩,H,I1,⟨_,rfl⟩,⟨rfl,x.cps[i],by simp[hi],rfl⟩,st',λb hb=>(hf b hb).1⟩⟩
  rcases hty with rfl|rfl
  ·exact wpAny_pyNext_ascii_item st (c:=x.cps[i]) (by simp[hi]) fin
  ·exact wpAny_pyNext_wide_item st (c:=x.cps[i]) (by simp[hi]) fin
 done:=by
  sleep 4
  obtain ⟨hi,hk⟩:=hg;have hi':i=x.cps.size:=hi;subst hi';cases hd with
  |none=>
   rcases hty with rfl|rfl
   ·exact wpAny_pyNext_ascii_end hA st 73 λh' eb=>98
   ·exact wpAny_pyNext_wide_end hA st 73 λh' eb=>98
  |some v=>
   sleep 116
   rcases hty with rfl|rfl
   ·exact tP hA h1 h4 h6 st 73 λh' eb=>98
   ·exact wn hA h1 h4 h6 st 73 λh' eb=>98
 self:=(jB (P:=P) (w:=w) (K:=K) (tg:=tg) hty it x t).self
def BQ (hd:KH) (K:G0) (tl:TE):TI:=λσ H R=>tl σ H λx H1=>∃a,x= .ref a/\(∃xs,aQ K H1 a xs)/\R (wp hd K a) H1
def DO (hd:KH) (tl:TE):TI:=λσ H R=>tl σ H λx H1=>∃z,x= .str z/\R (wq hd z) H1
section
variable {X:Cx} {tg:Expr} {hd:KH}
theorem mG {K:G0} (hK:X.K=K) {l:Expr} {tl:TE} (hl:PE X l tl):xG hd X tg l (BQ hd K tl):=by
 subst hK;sleep 16
 obtain ⟨a,e,⟨xs,hq⟩,q⟩:=q1;subst e;cases r1;obtain ⟨its,rv,p,hz⟩:=I1.list hq;refine wpAny_pyIter_list p.isList ?_;refine (101,[101],_,_,H1,rfl,I1.kept (t':=s1.toks) λb o e=>67 _ e,tQ a _,240,λb hb=>?_,q)
 sleep 54
 sleep 131
theorem zT {l:Expr} {tl:TE} (hl:PE X l tl):xG hd X tg l (DO hd tl):=by
 sleep 16
 obtain ⟨z,rfl,q⟩:=q1;obtain ⟨t,rfl⟩:=r1;have fin:∀{ty:String} {o:Obj},481->(s1.heap.push o).IsStrIter 101 ty z t 0->Bq hd X pins σ tg R (.ref 101) {s1 with heap:=s1.heap.push o}:=λ{ty o} hty st=>by
  refine (101,[101],_,_,H1,rfl,I1.kept (t':=s1.toks) λb o e=>67 _ e,wu hty _ z t,st,λb hb=>?_,q)
  sleep 54
  sleep 131
 cases ha:z.cps.all (· <128)
 ·sleep 232
 ·sleep 230
theorem iI {iter:Expr} {body:List Stmt} {wi:TI} {g:TG} {tb:TS} {pos:Pos} (hp:PassesOwn 69 X.A X.env X.xe) (hA:X.A.handled=hd) (hi:xG hd X tg iter wi) (hg:PG X tg g) (hb:kO X body tb)
  (hs:∀x,foldedSetIterable iter X.env x=pure x:=by intro _;rfl):PS X (.For tg iter body [] pos) (Da wi g tb):=by
 sleep 225;refine wpAny_For 401 hs
 obtain ⟨it,fp,tn,J,H2,e,I2,T,st2,f2,W,⟨m0,w0⟩,turn⟩:=h2;subst e;have stat:∀{H':Hp},307->∀b∈fp,dX X pins H' b:=λhn b hb=>(hn b hb,(f2 b hb).2)
 refine codeAny_forLoop_any (λn s'=>∃i σ' H',aG X pins σ' H' s'/\tn i s'.heap/\(∀b∈fp,H' b=none)/\W i n σ' H') ?_ m0 (0,σ,H2,I2,st2,λb hb=>(f2 b hb).1,w0)
 rintro n s3 ⟨i,σ3,H3,I3,st3,fr3,w3⟩;rcases turn i n σ3 H3 w3 with ⟨stop,qn⟩|⟨go,N,hN,step⟩
 ·refine wpAny_passesOwn hp (bH (T.done X rfl rfl rfl hA i pins s3 σ3 H3 X.xe I3 (stat fr3) st3 stop) λr s4 (hr,I4)=>?_)
  subst hr;exact wpAny_execs_nil (σ3,H3,I4,qn)
 ·refine wpAny_passesOwn hp (bH (T.item X rfl rfl rfl hA i pins s3 σ3 H3 X.xe I3 (stat fr3) st3 go) λr s4 (u,hr,h4)=>?_)
  subst hr;refine wpAny_passesOwn hp (bH h4 λ_ s5 (x,H5,I5,r5,y5,st5,fr5)=>?_)
  have I5':=I5.pinned (stat fr5) (T.obj _ _ st5);refine wpAny_passesOwn hp (bH (hg _ s5 σ3 H5 x u _ I5' r5 (step x H5 y5)) λ_ s6 (σ6,H6,I6,q6)=>?_)
  refine wpAny_passesOwn hp (bH (hb _ s6 σ6 H6 _ I6 q6) λf s7 q7=>?_)
  have again:∀{σ7:St} {H7:Hp},aG X (pins++i5 fp s5.heap) σ7 H7 s7->N σ7 H7->∃m,m<n/\∃i σ' H',aG X pins σ' H' s7/\tn i s7.heap/\(∀b∈fp,H' b=none)/\W i m σ' H':=λ{σ7 H7} I7 n7=>by
   obtain ⟨m',hm,w7⟩:=hN σ7 H7 n7;refine (m',hm,i+1,σ7,H7,I7.unpinned,T.keep _ _ _ st5 λb hb o e=>(I7.pin (b,o) 167).1,λb hb=>?_,w7)
   obtain ⟨o,e,d⟩:=T.obj _ _ st5 b hb;exact (I7.pin (b,o) 167).2.1
  cases f with
  |next=>obtain ⟨σ7,H7,I7,n7⟩:=q7;exact again I7 n7
  |cont=>obtain ⟨σ7,H7,I7,n7⟩:=q7;exact again I7 n7
  |brk=>obtain ⟨σ7,H7,I7,q7⟩:=q7;exact (σ7,H7,I7.unpinned,q7)
  |ret v=>obtain ⟨x7,σ7,H7,I7,r7,q7⟩:=q7;exact (x7,σ7,H7,I7.unpinned,r7,q7)
universe z0
theorem oF {hd:KH} {K:G0} {a:Addr} {xs:List V} {g:TG} {tb:TS} {D:Ends} {σ:St} {H:Hp} (Pv:Nat->St->Hp->Prop) (h0:Pv 0 σ H) (hl:∀i σ H,i<=xs.length->Pv i σ H->aQ K H a xs/\fz hd H)
  (hs:∀i x σ H,xs[i]?=some x->Pv i σ H->g x σ H λσ2 H2=>tb 110 σ2 H2) (hd':∀σ H,Pv xs.length σ H->D.nx σ H):
  ∃W:Nat->Nat->St->Hp->Prop,251/\∀i m σ H,W i m σ H->
   ((wp hd K a).stop i H/\D.nx σ H)∨((wp hd K a).go i H/\∃N:St->Hp->Prop,94/\∀x H',(wp hd K a).yld i H x H'->g x σ H' λσ2 H2=>tb 151 σ2 H2):=by
 exists λi m σ H=>m=xs.length-i/\i<=xs.length/\Pv i σ H,(xs.length,by simp,HC _,h0)
 sleep 98;obtain ⟨q,hk⟩:=hl i σ H hi p
 by_cases hlt:i<xs.length
 ·refine .inr ((xs,xs[i],q,by simp[hlt]),Pv 236,λσ' H' p'=>(xs.length-236,by lia,rfl,hlt,p'),λx H' y=>?_)
  obtain ⟨e,y⟩:=y;subst e;exact hs i x σ _ (y xs q) p
 ·have e:i=xs.length:=by lia
  subst e;exact .inl (((xs,q,G4 _),hk),hd' σ H p)
theorem yn {hd:KH} {z:Str} {g:TG} {tb:TS} {D:Ends} {σ:St} {H:Hp} (Pv:Nat->St->Hp->Prop) (h0:Pv 0 σ H) (hl:∀i σ H,i<=z.cps.size->Pv i σ H->fz hd H)
  (hs:∀i c σ H,z.cps[i]?=some c->Pv i σ H->g (.str ⟨#[c]⟩) σ H λσ2 H2=>tb 110 σ2 H2) (hd':∀σ H,Pv z.cps.size σ H->D.nx σ H):
  ∃W:Nat->Nat->St->Hp->Prop,251/\∀i m σ H,W i m σ H->
   ((wq hd z).stop i H/\D.nx σ H)∨((wq hd z).go i H/\∃N:St->Hp->Prop,94/\∀x H',(wq hd z).yld i H x H'->g x σ H' λσ2 H2=>tb 151 σ2 H2):=by
 sleep 215
 sleep 98;have hk:=hl i σ H hi p
 by_cases hlt:i<z.cps.size
 ·sleep 213
  obtain ⟨e,c,hc,rfl⟩:=y;subst e;exact hs i c σ _ hc p
 ·have e:i=z.cps.size:=by lia
  subst e;exact .inl ((rfl,hk),hd' σ H p)
structure BR (hd:KH) (P:Program) (w:World) (K:G0) (mg:Kt) (base:Heap) (k:Nat) (f:Addr) (ps:KA) (sp:Sp) where
 fd:FuncData
 ok:rZ hd P w K mg base k f fd ps sp
 b:Binds K fd ps []
section
variable {X:Cx} {k j:Nat} {f C:Addr} {ps:KA} {sp:Sp} {m:Str} {p pos apos:Pos} {e o:Expr} {es:List Expr} {ta:TE} {t:TA} {hd:KH}
theorem BS {pl:Sem Bool} {K:G0} (hK:X.K=K) (he:PE X o ta) (D:BR hd X.prog X.w X.K X.mg X.base k f ps sp) (hr:dw hd j X.A) (hk:k<=j) (ha:PA X (e::es) t)
  (hst:starEach (e::es) X.env=(false,eval e X.env)::starEach es X.env:=by rfl) (hpl:(backTo pos 112).any 111=false:=by rfl)
  (ht:eval 108 X.env=(do
   let ov<-eval o X.env
   standAt apos.atName
   let (f,first)<-holding [ov] (getMethod ov m pl)
   callWith pos f first (backTo pos 197) 160):=by rfl):
  PE X 108 (xP K m f sp [] ta t):=by
 subst hK;sleep 39
 sleep 62;sleep 26
 exact uN (us:= .ref a::us) (vs:= .ref a::vs) D.ok 271 D.b .nil I2 (.cons rfl r) q2
universe z0
def DP (K:G0) (C':Addr) (t:Addr->TS) (r:TH):TH:=λD σ cls dx H a=>∃C b,cls= .ref C/\IZ K 107 517=some b/\
 if b=true then t a D σ (556 a (xB a cls dx)) else r D σ cls dx H a
section
variable {X:Cx} {x n:Str} {np pos:Pos} {b0:Stmt} {suite:List Stmt} {rest:List ExceptHandler} {C':Addr} {tA:Addr->TS} {th:TH}
theorem BU (T:XT X.K C') (hg:Gl X x) (hm:X.mg x=some 517)
  (hs:∀(pins:Ky) (a:Addr),kO 357 (b0::suite) (tA a)) (hrest:PH X rest th) (hd:92=false:=by decide):
  PH X (.ExceptHandler (some (.Name x np)) none (b0::suite) pos::rest) (DP X.K C' tA th):=by
 sleep 104
 sleep 100
 sleep 261;cases b with
 |false=>exact hrest pins σ H0 s0 D a H' _ v dx _ I c h
 |true=>
  refine codeAny_handlers_suite ?_;refine c.flight I.stack I.stkFree λs2 c2=>?_
  have J2:=(c2.caught I).insuite a;refine wpAny_mono (hs pins a [] s2 _ _ _ J2 h) (λf s4 q=>?_) λ_ _ z=>z.elim
  exact q.outsuite I.ok
universe z0
open So
universe L2
namespace Sw
open PySem L2 XH PyProof.Rows Wo Hm
theorem bu.okN {hd:KH} {P:Program} {w:World} {K:G0} {mg:Kt} {base:Heap} {x qual:Str} {st:Stmt} {dV:Value} {f:Addr} {fd:FuncData} {N ps:KA} {k:Nat} {sp:Sp} (F:bu K x qual st dV f fd) (S:aC N ps 297) (len:∀vs H Q E,sp vs H Q E->vs.length=ps.length)
  (hbody:∀(cdv:Value) (A:Around) (outer:List Env) (s:Shared) (H:Hp) (vs:List V) (Q:VK) (E:XK),dw hd k (A.deeper (envOfC qual 297 35 f cdv))->sp vs H Q E->
   ∃t,kO (AN hd P w K mg base N qual 297 f cdv A outer s H E).nox (cD st) t/\t 190 309 H):rZ hd P w K mg base (k+1) f fd ps sp:=
 F.okH S len λcdv A outer s H vs Q E hr hsp=>by
  sleep 258
def pV (hd:KH):Sp:=λvs H Q _=>∃z:Str,vs= [.str z]/\Nm z/\fz hd H/\Q 71 H
def tR (hd:KH):Sp:=λvs H Q _=>∃(l:Addr) (xs:List V),vs= [.ref l]/\H l=some 389/\(∀x∈xs,lA x)/\fz hd H/\Q .non H
section
variable (K:G0) (C:Addr)
def tS:Sp:=λvs H Q _=>∃(x:Addr) (z:Str) (F:KB) (rows:Kw) (m:Nat) (g:Kq) (bs ns:KA),vs= [.ref x,.str z]/\LB C F H x rows m g bs ns/\bs.length<=200/\ns.Nodup/\ns.length<=79/\Nm z/\
 ∀H' ms,KF F H H'->LB C F H' x rows m g (cB bs z) ms->ms.Nodup->(∀y,y∈ms↔y∈ns∨y=z)->Q .non H'
variable {K C} {cN cI:Addr}
theorem zU (vs:List V) (H:Hp) (Q:VK) (E:XK) (h:tS C vs H Q E):yg K C cN vs H Q E0:=by
 obtain ⟨x,z,F,rows,m,g,bs,ns,rfl,lb,a1,a2,a3,nz,q⟩:=h;refine (x,.str z,F,rows,m,g,bs,ns,rfl,lb,a1,a2,a3,.inl (z,rfl,nz),λn=>absurd (z,rfl,nz) n,λy e _=>?_)
 cases e;exact q
universe z0
universe Sw
namespace L2
open PySem PySem.Spec PyProof.Rows XH Sw Hm
universe L2
namespace Sw
open PySem L2 XH PyProof.Rows Wo Hm
universe Sw
namespace Mn
open PySem
universe Mn
namespace Rm
open PySem PySem.SeqAt PySem.MeetsSeq
universe Rm
namespace L2
open PySem PySem.Spec PyProof.Rows XH Sw So Hm
universe L2
namespace Hm
open PySem PySem.SeqAt PySem.MeetsSeq
universe Hm
namespace L2
open PySem PySem.Spec PyProof.Rows XH Sw So Hm Wo
universe L2
namespace Sw
open PySem L2 XH PyProof.Rows Wo Hm
theorem LB.part {C:Addr} {F:KB} {H:Hp} {x:Addr} {rows:Kw} {m:Nat} {g:Kq} {bs ns:KA} (h:LB C F H x rows m g bs ns):∃F0,LA C F0 H x rows ns/\∀H' F0' rows' ms,KF F0 H H'->FG F0 F0' H->LA C F0' H' x rows' ms->∃F',LB C F' H' x rows' m g bs ms/\KF F H H'/\FG F F' H:=by
 sleep 10;have inn:∀F0' (a:Addr),a∈F->a∉F0->a∈F.filter (λa=>decide (a∉F0))++F0':=λF0' a h1 h2=>Hu _ (IR.mpr (h1,decide_eq_true h2))
 refine (F0,la,λH' F0' rows' ms k fg la'=>(F.filter (λa=>decide (a∉F0))++F0',?_,λa o n e=>k a o (λz=>n (q5 a z)) e,λa ha=>?_))
 ·have xn:x∉F0:=la.not ex 84
  have out:∀a o,H a=some o->a∉F0->a∉F0':=λa o e n z=>by
   rcases fg a z with w|w
   ·exact n w
   ·rw[e] at w;cases w
  refine (F0',dx,s,b,fs,dk,la',k _ _ xn ex,es,eb,(k _ _ q2 bd.at_,bd.few,bd.inj,λy=>?_),k _ _ q3 hb,q1,out _ _ bd.at_ q2,out _ _ hb q3,λy a e=>(?_,(q4 y a e).2),λa ha=>GN _ ha,inn _ _ q6 q2,inn _ _ q7 q3,λa ha=>?_,q9)
  ·rcases bd.ex y with z|⟨a,row,z1,z2,z3,z4⟩
   ·exact .inl z
   ·have na:=(q4 y a z1).1;exact .inr (a,row,z1,k _ _ na z2,gO.mpr (inn _ _ (gO.mp z3) na),z4)
  ·rcases bd.ex y with ⟨z1,_⟩|⟨a',row,z1,z2,_⟩
   ·rw[e] at z1;cases z1
   ·rw[e] at z1;cases z1;exact out _ _ z2 (q4 y a e).1
  ·rcases GU.mp ha with w|w
   ·obtain ⟨w1,w2⟩:=IR.mp w;obtain ⟨kv,e⟩:=q8 a w1;exact (kv,k _ _ (of_decide_eq_true w2) e)
   ·exact la'.dict w
 ·rcases GU.mp ha with w|w
  ·exact .inl (IR.mp w).1
  ·rcases fg a w with z|z
   ·exact .inl (q5 a z)
   ·exact .inr z
noncomputable def rF (ps:Kx):List (List Key×V):=ps.map λp=>([.inr p.1,.inr p.2],.bl true)
noncomputable def tT (ps:Kx) (a b:Str):Kx:=if (a,b)∈ps then ps else ps++ [(a,b)]
theorem zV (ps:Kx):(rF ps).length=ps.length:=G2 _
theorem yo (ps:Kx) (a b:Str):(tT ps a b).length<=ps.length+1:=by
 unfold tT
 split
 ·lia
 ·rw[G8,GV]
  lia
theorem pW {ps:Kx} {a b:Str} {k:List Key} {v:V} (h:(k,v)∈rF ps) (e:k= [.inr a,.inr b]):v= .bl true/\(a,b)∈ps:=by
 obtain ⟨p,hp,z⟩:=G9.mp h;cases z;injection e with e1 e2
 injection e1 with e1
 injection e2 with e2 _
 sleep 283
 exact (rfl,by rw[<-e1,<-e2];exact hp)
theorem va {ps:Kx} {a b:Str}:(aT (rF ps) [.inr a,.inr b]).isSome=decide ((a,b)∈ps):=by
 by_cases c:(a,b)∈ps
 ·rw[decide_eq_true c];obtain ⟨w,hw⟩:=pN (kvs:=rF ps) (k:= [.inr a,.inr b]) (v:= .bl true) (G9.mpr ⟨_,c,rfl⟩);rw[hw]
  rfl
 ·rw[decide_eq_false c];cases e:aT (rF ps) [.inr a,.inr b] with
  |none=>rfl
  |some v=>exact absurd (pW (iG e) rfl).2 c
theorem zW (ps:Kx) (a b:Str):putK (rF ps) [.inr a,.inr b] 71=rF (tT ps a b):=by
 unfold tT
 by_cases c:(a,b)∈ps
 ·rw[if_pos c];have h:(rF ps).any (λkv=>decide (kv.1= [.inr a,.inr b]))=true:=by
   rw[gb,va,decide_eq_true c]
  unfold putK;rw[if_pos h];refine (Il λp hp=>?_).trans (List.map_id _)
  by_cases e:p.1= [.inr a,.inr b]
  ·rw[if_pos e];obtain ⟨v,_⟩:=pW (k:=p.1) (v:=p.2) hp e;show (p.1,V.bl true)=p;rw[<-v]
  ·rw[if_neg e]
   rfl
 ·rw[if_neg c,L2.hZ _ (by
   cases e:aT (rF ps) [.inr a,.inr b] with
   |none=>rfl
   |some v=>exact absurd (pW (iG e) rfl).2 c)]
  unfold rF;rw[GW]
  rfl
theorem BV {ps:Kx} {i:Nat} {k:List Key} {x:V} (h:(rF ps)[i]?=some (k,x)):∃a b:Str,k= [.inr a,.inr b]/\ps[i]?=some (a,b):=by
 unfold rF at h;rw[GJ] at h;cases e:ps[i]? with
 |none=>rw[e] at h;cases h
 |some p=>
  rw[e] at h;cases h;exact (p.1,p.2,rfl,rfl)
theorem cF.addP {rows:Kw} {ps:Kx} (h:cF rows ps) (a b:Str):cF (bx rows a b) (Sw.tT ps a b):=by
 unfold Sw.tT
 split
 ·rename_i c;rw[jL h.keys ((h.mem a b).mpr c)];exact h
 ·exact h.add (a,b)
inductive mY (R:Str->Str->Prop) (good:Str):KA->Prop where
 |one:mY R good [good]
 |snoc {c:KA} {y:Str}:mY R good c->R (aI c) y->mY R good (c++ [y])
theorem oG:∀{a b:KA},a.length=b.length->rn a b=false->rn b a=false->a=b
 | [],[],_,_,_=>rfl
 | [],_::_,e,_,_=>by simp at e
 |_::_,[],e,_,_=>by simp at e
 |x::a,y::b,e,h1,h2=>by
  rw[fE] at h1 h2
  by_cases c:x=y
  ·subst c;rw[if_pos rfl] at h1 h2;rw[oG (by simpa using e) h1 h2]
  ·rw[if_neg c] at h1;rw[if_neg (λz=>c z.symm)] at h2
   exfalso;have n1:=of_decide_eq_false h1;have n2:=of_decide_eq_false h2;exact c (So.mi (show So.v5 x y from n2) (show So.v5 y x from n1))
theorem kN {a b:KA} (h1:¬cC a b) (h2:¬cC b a):a=b:=by
 have e:a.length=b.length:=by
  rcases Nat.lt_trichotomy a.length b.length with z|z|z
  ·exact absurd (dL z) h1
  ·exact z
  ·exact absurd (dL z) h2
 refine oG e ?_ ?_
 ·cases c:rn a b with
  |false=>rfl
  |true=>exact absurd (fF e c) h1
 ·cases c:rn b a with
  |false=>rfl
  |true=>exact absurd (fF e.symm c) h2
section
variable {R:Str->Str->Prop} {good:Str} {cs:List KA}
theorem gR.least (h:gR R good cs cs.length 289) {p:KA} (hp:mY R good p):∃(k:Nat) (d:KA),cs[k]?=some d/\aI d=aI p/\¬cC p d:=by
 induction hp with
 |one=>exact ⟨0,[good],h.first,rfl,λz=>z.irr⟩
 | @snoc c y hc r ih=>
  obtain ⟨k,d,hd,e,na⟩:=ih;have kl:=(G3.mp hd).1;obtain ⟨k2,d2,hd2,e2,na2⟩:=h.shut k d y kl hd (by rw[e];exact r)
  refine (k2,d2,hd2,by rw[e2,bS],λz=>na2 ?_)
  by_cases eq:c=d
  ·rw[<-eq];exact z
  ·have dc:cC d c:=Classical.byContradiction λw=>eq (kN na w)
   exact (dc.app y y).trans z
theorem gR.path (h:gR R good cs cs.length 289):∀(k:Nat) (d:KA),cs[k]?=some d->mY R good d:=by
 intro k
 induction k using Nat.strongRecOn with
 |_ k ih=>
  intro d hd
  by_cases c:k=0
  ·subst c;rw[h.first] at hd;cases hd;exact .one
  ·obtain ⟨j,c',x,jk,_,hj,rfl,r,_⟩:=h.from_ k d 42 hd
   exact .snoc (ih j jk c' hj) r
universe z0
universe Sw
namespace L2
open PySem PySem.Spec PyProof.Rows XH
universe L2
namespace Sw
open PySem L2 XH PyProof.Rows Wo Hm
def se (es:Ku) (a b:Str):Prop:=∃t,(a,b,t)∈es
theorem yq {H:Hp} {row:List 149} {y:Str} {v:V} (h:aT 530 264=some v):∃a,v= .ref a/\(y,a)∈row:=by
 obtain ⟨p,hp,e⟩:=G9.mp (iG h);injection e with e1 e2
 injection e1 with e1
 exact (p.2,e2.symm,by rw[<-e1];exact hp)
section
variable {R:Str->Str->Prop} {good:Str} {H H':Hp} {row row':List (Str×Addr)} {n B:Nat} {T T':Str->Str->Prop}
theorem mY.ne {c:KA} (h:mY R good c):c≠ []:=by cases h<;>simp
theorem mY.pre {c:KA} (h:mY R good c):∀{y:Str},y∈c->∃q,mY R good q/\aI q=y/\q.length<=c.length/\(c.Nodup->q.Nodup):=by
 induction h with
 |one=>exact λ{y} hy=>⟨[good],.one,by rw[GK.mp hy];rfl,G4 _,id⟩
 | @snoc c z hc r ih=>
  intro y hy;rcases GU.mp hy with w|w
  ·obtain ⟨q,q1,q2,q3,q4⟩:=ih w;exact (q,q1,q2,by rw[G8];lia,λn=>q4 (Hz.mp n).1)
  ·rw[GK] at w;subst w;exact (_,.snoc hc r,bS _ _,G4 _,id)
theorem mY.short {p:KA} (h:mY R good p):∃q,mY R good q/\aI q=aI p/\q.Nodup/\(q=p∨q.length<p.length):=by
 induction h with
 |one=>exact ⟨[good],.one,rfl,by simp,.inl rfl⟩
 | @snoc c z hc r ih=>
  obtain ⟨q,q1,q2,q3,q4⟩:=ih
  by_cases w:z∈q
  ·obtain ⟨q',a1,a2,a3,a4⟩:=q1.pre w;refine (q',a1,by rw[a2,bS],a4 q3,.inr ?_)
   rw[G8,GV];rcases q4 with rfl|q4<;>lia
  ·exists q++ [z],.snoc q1 (by rw[q2];exact r),by rw[bS,bS],?_
   ·rw[Hz];refine (q3,by simp,λa ha b hb e=>w ?_)
    rw[<-GK.mp hb,<-e];exact ha
   ·rcases q4 with rfl|q4
    ·exact .inl rfl
    ·refine .inr ?_;rw[G8,G8];simp;exact q4
theorem mY.in {p:KA} (h:mY R good p) {U:KA} (hU:∀a b,R a b->b∈U):∀y∈p,y∈good::U:=by
 induction h with
 |one=>intro y hy;rw[GK.mp hy];simp
 |snoc hc r ih=>
  intro y hy;rcases GU.mp hy with w|w
  ·exact ih y w
  ·rw[GK.mp w];exact HA _ (hU _ _ r)
universe z0
theorem rG (row:List 149):(dy row).length=row.length:=G2 _
def DQ (H:Hp) (es:Ku) (vw:Kr):Prop:=∀a b t,(a,b,t)∈es->H t=some (.tup [.int (vw a b).1,.int (vw a b).2])/\0<(vw a b).1/\mW (vw a b).1 (vw a b).2/\Bd 200 (vw a b).1/\Bd 200 (vw a b).2
def eW (es:Ku) (ps:Kx) (bs:KA) (good:Str) (c:KA):Prop:=mY (se es) good c/\¬Blk ps bs 348/\∀p,mY (se es) good p->¬Blk ps bs (aI p)->¬cC p c
theorem eW.len {es:Ku} {ps:Kx} {bs:KA} {good:Str} {c:KA} (h:eW es ps bs good c) {U:KA} (hU:∀a b,se es a b->b∈U):c.length<=U.length+1:=by
 obtain ⟨q,q1,q2,q3,q4⟩:=h.1.short;rcases q4 with rfl|q4
 ·simpa using Wo.cO q3 (q1.in hU)
 ·exact absurd (dL q4) (h.2.2 q q1 (by rw[q2];exact h.2.1))
theorem mY.link {R:Str->Str->Prop} {good:Str} {c:KA} (h:mY R good c):c[0]?=some good/\∀(j:Nat) (x y:Str),c[j]?=some x->c[j+1]?=some y->R x y:=by
 induction h with
 |one=>exact ⟨rfl,λj x y _ h=>by simp at h⟩
 | @snoc c z hc r ih=>
  obtain ⟨h0,hl⟩:=ih;have c1:=Hx.mpr hc.ne;refine (by rw[G6 c1];exact h0,λj x y hx hy=>?_)
  have jl:=(G3.mp hy).1;rw[G8,GV] at jl;rw[G6 42] at hx
  by_cases k:j+1<c.length
  ·rw[G6 k] at hy;exact hl j x y hx hy
  ·have e:j+1=c.length:=by lia
   rw[G7 42,e,IK] at hy
   cases hy;have:aI c=x:=by
    unfold aI;rw[List.getLastD_eq_getLast?,List.getLast?_eq_getElem?,show c.length-1=j by lia,hx]
    rfl
   rw[<-this];exact r
theorem yr {R:Str->Str->Prop} {es:Ku} {ps:Kx} {bs:KA} {good:Str} {cs:List KA} (hR:∀a b,R a b↔se es a b) (h:gR R good cs cs.length 289) (all:∀(j:Nat) (d:KA),cs[j]?=some d->Blk ps bs (aI d)) (p:KA) (hp:mY (se es) good p):Blk ps bs (aI p):=by
 have eR:R=se es:=by funext a b;exact propext (hR a b)
 subst eR;obtain ⟨j,d',hd,el,na⟩:=gR.least h hp;rw[<-el];exact all j d' hd
theorem LB.farN {C:Addr} {F:KB} {H:Hp} {x l:Addr} {rows:Kw} {m:Nat} {g:Kq} {bs ns:KA} {o:HO} (h:LB C F H x rows m g bs ns) (e:H l=some o) (lF:l∉F) (k2:∀C dx fs,o≠ .ins C dx fs) (u:HO):LB C F (556 l u) x rows m g bs ns:=by
 sleep 10;have xl:x≠l:=λz=>by
  rw[z,e] at ex;exact k2 _ _ _ (HH ex)
 have sl:s≠l:=λz=>lF (by rw[<-z];exact q6)
 have bl:b≠l:=λz=>lF (by rw[<-z];exact q7)
 sleep 117
 ·sleep 176
  have nl:n≠l:=λz=>lF (q5 _ 199)
  have rl:l∉rs:=λz=>lF (q5 _ 199)
  sleep 167
 ·rcases bd.ex y with ⟨z1,_⟩|⟨a,row,z1,z2,z3,_⟩
  ·rw[z] at z1;cases z1
  ·rw[z] at z1;cases z1;exact lF (gO.mp z3)
 ·sleep 216
section
variable (K:G0) (C:Addr)
def mH:Sp:=λvs H Q _=>∃(x r:Addr) (zg zo:Str) (p q:Int) (F:KB) (rows:Kw) (m:Nat) (g:Kq) (bs ns:KA),vs= [.ref x,.str zg,.str zo,.ref r]/\LB C F H x rows m g bs ns/\m<=1000/\ns.Nodup/\ns.length<=78/\Nm zg/\Nm zo/\H r=some 82/\0<p/\mW p q/\Bd 200 p/\Bd 200 q/\zg≠zo/\¬u6 g zg zo/\
 ∀(F':KB) (H':Hp) (ms:KA),KF F H H'->FG F F' H->LB C F' H' x rows (m+2) (pS g zg zo r) bs ms->H' r=some 82->ms.Nodup->341->Q .non H'
variable {K C} {cN cI cS:Addr}
theorem wv (vs:List V) (H:Hp) (Q:VK) (E:XK) (h:mH C vs H Q E):mE K C cN cS vs H Q E0:=by
 obtain ⟨x,r,zg,zo,p,q',F,rows,m,g,bs,ns,rfl,lb,m1,nd,n78,ng,no,er,p0,lo,b1,b2,ne,ns',q⟩:=h;have ok:tO H (.ref r) p q':= .inr (r,rfl,er,p0,lo,b1,b2);refine (x,.str zg,.str zo,.ref r,F,rows,m,g,bs,ns,rfl,lb,m1,nd,n78,.inl (zg,rfl,ng),.inl (zo,rfl,no),.inl (p,q',ok),λn=>absurd ((zg,rfl,ng),(zo,rfl,no)) n,λa b e1 e2 _ _=>?_)
 cases e1;cases e2;refine (λz=>?_,λ_ _ p2 q2 ok2 F' H' ms t k fg lb' et hr nd' hs=>?_)
 ·rcases z with z|z|z
  ·exact absurd z ne
  ·exact absurd z ns'
  ·exact (BP ok z).elim
 ·obtain ⟨rfl,rfl⟩:=wk ok ok2;have:=hr r rfl;subst this;exact q F' H' ms k fg lb' et nd' hs
universe z0
def KD (H H':Hp):Prop:=∀a o,(∀kv,o≠ .dK kv)->(∀kv,o≠ .dT kv)->H a=some o->H' a=some o
theorem KD.trans {H H' H'':Hp} (h:KD H H') (k:KD H' H''):KD H H'':=λa o n z e=>k a o n z (h a o n z e)
theorem KD.of {H H':Hp} (h:ax H H'):KD H H':=λa o _ _ e=>h a o e
theorem KD.putK {H:Hp} {d:Addr} {kv:List 103} (e:H d=some (.dK kv)) (u:HO):KD H (ay H d u):=λa o n _ h=>by
 rw[ak (λz=>by rw[z,e] at h;exact n kv (HH h).symm)]
 exact h
section
variable {K:G0} {C:Addr} {H H1 H2:Hp} {x dp ds db:Addr} {nm:KA} {n:Nat} {F F':KB} {rows:Kw} {m:Nat} {g:Kq} {bs ns ms:KA} {ps:Kx} {es:Ku} {vw:Kr}
theorem FG.out {a:Addr} {o:HO} (fg:FG F F' H) (e:H a=some o) (n:a∉F):a∉F':=λz=>by
 rcases fg a z with w|w
 ·exact n w
 ·rw[e] at w;cases w
theorem lD {d:Addr} {o:HO} (e:H d=some o) (n:∀xs,o≠ .tup xs) (u:HO) (a:Addr) (xs:List V) (h:H a=some 282):ay H d u a=some (.tup xs):=by
 rw[ak (λz=>by rw[z,e] at h;exact n xs (HH h))]
 exact h
theorem lE {d a:Addr} {o o' u:HO} (e:H d=some o) (h:H a=some o') (n:o≠o'):ay H d u a=some o':=by
 rw[ak (λz=>by rw[z,e] at h;exact n (HH h))]
 exact h
theorem KD.seq {H':Hp} {a:Addr} {xs:List V} (e:KD H H') (h:aQ K H a xs):aQ K H' a xs:=by
 rcases h with (h|⟨o,h⟩)|h
 ·exact .inl (.inl (e _ _ 84 84 h))
 ·exact .inl (.inr (o,e _ _ 84 84 h))
 ·exact .inr h
universe z0
def oH:Sp:=λvs H Q _=>∃(ah:Addr) (goal good:Str) (ps:Kx) (es:List 90),vs= [.ref ah,.str goal]/\H ah=some 330/\dS ps good es/\goal∈aH es/\
 ∀(l:Addr) (H':Hp) (c:KA),ax H H'->H l=none->H' l=some 329->Way ps good goal c->Q 176 H'
def dG:Sp:=λvs H Q _=>∃(d lg:Addr) (good:Str) (rows:Kw) (ps:Kx) (gs:KA),vs= [.ref d,.str good,.ref lg]/\DD H d rows/\cF rows ps/\ps.length<=1000/\H lg=some (.lst 275)/\
 (∀(H':Hp),ax H H'->(∀b∈gs,¬Led ps good b)->Q .non H')/\∀(l:Addr) (H':Hp) (c:KA) (goal:Str),ax H H'->H l=none->H' l=some 329->Way ps good goal c->goal∈gs->Led ps good goal->(good∈gs->goal=good)->Q 176 H'
section
variable (K:G0) (C cN cI:Addr)
def iJ:Sp:=λvs H Q E=>∃(x:Addr) (v:V) (F:KB) (rows:Kw) (m:Nat) (g:Kq) (bs ns:KA) (ps:Kx),vs= [.ref x,v]/\LB C F H x rows m g bs ns/\cF rows ps/\ps.length<=1000/\(lA v∨gc K H v)/\
 (¬lA v->∀H',ax H H'->E (.ref cN) none H')/\
 ∀z,v= .str z->Nm z->(∀(H':Hp),ax H H'->(∀b∈bs,¬Led ps z b)->Q .non H')/\
  ∀(l:Addr) (H':Hp) (c:KA) (goal:Str),ax H H'->H l=none->H' l=some 329->Way ps z goal c->goal∈bs->Led ps z goal->(z∈bs->goal=z)->Q 176 H'
def dH:Sp:=λvs H Q _=>∃(x:Addr) (z:Str) (F:KB) (rows:Kw) (m:Nat) (g:Kq) (bs ns:KA) (ps:Kx),vs= [.ref x,.str z]/\LB C F H x rows m g bs ns/\cF rows ps/\ps.length<=1000/\Nm z/\
 (∀(H':Hp),ax H H'->(∀b∈bs,¬Led ps z b)->Q .non H')/\
  ∀(l:Addr) (H':Hp) (c:KA) (goal:Str),ax H H'->H l=none->H' l=some 329->Way ps z goal c->goal∈bs->Led ps z goal->Q 176 H'
def vc:Sp:=λvs H Q E=>∃(x:Addr) (v:V) (F:KB) (rows:Kw) (m:Nat) (g:Kq) (bs ns:KA) (ps:Kx),vs= [.ref x,v]/\LB C F H x rows m g bs ns/\cF rows ps/\ps.length<=60/\(lA v∨gc K H v)/\
 (¬lA v->∀H',ax H H'->E (.ref cN) none H')/\
 ∀z,v= .str z->Nm z->∀(l:Addr) (H':Hp) (ys:KA),ax H H'->H l=none->H' l=some 153->sortedS ys=true->ys.Nodup->(∀y,y∈ys↔Led ps z y)->Q 176 H'
def mJ:Sp:=λvs H Q _=>∃(x:Addr) (z:Str) (F:KB) (rows:Kw) (m:Nat) (g:Kq) (bs ns:KA) (ps:Kx),vs= [.ref x,.str z]/\LB C F H x rows m g bs ns/\cF rows ps/\ps.length<=60/\Nm z/\
 ∀(l:Addr) (H':Hp) (ys:KA),ax H H'->H l=none->H' l=some 153->ys.Nodup->(∀y,y∈ys↔Led ps z y)->Q 176 H'
def yt:Sp:=λvs H Q E=>∃(x:Addr) (v:V) (F:KB) (rows:Kw) (m:Nat) (g:Kq) (bs ns:KA) (ps:Kx) (vw:Kr) (U:KA) (Rt:KA->Int->Int->Prop),vs= [.ref x,v]/\LB C F H x rows m g bs ns/\m<=200/\cF rows ps/\ps.length<=1000/\(lA v∨gc K H v)/\wg K H g vw/\(∀a b,u6 g a b->b∈U)/\U.length<=17/\
 (∀z,v= .str z->Rt [z] 1 1)/\(∀c p q y t r s,Rt c p q->g 348 y=some t->Fr r s (p*(vw 348 y).1) (q*(vw 348 y).2)->Rt (c++ [y]) r s)/\
 (¬lA v->∀H',ax H H'->E (.ref cN) none H')/\
 ∀z,v= .str z->Nm z->∀cs,gR (u6 g) z cs cs.length 289->
  (∀(k:Nat) (c:KA) (t cl rl:Addr) (p q:Int) (H':Hp),ax H H'->H cl=none->cs[k]?=some c->(∀(j:Nat) (d:KA),j<k->cs[j]?=some d->Blk ps bs (aI d))->¬Blk ps bs 348->H' t=some 283->H' cl=some 329->H' rl=some 82->Rt c p q->Q 246 H')/\
  ((∀(j:Nat) (d:KA),cs[j]?=some d->Blk ps bs (aI d))->∀(d:Addr) (H':Hp),ax H H'->H' d=some (.xd [("good",.str z)])->E (.ref cI) (some d) H')
variable {K C cN cI}
theorem tU (vs:List V) (H:Hp) (Q:VK) (E:XK) (h:dH C vs H Q E):iJ K C cN vs H Q E0:=by
 obtain ⟨x,z,F,rows,m,g,bs,ns,ps,rfl,lb,a1,a2,nz,q1,q2⟩:=h;sleep 182
 cases e;exact (q1,λl H' c goal g n e w b d _=>q2 l H' c goal g n e w b d)
theorem yu (vs:List V) (H:Hp) (Q:VK) (E:XK) (h:mJ C vs H Q E):vc K C cN vs H Q E0:=by
 obtain ⟨x,z,F,rows,m,g,bs,ns,ps,rfl,lb,a1,a2,nz,q⟩:=h;sleep 182
 cases e;exact λl H' ys g n e _ d w=>q l H' ys g n e d w
universe z0
structure D7 (H:Hp) (dp ds db:Addr) (nm:KA) (ps:Kx) (es:Ku) (bs:KA) (vw:Kr):Prop where
 ep:H dp=some (.dT (rF ps))
 ee:H ds=some (.dT (oC es))
 eb:H db=some (.dK (bg bs 71))
 val:DQ H es vw
 inn:∀a b t,(a,b,t)∈es->a∈nm/\b∈nm/\a≠b
 bnd:bs.Nodup
 binn:∀b∈bs,b∈nm
 few:ps.length<=60/\es.length<=60/\nm.length<=12
 ne:dp≠ds
theorem D7.same {H H':Hp} {dp ds db:Addr} {nm:KA} {ps:Kx} {es:Ku} {bs:KA} {vw:Kr} (h:D7 H dp ds db nm ps es bs vw) (g:ax H H'):D7 H' dp ds db nm ps es bs vw:=
 ⟨g _ _ h.ep,g _ _ h.ee,g _ _ h.eb,λa b t m=>⟨g _ _ (h.val a b t m).1,(h.val a b t m).2⟩,h.inn,h.bnd,h.binn,h.few,h.ne⟩
theorem D7.bars {H:Hp} {dp ds db:Addr} {nm:KA} {ps:Kx} {es:Ku} {bs:KA} {vw:Kr} (h:D7 H dp ds db nm ps es bs vw):bs.length<=12:=HN (Wo.cO h.bnd h.binn) h.few.2.2
structure S7 (K:G0) (C:Addr) (H:Hp) (x dp ds db:Addr) (nm:KA) (n:Nat) (F:KB) (rows:Kw) (m:Nat) (g:Kq) (bs ns:KA) (ps:Kx) (es:Ku) (vw:Kr):Prop where
 d7:D7 H dp ds db nm ps es bs vw
 lb:LB C F H x rows m g bs ns
 ok:cF rows ps
 st:∀a b,u6 g a b↔se es a b
 ra:wg K H g vw
 nn:ns.Nodup
 nsm:∀y∈ns,y∈nm
 dbF:db∉F
 cnt:m<=2*n/\ps.length<=n/\es.length<=n
section
variable {K:G0} {C:Addr} {H H':Hp} {x dp ds db:Addr} {nm:KA} {n:Nat} {F:KB} {rows:Kw} {m:Nat} {g:Kq} {bs ns:KA} {ps:Kx} {es:Ku} {vw:Kr}
theorem S7.same (h:S7 K C H x dp ds db nm n F rows m g bs ns ps es vw) (e:ax H H'):S7 K C H' x dp ds db nm n F rows m g bs ns ps es vw:=
 ⟨h.d7.same e,h.lb.same e,h.ok,h.st,h.ra.keep λa xs z=>e _ _ z,h.nn,h.nsm,h.dbF,h.cnt⟩
theorem S7.more (h:S7 K C H x dp ds db nm n F rows m g bs ns ps es vw):S7 K C H x dp ds db nm (n+1) F rows m g bs ns ps es vw:=(h.d7,h.lb,h.ok,h.st,h.ra,h.nn,h.nsm,h.dbF,by have:=h.cnt;lia)
theorem S7.len (h:S7 K C H x dp ds db nm n F rows m g bs ns ps es vw):ns.length<=12:=HN (Wo.cO h.nn h.nsm) h.d7.few.2.2
theorem S7.hU (h:S7 K C H x dp ds db nm n F rows m g bs ns ps es vw) (a b:Str) (z:u6 g a b):b∈nm:=by
 obtain ⟨t,z⟩:=(h.st a b).mp z;exact (h.d7.inn a b t z).2.1
theorem S7.d7k (h:S7 K C H x dp ds db nm n F rows m g bs ns ps es vw) (k:KF F H H'):D7 H' dp ds db nm ps es bs vw:=
 ⟨k _ _ (h.lb.not h.d7.ep 84) h.d7.ep,k _ _ (h.lb.not h.d7.ee 84) h.d7.ee,k _ _ h.dbF h.d7.eb,λa b t z=>⟨k _ _ (h.lb.not (h.d7.val a b t z).1 84) (h.d7.val a b t z).1,(h.d7.val a b t z).2⟩,h.d7.inn,h.d7.bnd,h.d7.binn,h.d7.few,h.d7.ne⟩
theorem S7.rak (h:S7 K C H x dp ds db nm n F rows m g bs ns ps es vw) (k:KF F H H'):wg K H' g vw:=h.ra.keep λa xs z=>k _ _ (h.lb.not z 84) z
universe z0
section
variable {K:G0} {C:Addr} {H H1 H2:Hp} {x dp ds db:Addr} {nm:KA} {n:Nat} {F F':KB} {rows:Kw} {m:Nat} {g:Kq} {bs ns ms:KA} {ps:Kx} {es:Ku} {vw:Kr}
theorem S7.part (s:S7 K C H x dp ds db nm n F rows m g bs ns ps es vw) {a b:Str} (k:KF F H H1) (fg:FG F F' H) (lb:LB C F' H1 x (bx rows a b) m g bs ms) (nd:ms.Nodup) (hs:∀y,y∈ms↔y∈ns∨y=a∨y=b) (g2:ax H1 H2) (ai:a∈nm) (bi:b∈nm) (n60:n<60):
  S7 K C (ay H2 dp (.dT (putK (rF ps) [.inr a,.inr b] 71))) x dp ds db nm (n+1) F' (bx rows a b) m g bs ms (tT ps a b) es vw:=by
 have d1:=(s.d7k k).same g2;have AD:=lb.same g2;have ra2:=(s.rak k).keep λa xs z=>g2 _ _ z
 have cnt:=s.cnt;have al:=yo ps a b;have few:=s.d7.few;refine ((by rw[ac,zW],by rw[ak (Ne.symm d1.ne)];exact d1.ee,lE d1.ep d1.eb 123,λu v t z=>(lD d1.ep 84 _ _ _ (d1.val u v t z).1,(d1.val u v t z).2),d1.inn,d1.bnd,d1.binn,by lia,d1.ne),AD.far d1.ep 84 397 _,s.ok.addP a b,s.st,ra2.keep (lD d1.ep 84 _),nd,λy hy=>?_,fg.out s.d7.eb s.dbF,by lia)
 ·rcases (hs y).mp hy with z|rfl|rfl
  ·exact s.nsm y z
  ·exact ai
  ·exact bi
theorem S7.barred (s:S7 K C H x dp ds db nm n F rows m g bs ns ps es vw) {bs':KA} (k:KF F H H1) (lb:LB C F H1 x rows m g bs' ms) (nd:ms.Nodup) (hs:∀y∈ms,y∈nm) (bn:bs'.Nodup) (bi:∀y∈bs',y∈nm):
  S7 K C (ay H1 db (.dK (bg bs' 71))) x dp ds db nm n F rows m g bs' ms ps es vw:=by
 have d1:=s.d7k k;have ra2:=s.rak k;have tp:=lD d1.eb 84 (.dK (bg bs' 71))
 exact ((lE d1.eb d1.ep 123,lE d1.eb d1.ee 123,ac,λu v t z=>(tp _ _ (d1.val u v t z).1,(d1.val u v t z).2),d1.inn,bn,bi,d1.few,d1.ne),lb.farN d1.eb s.dbF 397 _,s.ok,s.st,ra2.keep tp,nd,hs,s.dbF,s.cnt)
theorem S7.start (lb:LB C F H x [] 0 (λ_ _=>none) [] []) (ep:H dp=some 487) (ee:H ds=some 487) (eb:H db=some 83) (dF:db∉F) (ne:dp≠ds) (n6:nm.length<=12):S7 K C H x dp ds db nm 0 F [] 0 (λ_ _=>none) [] [] [] [] (λ_ _=>(1,1)):=
 ⟨⟨ep,ee,eb,λa b t h=>314,λa b t h=>314,Ih,λb h=>314,⟨by simp,by simp,n6⟩,ne⟩,lb,cF.nil,λa b=>⟨λ⟨t,h⟩=>314,λ⟨t,h⟩=>314⟩,⟨λa b t h=>314,λa b t h=>314⟩,Ih,λy h=>314,dF,by simp⟩
def BW (H:Hp) (a:Addr):Prop:=(∃kv,H a=some (.dK kv))∨∃kv,H a=some (.dT kv)
theorem BW.not {a b:Addr} {o:HO} (h:BW H a) (e:H b=some o) (n1:∀kv,o≠ .dK kv) (n2:∀kv,o≠ .dT kv):b≠a:=λz=>by
 rw[z] at e;rcases h with ⟨kv,h⟩|⟨kv,h⟩
 ·rw[h] at e;exact n1 kv (HH e).symm
 ·rw[h] at e;exact n2 kv (HH e).symm
noncomputable def Ow (dp ds db:Addr) (F:KB):KB:=dp::ds::db::F
theorem S7.own (s:S7 K C H x dp ds db nm n F rows m g bs ns ps es vw):∀a∈Ow dp ds db F,BW H a:=λa ha=>by
 simp only[Ow,GM] at ha;rcases ha with rfl|rfl|rfl|ha
 ·exact .inr (_,s.d7.ep)
 ·exact .inr (_,s.d7.ee)
 ·exact .inl (_,s.d7.eb)
 ·obtain ⟨F0,dx,s',b,fs,dk,la,ex,es,eb,bd,hb,q1,q2,q3,q4,q5,q6,q7,q8,q9⟩:=s.lb.ex;exact .inl (q8 a ha)
universe z0
structure Ld where
 x:Addr
 t:Addr
 dp:Addr
 ds:Addr
 db:Addr
def BX (kvs:List 125) (ps:Kx):Prop:=kvs.map 111=ps.map λp=> [(.inr p.1:Key),.inr p.2]
theorem BX.len {kvs:List 125} {ps:Kx} (h:BX kvs ps):kvs.length=ps.length:=by
 have:=congrArg List.length h
 rwa [G2,G2] at this
theorem BX.at_ {kvs:List 125} {ps:Kx} (h:BX kvs ps) {i:Nat} {k:List Key} {x:V} (hk:kvs[i]?=some (k,x)):∃a b:Str,k= [.inr a,.inr b]/\ps[i]?=some (a,b):=by
 have e:(kvs.map 111)[i]?=some k:=by rw[GJ,hk];rfl
 rw[h,GJ] at e;cases z:ps[i]? with
 |none=>rw[z] at e;cases e
 |some p=>
  rw[z] at e;cases e;exact (p.1,p.2,rfl,rfl)
noncomputable def yw (es:Ku):Kx:=es.map λe=>(e.1,e.2.1)
theorem GH (es:Ku):BX (oC es) (yw es):=by
 unfold BX oC yw;rw[He,He]
 rfl
theorem iK {es:Ku} {a b:Str}:(a,b)∈yw es↔se es a b:=by
 unfold yw se;rw[G9];constructor
 ·rintro ⟨⟨u,v,t⟩,h,e⟩;cases e;exact (t,h)
 ·rintro ⟨t,h⟩;exact (_,h,rfl)
theorem zX (es:Ku):(yw es).length=es.length:=G2 _
theorem KF.ow {dp ds db:Addr} {F:KB} {H H':Hp} (k:KF F H H'):KF (Ow dp ds db F) H H':=λa o n e=>k a o (λz=>n (by simp[Ow,z])) e
theorem KF.putD {A:KB} {H:Hp} {d:Addr} (h:d∈A) (u:HO):KF A H (ay H d u):=λa o n e=>by rw[ak (λz=>n (by rw[z];exact h))];exact e
theorem zY {es:Ku} {z y:Str} (h:Led (yw es) z y):∃p,mY (se es) z p/\aI p=y:=by
 induction h with
 |self=>exact ⟨[z],.one,rfl⟩
 |step _ m ih=>
  obtain ⟨p,hp,e⟩:=ih;exact (_,.snoc hp (by rw[e];exact iK.mp m),bS _ _)
theorem DR (ns:List Int):(jt 164 (some 2) (some 62)).length<=60:=by
 unfold jt;rw[GX];have e1:=HT.uB (ns.map V.int).length (ns.map V.int).length 62;have e2:=HT.uB (ns.map V.int).length 0 2;have e1':HT.fH (ns.map V.int).length (ns.map V.int).length (some 62)=min 62 (ns.map V.int).length:=e1;have e2':HT.fH (ns.map V.int).length 0 (some 2)=min 2 (ns.map V.int).length:=e2;rw[e1',e2']
 lia
def pY:Sp:=λvs H Q _=>∃(d:Addr) (good:Str) (kvs:List 125) (ps:Kx),vs= [.ref d,.str good]/\H d=some 223/\BX kvs ps/\ps.length<=900/\
 ∀(dk:Addr) (H':Hp) (ks:KA),ax H H'->H dk=none->H' dk=some (.dK (bg ks 71))->ks.Nodup->ks.length<=1001->(∀y,y∈ks↔Led ps good y)->Q (.ref dk) H'
noncomputable def CV (c:Int):Int:=1+(c.fmod 1000003*48271).fmod 999983
noncomputable def zZ (c:Int):Int:=1+((c.fmod 1000003*48271).fmod 999983*31).fmod 997
def iL:Sp:=λvs H Q _=>∃c:Int,vs= [.int c]/\∀p q:Int,0<p->mW p q->Bd 200 p->Bd 200 q->Fr p q (CV c) (zZ c)->Pair H Q p q
theorem z5 (c:Int):0<zZ c:=by
 have:=GO 178 (show (0:Int)<997 by decide)
 unfold zZ
 lia
theorem z6 {c p q p' q':Int} (f:Fr p q (CV c) (zZ c)) (f':Fr p' q' (CV c) (zZ c)):p=p'/\q=q':=by
 have b0:=z5 c;refine i8 (f.pos,f.low) (f'.pos,f'.low) (fP (k:=zZ c) ?_ 42)
 have e:=f.same;have e':=f'.same
 grind
section
variable {K:G0} {C:Addr} {H H1 H2:Hp} {x dp ds db:Addr} {nm:KA} {n:Nat} {F F':KB} {rows:Kw} {m:Nat} {g:Kq} {bs ns ms:KA} {ps:Kx} {es:Ku} {vw:Kr}
theorem S7.standB (s:S7 K C H x dp ds db nm n F rows m g bs ns ps es vw) {a b:Str} {r r0:Addr} {p q:Int} (er0:H r0=some 82) (g1:ax (556 ds 193) H1) (k:KF F H1 H2) (fg:FG F F' H1) (lb:LB C F' H2 x rows (m+2) (pS g a b r) bs ms) (er:H2 r=some 82) (p0:0<p) (lo:mW p q) (b1:Bd 200 p) (b2:Bd 200 q) (na:Nm a) (nb:Nm b) (nd:ms.Nodup) (hs:∀y,y∈ms↔y∈ns∨y=a∨y=b) (ai:a∈nm) (bi:b∈nm) (ab:a≠b) (new:∀t,(a,b,t)∉es) (n60:n<60):
  S7 K C H2 x dp ds db nm (n+1) F' rows (m+2) (pS g a b r) bs ms ps (es++ [(a,b,r0)]) (λu v=>if u=a/\v=b then (p,q) else vw u v):=by
 have d0:=s.d7;have cnt:=s.cnt;have few:=s.d7.few;have lb0:=s.lb.far d0.ee 84 397 193
 have jj:=lb0.same g1;have tp:∀c xs,H c=some 282->H2 c=some (.tup xs):=λc xs e=>by
  have e1:=g1 _ _ (lD d0.ee 84 _ _ _ e)
  sleep 231
 have ep2:H2 dp=some (.dT (rF ps)):=by
  have e1:=g1 _ _ (show ay H ds _ dp=_ by rw[ak d0.ne];exact d0.ep)
  sleep 231
 have ee2:H2 ds=some (.dT (oC (es++ [(a,b,r0)]))):=by
  have e1:=g1 ds _ ac;rw[zS new] at e1;sleep 231
 have eb1:=g1 _ _ (lE d0.ee d0.eb 123)
 have eb2:=k _ _ s.dbF eb1;refine ((ep2,ee2,eb2,λu v t z=>?_,λu v t z=>?_,d0.bnd,d0.binn,by rw[G8,GV];lia,d0.ne),lb,s.ok,λu v=>?_,(λu v t z=>?_,λu v t z=>?_),nd,λy hy=>?_,fg.out eb1 s.dbF,by rw[G8,GV];lia)
 ·rcases GU.mp z with z|z
  ·have c:¬(u=a/\v=b):=λc=>new t (by rw[<-c.1,<-c.2];exact z)
   simp only[if_neg c];exact (tp _ _ (d0.val u v t z).1,(d0.val u v t z).2)
  ·rw[GK] at z;cases z;simp only[and_self,if_true];exact (tp _ _ er0,p0,lo,b1,b2)
 ·rcases GU.mp z with z|z
  ·exact d0.inn u v t z
  ·rw[GK] at z;cases z;exact (ai,bi,ab)
 ·unfold u6 pS
  by_cases c:u=a/\v=b
  ·rw[c.1,c.2];exact (λ_=>(r0,by simp),λ_=>(r,by simp))
  ·simp only[if_neg c];refine (s.st u v).trans ⟨λ⟨w,z⟩=>⟨w,Hu _ z⟩,λ⟨w,z⟩=>?_⟩
   rcases GU.mp z with z|z
   ·exact (w,z)
   ·rw[GK] at z;cases z;exact absurd 239 c
 ·unfold pS at z
  by_cases c:u=a/\v=b
  ·rw[if_pos c] at z;cases z;simp only[if_pos c];exact (er,p0,lo,b1,b2)
  ·rw[if_neg c] at z;simp only[if_neg c];obtain ⟨f1,f2⟩:=s.ra.fr u v t z;exact (tp _ _ f1,f2)
 ·unfold pS at z
  by_cases c:u=a/\v=b
  ·rw[c.1,c.2];exact (na,nb)
  ·rw[if_neg c] at z;exact s.ra.nm u v t z
 ·rcases (hs y).mp hy with z|rfl|rfl
  ·exact s.nsm y z
  ·exact ai
  ·exact bi
universe z0
def Tw (es:Ku) (vw:Kr):Prop:=∀a b,se es a b->0<(vw a b).1/\0<(vw a b).2/\Bd 20 (vw a b).1/\Bd 10 (vw a b).2
theorem Tw.add {es:Ku} {vw:Kr} (h:Tw es vw) {a b:Str} {r:Addr} {p q:Int} (p0:0<p) (q0:0<q) (b1:Bd 20 p) (b2:Bd 10 q):Tw (es++ [(a,b,r)]) (λu v=>if u=a/\v=b then (p,q) else vw u v):=λu v (t,z)=>by
 by_cases c:u=a/\v=b
 ·simp only[if_pos c];exact (p0,q0,b1,b2)
 ·simp only[if_neg c];rcases GU.mp z with z|z
  ·exact h u v (t,z)
  ·rw[GK] at z;cases z;exact absurd 239 c
structure DS (H:Hp) (lt:Addr) (ks:Kv):Prop where
 ex:∃ts:KB,H lt=some 146/\ts.length=ks.length/\∀(i:Nat) (t:Addr) (k:KI),ts[i]?=some t->ks[i]?=some k->∃am,H t=some 350/\H am=some (.tup [.int k.2.1,.int k.2.2])
theorem DS.kd {H H':Hp} {lt:Addr} {ks:Kv} (h:DS H lt ks) (k:KD H H'):DS H' lt ks:=by
 obtain ⟨ts,e,l,each⟩:=h.ex;refine (ts,k _ _ 70 70 e,l,λi t kk h1 h2=>?_)
 obtain ⟨am,e1,e2⟩:=each i t kk h1 h2;exact (am,k _ _ 70 70 e1,k _ _ 70 70 e2)
structure z7 (C:Addr) (H:Hp) (r:Addr) (pl:Int) (ks:Kv):Prop where
 ex:∃(dr lt:Addr) (fs:List 215),H r=some (.ins C dr fs)/\fs.lookup ("takes" :Str)=some (.ref lt)/\fs.lookup ("plates" :Str)=some (.int pl)/\DS H lt ks
theorem z7.kd {C:Addr} {H H':Hp} {r:Addr} {pl:Int} {ks:Kv} (h:z7 C H r pl ks) (k:KD H H'):z7 C H' r pl ks:=by
 obtain ⟨dr,lt,fs,e,f1,f2,tk⟩:=h.ex;exact (dr,lt,fs,k _ _ 70 70 e,f1,f2,tk.kd k)
theorem z8 {es:Ku} {z:Str} {p:KA} (h:mY (se es) z p):Led (yw es) z (aI p):=by
 induction h with
 |one=>exact .self
 |snoc _ r ih=>rw[bS];exact .step ih (iK.mpr r)
def sg (es:Ku) (ps:Kx) (bs:KA) (z:Str):Prop:=∃y,Led (yw es) z y/\¬Blk ps bs y
theorem Aa {ks:KA} {i:Nat} {k:Key} {x:V} (h:(bg ks 71)[i]?=some (k,x)):∃y,k= .inr y/\ks[i]?=some y:=by
 unfold bg at h;rw[GJ] at h;cases e:ks[i]? with
 |none=>rw[e] at h;cases h
 |some p=>
  rw[e] at h;cases h;exact (p,rfl,rfl)
theorem yx {R:Str->Str->Prop} {es:Ku} {ps:Kx} {bs:KA} {good:Str} {cs:List KA} (hR:∀a b,R a b↔se es a b) (h:gR R good cs cs.length 289) {k:Nat} {c:KA} (hk:cs[k]?=some c) (bl:∀(j:Nat) (d:KA),j<k->cs[j]?=some d->Blk ps bs (aI d)) (nb:¬Blk ps bs 348):eW es ps bs good c:=by
 have eR:R=se es:=by funext a b;exact propext (hR a b)
 subst eR;refine (gR.path h k c hk,nb,λp hp np z=>?_)
 obtain ⟨j,d',hd,el,na⟩:=gR.least h hp;refine na ?_;rcases Nat.lt_trichotomy j k with w|w|w
 ·exact absurd (bl j d' w hd) (by rw[el];exact np)
 ·subst w;rw[hk] at hd;cases hd;exact z
 ·exact z.trans (h.lt hk hd w)
theorem yy {es:Ku} {ps:Kx} {bs:KA} {good:Str} {c:KA} (h:eW es ps bs good c):sg es ps bs good:=(aI c,z8 h.1,h.2.1)
theorem vd {R:Str->Str->Prop} {es:Ku} {ps:Kx} {bs:KA} {good:Str} {cs:List KA} (hR:∀a b,R a b↔se es a b) (h:gR R good cs cs.length 289) (all:∀(j:Nat) (d:KA),cs[j]?=some d->Blk ps bs (aI d)):¬sg es ps bs good:=λ⟨y,hl,nb⟩=>by
 obtain ⟨p,hp,e⟩:=zY hl;exact nb (by rw[<-e];exact yr hR h all p hp)
abbrev gU:=List Str×Int×Int
structure yz (H0 H:Hp) (l:Addr) (ks:Kv) (rs:List gU) (D:Str->KA->Int->Int->Prop):Prop where
 ex:∃ts:KB,H l=some 146/\ts.length=rs.length/\rs.length<=ks.length/\∀(i:Nat) (t:Addr) (k:KI) (r:gU),ts[i]?=some t->ks[i]?=some k->rs[i]?=some r->D k.1 r.1 r.2.1 r.2.2/\∃cl rl,H t=some 211/\H cl=some (.lst (r.1.map V.str))/\H rl=some (.tup [.int r.2.1,.int r.2.2])/\H0 cl=none/\cl≠l
theorem yz.same {H0 H H':Hp} {l:Addr} {ks:Kv} {rs:List gU} {D:Str->KA->Int->Int->Prop} (h:yz H0 H l ks rs D) (g:ax H H'):yz H0 H' l ks rs D:=by
 obtain ⟨ts,e,l1,l2,each⟩:=h.ex;refine (ts,g _ _ e,l1,l2,λi t k r h1 h2 h3=>?_)
 obtain ⟨d,cl,rl,e1,e2,e3,e4⟩:=each i t k r h1 h2 h3;exact (d,cl,rl,g _ _ e1,g _ _ e2,g _ _ e3,e4)
theorem yz.snoc {H0 H:Hp} {l:Addr} {ks:Kv} {rs:List gU} {D:Str->KA->Int->Int->Prop} (h:yz H0 H l ks rs D) {ts:KB} (hl:H l=some 146) {k:KI} (hk:ks[rs.length]?=some k) {t cl rl:Addr} {c:KA} {p q:Int} (d:D k.1 c p q) (e1:H t=some 211) (e2:H cl=some 329) (e3:H rl=some 82) (n:H0 cl=none) (ne:cl≠l):yz H0 (556 l (.lst ((ts++ [t]).map V.ref))) l ks (rs++ [(c,p,q)]) D:=by
 obtain ⟨ts',e,l1,l2,each⟩:=h.ex;rw[hl] at e;injection e with e
 injection e with e
 have et:ts=ts':=by
  have:∀(a b:KB),a.map V.ref=b.map V.ref->a=b:=by
   intro a
   induction a with
   |nil=>intro b hb;cases b with|nil=>rfl|cons _ _=>cases hb
   |cons x a ih=>
    intro b hb;cases b with
    |nil=>cases hb
    |cons y b=>
     injection hb with h1 h2
     injection h1 with h1
     rw[h1,ih b h2]
  exact this _ _ e
 subst et;have tp:∀a xs,H a=some 282->ay H l (.lst ((ts++ [t]).map V.ref)) a=some (.tup xs):=λa xs z=>by rw[ak (λw=>by rw[w,hl] at z;cases z)];exact z
 refine (ts++ [t],ac,by rw[G8,G8,l1];rfl,by have:=(G3.mp hk).1;rw[G8,GV];lia,λi t' k' r h1 h2 h3=>?_)
 by_cases c':i<rs.length
 ·rw[G6 42] at h1
  rw[G6 c'] at h3;obtain ⟨d',cl',rl',f1,f2,f3,f4,f5⟩:=each i t' k' r h1 h2 h3;exact (d',cl',rl',tp _ _ f1,by rw[ak f5];exact f2,tp _ _ f3,f4,f5)
 ·have il:=(G3.mp h3).1;rw[G8,GV] at il;have:i=rs.length:=by lia
  subst this;rw[hk] at h2;cases h2;rw[G7 173,IK] at h3;cases h3;rw[G7 42,l1,IK] at h1
  cases h1;exact (d,cl,rl,tp _ _ e1,by rw[ak ne];exact e2,tp _ _ e3,n,ne)
def j9 (K:G0) (CR C cI:Addr):Sp:=λvs H Q E=>∃(r x dp ds db:Addr) (pl:Int) (ks:Kv) (nm:KA) (n:Nat) (F:KB) (rows:Kw) (m:Nat) (g:Kq) (bs ns:KA) (ps:Kx) (es:Ku) (vw:Kr),vs= [.ref r,.ref x]/\z7 CR H r pl ks/\ks.length<=100/\(∀k∈ks,Nm k.1)/\S7 K C H x dp ds db nm n F rows m g bs ns ps es vw/\n<=60/\
 (∀(l:Addr) (rs:List gU) (H':Hp),ax H H'->H l=none->rs.length=ks.length->yz H H' l ks rs 218->Q 176 H')/\
 (∀(i:Nat) (k:KI) (d:Addr) (H':Hp),ax H H'->ks[i]?=some k->(∀(j:Nat) (k':KI),j<i->ks[j]?=some k'->sg es ps bs k'.1)->¬sg es ps bs k.1->H' d=some (.xd [("good",.str k.1)])->E (.ref cI) (some d) H')
def ve (C:Addr):Sp:=λvs H Q _=>∃(a dx lt ls lk:Addr) (nm:V) (pl:Int) (xt xs xk:List V),vs= [.ref a,nm,.int pl,.ref lt,.ref ls,.ref lk]/\H a=some (.ins C dx [])/\H lt=some (.lst xt)/\H ls=some 389/\H lk=some (.lst xk)/\
 ∀(la:Addr) (fs:List 215) (H':Hp),j8 a H H'->H la=none->H' la=some (.lst xt)->H' a=some 156->fs.lookup ("takes" :Str)=some (.ref la)->fs.lookup ("plates" :Str)=some (.int pl)->Q .non H'
theorem vf {nm:V} {pl:Int} {la l2 l3:V}:(L2.aJ "links" l3 288).lookup ("takes" :Str)=some la/\(L2.aJ "links" l3 288).lookup ("plates" :Str)=some (.int pl):=by
 exists ?_
 ·rw[aK,if_neg 13,aK,if_neg 13,aK,if_pos rfl]
 ·sleep 223
theorem dC {H:Hp} {a b C dx:Addr} {fs:List 215} {u:HO} {xs:List V} (e:H a=some 156) (h:H b=some 389):ay H a u b=some (.lst xs):=by rw[ak (λz=>by rw[z,e] at h;cases h)];exact h
theorem jc {H0 H:Hp} {a:Addr} (k:j8 a H0 H) (u:HO):j8 a H0 (ay H a u):=λb o n h=>by rw[ak n];exact k b o n h
theorem tV {H0 H:Hp} {a l:Addr} (k:j8 a H0 H) (n:H l=none) (u:HO):j8 a H0 (ay H l u):=λb o m h=>ag n u _ _ (k b o m h)
theorem BY {H:Hp} {a l C dx:Addr} {fs:List 215} (e:H a=some 156) (n:H l=none):a≠l:=λz=>by rw[<-z,e] at n;cases n
theorem Ab {H0 H:Hp} {a l C dx:Addr} {fs:List 215} (k:j8 a H0 H) (e:H a=some 156) (n:H l=none):H0 l=none:=by
 cases h:H0 l with
 |none=>rfl
 |some ob=>rw[k l ob (Ne.symm (BY e n)) h] at n;cases n
theorem eY {H:Hp} {a l C dx:Addr} {fs:List 215} {u:HO} (e:H a=some 156) (n:H l=none):ay H l u a=some (.ins C dx fs):=ag n u _ _ e
theorem E8 {s:Str} {v:V} {fs:List 215} {n:Nat} (h:fs.length<=n):(L2.aJ s v fs).length<=n+1:=by have:=cZ s v fs;lia
structure wL (H:Hp) (ts:KB) (ks:Kv):Prop where
 len:ts.length=ks.length
 each:∀(i:Nat) (t:Addr) (k:KI),ts[i]?=some t->ks[i]?=some k->∃am,H t=some 350/\H am=some (.tup [.int k.2.1,.int k.2.2])
theorem wL.mono {H H':Hp} {ts:KB} {ks:Kv} (h:wL H ts ks) (k:∀a xs,H a=some 282->H' a=some 282):wL H' ts ks:=⟨h.len,λi t z h1 h2=>by
 obtain ⟨am,e1,e2⟩:=h.each i t z h1 h2;exact (am,k _ _ e1,k _ _ e2)⟩
theorem wL.snoc {H:Hp} {ts:KB} {ks:Kv} (h:wL H ts ks) {t am:Addr} {z:Str} {p q:Int} (e1:H t=some 387) (e2:H am=some 82):wL H (ts++ [t]) (ks++ [(z,p,q)]):=by
 have l:=h.len;refine (by simp[l],λi t' k' h1 h2=>?_)
 by_cases c:i<ts.length
 ·rw[G6 c] at h1;rw[G6 42] at h2
  exact h.each i t' k' h1 h2
 ·have il:=(G3.mp h1).1;rw[G8,GV] at il;have:i=ts.length:=by lia
  subst this;rw[G7 173,IK] at h1;rw[l,G7 173,IK] at h2;cases h1;cases h2;exact (am,e1,e2)
theorem wL.col {H:Hp} {ts:KB} {ks:Kv} (h:wL H ts ks) {ys:List V} (hl:ys.length=(ts.map V.ref).length)
  (ht:∀(i:Nat) (x y:V),(ts.map V.ref)[i]?=some x->ys[i]?=some y->∃(r am:Addr) (k:KI),x= .ref r/\H r=some 350/\y= .str k.1):ys=(ks.map 111).map V.str:=by
 have l:=h.len;rw[G2] at hl;refine IW λi=>?_
 by_cases c:i<ts.length
 ·have ci:i<ks.length:=by lia
  have cy:i<ys.length:=by lia
  obtain ⟨r,am,k,e1,e2,e3⟩:=ht i (.ref ts[i]) ys[i] (by rw[GJ,G1 c];rfl) (G1 cy)
  cases e1;obtain ⟨am',f1,_⟩:=h.each i ts[i] ks[i] (G1 c) (G1 ci);rw[f1] at e2;sleep 283
  sleep 283
  injection e2 with e2 _
  rw[G1 cy,e3,GJ,GJ,G1 ci,<-e2]
  rfl
 ·rw[Hh 42,Hh 324]
theorem DU {x:Str} {gs:KA} {A B:Prop} (h1:x∉gs->A) (h2:x∈gs->B):if (if true=true then !sG (.str x) 275 else sG (.str x) 275)=true then A else B:=by
 rw[if_pos rfl,iE]
 by_cases h:x∈gs
 ·rw[decide_eq_true h];exact h2 h
 ·rw[decide_eq_false h];exact h1 h
theorem oJ {p q c:Int} (f:Fr p q (CV c) (zZ c)):Bd 20 p/\Bd 10 q:=by
 have h0:=GO 399 (show (0:Int)<999983 by decide)
 have h1:=HD 399 (show (0:Int)<999983 by decide)
 have h2:=GO 178 (show (0:Int)<997 by decide)
 have h3:=HD 178 (show (0:Int)<997 by decide)
 have b1:=f.bt;have b2:=f.bb;unfold CV at b1;unfold zZ at b2;unfold Bd;constructor
 ·show p.natAbs<1048576
  lia
 ·show q.natAbs<1024
  lia
universe Sw
namespace L2
open PySem PySem.Spec PyProof.Rows XH Sw So
theorem BZ {P:Program} {w:World} {H:Hp} {h:Heap} {a:Addr} {o:HO} (x:aY P w H h a o):∃ob,h.get? a=some ob:=by
 cases o with
 |lst xs=>obtain ⟨_,_,_,_,e⟩:=x;exact (_,e)
 |tup xs=>obtain ⟨_,_,_,⟨o,e,_⟩⟩:=x;exact (_,e)
 |dK kvs=>obtain ⟨_,_,_,_,o,_,_,e,_⟩:=x;exact (_,e)
 |dT kvs=>obtain ⟨_,_,_,_,o,_,_,e,_⟩:=x;exact (_,e)
 |set S n=>obtain ⟨o,_,_,_,e,_⟩:=x;exact (_,e)
 |ins C dx fs=>obtain ⟨_,_,_,e,_⟩:=x;exact (_,e)
 |own y=>exact x
 |xd fs=>obtain ⟨_,⟨_,_,_,e,_⟩,_⟩:=x;exact (_,e)
 |rng lo hi=>obtain ⟨_,_,_,e⟩:=x;exact (_,e)
 |frz ob u=>obtain ⟨e,_⟩:=x;exact (_,e)
 |tbl ps=>exact ⟨_,x⟩
 |met f y=>exact ⟨_,x⟩
 |ext φ=>exact x.2.1
theorem aG.laidN {X:Cx} {pins:Ky} {σ:List (Option V)} {H H':Hp} {s:Shared} {h':Heap} {t':Nat} (I:aG X pins σ H s) (k:∀b u,s.heap.get? b=some u->h'.get? b=some u) (g:∀b o,H b=some o->H' b=some o)
  (new:∀b o,H b=none->H' b=some o->s.heap.get? b=none/\aY X.prog X.w H' h' b o):aG X pins σ H' {s with heap:=h',toks:=t'}:=by
 refine I.un (λb u q _ _ _=>k b u q,λb u q _ _ _=>(u.slots,k b u q),λb u q n _=>?_,λb u q _=>(u,k b u q),λb xs q=>g b _ q,λb u xs q=>g b _ q,λb ps q=>(#[],by rw[g b _ q];simp)) λb u e=>?_
 ·cases e:H' b with
  |none=>rfl
  |some o=>
   rw[(new b o n e).1] at q;cases q
 ·cases e2:H b with
  |none=>exact (new b u e2 e).2
  |some u'=>
   rw[g b u' e2] at e;cases e;exact (I.hok b _ e2).stay (λc v _ q=>k c v q) (λc q=>g c _ q) λc xs q=>g c _ q
noncomputable def itR (r:Str×Addr):Key×V:=(.inr r.1,.ref r.2)
theorem mK {X:Cx} (hc:X.calm=true):cY X (.builtin "sorted") (λxs H Q=>∃(v d:Addr) (rows:List 149),xs= [.ref v]/\H v=some 295/\H d=some (.dK (rows.map itR))/\(rows.map 111).Nodup/\rows.length<64/\
  ∀(p:Addr) (ys:List 149) (as:KB) (H':Hp),(∀b o,H b=some o->H' b=some o)->H p=none->H' p=some (.lst (as.map V.ref))->ys.Perm rows->sortedS (ys.map 111)=true->as.length=ys.length->
   (∀(i:Nat) (a:Addr) (y:Str×Addr),as[i]?=some a->ys[i]?=some y->H' a=some (.tup [.str y.1,.ref y.2]))->Q 133 H'):=by
 sleep 27;obtain ⟨v,d,rows,rfl,hv,hd,nd,h64,q⟩:=h;sleep 254;cases ru;obtain ⟨z,hS,ws,rel,D⟩:=jx I.hok hd;obtain ⟨ep,hat⟩:=D.dictAt;obtain ⟨view,_⟩:=(show aY X.prog X.w H s.heap v 295 from I.hok v _ hv)
 have lw:ws.length=rows.length:=by rw[<-rel.length,G2]
 have zs:(100:Nat)<=sizeLine:=by decide
 sleep 82;refine wpAny_bind (PySem.W.kdx_collect (A:=X.A.in1) 231 view hat 42 λh' tk as hkp al hG=>?_)
 have z':as.length<=sizeLine:=by lia
 have hgn:s.heap.get? h'.objs.size=none:=by
  cases e:s.heap.get? h'.objs.size with
  |none=>rfl
  |some o=>exact absurd (85 (hkp _ _ e)) (Ie _)
 refine wpAny_bind (wpAny_newList ?_ (by simpa using z'))
 have hoL:(h'.push 287).get? h'.objs.size=some (seqObj "list" (as.map Value.ref).toArray 0):=81 _ rfl;have nda:as.Nodup:=hG.rise.imp λh=>GL h
 have inx:∀{i j:Nat} {a:Addr},as[i]?=some a->as[j]?=some a->i=j:=λ{i j a} h1 h2=>(List.getElem?_inj (G3.mp h1).1 nda).mp (h1.trans h2.symm)
 let g:Addr->Str×Addr:=λa=> @Classical.epsilon (Str×Addr) ⟨("",0)⟩ (λy=>∃j:Nat,as[j]?=some a/\rows[j]?=some y)
 have gat:∀{j:Nat} {a:Addr} {y:Str×Addr},as[j]?=some a->rows[j]?=some y->g a=y:=λ{j a y} h1 h2=>by
  have hx:∃y:Str×Addr,∃j:Nat,as[j]?=some a/\rows[j]?=some y:=(y,j,h1,h2);obtain ⟨j',e1,e2⟩:=Classical.epsilon_spec hx;have e2:rows[j']?=some (g a):=e2;have:=inx e1 h1;subst this;rw[h2] at e2;exact (HH e2).symm
 have em:as.map g=rows:=by
  refine IW λi=>?_
  rw[GJ]
  by_cases c:i<as.length
  ·have cr:i<rows.length:=by lia
   rw[G1 c,G1 cr];exact congrArg some (gat (G1 c) (G1 cr))
  ·rw[Hh 42,Hh 42]
   rfl
 have emf:as.map (λa=>(g a).1)=rows.map (·.1):=by rw[<-em,He];rfl
 have injf:∀a∈as,∀b∈as,(g a).1=(g b).1->a=b:=λa ha b hb e=>by
  obtain ⟨i,hi⟩:=GP.mp ha;obtain ⟨j,hj⟩:=GP.mp hb;have il:=(G3.mp hi).1;have e1:(as.map λa=>(g a).1)[i]?=some (g a).1:=by rw[GJ,hi];rfl
  have e2:(as.map λa=>(g a).1)[j]?=some (g a).1:=by rw[GJ,hj,e];rfl
  rw[emf] at e1 e2;have ij:=(List.getElem?_inj 281 nd).mp (e1.trans e2.symm)
  rw[ij,hj] at hi;exact (HH hi).symm
 have ndv:(as.map Value.ref).Nodup:=IV.mpr (nda.imp λh e=>h (by injection e))
 have tupH:∀a∈as,∃t,h'.get? a=some {cls:= .type "tuple",data:= .seq #[.str (g a).1 t,.ref (g a).2]}:=λa ha=>by
  obtain ⟨j,hj⟩:=GP.mp ha;obtain ⟨key,k,x,e1,e2,e3⟩:=hG.pairs j a hj;obtain ⟨⟨k',v'⟩,e4,e5,e6⟩:=j6 rel e1;rw[GJ] at e4;cases hr:rows[j]? with
  |none=>rw[hr] at e4;cases e4
  |some y=>
   rw[hr] at e4;cases e4;rw[gat hj hr];cases e6;cases e5;obtain ⟨t,ht⟩:=nW e2;exact (t,by rw[e3,ht])
 let nm:Addr->Option Str:=λa=>if a∈as then some (g a).1 else none
 have nm_of:∀{a:Addr} {y:Str},nm a=some y->a∈as/\(g a).1=y:=λ{a y} e=>by
  by_cases m:a∈as
  ·have e':311=some y:=e
   rw[if_pos m] at e';exact (m,HH e')
  ·have e':311=some y:=e
   rw[if_neg m] at e';cases e'
 have nm_in:∀{a:Addr},a∈as->nm a=some (g a).1:=λ{a} m=>by
  show 311=_
  rw[if_pos m]
 have inj:∀a b y,nm a=some y->nm b=some y->a=b:=λa b y h1 h2=>injf a (nm_of h1).1 b (nm_of h2).1 ((nm_of h1).2.trans (nm_of h2).2.symm)
 have tup:∀x y,nm x=some y->∃m,T2 (h'.push 287) x y m:=λx y hx=>by
  obtain ⟨t,e⟩:=tupH x (nm_of hx).1;rw[(nm_of hx).2] at e;exact (_,_,0,t,67 _ e,rfl,rfl)
 refine wpAny_bind (wpAny_holding (wpAny_call_entry slot_list_sort (_,hoL,rfl) entry_list_sort (yh (nm:=nm) hoL inj (λv hv=>?_) tup ndv (by simpa using z') 281 λst' hp hs=>(ν,?_)) (args_list_sort _)))
 ·obtain ⟨a,ha,rfl⟩:=G9.mp hv;exact (a,(g a).1,rfl,nm_in ha)
 have ez:(pairsOf (as.map Value.ref)).toList=as.map (λa=>409):=by
  rw[pairsOf_toList];exact rj Value.ref as
 rw[ez] at hp;obtain ⟨bs,hb,eb⟩:=wd (k:=λp:Keyed=>match p.1 with| .ref a=>a|_=>0) (λa=>rfl) hp
 have so:sortedS (bs.map λa=>(g a).1)=true:=by
  refine sortedS_of_pairwise _ (IV.mpr ?_);rw[eb,IV] at hs;refine Ig (λ{a b} ha hb' hab=>?_) hs
  have ma:=hb.mem_iff.mp ha;have mb:=hb.mem_iff.mp hb';have k1:kk (cK nm) 409=(g a).1.cps.toList:=by
   show (((nm a).map λy=>y.cps.toList).getD _)=_
   rw[nm_in ma]
   rfl
  have k2:kk (cK nm) ((.ref b:Value),(.ref b:Value))=(g b).1.cps.toList:=by
   show (((nm b).map λy=>y.cps.toList).getD _)=_
   rw[nm_in mb]
   rfl
  have hab':(cK nm).blt (kk (cK nm) ((.ref b:Value),(.ref b:Value))) (kk (cK nm) 409)=false:=hab;rw[k1,k2] at hab';rw[ltCps_eq];exact hab'
 have eo:286=(bs.map Value.ref).toArray:=by
  apply Array.toList_inj.mp;rw[Array.toList_map,eb,He];simp
 have pas:h'.objs.size∉as:=λw=>by
  obtain ⟨t,e⟩:=tupH _ w;exact absurd (85 e) (Ie _)
 let H':Hp:=λb=>if b=h'.objs.size then some (.lst (bs.map V.ref)) else if b∈as then some (.tup [.str (g b).1,.ref (g b).2]) else H b
 have hpl:H' h'.objs.size=some (.lst (bs.map V.ref)):=if_pos rfl;have hta:∀a∈as,H' a=some (.tup [.str (g a).1,.ref (g a).2]):=λa ha=>by
  show (if a=h'.objs.size then _ else if a∈as then _ else _)=_
  rw[if_neg (λw:a=h'.objs.size=>pas (w▸ha)),if_pos ha]
 have hold:∀b,b≠h'.objs.size->b∉as->H' b=H b:=λb h1 h2=>by
  show (if b=h'.objs.size then _ else if b∈as then _ else _)=_
  rw[if_neg h1,if_neg h2]
 have fr:∀{b:Addr},35<=b->H b=none:=λh=>I.hok.fresh h
 have frp:H h'.objs.size=none:=by
  cases e:H h'.objs.size with
  |none=>rfl
  |some o=>
   obtain ⟨x,hx⟩:=BZ (I.hok _ _ e);rw[hgn] at hx;cases hx
 have gS:∀b o,H b=some o->H' b=some o:=λb o e=>by
  rw[hold b (λw:b=h'.objs.size=>by rw[w,frp] at e;cases e) (λw=>by rw[fr (Nat.le_of_lt (hG.above b w))] at e;cases e)]
  exact e
 refine wpAny_pure (ν,.ref h'.objs.size,H',I.laidN (h':=sortedHeap (h'.push 287) h'.objs.size (as.map Value.ref) 286) (t':=tk) (λb o eo=>?_) gS (λb o n e=>?_),rfl,q _ (bs.map g) bs H' gS (frp) hpl (em▸hb.map g) (by rw[He];exact so) (by rw[G2]) (λi a y h1 h2=>?_))
 ·have eo':=hkp b o eo;have bl:=85 eo';sleep 170
  exact 67 _ eo'
 ·by_cases c:b=h'.objs.size
  ·subst c;rw[hpl] at e;cases e;exists hgn;sleep 286;exists by rw[G2,hb.length_eq];exact z',bs.map Value.ref,e,oo bs
   rw[<-eo];exact he
  ·by_cases c2:b∈as
   ·rw[hta b c2] at e;cases e;exists Heap.get?_none_of_le (Nat.le_of_lt (hG.above b c2)),by show 2<=sizeLine;decide
    obtain ⟨t,et⟩:=tupH b c2;have bl:=85 et;refine ([.str (g b).1 t,.ref (g b).2],.cons (t,rfl) (.cons rfl .nil),({cls:= .type "tuple",data:= .seq #[.str (g b).1 t,.ref (g b).2]},?_,rfl,0,rfl));sleep 170
    exact 67 _ et
   ·rw[hold b c c2,n] at e;cases e
 ·rw[GJ,h1] at h2;cases h2;exact hta a (hb.mem_iff.mp (G5 h1))
universe L2
namespace Sw
open PySem L2 XH PyProof.Rows Wo Hm So
noncomputable def Ac (a b:Int):Int×Int:= @Classical.epsilon (Int×Int) ⟨(0,1)⟩ (λr=>Fr r.1 r.2 a b)
theorem Ad {p q a b p' q' a' b':Int} (f:Fr p q a b) (f':Fr p' q' a' b') (b0:b≠0) (b0':b'≠0) (e:a*b'=a'*b):p=p'/\q=q':=by
 refine i8 f.to f'.to (fP (k:=b*b') ?_ (Int.mul_ne_zero b0 b0'));have e1:=f.same;have e2:=f'.same;have h1:p*q'*(b*b')=(p*b)*(q'*b'):=by grind
 have h2:p'*q*(b*b')=(p'*b')*(q*b):=by grind
 rw[h1,h2,e1,e2];have h3:a*q*(q'*b')=(a*b')*(q*q'):=by grind
 have h4:a'*q'*(q*b)=(a'*b)*(q*q'):=by grind
 rw[h3,h4,e]
theorem yA {p q a b:Int} (b0:b≠0) (f:Fr p q a b):Ac a b=(p,q):=by
 have h:Fr (Ac a b).1 (Ac a b).2 a b:= @Classical.epsilon_spec (Int×Int) (λr:Int×Int=>Fr r.1 r.2 a b) ((p,q),f)
 obtain ⟨e1,e2⟩:=Ad h f b0 b0 rfl;exact Prod.ext e1 e2
theorem yB {es:Ku} {ps:Kx} {bs:KA} {z:Str} {c c':KA} (h:eW es ps bs z c) (h':eW es ps bs z c'):c=c':=kN (h'.2.2 c h.1 h.2.1) (h.2.2 c' h'.1 h'.2.1)
theorem pZ {es:Ku} {vw:Kr} (t:Tw es vw) {c:KA} (h:∀(j:Nat) (x y:Str),c[j]?=some x->c[j+1]?=some y->se es x y):∀n,n<c.length->0<(dN vw c n).1/\0<(dN vw c n).2/\Bd (20*n+1) (dN vw c n).1/\Bd (10*n+1) (dN vw c n).2
 |0,_=>⟨(by decide:(0:Int)<1),(by decide:(0:Int)<1),Bd.one,Bd.one⟩
 |n+1,hn=>by
  obtain ⟨i1,i2,i3,i4⟩:=pZ t h n 42
  have e1:c[n]?=some (c.getD n ""):=by rw[GS,G1 42];rfl
  have e2:c[n+1]?=some (c.getD (n+1) ""):=by rw[GS,G1 hn];rfl
  obtain ⟨j1,j2,j3,j4⟩:=t _ _ (h n _ _ e1 e2);unfold dN;exact (HU i1 j1,HU i2 j2,(i3.mul j3).mono 42,(i4.mul j4).mono 42)
theorem AV {es:Ku} {ps:Kx} {bs nm:KA} {vw:Kr} {z:Str} {c:KA} {p q:Int} (t:Tw es vw) (inn:∀a b t,(a,b,t)∈es->a∈nm/\b∈nm/\a≠b) (n12:nm.length<=12) (d:eW es ps bs z c) (r:oz vw c p q):0<p/\mW p q/\Bd 241 p/\Bd 121 q:=by
 have cl:=d.len (U:=nm) (λa b (t,h)=>(inn a b t h).2.1)
 sleep 152
 sleep 228;have pos:0<p:=by
  have:0<p*B:=by rw[e];exact HU t0 q0
  exact Int.pos_of_mul_pos_left this b0
 have d1:q∣B:=c8 g 400
 have g':b6 q p=1:=by unfold b6 at g⊢;rw[Int.gcd_comm];exact g
 have d2:p∣T:=c8 g' (by rw[Int.mul_comm q T,<-e];exact Int.dvd_mul_right ..)
 have l1:=Int.le_of_dvd b0 d1;have l2:=Int.le_of_dvd t0 d2;exact (pos,(q0,g),(bt.of_le 42).mono 42,(bb.of_le 42).mono 42)
theorem yC {es:Ku} {ps:Kx} {bs:KA} {vw:Kr} {z:Str} {c:KA} {p q p' q':Int} (t:Tw es vw) (d:eW es ps bs z c) (r:oz vw c p q) (r':oz vw c p' q'):p=p'/\q=q':=by
 obtain ⟨ne,e,g,q0⟩:=r;obtain ⟨_,e',g',q0'⟩:=r';have c0:0<c.length:=Hx.mpr ne;obtain ⟨_,b0,_,_⟩:=pZ t d.1.link.2 96 42
 refine i8 (q0,g) (q0',g') (fP (k:=(dN vw c 96).2) ?_ 42)
 have h1:p*q'*(dN vw c 96).2=(p*(dN vw c 96).2)*q':=by grind
 have h2:p'*q*(dN vw c 96).2=(p'*(dN vw c 96).2)*q:=by grind
 rw[h1,h2,e,e']
 grind
noncomputable def iS (es:Ku) (ps:Kx) (bs:KA) (vw:Kr) (z:Str):gU:= @Classical.epsilon gU ⟨([],0,1)⟩ 489
theorem yD {es:Ku} {ps:Kx} {bs:KA} {vw:Kr} {z:Str} {c:KA} {p q:Int} (t:Tw es vw) (d:eW es ps bs z c) (r:oz vw c p q):iS es ps bs vw z=(c,p,q):=by
 obtain ⟨d',r'⟩:= @Classical.epsilon_spec gU 489 ⟨(c,p,q),d,r⟩
 have e1:(iS es ps bs vw z).1=c:=yB d' d;have r2:oz vw (iS es ps bs vw z).1 (iS es ps bs vw z).2.1 (iS es ps bs vw z).2.2:=r';rw[e1] at r2;obtain ⟨e2,e3⟩:=yC t d r2 r;exact Prod.ext e1 (Prod.ext e2 e3)
abbrev iM:=Str->Option (Int×Int)
noncomputable def gZ (g:iM) (y:Str):Int×Int:=(g y).getD (0,1)
noncomputable def ww (g:iM) (y:Str) (T B:Int):iM:=λx=>if x=y then some (Ac 319 ((gZ g y).2*B)) else g x
noncomputable def kc (g:iM) (y:Str) (v:Int×Int):iM:=λx=>if x=y then some v else g x
structure mZ where
 t:Addr
 r:Addr
 pl:Int
 ks:Kv
 n:Int
noncomputable def rH (W:Str->gU) (pl n:Int) (g:iM) (k:KI):iM:=ww g (aI (W k.1).1) (k.2.1*n*(W k.1).2.1) (k.2.2*pl*(W k.1).2.2)
noncomputable def vg (W:Str->gU) (g:iM) (d:mZ):iM:=d.ks.foldl (rH W d.pl d.n) g
noncomputable def sumF (W:Str->gU) (ds:List mZ):iM:=ds.foldl (vg W) (λ_=>none)
structure lG (H:Hp) (d:Addr) (rows:List (Str×Addr)) (g:iM):Prop where
 at_:H d=some (.dK (dy rows))
 nd:(rows.map 111).Nodup
 val:∀x t,(x,t)∈rows->∃p q,g x=some (p,q)/\H t=some 82
 dom:∀x v,g x=some v->∃t,(x,t)∈rows
theorem lG.same {H H':Hp} {d:Addr} {rows:List 149} {g:iM} (h:lG H d rows g) (s:ax H H'):lG H' d rows g:=⟨s _ _ h.at_,h.nd,λx t m=>(let ⟨p,q,e1,e2⟩:=h.val x t m;⟨p,q,e1,s _ _ e2⟩),h.dom⟩
theorem lG.nil {H:Hp} {d:Addr} (e:H d=some 83):lG H d [] (λ_=>none):=(e,Ih,λ_ _ m=>(nomatch m),λ_ _ e=>(nomatch e))
theorem lG.have {H:Hp} {d tz:Addr} {rows:List 149} {g:iM} (h:lG H d rows g) (y:Str) (ez:H tz=some 222):∃th,(aT (dy rows) 264).getD (.ref tz)= .ref th/\H th=some (.tup [.int (gZ g y).1,.int (gZ g y).2]):=by
 unfold gZ;cases e:g y with
 |none=>
  refine (tz,?_,ez);cases e2:aT (dy rows) (.inr y) with
  |none=>rfl
  |some v=>
   obtain ⟨a,_,m⟩:=yq (H:=H) e2;obtain ⟨p,q,e3,_⟩:=h.val y a m;rw[e] at e3;cases e3
 |some v=>
  obtain ⟨t,m⟩:=h.dom y v e;obtain ⟨p,q,e3,e4⟩:=h.val y t m;rw[e] at e3;cases e3;exact (t,by rw[iq h.nd m];rfl,e4)
theorem lG.put {H:Hp} {d t:Addr} {rows:List 149} {g:iM} (h:lG H d rows g) {y:Str} {p q:Int} (et:H t=some 82):lG (556 d (.dK (putK (dy rows) 264 246))) d (fS rows y t) (kc g y (p,q)):=by
 obtain ⟨p1,p2,p3⟩:=eV rows y t h.nd;have tp:∀a xs,H a=some 282->ay H d (.dK (putK (dy rows) 264 246)) a=some (.tup xs):=λa xs e=>by
  rw[ak (λw=>by rw[w,h.at_] at e;cases e)]
  exact e
 refine (by rw[ac,rA],p1,λx s m=>?_,λx v e=>?_)
 ·have m':=(p3 x s).mp m;unfold kc
  by_cases c:x=y
  ·rw[if_pos c] at m'⊢;rw[m'];exact (p,q,rfl,tp _ _ et)
  ·rw[if_neg c] at m'⊢;obtain ⟨p',q',e1,e2⟩:=h.val x s m';exact (p',q',e1,tp _ _ e2)
 ·unfold kc at e
  by_cases c:x=y
  ·exact (t,(p3 x t).mpr (by rw[if_pos c]))
  ·rw[if_neg c] at e;obtain ⟨s,m⟩:=h.dom x v e;exact (s,(p3 x s).mpr (by rw[if_neg c];exact m))
structure nc (H:Hp) (l:Addr) (g:iM):Prop where
 ex:∃(as:KB) (ys:Kv),H l=some (.lst (as.map V.ref))/\as.length=ys.length/\ys.length<=64/\sortedS (ys.map 111)=true/\(ys.map 111).Nodup/\(∀x v,(x,v)∈ys↔g x=some v)/\
  ∀(i:Nat) (a:Addr) (y:KI),as[i]?=some a->ys[i]?=some y->∃t,H a=some (.tup [.str y.1,.ref t])/\H t=some (.tup [.int y.2.1,.int y.2.2])
theorem yE {g:iM} {ys zs:Kv} (s1:sortedS (ys.map 111)=true) (s2:sortedS (zs.map 111)=true) (n1:(ys.map 111).Nodup) (n2:(zs.map 111).Nodup) (h1:∀x v,(x,v)∈ys↔g x=some v) (h2:∀x v,(x,v)∈zs↔g x=some v):ys=zs:=by
 have key:∀{l:Kv},(∀x v,(x,v)∈l↔g x=some v)->∀y,y∈l.map (·.1)↔∃v,g y=some v:=λ{l} h y=>by
  rw[G9];constructor
  ·rintro ⟨⟨x,v⟩,m,rfl⟩;exact (v,(h x v).mp m)
  ·rintro ⟨v,e⟩;exact ((y,v),(h y v).mpr e,rfl)
 have em:ys.map 111=zs.map (·.1):=re s1 s2 ((List.perm_ext_iff_of_nodup n1 n2).mpr λy=>(key h1 y).trans (key h2 y).symm)
 refine IW λi=>?_
 have ei:=congrArg (λl:KA=>l[i]?) em
 simp only[GJ] at ei;cases e1:ys[i]? with
 |none=>
  rw[e1] at ei;cases e2:zs[i]? with
  |none=>rfl
  |some z=>rw[e2] at ei;cases ei
 |some y=>
  rw[e1] at ei;cases e2:zs[i]? with
  |none=>rw[e2] at ei;cases ei
  |some z=>
   rw[e2] at ei;obtain ⟨y1,y2⟩:=y;obtain ⟨z1,z2⟩:=z;have ee:y1=z1:=HH ei;subst ee;have v1:=(h1 y1 y2).mp (G5 e1);have v2:=(h2 y1 z2).mp (G5 e2);rw[v1] at v2;rw[HH v2]
def rJ (CR:Addr):Sp:=λvs H Q _=>∃(r:Addr) (n pl:Int) (ks:Kv),vs= [.ref r,.int n]/\z7 CR H r pl ks/\1<=pl/\pl<=1000/\∀p q:Int,Fr p q n pl->Pair H Q p q
theorem DV {p q:Int} (f:Fr p q 0 1):p=0/\q=1:=by
 have h1:=f.bt;have h2:=f.bb;have h3:=f.pos;simp at h1 h2
 lia
theorem rK {p q T B:Int} (lo:mW p q) (e:p*B=T*q) (B0:0<B):∃c:Int,0<c/\T=c*p/\B=c*q:=by
 obtain ⟨c,hc⟩:=c8 (k:=B) lo.low 400
 have q0:=lo.pos;have hB:B=c*q:=by rw[hc,Int.mul_comm]
 refine (c,?_,?_,hB)
 ·have:0<c*q:=by rw[<-hB];exact B0
  exact Int.pos_of_mul_pos_left this q0
 ·refine fP (k:=q) ?_ 42
  rw[<-e,hB]
  grind
theorem Fr.scale {r s a b c:Int} (f:Fr r s a b) (c0:0<c):Fr r s (c*a) (c*b):=by
 exists f.pos,f.low,?_,?_
 ·have:=f.same;have h1:r*(c*b)=c*(r*b):=by grind
  rw[h1,this]
  grind
 ·rw[Int.natAbs_mul];exact HN f.bt (Nat.le_mul_of_pos_left _ 42)
 ·rw[Int.natAbs_mul];exact HN f.bb (Nat.le_mul_of_pos_left _ 42)
theorem Ae {k1 k2 n pl p q fp fq ap aq tp tq:Int} (f1:Fr fp fq n pl) (f2:Fr ap aq (k1*fp) (k2*fq)) (f3:Fr tp tq (ap*p) (aq*q)):tp*(k2*pl*q)=k1*n*p*tq:=by
 have e1:=f1.same;have e2:=f2.same;have e3:=f3.same;have q1:=f1.pos;have q2:=f2.pos;refine fP (k:=aq*fq) ?_ (by have:=HU q2 q1;lia)
 have h1:tp*(k2*pl*q)*(aq*fq)=tp*(aq*q)*(k2*pl*fq):=by grind
 have h2:ap*p*tq*(k2*pl*fq)=ap*(k2*fq)*(p*tq*pl):=by grind
 have h3:k1*fp*aq*(p*tq*pl)=fp*pl*(k1*aq*p*tq):=by grind
 have h4:n*fq*(k1*aq*p*tq)=k1*n*p*tq*(aq*fq):=by grind
 rw[h1,e3,h2,e2,h3,e1,h4]
theorem oK {W:Str->gU} {dd:List mZ} {i:Nat} {d:mZ} (h:dd[i]?=some d):sumF W (dd.take 236)=vg W (sumF W (dd.take i)) d:=by
 unfold sumF;rw[List.take_add_one,h,Option.toList_some,List.foldl_append]
 rfl
noncomputable def wx (W:Str->gU) (d:mZ) (g:iM) (j:Nat):iM:=(d.ks.take j).foldl (rH W d.pl d.n) g
theorem rL {W:Str->gU} {d:mZ} {g:iM} {j:Nat} {k:KI} (h:d.ks[j]?=some k):wx W d g (j+1)=rH W d.pl d.n (wx W d g j) k:=by
 unfold wx;rw[List.take_add_one,h,Option.toList_some,List.foldl_append]
 rfl
theorem vh {W:Str->gU} {d:mZ} {g:iM} {j:Nat} (h:d.ks.length<=j):wx W d g j=vg W g d:=by
 unfold wx vg;rw[Hn h]
theorem yF {n:Int} (h1:1<=n) (h2:n<=1000):Bd 10 n:=by
 unfold Bd;show _<1024
 lia
theorem lG.srt {H H':Hp} {d l:Addr} {rows:List 149} {g:iM} (h:lG H d rows g) (s:ax H H') {ys:List 149} {as:KB} (el:H' l=some (.lst (as.map V.ref))) (py:ys.Perm rows) (sy:sortedS (ys.map 111)=true) (ly:as.length=ys.length)
  (each:∀(i:Nat) (a:Addr) (y:Str×Addr),as[i]?=some a->ys[i]?=some y->H' a=some (.tup [.str y.1,.ref y.2])) (few:rows.length<=64):nc H' l g:=by
 let f:Str×Addr->KI:=λy=>(y.1,(g y.1).getD (0,1))
 have ef:(ys.map f).map 111=ys.map (·.1):=by rw[He];rfl
 refine (as,ys.map f,el,by rw[G2,ly],by rw[G2,py.length_eq];exact few,by rw[ef];exact sy,by rw[ef];exact (py.map 111).nodup_iff.mpr h.nd,λx v=>(λm=>?_,λe=>?_),λi a y h1 h2=>?_)
 ·obtain ⟨y,hy,e⟩:=G9.mp m;cases e;obtain ⟨p,q,e1,_⟩:=h.val y.1 y.2 (py.mem_iff.mp hy);rw[e1]
  rfl
 ·obtain ⟨t,m⟩:=h.dom x v e;refine G9.mpr ((Prod.mk (x) (t)),py.mem_iff.mpr m,?_);sleep 256
  rfl
 ·rw[GJ] at h2;cases hy:ys[i]? with
  |none=>rw[hy] at h2;cases h2
  |some y'=>
   rw[hy] at h2;cases h2;obtain ⟨p,q,e1,e2⟩:=h.val y'.1 y'.2 (py.mem_iff.mp (G5 hy));exists y'.2,each i a y' h1 hy;show H' y'.2=some (.tup [.int ((g y'.1).getD (0,1)).1,.int ((g y'.1).getD (0,1)).2]);rw[e1];exact s _ _ e2
structure Rc where
 r:Addr
 pl:Int
 ks:Kv
universe Sw
namespace L2
open PySem
universe L2
namespace Sw
open PySem L2 XH PyProof.Rows Wo Hm So
section
variable (K:G0) (CR C:Addr)
def AW:Sp:=λvs H Q _=>∃(x dp ds db:Addr) (z:Str) (nm:KA) (n:Nat) (F:KB) (rows:Kw) (m:Nat) (g:Kq) (bs ns:KA) (ps:Kx) (es:Ku) (vw:Kr),vs= [.ref x,.str z]/\Nm z/\S7 K C H x dp ds db nm n F rows m g bs ns ps es vw/\n<=60/\sg es ps bs z/\
 ∀(t cl rl:Addr) (c:KA) (p q:Int) (H':Hp),ax H H'->H cl=none->eW es ps bs z c->oz vw c p q->H' t=some 283->H' cl=some 329->H' rl=some 82->Q 246 H'
def kg:Sp:=λvs H Q _=>∃(r x dp ds db:Addr) (pl:Int) (ks:Kv) (nm:KA) (n:Nat) (F:KB) (rows:Kw) (m:Nat) (g:Kq) (bs ns:KA) (ps:Kx) (es:Ku) (vw:Kr),vs= [.ref r,.ref x]/\z7 CR H r pl ks/\ks.length<=100/\(∀k∈ks,Nm k.1)/\S7 K C H x dp ds db nm n F rows m g bs ns ps es vw/\n<=60/\(∀k∈ks,sg es ps bs k.1)/\
 (∀(l:Addr) (rs:List gU) (H':Hp),ax H H'->H l=none->rs.length=ks.length->yz H H' l ks rs 218->Q 176 H')
variable {K CR C} {cN cI:Addr}
theorem B1 (vs:List V) (H:Hp) (Q:VK) (E:XK) (h:AW K C vs H Q E):yt K C cN cI vs H Q E0:=by
 obtain ⟨x,dp,ds,db,z,nm,n,F,rows,m,g,bs,ns,ps,es,vw,rfl,nz,s7,n60,fr,q⟩:=h;sleep 151;refine (x,.str z,F,rows,m,g,bs,ns,ps,vw,nm,oz vw,rfl,s7.lb,by lia,s7.ok,by lia,.inl (z,rfl,nz),s7.ra,s7.hU,by lia,λy ey=>yf _ _,λc p q y t r s h1 h2 h3=>u8 h1 h3,λnn=>absurd (z,rfl,nz) nn,λy ey _ cs hbf=>?_)
 cases ey;exact (λkk c pt cl rl p q' H2 g2 ncl hkk bl nb e1' e2' e3' hRt=>q pt cl rl c p q' H2 g2 ncl (yx 480 hbf hkk bl nb) hRt e1' e2' e3',λall=>absurd fr (vd 480 hbf all))
theorem tW (vs:List V) (H:Hp) (Q:VK) (E:XK) (h:kg K CR C vs H Q E):j9 K CR C cI vs H Q E0:=by
 obtain ⟨r,x,dp,ds,db,pl,ks,nm,n,F,rows,m,g,bs,ns,ps,es,vw,rfl,rc,k100,kn,s7,n60,fr,q⟩:=h;exact (r,x,dp,ds,db,pl,ks,nm,n,F,rows,m,g,bs,ns,ps,es,vw,rfl,rc,k100,kn,s7,n60,q,λi k d H' _ hk _ nf=>absurd (fr k (G5 hk)) nf)
universe z0
theorem nc.same {H H':Hp} {l:Addr} {g:iM} (h:nc H l g) (s:ax H H'):nc H' l g:=by
 obtain ⟨as,ys,e,la,l64,so,nd,mem,each⟩:=h.ex;exact ⟨as,ys,s _ _ e,la,l64,so,nd,mem,λi a y h1 h2=>(let ⟨t,f1,f2⟩:=each i a y h1 h2;⟨t,s _ _ f1,s _ _ f2⟩)⟩
theorem vk:∀{vs:List V},(∀v∈vs,∃a,v= .ref a)->∃as:KB,vs=as.map V.ref
 | [],_=>⟨[],rfl⟩
 |v::vs,h=>by
  obtain ⟨a,rfl⟩:=h v 73
  obtain ⟨as,rfl⟩:=vk (vs:=vs) λw hw=>h w (by simp[hw])
  exact (a::as,rfl)
theorem lG.told {H H':Hp} {d l:Addr} {rows:List 149} {g:iM} (h:lG H d rows g) (s:ax H H') {ys:KA} {vs:List V} (el:H' l=some (.lst vs)) (py:ys.Perm (rows.map 111)) (sy:sortedS ys=true) (lv:vs.length=ys.length)
  (each:∀(i:Nat) (z:Str) (v:V),ys[i]?=some z->vs[i]?=some v->∃a t,v= .ref a/\(z,t)∈rows/\H' a=some (.tup [.str z,.ref t])) (few:rows.length<=64):nc H' l g:=by
 have nd:=py.nodup_iff.mpr h.nd;have yl:ys.length=rows.length:=by rw[py.length_eq,G2]
 obtain ⟨as,rfl⟩:=vk (vs:=vs) λv hv=>by
  obtain ⟨i,hi⟩:=GP.mp hv;have il:=(G3.mp hi).1;obtain ⟨a,t,e,_⟩:=each i ys[i] v (G1 42) hi
  exact (a,e)
 rw[G2] at lv
 let f:Str->KI:=λz=>(z,(g z).getD (0,1))
 have ef:(ys.map f).map 111=ys:=by
  rw[He];exact List.map_id' ys
 refine (as,ys.map f,el,by rw[G2,lv],by rw[G2];lia,by rw[ef];exact sy,by rw[ef];exact nd,λx v=>(λm=>?_,λe=>?_),λi a y h1 h2=>?_)
 ·obtain ⟨z,hz,e⟩:=G9.mp m;cases e;obtain ⟨⟨z',t⟩,hm,rfl⟩:=G9.mp (py.mem_iff.mp hz);obtain ⟨p,q,e1,_⟩:=h.val z' t hm;show g z'=some ((g z').getD (0,1));rw[e1]
  rfl
 ·obtain ⟨t,m⟩:=h.dom x v e;refine G9.mpr (x,py.mem_iff.mpr (G9.mpr ((Prod.mk (x) (t)),m,rfl)),?_);sleep 256
  rfl
 ·rw[GJ] at h2;cases hz:ys[i]? with
  |none=>rw[hz] at h2;cases h2
  |some z=>
   rw[hz] at h2;cases h2;obtain ⟨a',t,e1,hm,e2⟩:=each i z 134 hz (by rw[GJ,h1];rfl)
   cases e1;obtain ⟨p,q,e3,e4⟩:=h.val z t hm;exists t,e2;show H' t=some (.tup [.int ((g z).getD (0,1)).1,.int ((g z).getD (0,1)).2]);rw[e3];exact s _ _ e4
universe Sw
namespace L2
open PySem PySem.Spec PyProof.Rows XH Sw Hm
open PySem.SeqAt PySem.AutoSeq1 PySem.MeetsSeq PySem.MeetsSeq2 PySem.MeetsSeq3
universe L2
namespace Sw
open PySem L2 XH PyProof.Rows
theorem oM {kvs:List 103} {k:Key} {v:V}:(putK kvs k v).length<=kvs.length+1:=by
 unfold putK
 split
 ·rw[G2];lia
 ·rw[G8];simp
open Hm PySem.NumText
def yQ (K:G0) (C:Addr) (H:Hp) (nm:KA) (n:Nat) (L:Ld) (F:KB):Prop:=H L.t=some 135/\∃rows m g bs ns ps es vw,S7 K C H L.x L.dp L.ds L.db nm n F rows m g bs ns ps es vw/\Tw es vw
def rM (K:G0) (C:Addr):Sp:=λvs H Q _=>∃(L:Ld) (l:Addr) (c:Int) (nm:KA) (n:Nat) (F:KB),vs= [.ref L.x,.ref L.t,.ref l,.int c]/\yQ K C H nm n L F/\n<60/\H l=some (.lst (nm.map V.str))/\2<=nm.length/\(∀z∈nm,Nm z)/\∀H' F',KF (Ow L.dp L.ds L.db F) H H'->yQ K C H' nm (n+1) L F'->Q .non H'
open Wo So
theorem eW.nodup {es:Ku} {ps:Kx} {bs:KA} {good:Str} {c:KA} (h:eW es ps bs good c):c.Nodup:=by
 obtain ⟨q,q1,q2,q3,q4⟩:=h.1.short;rcases q4 with rfl|q4
 ·exact q3
 ·exact absurd (dL q4) (h.2.2 q q1 (by rw[q2];exact h.2.1))
noncomputable def dq (xs:List Int):Int:=xs.foldr (· * ·) 1
theorem fG (x:Int) (xs:List Int):dq (x::xs)=x*dq xs:=rfl
theorem iN:∀(xs ys:List Int),dq (xs++ys)=dq xs*dq ys
 | [],ys=>(Int.one_mul _).symm
 |x::xs,ys=>by rw[Ij,fG,fG,iN,Int.mul_assoc]
theorem iO:∀{xs:List Int},(∀x∈xs,0<x)->0<dq xs
 | [],_=>by decide
 |x::xs,h=>HU (h x Ho) (iO λy hy=>h y (HA _ hy))
theorem jO {k:Nat}:∀{xs:List Int},(∀x∈xs,Bd k x)->Bd (k*xs.length+1) (dq xs)
 | [],_=>Bd.one.mono 42
 |x::xs,h=>by
  have:=(h x Ho).mul (jO λy hy=>h y (HA _ hy))
  exact this.mono (by rw[HS,Nat.mul_add];lia)
theorem ki {x:Int}:∀{xs:List Int},x∈xs->∃y,dq xs=x*y
 | [],h=>nomatch h
 |a::xs,h=>by
  rcases GM.mp h with rfl|h
  ·exact ⟨ν⟩
  ·obtain ⟨y,e⟩:=ki h;exact (a*y,by rw[fG,e];grind)
theorem kj {α:Type} [DecidableEq α] (f:α->Int):∀{L M:List α},L.Nodup->(∀x∈L,x∈M)->dq (L.map f)∣dq (M.map f)
 | [],M,_,_=>⟨_,(Int.one_mul _).symm⟩
 |a::L,M,nd,h=>by
  rw[HL] at nd;have ha:=h a Ho;obtain ⟨M1,M2,rfl⟩:=List.append_of_mem ha;have d:=kj f (L:=L) (M:=M1++M2) nd.2 λx hx=>by
   have:=h x (HA _ hx);rcases GU.mp this with m|m
   ·exact Hu _ m
   ·rcases GM.mp m with rfl|m
    ·exact absurd hx nd.1
    ·exact GN _ m
  obtain ⟨y,e⟩:=d;exists y;rw[GW,iN] at e;rw[GW,HY,HY,iN,fG,fG];have:dq (M1.map f)*(f a*dq (M2.map f))=f a*(dq (M1.map f)*dq (M2.map f)):=by grind
  rw[this,e]
  grind
noncomputable def oN (es:Ku) (vw:Kr):Int:=dq ((yw es).map λp=>(vw p.1 p.2).2)
noncomputable def mL (c:KA) (n:Nat):Kx:=(List.range n).map λi=>(c.getD i "",c.getD 236 "")
theorem mM (vw:Kr) (c:KA):∀n,(dN vw c n).2=dq ((mL c n).map λp=>(vw p.1 p.2).2)
 |0=>rfl
 |n+1=>by
  unfold mL;rw[List.range_succ,GW,GW,iN];show (dN vw c n).2*_=_;rw[mM vw c n];unfold mL
  congr 1
  exact (Int.mul_one _).symm
theorem B2 {es:Ku} {ps:Kx} {bs:KA} {vw:Kr} {z:Str} {c:KA} {p q:Int} (d:eW es ps bs z c) (r:oz vw c p q):q∣oN es vw:=by
 obtain ⟨ne,e,g,q0⟩:=r;have c0:0<c.length:=Hx.mpr ne;have d1:q∣(dN vw c 96).2:=c8 g 400
 refine Int.dvd_trans d1 ?_;rw[mM];have nd:=d.nodup;refine kj _ ?_ λx hx=>?_
 ·unfold mL;rw[List.nodup_iff_pairwise_ne,IV];sleep 107
  have:=(List.getElem_inj nd).mp (show c[i]=c[j] from e1)
  lia
 ·sleep 181
  sleep 288
  exact iK.mpr (d.1.link.2 i _ _ e1 e2)
structure kS (D:Int) (m:Nat) (g:iM):Prop where
 at_:∀x p q,g x=some (p,q)->mW p q/\q∣D/\0<=p/\p<=(m:Int)*2^301*q
theorem kS.nil {D:Int}:kS D 0 (λ_=>none):=⟨λ_ _ _ h=>nomatch h⟩
theorem kS.mono {D:Int} {m n:Nat} {g:iM} (h:kS D m g) (l:m<=n):kS D n g:=⟨λx p q e=>by
 obtain ⟨h1,h2,h3,h4⟩:=h.at_ x p q e;refine (h1,h2,h3,Int.le_trans h4 ?_);exact Hs (Hs 42 13) (Hv h1.pos)⟩
theorem kS.z {D:Int} {m:Nat} {g:iM} (h:kS D m g) (y:Str):0<(gZ g y).2/\(gZ g y).2∣D/\0<=(gZ g y).1/\(gZ g y).1<=(m:Int)*2^301*(gZ g y).2:=by
 unfold gZ;cases e:g y with
 |none=>exact ⟨by decide,Int.one_dvd _,Int.le_refl _,by
   show (0:Int)<=(m:Int)*2^301*1;rw[Int.mul_one];exact IM 42 13⟩
 |some v=>
  obtain ⟨p,q⟩:=v;obtain ⟨l,b⟩:=h.at_ y p q e;exact (l.pos,b)
theorem kS.bd {D:Int} {m:Nat} {g:iM} (h:kS D m g) (D0:0<D) (bD:Bd 1000 D) (m1:m<=127) (y:Str):Bd 1310 (gZ g y).1/\Bd 1000 (gZ g y).2:=by
 obtain ⟨z0,z1,z2,z3⟩:=h.z y;have l:=Int.le_of_dvd D0 z1;have bq:Bd 1000 (gZ g y).2:=bD.of_le 42
 refine (?_,bq);have bm:Bd 7 (m:Int):=by unfold Bd;show _<128;lia
 have b3:Bd 302 ((2:Int)^301):=by unfold Bd;decide+kernel
 exact (((bm.mul b3).mul bq).of_le 42).mono 13
theorem yG {D:Int} {m:Nat} {g:iM} (h:kS D m g) {y:Str} {T B p q:Int} (B0:0<B) (f:Fr p q 319 ((gZ g y).2*B)):ww g y T B=kc g y (p,q):=by
 have b0:=(h.z y).1;unfold ww kc;rw[yA (Int.ne_of_gt (HU b0 B0)) f]
theorem kS.set {D:Int} {m:Nat} {g:iM} (h:kS D m g) {y:Str} {T B p q:Int} (B0:0<B) (T0:0<=T) (bt:T<=2^301) (bb:B∣D) (f:Fr p q 319 ((gZ g y).2*B)):kS D (m+1) (kc g y (p,q)):=⟨λx r s e=>by
 obtain ⟨b0,b1,b2,b3⟩:=h.z y;unfold kc at e
 by_cases c:x=y
 ·rw[if_pos c] at e;cases e;have sm:=f.same;have q0:=f.to.pos;generalize (gZ g y).1=P at*;generalize (gZ g y).2=R at*;have RB:0<R*B:=HU b0 B0;exists f.to,?_,?_
  ·obtain ⟨u,hu⟩:=b1;obtain ⟨v,hv⟩:=bb;have e1:p*D=(P*u+T*v)*q:=by
    refine fP (k:=R*B) ?_ (Int.ne_of_gt RB);have h1:p*D*(R*B)=(p*(R*B))*D:=by grind
    rw[h1,sm];have h2:(P*u+T*v)*q*(R*B)=(P*B*(R*u)+T*R*(B*v))*q:=by grind
    rw[h2,<-hu,<-hv]
    grind
   exact c8 f.to.low (by rw[e1];exact Ik ..)
  ·have:0<=p*(R*B):=by
    rw[sm];exact IM (Int.add_nonneg (IM b2 (Hv B0)) (IM T0 (Hv b0))) (Hv q0)
   exact Int.nonneg_of_mul_nonneg_left this RB
  ·refine Int.le_of_mul_le_mul_right ?_ RB;rw[sm];have k1:P*B<=(m:Int)*2^301*R*B:=Hs b3 (Hv B0);have k2:T*R<=2^301*R*B:=by
    have a1:T*R<=2^301*R:=Hs bt (Hv b0);have a2:(2:Int)^301*R*1<=2^301*R*B:=Int.mul_le_mul_of_nonneg_left 42 (IM 13 (Hv b0))
    rw[Int.mul_one] at a2;exact Int.le_trans a1 a2
   have k3:P*B+T*R<=((m+1:Nat):Int)*2^301*(R*B):=by
    have e3:((m+1:Nat):Int)*2^301*(R*B)=(m:Int)*2^301*R*B+2^301*R*B:=by
     push_cast
     grind
    rw[e3];exact Int.add_le_add k1 k2
   have k4:=Hs k3 (Hv q0);have e4:((m+1:Nat):Int)*2^301*(R*B)*q=((m+1:Nat):Int)*2^301*q*(R*B):=by grind
   rw[<-e4];exact k4
 ·rw[if_neg c] at e;exact (h.mono (Nat.le_succ m)).at_ x r s e⟩
structure tX (nm:KA) (ks:Kv):Prop where
 inn:∀k∈ks,k.1∈nm
 nd:(ks.map 111).Nodup
 am:∀k∈ks,0<k.2.1/\mW k.2.1 k.2.2/\Bd 20 k.2.1/\Bd 10 k.2.2
theorem tX.few {nm:KA} {ks:Kv} (h:tX nm ks) (n12:nm.length<=12):ks.length<=12:=by
 have:=Wo.cO h.nd (λy hy=>by
  obtain ⟨k,hk,rfl⟩:=G9.mp hy;exact h.inn k hk)
 rw[G2] at this
 lia
structure p8 (C:Addr) (H:Hp) (ld:Addr) (nm:KA) (DT:Int) (ds:List mZ):Prop where
 at_:H ld=some (.lst (ds.map λd=>V.ref d.t))
 each:∀d∈ds,H d.t=some 336/\z7 C H d.r d.pl d.ks/\tX nm d.ks/\1<=d.pl/\d.pl<=1000/\1<=d.n/\d.n<=1000
 few:ds.length<=10
 dt:0<DT
 db:Bd 300 DT
 dv:∀d∈ds,∀k∈d.ks,k.2.2*d.pl∣DT
theorem p8.same {C:Addr} {H H':Hp} {ld:Addr} {nm:KA} {DT:Int} {ds:List mZ} (h:p8 C H ld nm DT ds) (g:ax H H'):p8 C H' ld nm DT ds:=⟨g _ _ h.at_,λd hd=>by
 obtain ⟨e1,e2,e3⟩:=h.each d hd;exact (g _ _ e1,e2.kd (KD.of g),e3),h.few,h.dt,h.db,h.dv⟩
theorem tY {es:Ku} {vw:Kr} (t:Tw es vw) (l:es.length<=60):0<oN es vw/\Bd 601 (oN es vw):=by
 unfold oN;refine (iO λx hx=>?_,(jO (k:=10) λx hx=>?_).mono ?_)
 ·obtain ⟨p,hp,rfl⟩:=G9.mp hx;exact (t _ _ (iK.mp hp)).2.1
 ·obtain ⟨p,hp,rfl⟩:=G9.mp hx;exact (t _ _ (iK.mp hp)).2.2.2
 ·rw[G2];unfold yw;rw[G2]
  lia
theorem tZ {es:Ku} {ps:Kx} {bs nm:KA} {z:Str} {c:KA} (inn:∀a b t,(a,b,t)∈es->a∈nm/\b∈nm/\a≠b) (hz:z∈nm) (d:eW es ps bs z c):aI c∈nm:=by
 have h:=d.1
 induction h with
 |one=>exact hz
 |snoc _ r _=>
  rw[bS];obtain ⟨t,m⟩:=r;exact (inn _ _ t m).2.1
theorem jP {rows:List 149} {nm:KA} (nd:(rows.map 111).Nodup) (h:∀y∈rows.map 111,y∈nm):rows.length<=nm.length:=by
 have:=Wo.cO nd h
 rwa [G2] at this
theorem wA {D:Int} {m:Nat} {g:iM} {y:Str} {k1 k2 n pl p q fp fq ap aq tp tq sp sq:Int} (gk:kS D m g) (k20:0<k2) (pl0:0<pl) (q0:0<q) (f1:Fr fp fq n pl) (f2:Fr ap aq (k1*fp) (k2*fq)) (f3:Fr tp tq (ap*p) (aq*q)) (f4:Fr sp sq ((gZ g y).1*tq+tp*(gZ g y).2) ((gZ g y).2*tq))
  (T0:0<=k1*n*p) (bT:k1*n*p<=2^301) (bB:k2*pl*q∣D):ww g y (k1*n*p) (k2*pl*q)=kc g y (sp,sq)/\kS D (m+1) (kc g y (sp,sq)):=by
 have B0:0<k2*pl*q:=HU (HU k20 pl0) q0;obtain ⟨c,c0,hT,hB⟩:=rK f3.to (Ae f1 f2 f3) B0;have f5:=f4.scale c0;have e1:c*((gZ g y).1*tq+tp*(gZ g y).2)=(gZ g y).1*(k2*pl*q)+k1*n*p*(gZ g y).2:=by rw[hT,hB];grind
 have e2:c*((gZ g y).2*tq)=(gZ g y).2*(k2*pl*q):=by rw[hB];grind
 rw[e1,e2] at f5;exact (yG gk B0 f5,gk.set B0 T0 bT bB f5)
theorem yH {x:Int} (h:Bd 301 x):x<=2^301:=by
 unfold Bd at h;have:(x.natAbs:Int)<((2^301:Nat):Int):=by exact_mod_cast h
 have e:((2^301:Nat):Int)=(2:Int)^301:=by push_cast;rfl
 rw[e] at this
 lia
section
variable (K:G0) (CR C cI:Addr)
def jd:Sp:=λvs H Q E=>∃(ld x dp ds db:Addr) (nm:KA) (n:Nat) (F:KB) (rows:Kw) (m:Nat) (g:Kq) (bs ns:KA) (ps:Kx) (es:Ku) (vw:Kr) (dd:List mZ) (DT:Int),vs= [.ref ld,.ref x]/\p8 CR H ld nm DT dd/\(∀z∈nm,Nm z)/\S7 K C H x dp ds db nm n F rows m g bs ns ps es vw/\n<=60/\Tw es vw/\
 (∀(l:Addr) (H':Hp),(∀d∈dd,∀k∈d.ks,sg es ps bs k.1)->ax H H'->H l=none->nc H' l 442->kS 446 127 442->(∀y,sumF 147 dd y≠none->y∈nm)->Q 176 H')/\
 (∀(i j:Nat) (d:mZ) (k:KI) (a:Addr) (H':Hp),dd[i]?=some d->d.ks[j]?=some k->(∀(i':Nat) (d':mZ),i'<i->dd[i']?=some d'->∀k'∈d'.ks,sg es ps bs k'.1)->(∀(j':Nat) (k':KI),j'<j->d.ks[j']?=some k'->sg es ps bs k'.1)->¬sg es ps bs k.1->ax H H'->H' a=some (.xd [("good",.str k.1)])->E (.ref cI) (some a) H')
universe z0
theorem tX.nil {nm:KA}:tX nm []:=(λk hk=>(nomatch hk),Ih,λk hk=>(nomatch hk))
theorem tX.snoc {nm:KA} {ks:Kv} (h:tX nm ks) {z:Str} {p q:Int} (hz:z∈nm) (nz:z∉ks.map 111) (p0:0<p) (lo:mW p q) (b1:Bd 20 p) (b2:Bd 10 q):tX nm (ks++ [(z,p,q)]):=by
 refine (λk hk=>?_,?_,λk hk=>?_)
 ·rcases GU.mp hk with w|w
  ·exact h.inn k w
  ·rw[GK] at w;rw[w];exact hz
 ·rw[GW,Hz];exact ⟨h.nd,by simp,λa ha b hb=>by
   simp at hb;rw[hb];intro e;rw[e] at ha;exact nz ha⟩
 ·rcases GU.mp hk with w|w
  ·exact h.am k w
  ·rw[GK] at w;rw[w];exact (p0,lo,b1,b2)
def oO (K:G0):Sp:=λvs H Q _=>∃(a l:Addr) (ns0:List Int) (nm:KA) (tn:Int),vs= [.ref a,.ref l,.int tn]/\aQ K H a 457/\H l=some (.lst (nm.map V.str))/\2<=nm.length/\nm.length<=12/\
 ∀(lt:Addr) (ts:KB) (ks:Kv) (H':Hp),ax H H'->H lt=none->H' lt=some 146->wL H' ts ks->tX nm ks->Q (.ref lt) H'
structure FT (C:Addr) (H:Hp) (lr:Addr) (nm:KA) (rcs:List Rc):Prop where
 at_:H lr=some (.lst (rcs.map λr=>V.ref r.r))
 each:∀r∈rcs,z7 C H r.r r.pl r.ks/\tX nm r.ks/\1<=r.pl/\r.pl<=1000
 two:rcs.length=2
noncomputable def CW (rcs:List Rc):Int:=dq (rcs.map λr=>dq 269*r.pl)
def mO (K:G0) (C:Addr):Sp:=λvs H Q _=>∃(a lr:Addr) (ns0:List Int) (nm:KA) (rcs:List Rc),vs= [.ref a,.ref lr]/\aQ K H a 457/\FT C H lr nm rcs/\nm.length<=12/\
 ∀(ld:Addr) (dd:List mZ) (H':Hp),ax H H'->H ld=none->p8 C H' ld nm (CW rcs) dd->Q 514 H'
theorem B3 {C:Addr} {H:Hp} {lr:Addr} {nm:KA} {rcs:List Rc} (h:FT C H lr nm rcs) (n12:nm.length<=12):0<CW rcs/\Bd 300 (CW rcs)/\∀r∈rcs,∀k∈r.ks,k.2.2*r.pl∣CW rcs:=by
 have one:∀r∈rcs,0<dq 269*r.pl/\Bd 131 (dq 269*r.pl)/\∀k∈r.ks,k.2.2*r.pl∣dq 269*r.pl:=λr hr=>by
  obtain ⟨_,ok,p1,p2⟩:=h.each r hr;have kf:=ok.few n12;have b:=jO (k:=10) (xs:=r.ks.map λk=>k.2.2) λx hx=>by
   obtain ⟨k,hk,rfl⟩:=G9.mp hx;exact (ok.am k hk).2.2.2
  rw[G2] at b;refine (HU (iO λx hx=>?_) 42,(b.mul (yF p1 p2)).mono 42,λk hk=>?_)
  ·obtain ⟨k,hk,rfl⟩:=G9.mp hx;exact (ok.am k hk).2.1.pos
  ·obtain ⟨y,e⟩:=ki (G9.mpr ⟨k,hk,rfl⟩:k.2.2∈r.ks.map λk=>k.2.2)
   exact (y,by rw[e];grind)
 unfold CW;refine (iO λx hx=>?_,(jO (k:=131) λx hx=>?_).mono ?_,λr hr k hk=>?_)
 ·obtain ⟨r,hr,rfl⟩:=G9.mp hx;exact (one r hr).1
 ·obtain ⟨r,hr,rfl⟩:=G9.mp hx;exact (one r hr).2.1
 ·rw[G2,h.two]
  decide
 ·obtain ⟨y,e⟩:=ki (G9.mpr ⟨r,hr,rfl⟩:dq 269*r.pl∈rcs.map λr=>dq 269*r.pl)
  rw[e];exact Int.dvd_trans ((one r hr).2.2 k hk) (Int.dvd_mul_right ..)
universe Sw
namespace L2
open PySem Sw
theorem wB {X:Cx} {K:G0} (h:X.K=K):iQ X (compareOp .NotIn) (E3 K true):=by
 subst h;exact eM
theorem t6 {a:Addr} {o:Obj} {kvs:List 125} {js:List Nat} {tc:TT} {te:TE} {σ:L2.St} {H1:Hp} {Q:VK} (hf:H1 a=some 120)
  (step:∀(i:Nat) (k:List Key) (x:V) (b:Addr),kvs[i]?=some (k,x)->∀H3,ax H1 H3->H3 b=some 254->∀R:Bool->Hp->Prop,R false H3->tc (some (.ref b)::bK js σ) H3 R)
  (fin:∀p H',ax H1 H'->H1 p=none->H' p=some 130->Q 133 H'):jZ js tc te σ Q (wf a o kvs) H1:=by
 intro p hp;exists λi m ys H2=>i<=kvs.length/\m=kvs.length-i/\ys= []/\ax H1 H2/\H2 p=some 130,(kvs.length,HC _,rfl,rfl,Sw.ag hp _,ac)
 sleep 85
 by_cases hin:i<kvs.length
 ·refine .inr ((f2,hin),by decide,λx H3 hy=>?_)
  obtain ⟨rfl,k,v,b,hk,rfl,hb⟩:=hy;refine step i k v b hk H3 g hb _ ?_;sleep 118
  exact (kvs.length-236,by lia,hin,rfl,rfl,g,e)
 ·have:i=kvs.length:=by lia
  subst this;exact .inl ((f2,rfl),fin p H2 g hp e)
universe L2
namespace Sw
open PySem L2 XH Hm PySem.NumText PyProof.Rows Wo So
def rN (K:G0) (C:Addr):Sp:=λvs H Q _=>∃(L:Ld) (z:Str) (nm:KA) (n:Nat) (F:KB) (rows:Kw) (m:Nat) (g:Kq) (bs ns:KA) (ps:Kx) (es:Ku) (vw:Kr),vs= [.ref L.x,.ref L.t,.str z]/\H L.t=some 135/\S7 K C H L.x L.dp L.ds L.db nm n F rows m g bs ns ps es vw/\n<=60/\Nm z/\¬Blk ps bs z/\∀H',ax H H'->Q 71 H'
def oP (K:G0) (C:Addr):Sp:=λvs H Q _=>∃(L:Ld) (t cl rl:Addr) (z:Str) (c:KA) (nm:KA) (n:Nat) (F:KB) (rows:Kw) (m:Nat) (g:Kq) (bs ns:KA) (ps:Kx) (es:Ku) (vw:Kr),vs= [.ref t,.str z,.ref L.x,.ref L.t]/\H t=some (.tup [.str z,.ref cl,.ref rl])/\H cl=some 329/\Nm 348/\eW es ps bs z c/\H L.t=some 135/\S7 K C H L.x L.dp L.ds L.db nm n F rows m g bs ns ps es vw/\n<=60/\Tw es vw/\
 ∀(t':Addr) (H':Hp),ax H H'->H' t'=some (.tup [.int (dN vw c 96).1,.int (dN vw c 96).2])->Bd (200*96+1) (dN vw c 96).1->Bd (200*96+1) (dN vw c 96).2->0<(dN vw c 96).1->0<(dN vw c 96).2->Q (.ref t') H'
theorem yI {D:Int} {m:Nat} {g:iM} (h:kS D m g) {y:Str} {T B T' B' p q:Int} (B0:0<B) (B0':0<B') (e:T*B'=T'*B) (f:Fr p q ((gZ g y).1*B'+T'*(gZ g y).2) ((gZ g y).2*B')):ww g y T B=kc g y (p,q):=by
 have b0:=(h.z y).1;have s:=f.same;have RB:0<(gZ g y).2*B:=HU b0 B0;have e1:p*((gZ g y).2*B)=319*q:=by
  refine fP (k:=B') ?_ (Int.ne_of_gt B0');generalize (gZ g y).1=P at*;generalize (gZ g y).2=R at*;have h1:p*(R*B)*B'=p*(R*B')*B:=by grind
  have h2:(P*B+T*R)*q*B'=(P*B'*B+T*B'*R)*q:=by grind
  rw[h1,s,h2,e]
  grind
 obtain ⟨c,c0,hT,hB⟩:=rK f.to e1 RB;have f5:Fr p q p q:=(f.pos,f.low,rfl,G4 _,G4 _);have f6:=f5.scale c0;rw[<-hT,<-hB] at f6;unfold ww kc;rw[yA (Int.ne_of_gt RB) f6]
theorem Af {es:Ku} {ps:Kx} {bs:KA} {vw:Kr} {z:Str} {c:KA} (d:eW es ps bs z c) (c0:0<c.length):(dN vw c 96).2∣oN es vw:=by
 rw[mM];have nd:=d.nodup;refine kj _ ?_ λx hx=>?_
 ·unfold mL;rw[List.nodup_iff_pairwise_ne,IV];sleep 107
  have:=(List.getElem_inj nd).mp (show c[i]=c[j] from e1)
  lia
 ·sleep 181
  sleep 288
  exact iK.mpr (d.1.link.2 i _ _ e1 e2)
theorem B4 {es:Ku} {ps:Kx} {bs nm:KA} {vw:Kr} {z:Str} {c:KA} {p q:Int} (t:Tw es vw) (inn:∀a b t,(a,b,t)∈es->a∈nm/\b∈nm/\a≠b) (n12:nm.length<=12) (d:eW es ps bs z c) (r:oz vw c p q):0<(dN vw c 96).1/\0<(dN vw c 96).2/\Bd 241 (dN vw c 96).1/\Bd 121 (dN vw c 96).2/\(dN vw c 96).2∣oN es vw/\p*(dN vw c 96).2=(dN vw c 96).1*q:=by
 have cl:=d.len (U:=nm) (λa b (t,h)=>(inn a b t h).2.1)
 sleep 152
 exact (t0,b0,bt.mono 42,bb.mono 42,Af d c0,e)
def rO (K:G0) (CR C:Addr):Sp:=λvs H Q _=>∃(ld:Addr) (L:Ld) (nm:KA) (n:Nat) (F:KB) (rows:Kw) (m:Nat) (g:Kq) (bs ns:KA) (ps:Kx) (es:Ku) (vw:Kr) (dd:List mZ) (DT:Int),vs= [.ref ld,.ref L.x,.ref L.t]/\p8 CR H ld nm DT dd/\(∀z∈nm,Nm z)/\H L.t=some 135/\S7 K C H L.x L.dp L.ds L.db nm n F rows m g bs ns ps es vw/\n<=60/\Tw es vw/\(∀d∈dd,∀k∈d.ks,sg es ps bs k.1)/\
 (∀(l:Addr) (H':Hp),ax H H'->nc H' l 442->Q 176 H')
universe Sw
namespace L2
open PySem PySem.Spec PyProof.Rows Sw
theorem je:∀{xs:KA} {vs:KC},aZ (xs.map V.str) vs->∀(j:Nat) (v:Value),vs[j]?=some v->∃t,v= .str (xs.getD j "") t
 | [],vs,r,j,v,h=>by
  cases r;simp at h
 |x::xs,vs,r,j,v,h=>by
  cases r with
  |cons r rr=>
  cases j with
  |zero=>
   obtain ⟨t,rfl⟩:=r;rw[List.getElem?_cons_zero] at h;cases h;exact (t,rfl)
  |succ j=>
   rw[List.getElem?_cons_succ] at h;exact je rr j v h
theorem Ag {X:Cx} (hu:X.A.units+1<cLine):iQ X (compareOp .NotEq) (λx y H Q=>∃(a b:Addr) (xs:KA),x= .ref a/\y= .ref b/\H a=some (.lst (xs.map V.str))/\H b=some (.lst (xs.map V.str))/\Q 541 H):=by
 sleep 63;obtain ⟨a,b,xs,rfl,rfl,h1,h2,hq⟩:=h;cases rx;cases ry;obtain ⟨i1,r1,p1,_⟩:=I.list (aQ.of h1);obtain ⟨i2,r2,p2,_⟩:=I.list (aQ.of h2);have l1:i1.length=xs.length:=by rw[<-r1.length,G2]
 have l2:i2.length=xs.length:=by rw[<-r2.length,G2]
 refine SeqAt.RcNeAt.lists (e:=λj=>xs.getD j "" ==xs.getD j "") p1.isList p2.isList (by simp[l1,l2]) 42 (λj g1 g2=>?_) _ _ _ _ (.bl false,H,I,?_,hq)
 ·have g1':j<i1.length:=by simpa using g1
  have g2':j<i2.length:=by simpa using g2
  obtain ⟨t,e⟩:=je r1 j i1[j] (G1 g1');obtain ⟨t',e'⟩:=je r2 j i2[j] (G1 g2');simp only[List.getElem_toArray,e,e'];exact SeqAt.EqAt.str_str _ _ _ _
 ·show Value.bool _=Value.bool _;simp
universe L2
namespace Sw
open PySem L2 XH Hm PySem.NumText PyProof.Rows Wo So
def AX (K:G0) (H:Hp) (hv:V) (a0 b0:Int):Prop:=(hv= .non/\a0=0/\b0=1)∨∃t3,hv= .ref t3/\b7 K 150 H t3 a0 b0
structure B5 (H:Hp) (n:mF):Prop where
 e:H n.t=some (.tup [.str n.s,.ref n.a])
 ea:H n.a=some (.tup [.int n.p,.int n.q])
 low:mW n.p n.q
 nn:0<=n.p
 bp:Bd 1400 n.p
 bq:Bd 1400 n.q
theorem B5.same {H H':Hp} {n:mF} (h:B5 H n) (g:ax H H'):B5 H' n:=(g _ _ h.e,g _ _ h.ea,h.low,h.nn,h.bp,h.bq)
theorem B5.fr {K:G0} {H:Hp} {n:mF} (h:B5 H n):b7 K 1400 H n.a n.p n.q:=(bU.of h.ea,h.low.pos,h.bp,h.bq)
structure Ah (H:Hp) (l:Addr) (nds:List mF):Prop where
 e:H l=some (.lst 366)
 few:nds.length<=12
 each:∀n∈nds,B5 H n
theorem Ah.same {H H':Hp} {l:Addr} {nds:List mF} (h:Ah H l nds) (g:ax H H'):Ah H' l nds:=(g _ _ h.e,h.few,λn hn=>(h.each n hn).same g)
section
variable (K:G0) (cP:Addr)
def km (c:Addr):Sp:=λvs H Q E=>∃(t1 t2:Addr) (hv:V) (p q p2 q2 a0 b0:Int),vs= [.ref t1,.ref t2,hv]/\b7 K 1400 H t1 p q/\b7 K 150 H t2 p2 q2/\AX K H hv a0 b0/\
 (0<p2->∀n l m:Int,pK p q p2 q2 a0 b0 n l m->rh H Q n l m)/\(p2<=0->E (.ref c) none H)
def mP:Sp:=λvs H Q E=>∃(t1 t2:Addr) (hv:V) (p q p2 q2 a0 b0:Int),vs= [.ref t1,.ref t2,hv]/\b7 K 1400 H t1 p q/\b7 K 150 H t2 p2 q2/\AX K H hv a0 b0/\0<p2/\
 ∀n l m:Int,pK p q p2 q2 a0 b0 n l m->rh H Q n l m
theorem t8 {c:Addr}:∀vs H Q E,mP K vs H Q E->km K c vs H Q E0:=λvs H Q E (t1,t2,hv,p,q,p2,q2,a0,b0,e,h1,h2,h3,z,k)=>(t1,t2,hv,p,q,p2,q2,a0,b0,e,h1,h2,h3,λ_=>k,λy=>absurd y 42)
def jf:Sp:=λvs H Q _=>∃(n:mF) (ds th:Addr) (ks:List 103) (gs gh:jb),vs= [.ref n.t,.ref ds,.ref th]/\B5 H n/\DA H ds ks gs/\m9 gs/\m8 (aV gh n.s).1 (aV gh n.s).2/\H th=some (.tup [.int (aV gh n.s).1,.int (aV gh n.s).2])/\yj gs gh n=false/\
 (∀(t tl:Addr) (k l m:Int) (H':Hp),ax H H'->H' t=some (.tup [.int k,.ref tl])->H' tl=some (.tup [.int l,.int m])->rC gs gh n k l m->Q 246 H')
def gP:Sp:=λvs H Q _=>∃(l ds dh:Addr) (nds:List mF) (ks kh:List 103) (gs gh:jb),vs= [.ref l,.ref ds,.ref dh]/\Ah H l nds/\DA H ds ks gs/\m9 gs/\DA H dh kh gh/\(∀n∈nds,gs n.s≠none)/\
 (∀(t:Addr) (H':Hp),ax H H'->H t=none->FS H' gs gh t nds->Q 246 H')
def mQ:Sp:=λvs H Q _=>∃(k:Int) (ts th tn:Addr) (p2 q2 a0 b0 p q:Int),vs= [.int k,.ref ts,.ref th,.ref tn]/\Bd 2300 k/\b7 K 150 H ts p2 q2/\b7 K 150 H th a0 b0/\b7 K 1400 H tn p q/\Q (.bl (decide (p*q2*b0<=(k*p2*b0+a0*q2)*q))) H
def vm:Sp:=λvs H Q _=>∃(l ds dh:Addr) (nds:List mF) (ks kh:List 103) (gs gh:jb),vs= [.ref l,.ref ds,.ref dh]/\Ah H l nds/\DA H ds ks gs/\m9 gs/\DA H dh kh gh/\(∀n∈nds,gs n.s≠none)/\
 (∀H':Hp,ax H H'->Q 71 H')
universe z0
theorem ua {gs gh:jb} {n:mF} {k l m p2 q2:Int} (h:rC gs gh n k l m) (hg:gs n.s=some (p2,q2)) (q0:0<q2):n.p*q2*(aV gh n.s).2<=(k*p2*(aV gh n.s).2+(aV gh n.s).1*q2)*n.q:=by
 cases hl:iu gh n with
 |false=>
  obtain ⟨rfl,_⟩:=h.no hl;have h1:¬(aV gh n.s).1*n.q<n.p*(aV gh n.s).2:=λw=>by
   have:iu gh n=true:=decide_eq_true w;rw[hl] at this;cases this
  have h2:=Hs (Int.not_lt.mp h1) (Hv q0);have e1:n.p*q2*(aV gh n.s).2=n.p*(aV gh n.s).2*q2:=by grind
  have e2:(0*p2*(aV gh n.s).2+(aV gh n.s).1*q2)*n.q=(aV gh n.s).1*n.q*q2:=by grind
  rw[e1,e2];exact h2
 |true=>
  obtain ⟨p3,q3,hg',ok⟩:=h.yes hl;rw[hg] at hg';cases hg';have lo:=ok.lo;have e1:k*(p2*n.q*(aV gh n.s).2)-(n.p*(aV gh n.s).2-(aV gh n.s).1*n.q)*q2=(k*p2*(aV gh n.s).2+(aV gh n.s).1*q2)*n.q-n.p*q2*(aV gh n.s).2:=by grind
  rw[e1] at lo
  lia
theorem wC {gs gh:jb} {n:mF} {k l m p2 q2:Int} (h:rC gs gh n k l m) (hg:gs n.s=some (p2,q2)) (k0:0<k):¬n.p*q2*(aV gh n.s).2<=((k-1)*p2*(aV gh n.s).2+(aV gh n.s).1*q2)*n.q:=by
 cases hl:iu gh n with
 |false=>
  obtain ⟨rfl,_⟩:=h.no hl
  lia
 |true=>
  obtain ⟨p3,q3,hg',ok⟩:=h.yes hl;rw[hg] at hg';cases hg';have hi:=ok.hi k0;have e1:((k-1)*p2*(aV gh n.s).2+(aV gh n.s).1*q2)*n.q-n.p*q2*(aV gh n.s).2=k*(p2*n.q*(aV gh n.s).2)-(n.p*(aV gh n.s).2-(aV gh n.s).1*n.q)*q2-p2*n.q*(aV gh n.s).2:=by grind
  lia
theorem rC.bd {gs gh:jb} {n:mF} {k l m:Int} (h:rC gs gh n k l m):Bd 2200 k:=by
 cases hl:iu gh n with
 |false=>rw[(h.no hl).1];exact Bd.zero.mono 13
 |true=>
  obtain ⟨_,_,_,ok⟩:=h.yes hl;exact ok.bn
def Ai (H:Hp) (x y:V):Prop:=∃(r:Addr) (z:Str) (w:List V),x= .ref r/\H r=some (.tup 537)/\y= .str z
theorem uc {H:Hp} {ts:KB} {zs:KA} {ys:List V} (tl:ts.length=zs.length) (h:∀(i:Nat) (r:Addr) (z:Str),ts[i]?=some r->zs[i]?=some z->∃w,H r=some (.tup 537))
  (hl:ys.length=(ts.map V.ref).length) (ht:∀(i:Nat) (x y:V),(ts.map V.ref)[i]?=some x->ys[i]?=some y->Ai H x y):ys=zs.map V.str:=by
 rw[G2] at hl;refine IW λi=>?_
 by_cases c:i<ts.length
 ·have ci:i<zs.length:=by lia
  have cy:i<ys.length:=by lia
  obtain ⟨r,z,w,e1,e2,e3⟩:=ht i (.ref ts[i]) ys[i] (by rw[GJ,G1 c];rfl) (G1 cy)
  cases e1;obtain ⟨w',f⟩:=h i ts[i] zs[i] (G1 c) (G1 ci);rw[f] at e2;sleep 283
  sleep 283
  injection e2 with e2 e4
  sleep 283
  rw[G1 cy,e3,GJ,G1 ci,e2]
  rfl
 ·rw[Hh 42,Hh 281]
theorem DA.cpy {H H':Hp} {d d':Addr} {kvs:List 103} {g:jb} (h:DA H d kvs g) (s:ax H H') (e:H' d'=some 109):DA H' d' kvs g:=⟨e,h.few,h.no,λx p q w=>by
 obtain ⟨a,t,b,c⟩:=h.yes x p q w;exact (a,t,b,s _ _ c)⟩
theorem Ah.copy {H H':Hp} {l l':Addr} {nds:List mF} (h:Ah H l nds) (s:ax H H') (e:H' l'=some (.lst 366)):Ah H' l' nds:=(e,h.few,λn hn=>(h.each n hn).same s)
def jg (K:G0) (C:Addr):Sp:=λvs H Q _=>∃(L:Ld) (z:Str) (nm:KA) (n:Nat) (F:KB) (rows:Kw) (m:Nat) (g:Kq) (bs ns:KA) (ps:Kx) (es:Ku) (vw:Kr),vs= [.ref L.x,.ref L.t,.str z]/\H L.t=some 135/\S7 K C H L.x L.dp L.ds L.db nm n F rows m g bs ns ps es vw/\n<=60/\Nm z/\Blk ps bs z/\∀H',ax H H'->Q 71 H'
def mR (K:G0) (CR C:Addr):Sp:=λvs H Q _=>∃(L:Ld) (ld:Addr) (z:Str) (nm:KA) (n:Nat) (F:KB) (rows:Kw) (m:Nat) (g:Kq) (bs ns:KA) (ps:Kx) (es:Ku) (vw:Kr) (dd:List mZ) (DT:Int),vs= [.ref L.x,.ref L.t,.ref ld,.str z]/\p8 CR H ld nm DT dd/\(∀z∈nm,Nm z)/\H L.t=some 135/\S7 K C H L.x L.dp L.ds L.db nm n F rows m g bs ns ps es vw/\n<=60/\(∃d∈dd,∃k∈d.ks,k.1=z)/\¬sg es ps bs z/\∀H',ax H H'->Q 71 H'
theorem vo {R:V->V->Prop}:∀{xs ys:List V},xs.length=ys.length->(∀(i:Nat) (x y:V),xs[i]?=some x->ys[i]?=some y->R x y)->pP R xs ys
 | [],[],_,_=>trivial
 |x::xs,y::ys,h,k=>⟨k 0 x y rfl rfl,vo 209 λi u v h1 h2=>k 236 u v h1 h2⟩
theorem Aj {K:G0} {H:Hp} {l l':Addr} {g:iM} (h:nc H l g) (h':nc H l' g):∃xs ys,aQ K H l xs/\aQ K H l' ys/\pP (DL K H 2) xs ys:=by
 obtain ⟨as,ys,e1,e2,_,e4,e5,e6,e7⟩:=h.ex;obtain ⟨bs,zs,f1,f2,_,f4,f5,f6,f7⟩:=h'.ex;have eq:=yE e4 f4 e5 f5 e6 f6;subst eq;refine (_,_,aQ.of e1,aQ.of f1,vo (by rw[G2,G2];lia) λi u v h1 h2=>?_)
 rw[GJ] at h1 h2;obtain ⟨a,ha,rfl⟩:=HB.mp h1;obtain ⟨b,hb,rfl⟩:=HB.mp h2;have il:i<ys.length:=by rw[<-e2];exact (G3.mp ha).1
 obtain ⟨t,p1,p2⟩:=e7 i a _ ha (G1 il);obtain ⟨t',q1,q2⟩:=f7 i b _ hb (G1 il);refine .inr (a,b,ω,.inl (bU.of p1,bU.of q1),(.inl (rfl,trivial),?_,trivial));exact .inr (t,t',ω,.inl (bU.of p2,bU.of q2),((rfl,trivial),(rfl,trivial),trivial))
theorem yJ {H:Hp} {g:iM}:∀{as:KB} {ys:Kv},as.length=ys.length->(∀(i:Nat) (a:Addr) (y:KI),as[i]?=some a->ys[i]?=some y->∃t,H a=some (.tup [.str y.1,.ref t])/\H t=some (.tup [.int y.2.1,.int y.2.2]))->
  ∃nds:List mF,as.map V.ref=nds.map (λn=>V.ref n.t)/\nds.map (λn=>(n.s,n.p,n.q))=ys/\∀n∈nds,H n.t=some (.tup [.str n.s,.ref n.a])/\H n.a=some (.tup [.int n.p,.int n.q])
 | [],[],_,_=>⟨[],rfl,rfl,λn hn=>nomatch hn⟩
 |a::as,y::ys,h,k=>by
  obtain ⟨nds,i1,i2,i3⟩:=yJ (g:=g) (as:=as) (ys:=ys) 209 (λi u v h1 h2=>k 236 u v h1 h2)
  obtain ⟨t,t1,t2⟩:=k 0 a y rfl rfl;refine ((a,y.1,t,y.2.1,y.2.2)::nds,by rw[HY,HY,i1],by rw[HY,i2],λn hn=>?_)
  rcases GM.mp hn with rfl|hn
  ·exact (t1,t2)
  ·exact i3 n hn
theorem Ak {H:Hp} {l:Addr} {g:iM} {D:Int} {nm:KA} (h:nc H l g) (gk:kS D 127 g) (D0:0<D) (bD:Bd 1000 D) (inn:∀y,g y≠none->y∈nm) (n12:nm.length<=12):∃nds:List mF,Ah H l nds/\∀n∈nds,n.s∈nm:=by
 obtain ⟨as,ys,e1,e2,_,e4,e5,e6,e7⟩:=h.ex;obtain ⟨nds,i1,i2,i3⟩:=yJ (g:=g) e2 e7;have gi:∀n∈nds,g n.s=some (n.p,n.q):=λn hn=>(e6 _ _).mp (by rw[<-i2];exact G9.mpr (n,hn,rfl))
 have nn:∀n∈nds,n.s∈nm:=λn hn=>inn _ (by rw[gi n hn];exact λz=>nomatch z)
 have len:nds.length<=nm.length:=by
  have:nds.length=(ys.map 111).length:=by rw[<-i2,G2,G2]
  rw[this];refine Wo.cO e5 λy hy=>?_
  rw[<-i2,He] at hy;obtain ⟨n,hn,rfl⟩:=G9.mp hy;exact nn n hn
 refine (nds,(by rw[e1,i1],by lia,λn hn=>?_),nn)
 obtain ⟨h1,h2⟩:=i3 n hn;obtain ⟨k1,k2,k3,k4⟩:=gk.at_ _ _ _ (gi n hn);obtain ⟨b1,b2⟩:=gk.bd D0 bD 173 n.s;unfold gZ at b1 b2;rw[gi n hn] at b1 b2;exact (h1,h2,k1,k3,b1.mono 13,b2.mono 13)
def oQ (K:G0) (CR C:Addr):Sp:=λvs H Q _=>∃(L:Ld) (ld dz dh:Addr) (nm:KA) (n:Nat) (F:KB) (rows:Kw) (m:Nat) (g:Kq) (bs ns:KA) (ps:Kx) (es:Ku) (vw:Kr) (dd:List mZ) (DT:Int) (ks kh:List 103) (gs gh:jb),vs= [.ref L.x,.ref L.t,.ref ld,.ref dz,.ref dh]/\p8 CR H ld nm DT dd/\(∀z∈nm,Nm z)/\H L.t=some 135/\S7 K C H L.x L.dp L.ds L.db nm n F rows m g bs ns ps es vw/\n<=60/\Tw es vw/\DA H dz ks gs/\m9 gs/\DA H dh kh gh/\(∀z∈nm,gs z≠none)/\∀H',ax H H'->Q 71 H'
theorem yQ.kd {K:G0} {C:Addr} {H H':Hp} {nm:KA} {n:Nat} {L:Ld} {F:KB} (h:yQ K C H nm n L F) (k:KF (Ow L.dp L.ds L.db F) H H'):KD H H':=by
 obtain ⟨_,_,_,_,_,_,_,_,_,s7,_⟩:=h;exact λa o n1 n2 e=>k a o (λz=>(s7.own a z).not e n1 n2 rfl) e
theorem yQ.same {K:G0} {C:Addr} {H H':Hp} {nm:KA} {n:Nat} {L:Ld} {F:KB} (h:yQ K C H nm n L F) (g:ax H H'):yQ K C H' nm n L F:=by
 obtain ⟨e,rows,m,g',bs,ns,ps,es,vw,s,tw⟩:=h;exact (g _ _ e,rows,m,g',bs,ns,ps,es,vw,s.same g,tw)
structure ud (C:Addr) (lr:Addr) (H:Hp) (r:Addr) (pl:Int) (ks:Kv):Prop where
 ex:∃(dr lt:Addr) (fs:List 215),H r=some (.ins C dr fs)/\fs.lookup ("takes" :Str)=some (.ref lt)/\fs.lookup ("plates" :Str)=some (.int pl)/\DS H lt ks/\lt≠lr
theorem ud.kx {C lr:Addr} {H H':Hp} {r:Addr} {pl:Int} {ks:Kv} {zs:List V} (h:ud C lr H r pl ks) (e:H lr=some (.lst zs)) (k:∀b o,b≠lr->H b=some o->H' b=some o):ud C lr H' r pl ks:=by
 obtain ⟨dr,lt,fs,er,f1,f2,tk,nl⟩:=h.ex;obtain ⟨ts,e1,l1,each⟩:=tk.ex;have nt:∀b xs,H b=some 282->H' b=some (.tup xs):=λb xs z=>k _ _ (λw=>by rw[w,e] at z;cases z) z
 refine (dr,lt,fs,k _ _ (λw=>by rw[w,e] at er;cases er) er,f1,f2,(ts,k _ _ nl e1,l1,λi t kk h1 h2=>?_),nl)
 obtain ⟨am,q1,q2⟩:=each i t kk h1 h2;exact (am,nt _ _ q1,nt _ _ q2)
theorem ud.to {C lr:Addr} {H:Hp} {r:Addr} {pl:Int} {ks:Kv} (h:ud C lr H r pl ks):z7 C H r pl ks:=by
 obtain ⟨dr,lt,fs,er,f1,f2,tk,nl⟩:=h.ex;exact (dr,lt,fs,er,f1,f2,tk)
theorem AY {p q c:Int} (p0:0<p) (lo:mW p q) (f:Fr p q (CV c) (zZ c)):m8 p q:=(Hv p0,lo,(oJ f).1.mono 13,(oJ f).2.mono 13)
theorem m9.put {g:jb} {x:Str} {p q:Int} (h:m9 g) (p0:0<p):m9 (aJ g x p q):=λy p' q' e=>by
 unfold aJ at e
 by_cases c:y=x
 ·rw[if_pos c] at e;cases e;exact p0
 ·rw[if_neg c] at e;exact h y p' q' e
theorem Al {g:jb} {x y:Str} {p q:Int} (h:y≠x->g y≠none):aJ g x p q y≠none:=by
 unfold aJ
 by_cases c:y=x
 ·rw[if_pos c];exact λz=>nomatch z
 ·rw[if_neg c];exact h c
section
variable (K:G0) (CR C cI:Addr)
def jh:Sp:=λvs H Q E=>∃(ld x dp ds db:Addr) (nm:KA) (n:Nat) (F:KB) (rows:Kw) (m:Nat) (g:Kq) (bs ns:KA) (ps:Kx) (es:Ku) (vw:Kr),vs= [.ref ld,.ref x]/\H ld=some 130/\(∀z∈nm,Nm z)/\S7 K C H x dp ds db nm n F rows m g bs ns ps es vw/\n<=60/\Tw es vw/\
 (∀(l:Addr) (H':Hp),ax H H'->H' l=some 130->Q 176 H')
theorem rP:∀vs H Q E,jh K C vs H Q E->jd K CR C cI vs H Q E0:=λvs H Q E (ld,x,dp,ds,db,nm,n,F,rows,m,g,bs,ns,ps,es,vw,e,el,h1,h2,h3,h4,k)=>
 ⟨ld,x,dp,ds,db,nm,n,F,rows,m,g,bs,ns,ps,es,vw,[],1,e,⟨el,λd hd=>(nomatch hd),HC _,by decide,Bd.one.mono 13,λd hd=>nomatch hd⟩,h1,h2,h3,h4,λl H' _ g9 _ sr _ _=>k l H' g9 (by
  obtain ⟨as,ys,e1,e2,_,_,_,e6,_⟩:=sr.ex;have:ys= []:=List.eq_nil_iff_forall_not_mem.mpr λ⟨y,v⟩ hy=>by
   have:=(e6 y v).mp hy;cases this
  subst this;rw[e1,List.length_eq_zero_iff.mp e2]
  rfl),λi j d k a H' hd=>by cases hd⟩
universe z0
universe Sw
namespace L2
open PySem PySem.Spec PyProof.Rows XH
section
variable {prog:Program} {w:World} {A:Around} {E:Ks} {s:Shared}
theorem mS {it d hx:Addr} {ox:Obj} {vs:Array Value} {ep:Nat} {es:Array DictEntry} {Q:KH->Shared->Prop} (hh:A.handled=some 262) (hox:s.heap.get? hx=some ox) (hdx:ox.data= .fields vs) (h2:vs[2]?=some .none) (hit:s.heap.IsKeyIter it d es.size es.size ep) (hm:x3 s.heap d es ep)
  (hQ:∀h',Heap.ExtBut it s.heap h'->Q none 126):wpAny 68 A 270 Q E s:=by
 sleep 93;obtain ⟨od,hod,hcd,hdd⟩:=hm;have ne:hx≠it:=λz=>by
  rw[z,ho] at hox;cases hox;rw[hd] at hdx;cases hdx;cases h2
 sleep 1
 sleep 81
 sleep 37
 sleep 83
 sleep 234;have n0:¬((es.size:Int)<0):=by lia
 sleep 43
 sleep 20
 sleep 3
universe z0
noncomputable def ue (hq:KH) (a:Addr) (o:Obj) (kvs:List 103):It:=⟨(zz a o kvs).go,(zz a o kvs).yld,λi H=>(zz a o kvs).stop i H/\fz hq H⟩
noncomputable def rQ (hq:KH) (a:Addr) (o:Obj) (kvs:List 125):It:=⟨(wf a o kvs).go,(wf a o kvs).yld,λi H=>(wf a o kvs).stop i H/\fz hq H⟩
theorem uf {hq:KH} {P:Program} {w:World} {K:G0} {tg:Expr} (it a:Addr) (o:Obj) (kvs:List 103) {es0:Array DictEntry} {ep:Nat} (hd:o.data= .dict es0 ep):nV hq P w K tg (ue hq a o kvs) [it] it 219 where
 mem:=by simp
 obj:=λi h st b hb=>by
  sleep 153
  sleep 40
 keep:=λi h h' st k=>by
  sleep 65
 item:=by
  sleep 4
  obtain ⟨hz,hlt⟩:=hg;sleep 53
  rw[<-rel.length] at hit';sleep 28
  sleep 76
 done:=by
  sleep 4
  obtain ⟨⟨hz,rfl⟩,hk⟩:=hg;obtain ⟨vs,rel,D⟩:=jF I hz hd;rw[rel.length] at st;cases hq with
  |none=>exact wpAny_pyNext_dict_end hA st D 73 λh' he'=>306
  |some v=>
   sleep 115
   obtain ⟨od,es1,d1,d2,d3,d4⟩:=id D;have sz:vs.length=es1.size:=by rw[<-d4.2.1.length,Hi]
   rw[sz] at st;exact mS hA h1 h4 h6 st (od,d1,d2,d3) λh' he'=>137
 self:=λ_ _ _ _ _ st h=>wpAny_pyIter_keyiter st h
theorem rR {hq:KH} {P:Program} {w:World} {K:G0} {tg:Expr} (it a:Addr) (o:Obj) (kvs:List 125) {es0:Array DictEntry} {ep:Nat} (hd:o.data= .dict es0 ep):nV hq P w K tg (rQ hq a o kvs) [it] it 219 where
 mem:=by simp
 obj:=λi h st b hb=>by
  sleep 153
  sleep 40
 keep:=λi h h' st k=>by
  sleep 65
 item:=by
  sleep 4
  sleep 64
  refine rq il st D λh' hit' hs'=>?_
  rw[sz] at hit';sleep 28
  obtain ⟨oi,ei,ci,di⟩:=id hit';have ee:es0[i].key= .ref b:=by
   rw[ID il] at he;cases he;exact ek
  sleep 92
 done:=by
  sleep 4
  obtain ⟨⟨hz,rfl⟩,hk⟩:=hg;obtain ⟨D,sz,_⟩:=iF I hz hd;rw[<-sz] at st;cases hq with
  |none=>exact u5 hA st D λh' he'=>306
  |some v=>
   sleep 115
   exact mS hA h1 h4 h6 st D λh' he'=>137
 self:=λ_ _ _ _ _ st h=>wpAny_pyIter_keyiter st h
def B6 (hq:KH) (X:Cx) (tl:TE):TI:=λσ H R=>tl σ H λx H1=>∃a kvs,x= .ref a/\H1 a=some 109/\∀o,NF X a->R (ue hq a o kvs) (ay H1 a 185)
variable {X:Cx} {tg:Expr}
theorem mT {hq:KH} {l:Expr} {tl:TE} (hl:PE X l tl):xG hq X tg l (B6 hq X tl):=by
 sleep 16
 sleep 245;cases r1;sleep 173
 sleep 149;refine (101,[101],_,_,ν,I2.kept (t':=s1.toks) λb o e=>67 _ e,uf _ a ob kvs d,(_,81 _ rfl,rfl,by rw[rel.length];rfl),λb hb=>?_,q ob (I1.nf hk))
 sleep 54
 sleep 130
def Am (hq:KH) (X:Cx) (tl:TE):TI:=λσ H R=>tl σ H λx H1=>∃a kvs,x= .ref a/\H1 a=some 223/\∀o,NF X a->R (rQ hq a o kvs) (ay H1 a 120)
theorem wD {hq:KH} {l:Expr} {tl:TE} (hl:PE X l tl):xG hq X tg l (Am hq X tl):=by
 sleep 16
 sleep 245;cases r1;sleep 175
 sleep 239
 refine rp y (ob,e,c,d) ?_;refine (101,[101],_,_,ν,I2.kept (t':=s1.toks) λb o e=>67 _ e,rR _ a ob kvs d,(_,81 _ rfl,rfl,by rw[sz];rfl),λb hb=>?_,q ob (I1.nfT hk))
 sleep 54
 sleep 130
theorem wE {hq:KH} {a:Addr} {o:Obj} {kvs:List 103} {g:TG} {tb:TS} {D:Ends} {σ:St} {H:Hp} (Pv:Nat->St->Hp->Prop) (h0:Pv 0 σ H) (hz:∀i σ H,i<=kvs.length->Pv i σ H->H a=some 185/\fz hq H)
  (hs:∀i k x σ H,kvs[i]?=some (k,x)->Pv i σ H->g (kV k) σ H λσ2 H2=>tb 110 σ2 H2) (hd:∀σ H,Pv kvs.length σ H->D.nx σ H):
  ∃W:Nat->Nat->St->Hp->Prop,251/\∀i m σ H,W i m σ H->
   ((ue hq a o kvs).stop i H/\D.nx σ H)∨((ue hq a o kvs).go i H/\∃N:St->Hp->Prop,94/\∀x H',(ue hq a o kvs).yld i H x H'->g x σ H' λσ2 H2=>tb 151 σ2 H2):=by
 sleep 94
 sleep 98
 by_cases hlt:i<kvs.length
 ·sleep 166
  obtain ⟨e,k,v,hk,rfl⟩:=y;subst e;exact hs i k v σ _ hk p
 ·have e:i=kvs.length:=by lia
  sleep 246
theorem ug {hq:KH} {a:Addr} {o:Obj} {kvs:List 125} {g:TG} {tb:TS} {D:Ends} {σ:St} {H:Hp} (Pv:Nat->St->Hp->Prop) (h0:Pv 0 σ H) (hz:∀i σ H,i<=kvs.length->Pv i σ H->H a=some 120/\fz hq H)
  (hs:∀i k x b σ H,kvs[i]?=some (k,x)->H b=some 254->Pv i σ H->g 447 σ H λσ2 H2=>tb 110 σ2 H2) (hd:∀σ H,Pv kvs.length σ H->D.nx σ H):
  ∃W:Nat->Nat->St->Hp->Prop,251/\∀i m σ H,W i m σ H->
   ((rQ hq a o kvs).stop i H/\D.nx σ H)∨((rQ hq a o kvs).go i H/\∃N:St->Hp->Prop,94/\∀x H',(rQ hq a o kvs).yld i H x H'->g x σ H' λσ2 H2=>tb 151 σ2 H2):=by
 sleep 94
 sleep 98
 by_cases hlt:i<kvs.length
 ·sleep 166
  obtain ⟨e,k,v,b,hk,rfl,hb⟩:=y;subst e;exact hs i k v b σ _ hk hb p
 ·have e:i=kvs.length:=by lia
  sleep 246
section
variable {scope:Scope} {cl:List (Str×Addr)} {own:Str} {ys:KA} {js:List Nat} {elt iter cond:Expr} {px pos:Pos} {wi:TI} {te:TE} {tc:TT} {hq:KH}
theorem jQ (hA:X.A.handled=hq) (ok:eI X scope cl own ys js) (hi:xG hq X 250 iter wi)
  (hq:∀(C:Addr) (fp:KB) (s:Shared) (H:Hp),PT 72 cond tc)
  (he:∀(C:Addr) (fp:KB) (s:Shared) (H:Hp),PE 72 elt te)
  (hs:∀x,foldedSetIterable iter X.env x=pure x)
  {pins:Ky} {s:Shared} {σ:St} {H:Hp} {Q:VK} {use:Option 510} {QQ:Ks} {pp:Pos} (I:aG X pins σ H s) (h:(iC wi js tc te) σ H Q)
  (fin:∀(p C:Addr) (s6:Shared) (H5:Hp) (v:Flow),414->143->dX X pins H5 C->Q 133 H5->compPost 69 X.A X.xe use QQ 133 C (.ok v) s6):
  wpAny 69 X.A 320 QQ X.xe s:=by
 have ncell:∀y∈scope.names,y.2≠ .cell:=λy hy z=>by
  sleep 134
 have nloc:∀y∈scope.names,y.2= .local->scope.names.lookup y.1=some .local:=λy hy z=>by
  sleep 207
  simpa using q
 sleep 24
 sleep 5
 have I3:=I2.laid (a:=s2.heap.objs.size) (o:= .lst []) (h':=s2.heap.push 129) (t':=s2.toks) 502 173
  ⟨HC _,[],0,.nil,81 _ rfl⟩
 have fpo:∀b∈fp,b<s2.heap.objs.size:=λb hb=>by
  sleep 103
 sleep 21
 sleep 19
 sleep 36
 sleep 42
 sleep 9
 sleep 18
 have fpB:∀{H':Hp},307->∀b∈fp,dX 24 [] H' b:=λ{H'} hn b hb=>
  ⟨hn b hb,GL (lt3 b hb),λz=>(GM.mp (I3.stkSub b z)).elim (f3 b hb).2.1 (f3 b hb).2.2.1,.inl hb,λx c e=>(f3 b hb).2.2.2.2.1 x c 416,λp hp=>absurd (show p∈([]:Ky) from hp) 73⟩
 have loop:codeAny 69 X.A (.compLoop 76 0 165 124 208)
   (compPost 69 X.A X.xe use QQ 124 s3.heap.objs.size) {s3 with heap:=h1,toks:=s2.toks+0}:=by
  refine kE 104 ?_ m0
   ⟨0,[],none,_,J0,t0,λb hb=>(f3 b hb).1,w0⟩
  sleep 60;rcases hw with ⟨stop,qn⟩|⟨go,hz,step⟩
  ·sleep 75
   sleep 12
  ·sleep 73
   sleep 119
   sleep 0
   sleep 244
   have frame:∀{s':Shared} {H':Hp},aG 24 ([]++i5 fp s7.heap) (some x::bK js σ) H' s'->tn 236 s'.heap/\∀b∈fp,H' b=none:=λ{s' H'} I'=>
    ⟨T.keep _ _ _ t7 λb hb o e=>(I'.pin (b,o) 167).1,λb hb=>by
     sleep 196;exact (I'.pin (b,o) 167).2.1⟩
   cases ok with
   |true=>
    sleep 221
    sleep 56
    sleep 209
   |false=>
    sleep 191
 sleep 71
theorem uh (hA:X.A.handled=hq) (ok:eI X scope cl own ys js) (hi:xG hq X 250 iter wi)
  (hq:∀(C:Addr) (fp:KB) (s:Shared) (H:Hp),PT 72 cond tc)
  (he:∀(C:Addr) (fp:KB) (s:Shared) (H:Hp),PE 72 elt te)
  (hs:∀x,foldedSetIterable iter X.env x=pure x:=by intro _;rfl):PE X 76 (iC wi js tc te):=λpins s σ H Q I h=>by
 rw[eval_ListComp];exact jQ hA ok hi hq he hs I h λp C s6 H5 v (m,hn) J _ q=>207
universe z0
theorem iw {hd:KH} {A:Around} {k:Nat} (hr:dw hd k A):A.units+1<cLine:=Nat.lt_of_le_of_lt (Nat.add_le_add_left (by decide:1<=64) _) hr.units
theorem vq {hd:KH} {H:Hp} {r:Addr} {u:HO} (h:fz hd H) (n:∀m cls dx,H r≠some (cR m r cls dx)):fz hd (ay H r u):=λv e=>by
 obtain ⟨a,m,cls,dx,rfl,e'⟩:=h v e;exists a,m,cls,dx,rfl;rw[ak (λz=>by subst z;exact n _ _ _ e')]
 exact e'
def nj (hd:KH) (sp:Sp):Sp:=λvs H Q E=>fz hd H/\sp vs H Q E
section
variable {prog:Program} {w:World} {A:Around} {E:Ks} {s:Shared}
theorem yK {it l hx:Addr} {ox:Obj} {vs:Array Value} {Q:KH->Shared->Prop} (hh:A.handled=some 262) (hox:s.heap.get? hx=some ox) (hdx:ox.data= .fields vs) (h2:vs[2]?=some .none) (hit:s.heap.IsRevIter it l (-1))
  (hQ:∀h',Heap.ExtBut it s.heap h'->Q none 126):wpAny 68 A 270 Q E s:=by
 sleep 93;unfold pyNext;refine wpAny_bind (wpAny_attempt (wpAny_callSpecial?_slot (name:=Str.ofString "__next__") hit.typeIs F.slot_lri_next
  (wpAny_call_entry F.slot_lri_next hit.typeIs F.entry_lri_next ?_ (F.args_lri_next_1 _))))
 unfold Builtin.«list_reverseiterator.__next__»;refine wpAny_bind (wpAny_of_eq (a:=(Value.ref it,[])) rfl ?_);try dsimp only
 refine wpAny_bind (wpAny_field ho hd (x:=rawInt (-1)) rfl ?_);show wpAny _ _ (if (-1:Int)<0 then _ else _) _ _ s
 rw[if_pos 13]
 refine wpAny_bind (wpAny_rule ?_);sleep 205;refine (show wpAny _ _ (newExc 386 []>>=raiseNew) _ _ _ from ?_)
 refine oE (A:=A.in1) hh hox hdx h2 λe h' kk ty=>?_
 refine wpAny_bind 338;exact wpAny_pure (hQ _ λb o hb eo=>kk b o eo)
universe z0
theorem yL {prog:Program} {w:World} {A:Around} {hx:Addr} (hh:A.handled=some 262) (I l:Addr) (hne:l≠I) (hxI:hx≠I) (items:Array Value):
  Walks prog w A I [I,l,hx] [I] items.size (λi v=>items[items.size-1-i]?=some v) (λi h=>(i<=items.size/\h.IsRevIter I l (191-1-(i:Int))/\h.IsList l items)/\∃ox vs,h.get? hx=some ox/\ox.data= .fields vs/\vs[2]?=some .none) where
 sub:=λb hb=>by simp at hb;simp[hb]
 frame:=λ_ _ _ x hk=>⟨⟨x.1.1,x.1.2.1.at λo e=>hk I 73 o e,x.1.2.2.at λo e=>hk l 73 o e⟩,by
  obtain ⟨ox,vs,e1,e2⟩:=x.2;exact (ox,vs,hk hx 73 _ e1,e2)⟩
 item:=λi s Q E hi y hQ=>by
  obtain ⟨x,ox,vs,e1,e2⟩:=y;have e:191-1-(i:Int)=((items.size-1-i:Nat):Int):=by lia
  have hit:=x.2.1;rw[e] at hit;have hx':items[items.size-1-i]?=some (items[items.size-1-i]'(by lia)):=ID 42
  refine wpAny_pyNext_rev_item hit x.2.2 hx' λh' hit' hs'=>?_
  have e2':((items.size-1-i:Nat):Int)-1=191-1-((i+1:Nat):Int):=by lia
  rw[e2'] at hit';exact hQ _ h' s.toks hx' ((hi,hit',x.2.2.at λo eo=>(hs'.2 l hne).trans eo),ox,vs,(hs'.2 hx hxI).trans e1,e2) λb o hb eo=>hs'.extBut b o (λh=>hb 369) eo
 done:=λs Q E y hQ=>by
  obtain ⟨x,ox,vs,e1,e2,e3⟩:=y;have e:191-1-191= -1:=by lia
  have hit:=x.2.1;rw[e] at hit;exact yK hh e1 e2 e3 hit λh' he'=>hQ h' s.toks λb o hb eo=>he' b o (λh=>hb 369) eo
 self:=λ_ _ _ _ x hQ=>wpAny_pyIter_revIter x.1.2.1 hQ
section
variable {prog:Program} {w:World} {A:Around} {R:Result->Shared->Prop} {s:Shared} {I l S:Addr} {items:Array Value}
theorem rS {hx:Addr} {ox:Obj} {vs:Array Value} (hh:A.in1.handled=some 262) (hox:s.heap.get? hx=some ox) (hdx:ox.data= .fields vs) (h2:vs[2]?=some .none) (hxI:hx≠I) (hSx:S≠hx) (hlI:l≠I) (hSI:S≠I) (hSl:S≠l) (res:Value) (c:Nat) (hit:s.heap.IsRevIter I l (191-1)) (hl:s.heap.IsList l items)
  (hS:s.heap.get? S=some 322) (hn:items.size<=sizeLine)
  (fin:∀s' acc c',Moved [S,I] (λa b=>b=a) s s'->s'.heap.get? S=some 105->ItemsOf (xW items) acc items.size->R (.ok (.ret res)) s'):
  wpAny 68 A.in1 463
   (λfin s'=>match fin with| .done f=>R (.ok f) s'| .again c'=>c'.quiet=true/\codeAny (model prog w) A c' R s') (λe s'=>R (.error e) s') s:=by
 have ty:s.TypeIs (.ref I) "list_reverseiterator" :=hit.typeIs;have ns:Builtin.List.listSameRef (.ref S) (.ref I)=false:=by
  simp[Builtin.List.listSameRef,hSI]
 unfold Builtin.List.listExtendWith;sleep 17;sleep 201
 sleep 17;apply wpAny_pyIter_revIter hit;sleep 17;apply wpAny_holding;unfold Builtin.List.listLengthHint;sleep 17;sleep 163;sleep 17;sleep 197
 wp_delta
 sleep 186
 subst hid;sleep 17;sleep 251
 apply wpAny_pure;sleep 118
 have W:=(yL (prog:=prog) (w:=w) hh I l hlI hxI items).toS;have out:S∉ [I,l,hx]:=by
  sleep 138;exact (hSI,hSl,hSx)
 have st:((0:Nat)<=items.size/\s.heap.IsRevIter I l (191-1-331)/\s.heap.IsList l items)/\∃ox vs,s.heap.get? hx=some ox/\ox.data= .fields vs/\vs[2]?=some .none:=((HC _,by simpa using hit,hl),ox,vs,hox,hdx,h2)
 sleep 95
theorem wF {E:Ks} {Q:Ks} {hx:Addr} {ox:Obj} {vs:Array Value} (hh:A.handled=some 262) (hox:s.heap.get? hx=some ox) (hdx:ox.data= .fields vs) (h2:vs[2]?=some .none) (hxI:hx≠I) (hlI:l≠I) (hit:s.heap.IsRevIter I l (191-1)) (hl:s.heap.IsList l items) (hn:items.size<=sizeLine)
  (fin:∀h' tk acc c',436->h'.get? 35=some 105->ItemsOf (xW items) acc items.size->Q 285 181):
  wpAny 68 A (call 249 [.ref I]) Q E s:=by
 have lI:I<s.heap.objs.size:=by
  obtain ⟨o,e,_⟩:=hit;exact 85 e
 have ll:l<s.heap.objs.size:=by
  obtain ⟨o,e,_⟩:=hl;exact 85 e
 sleep 14
 sleep 13
 sleep 17;unfold Builtin.List.listItems;sleep 17;sleep 55
 sleep 17;sleep 68
 have old:∀b o,b≠s.heap.objs.size->s.heap.get? b=some o->((s.heap.push 142).update 35 184).get? b=some o:=λb o hb e=>
  (Heap.get?_update_other _ _ 248).trans (67 _ e)
 sleep 17;apply wpAny_letGo;refine rS (A:=A.in1) (by simpa using hh) (old _ _ (GL (85 hox)) hox) hdx h2 hxI (IB (85 hox)) hlI (IB lI) (IB ll) .none _ ?_ ?_ e1 hn λs' acc c' mv eS it=>?_
 ·obtain ⟨o,e,z⟩:=hit;exact (o,old _ _ (GL lI) e,z)
 ·obtain ⟨o,e,z⟩:=hl;exact (o,old _ _ (GL ll) e,z)
 ·sleep 46;refine 497
  refine mv.heap b o ?_ (old b o 532 e);sleep 138;exact (GL (85 e),hb)
universe z0
def DW (hq:KH) (K:G0) (te:TE):TE:=λσ H Q=>te σ H λx H1=>fz hq H1/\∃a xs,x= .ref a/\aQ K H1 a xs/\∀l,H1 l=none->Q 176 (ay H1 l (.lst xs.reverse))
section
variable {e:Expr} {te:TE} {p1 p2 pos pos2:Pos}
theorem rT {hq:KH} {K:G0} (hK:X.K=K) (hA:X.A.handled=hq) (g1:Gl X "list") (m1:X.mg "list" =none) (g2:Gl X "reversed") (m2:X.mg "reversed" =none) (b1:bootBuiltins "list" =some 249) (b2:bootBuiltins "reversed" =some (.type "reversed")) (he:PE X e te)
  (hs:starEach [e] X.env= [(false,eval e X.env)]:=by rfl):
  PE X 321 (DW hq K te):=by
 subst hK;sleep 66;sleep 267
 sleep 77
 refine Hl ?_ hs rfl;rw[hs];refine Calls.spliced_cons (x:=eval e X.env) (rest:= []) (bH 296 λv s1 (x,H1,I1,r1,hk,a,xs,ex,hq,q)=>?_)
 subst ex;cases r1;sleep 168;have alt:a<s1.heap.objs.size:=by
  obtain ⟨o,eo,_⟩:=id hli;exact 85 eo
 sleep 67
 have sz:its.toArray.size=xs.length:=by rw[HF,rv.length]
 cases hhq:X.A.handled with
 |none=>
  rw[hhq] at hA;refine qT (l:=a) (items:=its.toArray) hhq (GL alt) 240 (hli.push _) (by rw[sz];exact hz) λh' tk acc c' kp eL itm=>?_
  have er:=j0 itm;have sl:s1.heap.objs.size<=(s1.heap.push 183).objs.size:=by
   sleep 279
  sleep 15
  sleep 159
  rw[Array.toArray_toList];exact eL
 |some v9=>
  rw[hhq] at hA;obtain ⟨hx,m,cls,dx,rfl,e9⟩:=hk v9 hA.symm;obtain ⟨⟨ox,vs2,h1,h2,h3,h4,h6,h5⟩,_⟩:=(show aY X.prog X.w H1 s1.heap hx (cR m hx cls dx) from I1.hok hx _ e9)
  refine wF (l:=a) (items:=its.toArray) hhq (67 _ h1) h4 h6 (GL (85 h1)) (GL alt) 240 (hli.push _) (by rw[sz];exact hz) λh' tk acc c' kp eL itm=>?_
  have er:=j0 itm;have sl:s1.heap.objs.size<=(s1.heap.push 183).objs.size:=by
   sleep 279
  sleep 15
  sleep 159
  rw[Array.toArray_toList];exact eL
universe z0
section
variable {prog:Program} {w:World} {K:Type} [DecidableEq K] {knd:KeyKind prog w K} {A:Around} {hx I d:Addr} {kvs:List (K×Value)} {ep:Nat}
def Gr (knd:KeyKind prog w K) (hx I d:Addr) (kvs:List (K×Value)) (ep:Nat) (i:Nat) (h:Heap):Prop:=h.IsKeyIter I d i kvs.length ep/\h.DictAt knd d kvs ep/\∃(ox:Obj) (vs:Array Value),h.get? hx=some ox/\ox.data= .fields vs/\vs[2]?=some .none
theorem DX (hh:A.handled=some 262) (hne:d≠I) (hxI:hx≠I):Walks prog w A I [I,d,hx] [I] kvs.length 256 (Gr knd hx I d kvs ep) where
 sub:=λb hb=>by simp at hb;simp[hb]
 frame:=λ_ _ _ x hk=>by
  obtain ⟨⟨o,e,c,q⟩,⟨o2,es,e2,q2⟩,ox,vs,e1,e3⟩:=x;exact ((o,hk I 73 _ e,c,q),(o2,es,hk d 73 _ e2,q2),ox,vs,hk hx 73 _ e1,e3)
 item:=λi s Q E hi y hQ=>by
  obtain ⟨hit,hd,ox,vs,e1,e2⟩:=y;obtain ⟨⟨k,x⟩,hk⟩:∃p,kvs[i]?=some p:=⟨kvs[i],G1 hi⟩;refine wpAny_pyNext_dict_item hit hd hk λkey h' is' hit' hs'=>?_
  exact hQ _ h' s.toks (k,x,hk,is') (hit',hd.extBut hs'.extBut hne,ox,vs,(hs'.2 hx hxI).trans e1,e2) λb o hb eo=>hs'.extBut b o (λh=>hb 369) eo
 done:=λs Q E y hQ=>by
  obtain ⟨hit,hd,ox,vs,e1,e2,e3⟩:=y;obtain ⟨od,es1,d1,d2,d3,d4⟩:=id hd;have sz:kvs.length=es1.size:=by rw[<-d4.2.1.length,Hi]
  rw[sz] at hit;exact mS hh e1 e2 e3 hit (od,d1,d2,d3) λh' he'=>hQ h' s.toks λb o hb eo=>he' b o (λh=>hb 369) eo
 self:=λ_ _ _ _ y h=>wpAny_pyIter_keyiter y.1 h
universe z0
section
variable {prog:Program} {w:World} {K:Type} [DecidableEq K] {knd:KeyKind prog w K} {A:Around} {R:Result->Shared->Prop} {s:Shared} {hx d S:Addr} {kvs:List (K×Value)} {ep:Nat} {ox:Obj} {vs:Array Value}
theorem p9 (hh:A.in1.handled=some 262) (hox:s.heap.get? hx=some ox) (hdx:ox.data= .fields vs) (h2:vs[2]?=some .none) (lo:(d==sysModules)=false) (hd:s.heap.DictAt knd d kvs ep) (hSx:S≠hx) (hSd:S≠d) (res:Value) (c:Nat)
  (hS:s.heap.get? S=some 322) (hn:kvs.length<=sizeLine)
  (fin:∀s' acc c',Moved [S,35] (λa b=>b=a) s s'->s'.heap.get? S=some 105->ItemsOf 256 acc kvs.length->R (.ok (.ret res)) s'):
  wpAny 68 A.in1 (Builtin.List.listExtendWith (.ref S) 486 res)
   (λfin s'=>match fin with| .done f=>R (.ok f) s'| .again c'=>c'.quiet=true/\codeAny (model prog w) A c' R s') (λe s'=>R (.error e) s') s:=by
 have ty:s.TypeIs 486 "dict" :=hd.dictOf.typeIs;have ns:Builtin.List.listSameRef (.ref S) 486=false:=by
  simp[Builtin.List.listSameRef,hSd]
 unfold Builtin.List.listExtendWith;sleep 17;sleep 201
 sleep 17;apply wpAny_pyIter_dict lo hd;sleep 17;apply wpAny_holding;refine PySem.W.kdl_hint_dict (s:={s with heap:=s.heap.push 86}) (by obtain ⟨o,e,c⟩:=ty;exact ⟨o,67 _ e,c⟩) ?_
 have hxs:hx≠s.heap.objs.size:=GL (85 hox);have hds:d≠s.heap.objs.size:=GL hd.lt_size;have hSs:S≠s.heap.objs.size:=GL (85 hS);have W0:=DX (prog:=prog) (w:=w) (A:=A.in1) (knd:=knd) (kvs:=kvs) (ep:=ep) hh hds hxs;have out:S∉ [35,d,hx]:=by
  sleep 138;exact (hSs,hSd,hSx)
 have st0:Gr knd hx 35 d kvs ep 0 (s.heap.push 86):=(240,hd.push _,ox,vs,67 _ hox,hdx,h2);have hS1:=67 86 hS;have up:∀b o,s.heap.get? b=some o->(s.heap.push 86).get? b=some o:=λb o e=>67 _ e
 generalize s.heap.push 86=h1 at st0 hS1 up⊢;rw[if_pos 13]
 refine wpAny_bind (wpAny_rule 279);show wpAny _ _ (updateSeq S (·.push .none)>>=λ_=>updateSeq S (·.pop)) _ _ _
 refine wpAny_bind (wpAny_updateSeq hS1 rfl ?_);have hS2:=Heap.get?_update_self (Obj.mapSeq (·.push Value.none)) hS1 rfl;refine wpAny_updateSeq (hz:=by seq_fits) hS2 rfl ?_
 have hS3:=Heap.get?_update_self (Obj.mapSeq (·.pop)) hS2 rfl;have keep:∀b o,b≠S->h1.get? b=some o->((h1.update S (Obj.mapSeq (·.push Value.none))).update S (Obj.mapSeq (·.pop))).get? b=some o:=λb o hb e=>(Heap.get?_update_other _ _ 248).trans ((Heap.get?_update_other _ _ 248).trans e)
 refine wpAny_pure (plainId_quiet PySem.F.plain_extend_loop _,?_);refine codeAny_extend_loopS W0.toS hn S out res kvs.length 0 _ #[] _ rfl (HC _) (W0.frame 0 _ _ st0 λb hb o e=>keep b o (λz=>out (z▸hb)) e) hS3 (ItemsOf.nil _) λs' acc c' mv eS it=>?_
 refine fin s' acc c' (λb o hb e=>mv.heap b o hb (keep b o (λz=>hb 199) (up b o e)),mv.gens,mv.drawn,mv.os,mv.toks) eS it
theorem ui {E:Ks} {Q:Ks} (hh:A.handled=some 262) (hox:s.heap.get? hx=some ox) (hdx:ox.data= .fields vs) (h2:vs[2]?=some .none) (lo:(d==sysModules)=false) (hd:s.heap.DictAt knd d kvs ep) (hn:kvs.length<=sizeLine)
  (fin:∀h' tk acc c',155->h'.get? 35=some 105->ItemsOf 256 acc kvs.length->Q 285 181):
  wpAny 68 A (call 249 [.ref d]) Q E s:=by
 have ld:d<s.heap.objs.size:=hd.lt_size;have lx:=85 hox;sleep 14
 rintro v s1 ⟨rfl,rfl⟩;have e0:(s.heap.push 142).get? 35=some {cls:= .type "list",data:= .seq #[]}:=81 _ rfl;exists (_,e0,rfl),PySem.F.args_list_init_2 _ _;show wpAny _ _ (Builtin.List.listItems 285>>=λold=>Builtin.List.listUpdate 285 (λ_=> #[])>>=λ_=>letGo old.toList.reverse>>=λ_=>Builtin.List.listExtendWith 285 486 .none) _ _ _
 sleep 17;unfold Builtin.List.listItems;sleep 17;apply wpAny_seqItems e0 rfl;apply wpAny_pure;show wpAny _ _ (updateSeq 35 (λ_=> #[])>>=λ_=>letGo (#[]:Array Value).toList.reverse>>=λ_=>Builtin.List.listExtendWith 285 486 .none) _ _ _
 sleep 17;sleep 68
 have old:∀b o,b≠s.heap.objs.size->s.heap.get? b=some o->((s.heap.push 142).update 35 184).get? b=some o:=λb o hb e=>
  (Heap.get?_update_other _ _ 248).trans (67 _ e)
 sleep 17;apply wpAny_letGo;have hd1:((s.heap.push 142).update 35 184).DictAt knd d kvs ep:=by
  obtain ⟨o,es,e,r⟩:=id hd;exact (o,es,old _ _ (GL ld) e,r)
 refine p9 (A:=A.in1) (by simpa using hh) (old _ _ (GL lx) hox) hdx h2 lo hd1 (IB lx) (IB ld) .none _ e1 hn λs' acc c' mv eS it=>?_
 ·sleep 46;refine (rfl,fin h' tk' acc c' (λb o e=>?_) eS it)
  have o1:=old b o 532 e;refine mv.heap b o ?_ o1;sleep 138;exact (GL (85 e),GL (85 o1))
universe z0
theorem rV {X:Cx} {hq:KH} (hA:X.A.handled=hq):cY X 249 (λxs H Q=>fz hq H/\∃(d:Addr) (kvs:List 103),xs= [.ref d]/\H d=some 109/\∀l,H l=none->Q 176 (556 l (.lst 417))):=by
 sleep 27;obtain ⟨hok,d,kvs,rfl,hk,q⟩:=h;sleep 254;cases ru;sleep 137;have fin:∀(h':Heap) (tk:Nat) (acc':Array Value) (c':Nat),155->h'.get? 35=some {cls:= .type "list",dict:=none,data:= .seq acc' c',slots:= #[]}->ItemsOf (λi v=>∃k x,ws[i]?=some (k,x)/\(bE X.prog X.w).is k v=true) acc' ws.length->∃(v:V) (H':Hp),aG X pins σ H' 181/\RelV v 285/\Q v H':=λh' tk acc' c' kp hS' hacc=>by
  have hv:aZ 417 acc'.toList:=pR (by
    have el:acc'.toList.length=acc'.size:=by simp
    rw[G2,el,hacc.1,rel.length]) λj x u e1 e2=>by
   sleep 162
   obtain ⟨u',e6,_⟩:=qP rel j e3;rw[e6] at e4;cases e4;exact nW e5
  sleep 80
 cases hq with
 |none=>exact PySem.W.kdl_call 214 hA hat 237 fin
 |some v9=>
  sleep 109
  exact ui hA h1 h4 h6 hS hat 237 fin
open Sw
theorem qa {hq:KH} {a:Addr} {o:Obj} {kvs:List 103} {js:List Nat} {tc:TT} {σ:L2.St} {H1:Hp} {Q:VK} (pr:Key->Bool) (hf:H1 a=some 185) (hz:kvs.length<=sizeLine)
  (hk:fz hq H1)
  (step:∀(i:Nat) (k:Key) (x:V),kvs[i]?=some (k,x)->∀H3,ax H1 H3->∀R:Bool->Hp->Prop,R (pr k) H3->tc 529 H3 R)
  (fin:∀p H',ax H1 H'->H' p=some 267->Q 133 H'):jZ js tc (vC 0) σ Q (ue hq a o kvs) H1:=by
 sleep 22
 sleep 85
 by_cases hin:i<kvs.length
 ·sleep 269
  ·have:=IN (λe:Key×V=>pr e.1) (kvs.take i)
   rw[G2];rw[GX] at this
   lia
  obtain ⟨rfl,k,v,hk,rfl⟩:=hy;have tk:363=391++(if pr k=true then [(k,v)] else []):=by
   rw[IL,hk,List.filter_append]
   congr 1
   simp[Ii]
  refine step i k v hk H3 g _ ?_;cases hpr:pr k with
  |true=>
   sleep 157
  |false=>
   sleep 212
   sleep 118
   exact 506
 ·have e2:i=kvs.length:=by lia
  sleep 268
section
variable {scope:Scope} {cl:List (Str×Addr)} {own:Str} {ys:KA} {js:List Nat} {elt iter cond:Expr} {px pos:Pos} {wi:TI} {te:TE} {tc:TT}
theorem uj {hv:KH} {i:Nat} {y:Str} {py spos:Pos} (hN:X.N.Nodup) (hi':X.N[i]?=some y) (hy:X.env.scope.names.lookup y=some .local) (hA:X.A.handled=hv) (ok:eI X scope cl own ys js) (hi:xG hv X 250 iter wi)
  (hq:∀(C:Addr) (fp:KB) (s:Shared) (H:Hp),PT 72 cond tc)
  (he:∀(C:Addr) (fp:KB) (s:Shared) (H:Hp),PE 72 elt te)
  (hsw:swapsWith 76 (some (.Name y py)) spos.line X.env=pure true:=by rfl) (hs:∀x,foldedSetIterable iter X.env x=pure x:=by intro _;rfl):
  PS X (.Assign [.Name y py] 76 spos) (yW (iC wi js tc te) (aU i)):=λpins s σ H D I h=>by
 sleep 30
 exact wpAny_bind (wpAny_mono (jQ hA ok hi hq he hs I h (uL hN hi' hy)) (λ_ s' hq=>wpAny_pure (wpAny_pure hq)) λ_ _ e=>e)
universe z0
section
variable {prog:Program} {w:World} {A:Around} {E:Ks} {s:Shared} {hx:Addr} {ox:Obj} {vs:Array Value}
theorem yM {it t:Addr} {i:Nat} {items:Array Value} {Q:KH->Shared->Prop} (hh:A.handled=some 262) (hox:s.heap.get? hx=some ox) (hdx:ox.data= .fields vs) (h2:vs[2]?=some .none)
  (hit:IsTupIter s.heap it t i) (ht:IsTup s.heap t items) (hi:items[i]?=none)
  (hQ:∀h',Heap.ExtBut it s.heap h'->Q none 126):wpAny 68 A 270 Q E s:=by
 sleep 93;obtain ⟨ol,hol,_,nl,hdl⟩:=ht;have ne:hx≠it:=λz=>by
  rw[z,ho] at hox;cases hox;rw[hd] at hdx;cases hdx;cases h2
 unfold pyNext;refine wpAny_bind (wpAny_attempt (wpAny_callSpecial?_slot (name:=Str.ofString "__next__") hit.typeIs slot_tupleiter_next
  (wpAny_call_entry slot_tupleiter_next hit.typeIs entry_tupleiter_next ?_ (args_tupleiter_next _))))
 sleep 233;refine wpAny_bind (wpAny_field ho hd (x:= .ref t) rfl ?_);show wpAny _ _ (if (Value.ref t==Value.none)=true then _ else _) _ _ s
 rw[if_neg (show ¬((Value.ref t==Value.none)=true) from GQ)]
 sleep 179;show wpAny _ _ (seqItems? 246>>=_) _ _ s;sleep 123
 sleep 20
 sleep 3
theorem nu {t:Addr} {items:Array Value} {Q:KC->Shared->Prop} (hh:A.handled=some 262) (hox:s.heap.get? hx=some ox) (hdx:ox.data= .fields vs) (h2:vs[2]?=some .none) (ht:IsTup s.heap t items)
  (hQ:∀h',Heap.ExtBut 35 s.heap h'->Q items.toList 126):wpAny 68 A (unpackItems 246 items.size none) Q E s:=by
 have hlt:t≠s.heap.objs.size:=by obtain ⟨o,ho,_⟩:=ht;exact GL (85 ho)
 have hxl:hx≠s.heap.objs.size:=GL (85 hox);unfold unpackItems;sleep 205;unfold notIterableAtAll;refine wpAny_bind (wpAny_specialOf ht.typeIs slot_tuple_iter.lookup ?_);sleep 234;simp only[Ia,if_false];refine wpAny_bind (wpAny_holding (iter_tuple ht ?_));refine wpAny_bind (wpAny_holding (draw_tuple hlt items.size 0 _ _ 240 (ht.push _) 42 λh₁ hit₁ hs₁=>?_))
 have hall:List.take items.size (List.drop 0 items.toList)=items.toList:=by
  rw[List.drop_zero];exact Hn 73
 rw[hall];rw[if_neg 73]
 have ht₁:IsTup h₁ t items:=(ht.push _).extBut hs₁.extBut hlt;refine wpAny_bind (wpAny_holding (yM hh ((hs₁.2 hx hxl).trans (67 _ hox)) hdx h2 hit₁ ht₁ 73 λh₂ he₂=>?_))
 simp only[Option.isSome_none,Ia,if_false];exact wpAny_pure (hQ h₂ λb o hb e=>he₂ b o hb (hs₁.extBut b o hb (Heap.get?_push_of_some _ e)))
universe z0
def DY (hq:KH) (K:G0) (n:Nat) (t:yV):TG:=λv σ H Q=>fz hq H/\C7 K n t v σ H Q
section
variable {pos:Pos}
theorem vt {hq:KH} {K:G0} {es:List Expr} {k:Nat} {t:yV} {n:Nat} (hK:X.K=K) (hA:X.A.handled=hq) (h:C5 X es t)
  (hn:(assignEach es X.env).length=n:=by rfl) (hst:(assignEach es X.env).findIdx? 111=none:=by rfl):PG X (.Tuple es k pos) (DY hq K n t):=by
 subst hK;intro pins s σ H v u Q I r hw;obtain ⟨hok,a,xs,e1,hs,hl,hw⟩:=hw;subst e1;cases r;obtain ⟨its,rv,ht,hz⟩:=I.tuple hs;have go:∀h',Heap.ExtBut 35 s.heap h'->wpAny 69 X.A (assignInOrder ((assignEach es X.env).map (·.2)) its) (λ_ s'=>∃σ' H',aG X pins σ' H' s'/\Q σ' H') X.xe {s with heap:=h'}:=λh' hx=>by
  have I1:aG X pins σ H {s with heap:=h'}:=I.kept (t':=s.toks) λb o e=>hx b o 532 e
  exact h pins _ σ H xs _ Q I1 (by simpa using rv) hw
 have hlen:(assignEach es X.env).length=its.toArray.size:=by simp[hn,<-hl,rv.length]
 cases hq with
 |none=>exact assign_Tuple_tuple hA ht hlen hst λh' hx=>by simpa using go h' hx
 |some v9=>
  sleep 109
  rw[assign_Tuple];refine wpAny_bind (wpAny_standAt ?_);unfold unpack;rw[hlen,hst];exact wpAny_bind (wpAny_holding (nu hA h1 h4 h6 ht λh' hx=>by simpa using go h' hx))
universe z0
theorem uk {hq:KH} {lo:Int} {n:Nat} {g:TG} {tb:TS} {D:Ends} {σ:St} {H:Hp} (Pv:Nat->St->Hp->Prop) (h0:Pv 0 σ H) (hl:∀i σ H,i<=n->Pv i σ H->fz hq H)
  (hs:∀i σ H,i<n->Pv i σ H->g (.int (lo+(i:Int))) σ H λσ2 H2=>tb 110 σ2 H2) (hd:∀σ H,Pv n σ H->D.nx σ H):
  ∃W:Nat->Nat->St->Hp->Prop,251/\∀i m σ H,W i m σ H->
   ((vR hq lo n).stop i H/\D.nx σ H)∨((vR hq lo n).go i H/\∃N:St->Hp->Prop,94/\∀x H',(vR hq lo n).yld i H x H'->g x σ H' λσ2 H2=>tb 151 σ2 H2):=by
 exists λi m σ H=>m=n-i/\i<=n/\Pv i σ H,(n,by simp,HC _,h0)
 sleep 98
 by_cases hlt:i<n
 ·refine .inr (hlt,Pv 236,λσ' H' p'=>(n-236,by lia,rfl,hlt,p'),λx H' y=>?_)
  obtain ⟨e,rfl⟩:=y;subst e;exact hs i σ _ hlt p
 ·have e:i=n:=by lia
  subst e;exact .inl ((G4 _,hl _ σ H 173 p),hd σ H p)
theorem wG {hq:KH} {K:G0} {a:Addr} {xs:List V} {js:List Nat} {te:TE} {σ:L2.St} {H1:Hp} {Q:VK} (P:V->V->Prop) (hS:aQ K H1 a xs) (hz:xs.length<=sizeLine) (hk:fz hq H1)
  (step:∀x∈xs,∀H3,ax H1 H3->∀Q':VK,(∀y H4,P x y->ax H3 H4->Q' y H4)->te (some x::bK js σ) H3 Q')
  (fin:∀(p:Addr) (ys:List V) (H':Hp),H1 p=none->ys.length=xs.length->425->ax H1 H'->H' p=some 263->Q 133 H'):uJ js te σ Q (wp hq K a) H1:=by
 sleep 57
 sleep 146
 by_cases hin:i<xs.length
 ·sleep 183
  sleep 23
  by_cases hj:j<ys.length
  ·rw[G6 hj] at e2;exact hP j x' y' e1 e2
  ·have ej:j=i:=by
    have:=(G3.mp e2).1;simp at this
    lia
   subst ej;rw[G7 42,hl] at e2
   simp at e2;subst e2;rw[ex] at e1;cases e1;exact py
 ·sleep 287
  subst e2;exact .inl (((xs,S2,G4 _),cJ hk g),fin p ys H2 hp hl hP g e)
theorem nA {hq:KH} {a:Addr} {o:Obj} {kvs:List 103} {js:List Nat} {tc:TT} {σ:L2.St} {H1:Hp} {Q:VK} (pr:Key->Bool) (hf:H1 a=some 185) (hz:kvs.length<=sizeLine)
  (hk:fz hq H1)
  (step:∀(i:Nat) (k:Key) (x:V),kvs[i]?=some (k,x)->∀H3,ax H1 H3->∀R:Bool->Hp->Prop,(∀H4,ax H3 H4->R (pr k) H4)->tc 529 H3 R)
  (fin:∀p H',ax H1 H'->H' p=some 267->Q 133 H'):jZ js tc (vC 0) σ Q (ue hq a o kvs) H1:=by
 sleep 22
 sleep 85
 by_cases hin:i<kvs.length
 ·sleep 269
  ·have:=IN (λe:Key×V=>pr e.1) (kvs.take i)
   rw[G2];rw[GX] at this
   lia
  obtain ⟨rfl,k,v,hk,rfl⟩:=hy;have tk:363=391++(if pr k=true then [(k,v)] else []):=by
   rw[IL,hk,List.filter_append]
   congr 1
   simp[Ii]
  refine step i k v hk H3 g _ λH4 g4=>?_
  cases hpr:pr k with
  |true=>
   rw[hpr,if_pos rfl] at tk;rw[if_pos rfl];exact (g4 _ _ e,kvs.length-236,by lia,hin,rfl,by rw[tk,GW];rfl,Sw.dA (g.trans g4) hp _,ac)
  |false=>
   sleep 212
   sleep 118
   exact (kvs.length-236,by lia,hin,rfl,by rw[tk],g.trans g4,g4 _ _ e)
 ·have e2:i=kvs.length:=by lia
  sleep 268
universe L2
namespace Sw
open PySem L2 XH Hm
theorem B7 {α:Type} {P:List α->Prop} (h:∀a b c d e f,P [a,b,c,d,e,f]):∀us:List α,us.length=6->P us
 | [a,b,c,d,e,f],_=>h a b c d e f
theorem gQ {t u:TS} {D:Ends} {σ:L2.St} {H:Hp} (I:(L2.St->Hp->Prop)->Prop) (h1:∀N:L2.St->Hp->Prop,I N->t {D with nx:=N} σ H) (h2:I (u D)):aX t u D σ H:=h1 _ h2
abbrev FnAt (K:G0) (f:Addr) (n q:Str) (st:Stmt) (dV:Value):Prop:=∃(oc:Value) (od:KG) (kV dc pm:Value) (an:KG) (cd ct:Value) (sl:Kz),K.lookup f=some ⟨oc,od,.func (Hq n q (dB st) (cD st) 297 dV kV dc pm an cd ct),sl⟩/\IG K cd q=true/\Hk K 272=true
abbrev dR (K:G0) (f:Addr) (x:Str) (st:Stmt) (dV:Value):Prop:=GR K mainGlobals x=some (some 272)/\FnAt K f x x st dV
abbrev rW (K:G0) (c f:Addr) (m q:Str) (st:Stmt) (dV:Value):Prop:=HG K (.ref c) m=some (some 272)/\FnAt K f m q st dV
abbrev DZ (n q:Str) (st:Stmt) (dV:Value) (ps:KA):Prop:=∀(kV doc pm:Value) (an:KG) (cdv ct:Value) (us:KC),us.length=ps.length->bindArgs (Hq n q (dB st) (cD st) 297 dV kV doc pm an cdv ct) ⟨us,[]⟩=pure (ps.zip us)
theorem dI {N P:KA} {sc:Scope} (h:N.Nodup/\(∀x∈P,sc.names.lookup x=some .local∨sc.names.lookup x=some .cell)/\∀y∈sc.names,y.2≠ .free) (h1:sc.kind= .function:=by rfl) (h2:sc.isCoroutine=false:=by rfl) (h3:sc.isGenerator=false:=by rfl) (h4:N.take P.length=P:=by rfl):aC N P sc:=(h1,h2,h3,h.1,h4,h.2.1,h.2.2)
section
variable {P:Program} {w:World} {K:G0} {mg:Kt} {base h:Heap} {CX:sC} {k:Nat} {f c:Addr} {x m q:Str} {st:Stmt} {ps:KA} {sp:Sp}
theorem FnAt.ex {n q:Str} {dV:Value} (a:FnAt K f n q st dV):∃fd,bu K n q st dV f fd/\Hk K 272=true:=by
 obtain ⟨_,_,_,_,_,_,_,_,_,l,c,k⟩:=a;exact (_,bI (st:=st) l c k,k)
structure Bx (P:Program) (w:World) (base:Heap):Prop
noncomputable def jn (_:Bx P w base) (X:K.In h) (G:h.Ns mainGlobals mg) (a:dR K f x st .none) (b:DZ x x st .none ps) (ok:∀{fd:FuncData},bu K x x st .none f fd->bh P w K mg base CX k f fd ps sp):Dx P w K mg base CX k x ps [] sp:=
 have e:=a.2.ex
 ⟨f,e.choose,ok e.choose_spec.1,GY X G a.1,e.choose_spec.2,e.choose_spec.1.binds0 b,[],e.choose_spec.1.binds0 b,.nil⟩
noncomputable def B8 (_:Bx P w base) (a:rW K c f m q st .none) (b:DZ m q st .none ps) (ok:∀{fd:FuncData},bu K m q st .none f fd->bh P w K mg base CX k f fd ps sp):jm P w K mg base CX k f ps [] sp:=
 have e:=a.2.ex
 ⟨e.choose,ok e.choose_spec.1,e.choose_spec.1.binds0 b,[],e.choose_spec.1.binds0 b,.nil⟩
universe z0
theorem An (x:Int) (c:List Int):sG (.int x) (c.map V.int)=decide (x∈c):=by
 unfold sG;rw[Ic];simp[yN]
universe Sw
namespace L2
open PySem PySem.Spec PyProof.Rows XH Sw Hm
universe L2
namespace Sw
open PySem L2 XH Hm
theorem FU {x:Int} {c:List Int} {A B:Prop} (h1:x∈c->A) (h2:x∉c->B):if (if false=true then !sG (.int x) (c.map V.int) else sG (.int x) (c.map V.int))=true then A else B:=by
 rw[if_neg (show ¬(false=true) by decide),An]
 exact d2 h1 h2
abbrev CS:=List V->Hp->VK->Prop
abbrev D3 (K:G0):CS:=λxs H Q=>∃p ys,xs= [.ref p]/\(aQ K H p ys∨bU K H p ys)/\Q (.int ys.length) H
theorem bM {X:Cx}:cY X 435 (D3 X.K):=oY
abbrev D6 (K:G0):CS:=λxs H Q=>∃x t T b,xs= [x,.ty T]/\f9 K H x t/\Hy K t (.type T)=some b/\Q (.bl b) H
theorem gn {X:Cx} {K:G0} (hK:X.K=K):cY X 212 (D6 K):=vU hK
abbrev Ca (K:G0):CS:=λxs H Q=>∃p ys,xs= [.ref p]/\(aQ K H p ys∨bU K H p ys)/\∀l,H l=none->Q 176 (556 l 263)
theorem um {X:Cx} {K:G0} (h:X.K=K):cY X 249 (Ca K):=tL h
abbrev Ao (K:G0):R2:=λx y H Q=>∃a b zs,x= .ref a/\y= .ref b/\aQ K H a zs/\aQ K H b []/\Q (.bl zs.isEmpty) H
theorem iP {X:Cx} (hu:X.A.units<cLine):iQ X (compareOp .Eq) (Ao X.K):=xZ hu
abbrev Ap (K:G0):R2:=λx y H Q=>∃a b zs,x= .ref a/\y= .ref b/\aQ K H a zs/\aQ K H b []/\Q (.bl (!zs.isEmpty)) H
theorem wH {X:Cx} (hu:X.A.units<cLine):iQ X (compareOp .NotEq) (Ap X.K):=yb hu
universe Sw
theorem aR {A B:Type} {p:A->B->Prop} (a:A) (b:B) (h:p a b):∃a b,p a b:=(a,b,h)
theorem cU {A B C:Type} {p:A->B->C->Prop} (a:A) (b:B) (c:C) (h:p a b c):∃a b c,p a b c:=(a,b,c,h)
theorem aN {A B C D:Type} {p:A->B->C->D->Prop} (a:A) (b:B) (c:C) (d:D) (h:p a b c d):∃a b c d,p a b c d:=(a,b,c,d,h)
theorem fV {A B C D E F:Type} {p:A->B->C->D->E->F->Prop} (a:A) (b:B) (c:C) (d:D) (e:E) (f:F) (h:p a b c d e f):∃a b c d e f,p a b c d e f:=(a,b,c,d,e,f,h)
theorem jR {A B C D E F H I J:Type} {p:A->B->C->D->E->F->H->I->J->Prop} (a:A) (b:B) (c:C) (d:D) (e:E) (f:F) (g:H) (i:I) (j:J) (h:p a b c d e f g i j):∃a b c d e f g i j,p a b c d e f g i j:=(a,b,c,d,e,f,g,i,j,h)
theorem jS {A:Type} {p:A->Prop} {G:Prop}:(∃a,p a)->(∀a,p a->G)->G
 |⟨a,h⟩,k=>k a h
theorem rX {A B:Type} {p:A->B->Prop} {G:Prop}:(∃a b,p a b)->(∀a b,p a b->G)->G
 |⟨a,b,h⟩,k=>k a b h
theorem si {A B C:Type} {p:A->B->C->Prop} {G:Prop}:(∃a b c,p a b c)->(∀a b c,p a b c->G)->G
 |⟨a,b,c,h⟩,k=>k a b c h
theorem dY {A B C D:Type} {p:A->B->C->D->Prop} {G:Prop}:(∃a b c d,p a b c d)->(∀a b c d,p a b c d->G)->G
 |⟨a,b,c,d,h⟩,k=>k a b c d h
theorem kT {A B C D E F:Type} {p:A->B->C->D->E->F->Prop} {G:Prop}:(∃a b c d e f,p a b c d e f)->(∀a b c d e f,p a b c d e f->G)->G
 |⟨a,b,c,d,e,f,h⟩,k=>k a b c d e f h
theorem ix {A B C D E F H I J:Type} {p:A->B->C->D->E->F->H->I->J->Prop} {G:Prop}:(∃a b c d e f g i j,p a b c d e f g i j)->(∀a b c d e f g i j,p a b c d e f g i j->G)->G
 |⟨a,b,c,d,e,f,g,i,j,h⟩,k=>k a b c d e f g i j h
theorem cL {A B G:Prop} (h:A/\B) (k:A->B->G):G:=k h.1 h.2
theorem gW {A B C G:Prop} (h:A/\B/\C) (k:A->B->C->G):G:=k h.1 h.2.1 h.2.2
theorem gp {A B C D G:Prop} (h:A/\B/\C/\D) (k:A->B->C->D->G):G:=k h.1 h.2.1 h.2.2.1 h.2.2.2
theorem fJ {A B C D E F G:Prop} (h:A/\B/\C/\D/\E/\F) (k:A->B->C->D->E->F->G):G:=k h.1 h.2.1 h.2.2.1 h.2.2.2.1 h.2.2.2.2.1 h.2.2.2.2.2
theorem iY {A B C D E F H I J G:Prop} (h:A/\B/\C/\D/\E/\F/\H/\I/\J) (k:A->B->C->D->E->F->H->I->J->G):G:=k h.1 h.2.1 h.2.2.1 h.2.2.2.1 h.2.2.2.2.1 h.2.2.2.2.2.1 h.2.2.2.2.2.2.1 h.2.2.2.2.2.2.2.1 h.2.2.2.2.2.2.2.2
namespace Sw
open PySem L2
theorem Aq {a1 a2:TS} {D:Ends} {σ:L2.St} {H:Hp} (h:let D':=D;let r1:TS:=a2;aX a1 r1 D' σ H):aX a1 a2 D σ H:=h
theorem lt3 {a1 a2 a3:TS} {D:Ends} {σ:L2.St} {H:Hp} (h:let D':=D;let r2:TS:=a3;let r1:TS:=aX a2 r2;aX a1 r1 D' σ H):aX a1 (aX a2 a3) D σ H:=h
theorem vv {a1 a2 a3 a4:TS} {D:Ends} {σ:L2.St} {H:Hp} (h:let D':=D;let r3:TS:=a4;let r2:TS:=aX a3 r3;let r1:TS:=aX a2 r2;aX a1 r1 D' σ H):aX a1 (aX a2 (aX a3 a4)) D σ H:=h
theorem E9 {a1 a2 a3 a4 a5:TS} {D:Ends} {σ:L2.St} {H:Hp} (h:let D':=D;let r4:TS:=a5;let r3:TS:=aX a4 r4;let r2:TS:=aX a3 r3;let r1:TS:=aX a2 r2;aX a1 r1 D' σ H):aX a1 (aX a2 (aX a3 (aX a4 a5))) D σ H:=h
theorem Gs {a1 a2 a3 a4 a5 a6:TS} {D:Ends} {σ:L2.St} {H:Hp} (h:let D':=D;let r5:TS:=a6;let r4:TS:=aX a5 r5;let r3:TS:=aX a4 r4;let r2:TS:=aX a3 r3;let r1:TS:=aX a2 r2;aX a1 r1 D' σ H):aX a1 (aX a2 (aX a3 (aX a4 (aX a5 a6)))) D σ H:=h
theorem GI {a1 a2 a3 a4 a5 a6 a7 a8:TS} {D:Ends} {σ:L2.St} {H:Hp} (h:let D':=D;let r7:TS:=a8;let r6:TS:=aX a7 r7;let r5:TS:=aX a6 r6;let r4:TS:=aX a5 r5;let r3:TS:=aX a4 r4;let r2:TS:=aX a3 r3;let r1:TS:=aX a2 r2;aX a1 r1 D' σ H):aX a1 (aX a2 (aX a3 (aX a4 (aX a5 (aX a6 (aX a7 a8)))))) D σ H:=h
theorem FW {a1 a2 a3 a4 a5 a6 a7 a8 a9 a10 a11:TS} {D:Ends} {σ:L2.St} {H:Hp} (h:let D':=D;let r10:TS:=a11;let r9:TS:=aX a10 r10;let r8:TS:=aX a9 r9;let r7:TS:=aX a8 r8;let r6:TS:=aX a7 r7;let r5:TS:=aX a6 r6;let r4:TS:=aX a5 r5;let r3:TS:=aX a4 r4;let r2:TS:=aX a3 r3;let r1:TS:=aX a2 r2;aX a1 r1 D' σ H):aX a1 (aX a2 (aX a3 (aX a4 (aX a5 (aX a6 (aX a7 (aX a8 (aX a9 (aX a10 a11))))))))) D σ H:=h
theorem FX {a1 a2 a3 a4 a5 a6 a7 a8 a9 a10 a11 a12 a13:TS} {D:Ends} {σ:L2.St} {H:Hp} (h:let D':=D;let r12:TS:=a13;let r11:TS:=aX a12 r12;let r10:TS:=aX a11 r11;let r9:TS:=aX a10 r10;let r8:TS:=aX a9 r9;let r7:TS:=aX a8 r8;let r6:TS:=aX a7 r7;let r5:TS:=aX a6 r6;let r4:TS:=aX a5 r5;let r3:TS:=aX a4 r4;let r2:TS:=aX a3 r3;let r1:TS:=aX a2 r2;aX a1 r1 D' σ H):aX a1 (aX a2 (aX a3 (aX a4 (aX a5 (aX a6 (aX a7 (aX a8 (aX a9 (aX a10 (aX a11 (aX a12 a13))))))))))) D σ H:=h
universe Sw
namespace Lk46
open PySem L2 Sw XH PyProof.Rows Hm Wo
abbrev KJ (x:Addr):Option V:=some 328
theorem cf {X:Cx} {N P:KA} {sp:Scope} (i:Nat) (sc:aC N P sp) {x:Str} {e:Expr} {te:TE} {pos pos':Pos} (he:PE X e te) (hi:X.N[i]?=some x:=by rfl) (hx:Loc X.env.scope x:=by exact Or.inl rfl) (hn:X.N=N:=by rfl) (hs:swapsWith e (some (.Name x pos')) pos.line X.env=pure false:=by rfl) (hf:X.fn x=true∨X.env.scope.names.lookup x=some .local:=by first|exact .inl rfl|exact .inr rfl|assumption):PS X (.Assign [.Name x pos'] e pos) (yW te (aU i)):=ss (hn▸sc.nd) hi hx he hs hf
theorem iT {X:Cx} {N P:KA} {sp:Scope} (i:Nat) (sc:aC N P sp) {x:Str} {pos:Pos} (hi:X.N[i]?=some x:=by rfl) (hx:Loc X.env.scope x:=by exact Or.inl rfl) (hn:X.N=N:=by rfl) (hf:X.fn x=true∨X.env.scope.names.lookup x=some .local:=by first|exact .inl rfl|exact .inr rfl|assumption):PG X (.Name x pos) (aU i):=jo (hn▸sc.nd) hi hx hf
theorem dW {X:Cx} {k j:Nat} {x:Str} {ps:KA} {dvs:List V} {sp:Sp} {e:Expr} {es:List Expr} {t:TA} {p pos:Pos} (D:Dx X.prog X.w X.K X.mg X.base bC k x ps dvs sp) (hr:ce j X.A) (ha:PA X (e::es) t) (hk:k<=j:=by decide) (hg:Gl X x:=by rfl) (hdb:92=false:=by decide) (he:starEach (e::es) X.env=(false,eval e X.env)::starEach es X.env:=by rfl) (hpl:(backTo pos 112).any 111=false:=by rfl):PE X 118 (nG sp [] E0 t):=Bt D hr hk hg ha hdb he hpl
noncomputable def top (i:Nat):Stmt:=PySem.Challenge.pw_stovework_k46_whole_dish_bought.main.body.getD i (.Pass ⟨0,0,0,0⟩)
noncomputable def clsAt (s:Stmt) (i:Nat):Stmt:=match s with| .ClassDef _ _ _ body _ _ _ _ _ _ _=>body.getD i (.Pass ⟨0,0,0,0⟩)|_=>s
abbrev FY:Stmt:=top 11
abbrev Gu:Stmt:=top 11
abbrev FZ:Stmt:=top 12
abbrev Fa:Stmt:=top 14
abbrev uo:Stmt:=top 15
abbrev F4:Stmt:=top 16
abbrev F6:Stmt:=top 17
abbrev F7:Stmt:=top 18
abbrev F8:Stmt:=top 19
abbrev F9:Stmt:=top 20
abbrev Cb:Stmt:=top 21
abbrev Ar:Stmt:=top 25
abbrev Cc:Stmt:=top 30
abbrev As:Stmt:=top 29
abbrev Cd:Stmt:=top 23
abbrev At:Stmt:=top 34
abbrev Ce:Stmt:=top 34
abbrev Au:Stmt:=top 38
abbrev Cf:Stmt:=top 38
abbrev Av:Stmt:=top 39
abbrev Cg:Stmt:=top 39
abbrev Aw:Stmt:=top 37
abbrev Ch:Stmt:=top 37
abbrev Ci:Stmt:=top 36
abbrev Cj:Stmt:=top 41
abbrev Ax:Stmt:=top 44
abbrev Ck:Stmt:=top 44
abbrev Cl:Stmt:=clsAt 528 0
abbrev Cm:Stmt:=clsAt 528 9
abbrev Cn:Stmt:=clsAt 528 1
abbrev Co:Stmt:=clsAt 528 6
abbrev Ay:Stmt:=clsAt 528 7
abbrev Cp:Stmt:=clsAt 528 7
abbrev Cq:Stmt:=clsAt 528 3
abbrev Az:Stmt:=clsAt 528 2
abbrev Cr:Stmt:=clsAt 528 8
abbrev Cs:Stmt:=top 27
abbrev Ct:Stmt:=top 28
abbrev Cu:Stmt:=clsAt (top 47) 0
abbrev Cv:Stmt:=top 49
abbrev Cw:Stmt:=top 50
abbrev Cy:Stmt:=top 51
abbrev Cz:Stmt:=top 52
abbrev AA:Stmt:=top 53
abbrev CA:Stmt:=top 53
abbrev CB:Stmt:=top 54
abbrev CC:Stmt:=top 55
abbrev CD:Stmt:=top 56
abbrev CF:Stmt:=top 57
abbrev CG:Stmt:=top 58
abbrev AB:Stmt:=top 59
abbrev CH:Stmt:=top 59
abbrev CI:Stmt:=top 60
abbrev CJ:Stmt:=top 61
abbrev CK:Stmt:=top 62
abbrev CL:Stmt:=top 63
abbrev AC:Stmt:=top 64
abbrev CM:Stmt:=top 64
abbrev CN:Stmt:=top 65
abbrev qb:Stmt:=top 66
abbrev dO:Stmt:=clsAt (top 8) 0
abbrev gq:Stmt:=clsAt (top 7) 0
abbrev gu:Stmt:=clsAt (top 9) 0
structure Bn (K:G0) (mg:Kt) (Iu mt Id Iw Ix Ja on GT Iv JD Jo Ju Jt Jh Js Jl Jr JC:Addr):Prop where
 JK:∃t,mg "LETTERS" =some (.str "abcdefghijklmnopqrstuvwxyz" t)
 Jk:∃t,mg "MOST_LETTERS" =some (.int 12 t)
 JL:∃t,mg "MOST_NAMES" =some (.int 80 t)
 J6:mg "abs" =none
 J5:mg "bool" =none
 J4:mg "dict" =none
 Kc:mg "int" =none
 Jb:mg "isinstance" =none
 Jc:mg "len" =none
 Jm:mg "list" =none
 Ko:mg "max" =none
 Jn:mg "range" =none
 JJ:mg "reversed" =none
 Jx:mg "sorted" =none
 Kb:mg "str" =none
 Ka:mg "tuple" =none
 J3:mg "zip" =none
 JN:mg "InRing" =some 467
 J1:mg "Larder" =some (.ref mt)
 JZ:mg "NoName" =some (.ref Id)
 Jq:mg "NoNumber" =some (.ref Iw)
 JY:mg "NoPack" =some (.ref Ix)
 Jz:mg "NoStand" =some (.ref Ja)
 JB:mg "NoStandIn" =some 465
 JX:mg "Recipe" =some (.ref GT)
 J9:mg "StoveError" =some (.ref Iv)
 JT:IQ K Id wK "ValueError.__new__" =true
 Km:XI K Id
 Jy:IQ K Ja wK "ValueError.__new__" =true
 Kk:XI K Ja
 Jp:IQ K Iw wK "ValueError.__new__" =true
 Kj:XI K Iw
 JU:XT K Iu
 JM:XT K on
 Jj:IZ K 465 465=some true
 JF:IZ K 467 467=some true
 JE:XA K on Iv
 JA:HG K 465 "good" =some none
 J8:XA K Iu Iv
 JW:HG K 467 "ring" =some none
 J7:XA K Ix Iv
 JV:HG K (.ref Ix) "good" =some none
 JO:XI K on
 Kn:XI K Iu
 Kl:XI K Ix
 HM:rY K mt
 JS:Mk K mt JD
 Ki:gz K mt "part" Ju
 Kf:gz K mt "stand" Jl
 Kg:gz K mt "bar" Js
 Kh:gz K mt "held" Jt
 JP:gz K mt "barred" Jh
 Ke:gz K mt "stand_in" Jr
 JQ:gz K mt "learn" Jo
 IO:rY K GT
 JR:Mk K GT JC
 Iz:bJ K mt "parts"
 Jd:bJ K mt "stands"
 Jf:bJ K mt "bars"
 Je:bJ K mt "names"
 JI:bJ K GT "name"
 Jg:bJ K GT "plates"
 Iy:bJ K GT "takes"
 JG:bJ K GT "steps"
 JH:bJ K GT "links"
section
variable {P:Program} {w:World} {K:G0} {mg:Kt} {base:Heap} {f:Addr} {fd:FuncData} {Iu mt Id Iw Ix Ja on GT Iv JD Jo Ju Jt Jh Js Jl Jr JC:Addr}
variable (B:Bn K mg Iu mt Id Iw Ix Ja on GT Iv JD Jo Ju Jt Jh Js Jl Jr JC)
include B
theorem qc {dV:Value} (F:bu K "__init__" "NoStandIn.__init__" dO dV f fd):544 bC 1 f fd ["self","good"] (fR on "good"):=by
 have sc:aC ["self","good"] ["self","good"] (au dO):=dI 48
 sleep 136
 ·obtain ⟨a,y,n,rfl,_⟩:=h
  rfl
 obtain ⟨a,y,n,rfl,e,q⟩:=h;exact (_,422,a,on,Iv,n,rfl,e,B.JE,B.JA,q)
theorem wI {dV:Value} (F:bu K "__init__" "InRing.__init__" gq dV f fd):544 bC 1 f fd ["self","ring"] (fR Iu "ring"):=by
 have sc:aC ["self","ring"] ["self","ring"] (au gq):=dI 48
 sleep 136
 ·obtain ⟨a,y,n,rfl,_⟩:=h
  rfl
 obtain ⟨a,y,n,rfl,e,q⟩:=h;exact (_,422,a,Iu,Iv,n,rfl,e,B.J8,B.JW,q)
theorem wJ {dV:Value} (F:bu K "__init__" "NoPack.__init__" gu dV f fd):544 bC 1 f fd ["self","good"] (fR Ix "good"):=by
 have sc:aC ["self","good"] ["self","good"] (au gu):=dI 48
 sleep 136
 ·obtain ⟨a,y,n,rfl,_⟩:=h
  rfl
 obtain ⟨a,y,n,rfl,e,q⟩:=h;exact (_,422,a,Ix,Iv,n,rfl,e,B.J7,B.JV,q)
theorem Ga {dV:Value} (F:bu K "is_whole" "is_whole" FY dV f fd):544 bC 1 f fd ["thing"] uD:=by
 have sc:aC ["thing"] ["thing"] (au FY):=dI 48
 sleep 255
 obtain ⟨v,rfl,q⟩:=h;exists _,(ar (aE (lK (aL qB rfl B.Jb boot_isinstance 427) (lJ (wR (aL qB rfl B.Jb boot_isinstance 413))))));try dsimp only[cxK]
 refine (cU _ _ _ (rfl,.ii v,(cU _ _ _ (rfl,.ib v,q))))
theorem Gb {dV:Value} (F:bu K "is_whole" "is_whole" Gu dV f fd):544 bC 1 f fd ["thing"] (DB K):=by
 have sc:aC ["thing"] ["thing"] (au Gu):=dI 48
 sleep 255
 obtain ⟨x,b,rfl,wh,q⟩:=h;exists _,(ar (aE (lK (aL (gn (K:=K) rfl) rfl B.Jb boot_isinstance 427) (lJ (wR (aL (gn (K:=K) rfl) rfl B.Jb boot_isinstance 413))))));try dsimp only[cxK]
 cases wh with
 | @mk t b1 b2 ty k1 k2=>
  refine (aN x t "int" b1 (rfl,ty,k1,mB.o rfl ?_));cases b1 with
  |false=>exact dP q
  |true=>exact gG (aN x t "bool" b2 ⟨rfl,ty,k2,mB.o rfl q⟩)
theorem Gc {dV:Value} (F:bu K "divisor" "divisor" FZ dV f fd):544 bC 1 f fd ["one","other"] xm:=by
 have sc:aC ["one","other","greater","lesser","rest"] ["one","other"] (au FZ):=dI 48
 sleep 255
 obtain ⟨a,b,rfl,q⟩:=h;exists _,(ae (555 (aL lM rfl B.J6 boot_abs 349)) (ae (551 (aL lM rfl B.J6 boot_abs 210)) (ae (eu 93 (aD ku 119 af 162) (ae (554 (aB bw 114 119)) (ae (555 119) (ar (551 161))))) 326)));try dsimp only[cxK]
 sleep 35;exists ν,ν;refine eA (λσ H'=>H'=H/\∃(g l:Int) (r:Option V),σ= [some (.int a),some (.int b),some (.int g),some (.int l),r]/\0<=g/\0<=l/\b6 g l=b6 a b)
  (λ(σ:L2.St) (_:Hp)=>match σ[3]? with|some (some (V.int l))=>l.toNat|_=>0) ⟨rfl,cU _ _ _ ⟨rfl,uC a,uC b,xj a b⟩⟩ ?_ (λσ H Q Q' m h9=>by obtain ⟨v,e,s,h9⟩:=mV.e h9;obtain ⟨k,hk,h2⟩:=mB.e h9;exact mV.o e ⟨s,mB.o hk (m _ _ h2)⟩)
 intro σ H' h_;refine cL h_ λ_r1 _hi=>?_
 refine si _hi λg l r _hj=>?_
 refine gp _hj λ_r2 g0 l0 inv=>?_
 sleep 34;subst _r2;refine (rfl,Go 220 220)
 ·have lp:0<l:=by lia
  exists c,(rfl,cU l (g.fmod l) _ (rfl,l0,GO g lp,?_))
  ·rw[nQ lp];exact inv
  ·have h1:=HD g lp;have h2:=GO g lp;show (g.fmod l).toNat<l.toNat
   lia
 ·subst c;rw[nR g0] at inv;rw[<-inv] at q;exact q
theorem Gd {dV:Value} (F:bu K "fraction" "fraction" Fa dV f fd) (DZ0:543 bC 1 "is_whole" ["thing"] [] uD) (DZ2:543 bC 1 "divisor" ["one","other"] [] xm):544 138 2 f fd ["top","bottom"] (lW Iw):=by
 have sc:aC ["top","bottom","common"] ["top","bottom"] (au Fa):=dI 48
 sleep 2
 ·obtain ⟨_,_,rfl,_⟩:=h
  rfl
 obtain ⟨a,b,rfl,hb,q,qe⟩:=h;exists _,(ae (bv (PW.pt (fh (dD (cW (dW DZ0 hr 349))) (fO (dD (cW (dW DZ0 hr 210)))))) 304 aO) (ae (bv (aD gY 89 af 162) 304 aO) (ae (555 (dW DZ2 hr (95<*>210))) (ae (bv (aD jp 89 af 162) (ar (555 (gX fi 114))) aO) 371))));try dsimp only[cxK]
 sleep 224;refine (ν,mB.o rfl (dP (ν,mB.o rfl (dP ?_))));refine (rfl,Bj (λz=>(by show 1<=sizeLine;decide,qe z)) (λb0=>?_))
 have c0:=sQ (a:=a) b0;have cb:=xu (a:=a) b0 hb;have f:=AK (a:=a) b0;have q:=q b0;refine (aR _ _ (rfl,?_));refine (d2 220 220)
 ·have e:mX a b= -b6 a b:=if_pos c;rw[e] at c0 cb f;exact (ν,411,411,by show 2<=sizeLine;decide,λt ht=>q _ _ f t _ (ag ht _) ac)
 ·have e:mX a b=b6 a b:=if_neg c;rw[e] at c0 cb f;exact (411,411,by show 2<=sizeLine;decide,λt ht=>q _ _ f t _ (ag ht _) ac)
theorem Ge {dV:Value} (F:bu K "is_fraction" "is_fraction" uo dV f fd) (DZ1:543 bC 1 "is_whole" ["thing"] [] (DB K)) (DZ2:543 bC 1 "divisor" ["one","other"] [] xm):544 bC 2 f fd ["thing"] (xL K):=by
 have sc:aC ["thing"] ["thing"] (au uo):=dI 48
 sleep 255
 obtain ⟨x,b,rfl,fk,q⟩:=h;exists _,(ae (bv (PW.pt (fh (dD (cW (aL (gn (K:=K) rfl) rfl B.Jb boot_isinstance (95<*>((gw (v:= .ty "tuple") rfl B.Ka boot_tuple rfl)<*>aj))))) (fO (aD ku (548 349) af 162)))) 170 aO) (ae (bv (PW.pt (fh (dD (cW (dW DZ1 hr (77<*>aj)))) (fO (dD (cW (dW DZ1 hr (77<*>aj))))))) 170 aO) (ar (aE (lK (eK AG 77 af 162) (lJ (eK gY (dW DZ2 hr (77<*>(77<*>aj))) af 162)))))))
 try dsimp only[cxK]
 sleep 45;cases fk with
 | @no _ t ty k=>exact (aN x t "tuple" false ⟨rfl,ty,k,mB.o rfl (gG q)⟩)
 | @len a ys e n=>
  refine 426;exact (aR a ys (rfl,.inr 421,rfl,GF n q))
 | @top a y z e k=>
  sleep 52;exact (552 (rfl,rfl,421,rfl,aR y false (rfl,k,mB.o rfl (gG q))))
 | @bot a y z e k k'=>
  sleep 52;exact (552 (rfl,rfl,421,rfl,aR y true (rfl,k,mB.o rfl (dP (552 (rfl,rfl,421,rfl,aR z false (rfl,k',mB.o rfl (gG q))))))))
 | @two a p q' e=>
  sleep 52;refine (552 (rfl,rfl,421,rfl,aR _ true (rfl,xK p,mB.o rfl (dP (552 (rfl,rfl,421,rfl,aR _ true (rfl,xK q',mB.o rfl (dP ?_))))))));refine (552 (rfl,rfl,421,rfl,d2 220 220))
  ·refine (552 (rfl,rfl,421,rfl,aN _ _ _ _ (rfl,rfl,421,rfl,aR _ _ (rfl,rfl,?_))));have d:Q (.bl (decide (V.int (b6 p q')=V.int 1))) H:=by
    have e2:decide (V.int (b6 p q')=V.int 1)=(decide (1<=q')&&decide (b6 p q'=1)):=by
     rw[decide_eq_true c,Bool.true_and]
     by_cases k:b6 p q'=1
     ·rw[decide_eq_true k,decide_eq_true (vi k)]
     ·rw[decide_eq_false k,decide_eq_false λz=>k (vj z)]
    rw[e2];exact q
   exact d
  ·have d:Q 541 H:=by
    have e2:false=(decide (1<=q')&&decide (b6 p q'=1)):=by
     rw[decide_eq_false c,Bool.false_and]
    rw[e2];exact q
   exact d
theorem Gf {dV:Value} (F:bu K "plus" "plus" F4 dV f fd) (DZ3:543 bC 2 "fraction" ["top","bottom"] [.int 1] qC):544 bC 3 f fd ["one","other"] (sR K):=by
 have sc:aC ["one","other"] ["one","other"] (au F4):=dI 48
 sleep 255
 sleep 150
 sleep 235
 sleep 262;exists _,(ar (aE (dW DZ3 hr ((aB cx 276 (aB aW 148 77))<*>(276<*>aj)))))
 try dsimp only[cxK]
 sleep 31
theorem Gg {dV:Value} (F:bu K "minus" "minus" F6 dV f fd) (DZ3:543 bC 2 "fraction" ["top","bottom"] [.int 1] qC):544 bC 3 f fd ["one","other"] (pe K):=by
 have sc:aC ["one","other"] ["one","other"] (au F6):=dI 48
 sleep 255
 sleep 150
 sleep 235
 sleep 262;exists _,(ar (aE (dW DZ3 hr ((aB oV 276 (aB aW 148 77))<*>(276<*>aj)))))
 try dsimp only[cxK]
 sleep 31
theorem Gh {dV:Value} (F:bu K "product" "product" F7 dV f fd) (DZ3:543 bC 2 "fraction" ["top","bottom"] [.int 1] qC):544 bC 3 f fd ["one","other"] (pf K):=by
 have sc:aC ["one","other"] ["one","other"] (au F7):=dI 48
 sleep 255
 sleep 150
 sleep 235
 sleep 262;exists _,(ar (aE (dW DZ3 hr (276<*>(276<*>aj)))))
 try dsimp only[cxK]
 exact (552 (rfl,rfl,h1.at_,rfl,aN _ _ _ _ (rfl,rfl,h2.at_,rfl,h1.bp.ok h2.bp,aN _ _ _ _ 205)))
theorem Gi {dV:Value} (F:bu K "quotient" "quotient" F8 dV f fd) (XZ3:543 138 2 "fraction" ["top","bottom"] [.int 1] (lW Iw)):544 138 3 f fd ["one","other"] (uO K Iw):=by
 have sc:aC ["one","other"] ["one","other"] (au F8):=dI 48
 sleep 2
 ·obtain ⟨_,_,_,_,_,_,rfl,_⟩:=h
  rfl
 sleep 150
 refine gp _hi λ_r1 h1 h2 _hj=>?_
 refine cL _hj λqq qe=>?_
 sleep 47;exists _,(ar (aE (fQ XZ3 hr 13 rfl cG (276<*>(276<*>aj)))))
 try dsimp only[cxK]
 have q0:=h1.pos;exact (552 (rfl,rfl,h1.at_,rfl,aN _ _ _ _ (rfl,rfl,h2.at_,rfl,h1.bp.ok h2.bq,aN _ _ _ _ (rfl,rfl,h1.at_,rfl,aN _ _ _ _ (rfl,rfl,h2.at_,rfl,h1.bq.ok h2.bp,aR _ _ (rfl,(h1.bq.mul h2.bp).mono 13,λn=>qq (λz=>n (by rw[z,Int.mul_zero])),λz=>qe ((Int.mul_eq_zero.mp z).resolve_left 42)))))))
theorem Gj {dV:Value} (F:bu K "is_less" "is_less" F9 dV f fd):544 bC 1 f fd ["one","other"] (xw K):=by
 have sc:aC ["one","other"] ["one","other"] (au F9):=dI 48
 sleep 255
 sleep 150
 sleep 235
 sleep 262;exists _,(ar (aE (eK jp 276 (aB aW 148 77) 162)))
 try dsimp only[cxK]
 exact (552 (rfl,rfl,h1.at_,rfl,aN _ _ _ _ (rfl,rfl,h2.at_,rfl,h1.bp.ok h2.bq,aN _ _ _ _ (rfl,rfl,h2.at_,rfl,aN _ _ _ _ (rfl,rfl,h1.at_,rfl,h2.bp.ok h1.bq,qq)))))
theorem D8 {dV:Value} (F:bu K "round_up" "round_up" Cb dV f fd):544 bC 1 f fd ["one"] (Ds K):=by
 have sc:aC ["one"] ["one"] (au Cb):=dI 48
 sleep 255
 obtain ⟨t,p,q,rfl,h1,qq⟩:=h;exists _,(ar (aE (gX fi (aB bA (gX fi 77) 77))))
 try dsimp only[cxK]
 have q0:q≠0:=by have:=h1.pos;lia
 exact (552 (rfl,rfl,h1.at_,rfl,ν,aN _ _ _ _ (rfl,rfl,h1.at_,rfl,(q0,h1.bq.div q0),ν,qq)))
theorem D9 {dV:Value} (F:bu K "packs_for" "packs_for" Ar dV f fd) (DZ3:543 bC 2 "fraction" ["top","bottom"] [.int 1] qC) (DZ5:543 bC 3 "plus" ["one","other"] [] (sR K)) (DZ6:543 bC 3 "minus" ["one","other"] [] (pe K)) (DZ7:543 bC 3 "product" ["one","other"] [] (pf K)) (DZ8:543 bC 3 "quotient" ["one","other"] [] (sS K)) (DZ10:543 bC 1 "round_up" ["one"] [] (Ds K)):544 138 4 f fd ["need","size","have"] (km K Iw):=by
 have sc:aC ["need","size","have","there","missing","count","bought"] ["need","size","have"] (au Ar):=dI 48
 sleep 2
 ·sleep 270
  rfl
 refine ix h λt1 t2 hv p q p2 q2 a0 b0 _hi=>?_
 refine fJ _hi λ_r1 h1 h2 h3 qq qe=>?_
 sleep 262;exists _,(ae (bv (aD wW 148 af 162) 304 aO) (ae (551 (qg (aD jT 114 cQ 162) (pA DZ3 hr 13 rfl 316) 114)) (ae (554 (dW DZ6 hr (95<*>327))) (ae (cf 5 sc (aL (vE rfl) rfl B.Ko boot_max (af<*>((dW DZ10 hr ((dW DZ8 hr (161<*>210))<*>aj))<*>aj)))) (ae (cf 6 sc (dW DZ7 hr ((pA DZ3 hr 13 rfl 512)<*>210))) (ar (aE (@cE _ _ _ _ _ (198<*>((dW DZ6 hr ((dW DZ5 hr (119<*>(415<*>aj)))<*>349))<*>aj))))))))))
 try dsimp only[cxK]
 refine Gs ?_;intro D' r5 r4 r3 r2 r1;refine (552 (rfl,rfl,h2.at_,rfl,d2 (λz=>(by show 1<=sizeLine;decide,qe z)) (λz=>?_)))
 have z2:0<p2:=by lia
 have qq:=qq z2;try dsimp only[aU,bc]
 refine cut (λσ H'=>∃t3,σ= [KJ t1,KJ t2,some hv,KJ t3,none,none,none]/\ax H H'/\b7 K 150 H' t3 a0 b0) 91 ?_
 ·rcases h3 with ⟨rfl,rfl,rfl⟩|⟨t3,rfl,h3⟩
  ·refine (rfl,mB.i (dT rfl ?_));refine (aR 0 1 (rfl,by decide,Bd.one.mono 13,λp' q' f t H' g e=>hN _ _ (t,rfl,g,?_)))
   obtain ⟨rfl,rfl⟩:=uY f;exact (bU.of e,by decide,Bd.zero.mono 13,Bd.one.mono 13)
  ·exact (rfl,mB.i (dF 123 (hN _ _ (t3,rfl,.refl H,h3))))
 rintro σ H1 ⟨t3,rfl,g1,F3⟩;have F1:=h1.same g1;have F2:=h2.same g1;refine (fV t1 t3 p q a0 b0 (rfl,F1.mono 13,F3.mono 13,λm1 m2 f1 tm H2 g2 e2=>?_))
 have Fm:b7 K 1551 H2 tm m1 m2:= .of f1 ((F1.bp.mul F3.bq).sub (F3.bp.mul F1.bq)) ((F1.bq.mul F3.bq).mono 13) e2
 have F1:=F1.same g2;have F2:=F2.same g2;have F3:=F3.same g2;refine (fV tm t2 m1 m2 p2 q2 (rfl,Fm.mono 13,F2.mono 13,by lia,λr s f2 tq H3 g3 e3=>?_))
 have Fq:b7 K 1701 H3 tq r s:= .of f2 ((Fm.bp.mul F2.bq).mono 13) ((Fm.bq.mul F2.bp).mono 13) e3
 have F1:=F1.same g3;have F2:=F2.same g3;have F3:=F3.same g3;refine (cU tq r s (rfl,Fq.mono 13,aR _ _ (rfl,?_)))
 have cb:Bd 1701 (if-332>0 then-332 else 0):=by
  split
  ·exact (uF Fq.bp.neg).neg
  ·exact Bd.zero.mono 13
 refine (aR _ 1 (rfl,by decide,Bd.one.mono 13,λn1 d1 f3 tf H4 g4 e4=>?_))
 obtain ⟨rfl,rfl⟩:=ri f3;have Ff:b7 K 1701 H4 tf _ 1:=(bU.of e4,by decide,cb,Bd.one.mono 13)
 have F1:=F1.same g4;have F2:=F2.same g4;have F3:=F3.same g4;refine (fV tf t2 _ 1 p2 q2 (rfl,Ff.mono 13,F2.mono 13,λu v f4 tb H5 g5 e5=>?_))
 have Fb:b7 K 1851 H5 tb u v:= .of f4 (Ff.bp.mul F2.bp) (Ff.bq.mul F2.bq) e5;have F1:=F1.same g5;have F3:=F3.same g5;refine (fV t3 tb a0 b0 u v (rfl,F3.mono 13,Fb.mono 13,λg h f5 tg H6 g6 e6=>?_))
 have Fg:b7 K 2002 H6 tg g h:= .of f5 ((F3.bp.mul Fb.bq).add ((Fb.bp.mul F3.bq).mono 13)) ((F3.bq.mul Fb.bq).mono 13) e6
 have F1:=F1.same g6;refine (fV tg t1 g h p q (rfl,Fg.mono 13,F1.mono 13,λl m f6 tl H7 g7 e7=>?_))
 have Fl:b7 K 3403 H7 tl l m:= .of f6 ((Fg.bp.mul F1.bq).sub ((F1.bp.mul Fg.bq).mono 13)) ((Fg.bq.mul F1.bq).mono 13) e7
 refine (by show 2<=sizeLine;decide,λtt ht=>?_)
 have ok:=zD h1.pos z2 F3.pos f1.same Fm.pos f2.same Fq.pos Fb.pos Fg.pos f4.same f5.same f6.same f6.to (Fq.bp.mono 13) (Fl.bp.mono 13) (Fl.bq.mono 13)
 refine qq _ l m ok tl tt _ ((((((g1.trans g2).trans g3).trans g4).trans g5).trans g6).trans (g7.trans (ag ht _))) ?_ ac;rw[ak (bj e7 ht)];exact e7
theorem Ea {dV:Value} (F:bu K "packs_of_need" "packs_of_need" Cc dV f fd) (DZ6:543 bC 3 "minus" ["one","other"] [] (pe K)) (DZ9:543 bC 1 "is_less" ["one","other"] [] (xw K)) (DZ11:543 bC 4 "packs_for" ["need","size","have"] [.non] (mP K)) (I_NoPack:Bw P w K mg base 1 Ix ["self","good"] (fR Ix "good")):544 138 5 f fd ["need","sizes","have"] jf:=by
 have sc:aC ["need","sizes","have"] ["need","sizes","have"] (au Cc):=dI 48
 sleep 2
 ·obtain ⟨_,_,_,_,_,_,rfl,_⟩:=h
  rfl
 refine kT h λn ds th ks gs gh _hi=>?_
 refine fJ _hi λ_r1 nd D sz am _hj=>?_
 refine gW _hj λeth lk qn=>?_
 sleep 47;exists _,(ae (bv (dD (cW (dW DZ9 hr (114<*>(77<*>aj))))) (ar (aE (@cE _ _ _ _ _ (af<*>((dW DZ6 hr (114<*>(77<*>aj)))<*>aj))))) aO) (ae (bv (eG (du 187 77 89) 74) (ar (pD I_NoPack hr 13 rfl B.JY rfl cG (77<*>aj))) aO) (ar (aE (dW DZ11 hr (77<*>((eQ 187 89 77 22)<*>372)))))))
 try dsimp only[cxK]
 sleep 45;have lF:decide ((aV gh n.s).1*n.q<n.p*(aV gh n.s).2)=iu gh n:=rfl;have lN:yj gs gh n=((gs n.s).isNone&&iu gh n):=rfl;have F0:b7 K 150 H th (aV gh n.s).1 (aV gh n.s).2:=am.fr eth;have F1:b7 K 1400 H n.a n.p n.q:=nd.fr;refine (aN n.t _ _ _ (rfl,rfl,bU.of nd.e,rfl,fV th n.a 469 468 n.p n.q (rfl,F0.mono 13,F1.mono 13,mB.i ?_)))
 rw[lF];cases hl:iu gh n with
 |false=>
  rw[hl,Bool.and_false] at lN;refine gG (aN n.t _ _ _ (rfl,rfl,bU.of nd.e,rfl,fV th n.a 469 468 n.p n.q (rfl,F0.mono 13,F1.mono 13,λr s f tl H1 g1 e1=>(by show 2<=sizeLine;decide,λt nt=>?_))))
  have g2:=ag nt (.tup [.int 0,.ref tl]);have b1:Bd 1551 ((aV gh n.s).1*n.q-n.p*(aV gh n.s).2):=((F0.bp.mul F1.bq).sub ((F1.bp.mul F0.bq).mono 13)).mono 13
  have b2:Bd 1550 ((aV gh n.s).2*n.q):=F0.bq.mul F1.bq;exact qn t tl 0 r s _ 381 ac (g2 _ _ e1) (f.to,(b1.of_le f.bt).mono 13,(b2.of_le f.bb).mono 13,λ_=>(rfl,f.same),λz=>by rw[hl] at z;cases z)
 |true=>
  rw[hl,Bool.and_true] at lN;refine dP (aN n.t _ _ _ (rfl,rfl,bU.of nd.e,rfl,aR ds _ (rfl,cq.k (k:= .inr n.s) D.e,mB.i ?_)));cases hg:gs n.s with
  |none=>
   rw[hg] at lN;rw[D.no _ hg];rw[lk] at lN;cases lN
  |some pq=>
   obtain ⟨p2,q2⟩:=pq;rw[hg] at lN;obtain ⟨ok2,t2,hv,et2⟩:=D.yes _ _ _ hg;rw[hv];have F2:b7 K 150 H t2 p2 q2:=ok2.fr et2;refine dP (aN n.t _ _ _ (rfl,rfl,bU.of nd.e,rfl,aN n.t _ _ _ (rfl,rfl,bU.of nd.e,rfl,aR ds (.ref t2) (rfl,(by rw[<-hv];exact cq.k (k:= .inr n.s) D.e),jR n.a t2 (.ref th) n.p n.q p2 q2 469 468 (rfl,F1.mono 13,F2.mono 13,.inr (th,rfl,F0.mono 13),sz _ _ _ hg,λk l m ok tl tt H' g etl ett=>?_)))))
   exact qn tt tl k l m H' g ett etl (ok.low,ok.bl,ok.bm,(λz=>by rw[hl] at z;cases z),λ_=>(aR p2 q2 (hg,ok)))
theorem Eb {dV:Value} (F:bu K "bought_of" "bought_of" As dV f fd) (XZ3:543 138 2 "fraction" ["top","bottom"] [.int 1] (lW Iw)) (XZ12:543 138 5 "packs_of_need" ["need","sizes","have"] [] jf):544 138 6 f fd ["needed","sizes","shelf"] gP:=by
 have sc:aC ["needed","sizes","shelf","there","bought","need","have","packs"] ["needed","sizes","shelf"] (au As):=dI 48
 sleep 2
 ·obtain ⟨_,_,_,_,_,_,_,_,rfl,_⟩:=h
  rfl
 refine kT h λl ds dh0 nds ks kh0 _hi=>?_
 refine rX _hi λgs gh _hj=>?_
 refine fJ _hj λ_r1 ne D sz Dh0 _hk=>?_
 refine cL _hk λszs qn=>?_
 sleep 32;exists _,(ae (551 (qg (aD jT 114 cQ 162) b8 114)) (ae (554 136) (ae (cv 482 rfl (cp 95) 380 (ae (cf 6 sc (eC 187 119 253 492 252)) (ae (cf 7 sc (fQ XZ12 hr 13 rfl cG (198<*>(89<*>(415<*>aj))))) (ar (bG (546 161 ((@cE _ _ _ _ _ (253<*>(437<*>(437<*>aj))))<*>aj))))))) (ar (aE 161)))))
 try dsimp only[cxK]
 sleep 35;have sl:sizeLine=16777216:=sizeLine_eq;try dsimp only[aU,bc]
 refine cut (λσ H'=>∃(dh:Addr) (kh:List 103),σ= [KJ l,KJ ds,KJ dh0,KJ dh,none,none,none,none]/\ax H H'/\DA H' dh kh gh) 91 ?_
 ·exact (rfl,mB.i (dF nofun (hN _ _ (aR dh0 kh0 (rfl,.refl _,Dh0)))))
 rintro σ H1 ⟨dh,kh,rfl,g1,Dh⟩;refine (by show 0<=sizeLine;decide,λlb nlb=>?_)
 have g2:=ag nlb 130;have k2:=g1.trans g2;refine ⟨l,rfl,⟨_,aQ.of (k2 _ _ ne.e)⟩,cX (xs:=nds.map λn=>V.ref n.t) (λk σ H'=>∃(o5 o6 o7:Option V) (ts:KB),σ= [KJ l,KJ ds,KJ dh0,KJ dh,KJ lb,o5,o6,o7]/\ax H1 H'/\H' lb=some 146/\kR (yP H' gs gh) ts (nds.take k)) (aN none none none [] ⟨rfl,g2,ac,kR.nil⟩) (λk σ H' _ h=>by obtain ⟨_,_,_,_,_,g,_⟩:=h;exact aQ.of (g _ _ (g1 _ _ ne.e))) ?_ ?_⟩
 ·intro k y σ H3 hy h_;refine dY h_ λo5 o6 o7 ts _hi=>?_
  refine gp _hi λ_r1 g3 eb rt=>?_
  clear h_ _hi;subst _r1;rw[GJ] at hy;obtain ⟨n,hn,rfl⟩:=HB.mp hy;have k3:=g1.trans g3;have nd:=(ne.each n (G5 hn)).same k3;have Dh3:=Dh.same g3;refine (dh,rfl,.inl (_,.inl Dh3.e),aN n.t _ _ _ (rfl,rfl,bU.of nd.e,rfl,aR 0 1 (rfl,Bd.one.mono 13,λ_ p' q' f tz H4 g4 e4=>?_,λz=>absurd z 13)))
  obtain ⟨rfl,rfl⟩:=uY f;obtain ⟨th,hv',eth,am⟩:=(Dh3.same g4).have n.s e4;exists _,cq.k (k:= .inr n.s) (g4 _ _ Dh3.e);rw[hv'];have k4:=k3.trans g4;have lts:ts.length<=12:=by rw[rt.1,GX];have:=ne.few;lia
  refine (fV n ds th ks gs gh ⟨rfl,nd.same g4,D.same k4,sz,am,eth,(by have:=szs n (G5 hn);unfold yj;cases hg:gs n.s with|none=>exact absurd hg this|some w=>rfl),λt tl c lf m H5 g5 et etl ok=>?_⟩)
  have k5:=g4.trans g5;refine (.inl (rfl,_,aQ.of (k5 _ _ eb)),aN n.t _ _ _ (rfl,rfl,bU.of (g5 _ _ (g4 _ _ nd.e)),rfl,aN t _ _ _ (rfl,rfl,bU.of et,rfl,aN t _ _ _ (rfl,rfl,bU.of et,rfl,by show 3<=sizeLine;decide,λtr ntr=>?_))))
  have g6:=ag ntr 175;have k6:=k5.trans g6;refine (cU lb _ _ (rfl,rfl,k6 _ _ eb,by rw[G2];lia,aN _ _ _ (ts++ [tr]) (rfl,dA (g3.trans k6) nlb _,by rw[ac,GW];rfl,?_)))
  ·have tu:∀a xs,ay (ay H5 tr 175) a xs=ay (ay H5 tr 175) a xs:=λ_ _=>rfl
   have kp:∀a xs,ay H5 tr 175 a=some 282->ay (ay H5 tr 175) lb (.lst (ts.map V.ref++ [.ref tr])) a=some (.tup xs):=λa xs e=>by
    rw[ak (λz=>by rw[z,k6 _ _ eb] at e;cases e)]
    exact e
   rw[take_snoc hn];exact (rt.imp λa x q=>(q.same k6).tups kp).snoc (((tl,c,lf,m,ac,g6 _ _ etl,ok):yP (ay H5 tr 175) gs gh tr n).tups kp)
 ·intro σ H3 h_;refine dY h_ λo5 o6 o7 ts _hi=>?_
  refine gp _hi λ_r1 g3 eb rt=>?_
  clear h_ _hi;subst _r1;rw[G2,List.take_length] at rt;exact (qn lb _ (g1.trans g3) (g1.free nlb) (ts,eb,rt))
theorem Ec {dV:Value} (F:bu K "factor_of" "factor_of" Cd dV f fd) (DZ3:543 bC 2 "fraction" ["top","bottom"] [.int 1] qC):544 bC 3 f fd ["recipe","plates"] (rJ GT):=by
 have sc:aC ["recipe","plates"] ["recipe","plates"] (au Cd):=dI 48
 sleep 255
 refine dY h λr n pl ks _hi=>?_
 refine gp _hi λ_r1 rc p1 _hj=>?_
 refine cL _hj λp2 q=>?_
 sleep 47;obtain ⟨dr,lt,fs,er,ft,fp,tk⟩:=rc.ex;exists _,(ar (aE (dW DZ3 hr (89<*>(225<*>aj)))));try dsimp only[cxK]
 exact (aN r _ dr _ (_,(rfl,er,B.IO,B.Jg,fp,aR _ _ (rfl,by lia,Bd.mono (m:=10) (by unfold Bd;show _<1024;lia) 13,q))))
theorem Ed {dV:Value} (F:bu K "is_name" "is_name" At dV f fd):544 bC 1 f fd ["thing"] (l7 K):=by
 have sc:aC ["thing","sign"] ["thing"] (au At):=dI 48
 sleep 255
 obtain ⟨x,rfl,h⟩:=h;exists _,(ae 113 (ae (550 (BA 95) (iT 1 sc) 524) 170))
 try dsimp only[cxK]
 sleep 45;rcases h with ⟨z,rfl,hz,q1,q0⟩|⟨ty,hty,hk,q⟩
 ·have hz':z.length<=sizeLine:=HN hz 13
  have hl:=lY z;try dsimp only[aU,bc]
  refine gQ (λNq=>1<=z.length->z.length<=12->Nq [some 216,none] H) 91 ?_
  ·sleep 172
   ·exact q0 λn=>by have:=n.1;lia
   ·exact q0 λn=>by have:=n.2.1;lia
   ·exact hN 42 42
  intro l1 l2;refine (z,rfl,zw (λi σ H2=>H=H2/\(∃o,σ= [some 216,o])/\∀j c,j<i->z.cps[j]?=some c->97<=c/\c<=122) (rfl,⟨ν⟩,λj c h=>absurd h 42) (λi c σ H2 hc hP=>?_) (λσ H2 hP=>?_))
  ·obtain ⟨rfl,⟨o,rfl⟩,hP⟩:=hP;refine (aR _ _ (rfl,rfl,E5 (λe=>?_) (λe=>?_)))
   ·have e':=(pG c).symm.trans e;refine q0 λn=>?_
    have:=n.2.2 c 472
    rw[decide_eq_true this] at e';cases e'
   ·have e':=(pG c).symm.trans e;refine (rfl,⟨ν⟩,λj c' hj hc'=>?_)
    rcases HR.mp hj with k|k
    ·exact hP j c' k hc'
    ·subst k;rw[hc] at hc';cases hc';exact of_decide_eq_true e'
  ·obtain ⟨rfl,⟨o,rfl⟩,hP⟩:=hP;refine q1 (by lia,by lia,λc hc=>?_)
   obtain ⟨i,hi⟩:=GP.mp hc;have hi':z.cps[i]?=some c:=by rw[<-hi];exact HX.symm
   exact hP i c (by have:=(Array.getElem?_eq_some_iff.mp hi').1;exact this) hi'
 ·exact (aN _ _ _ false (rfl,hty,hk,q))
theorem Ee {dV:Value} {hd:KH} (F:bu K "is_name" "is_name" Ce dV f fd):rZ hd P w K mg base 1 f fd ["thing"] (pV hd):=by
 have sc:aC ["thing","sign"] ["thing"] (au Ce):=dI 48
 sleep 11
 ·obtain ⟨_,rfl,_⟩:=h
  rfl
 obtain ⟨z,rfl,nz,hok,q1⟩:=h;have hz:=xS nz;exists _,(ae 113 (ae (iI 93 hr.hd (zT 95) (iT 1 sc) 524) 170))
 try dsimp only[cxK]
 sleep 45;have hz':z.length<=sizeLine:=HN hz 13
 have hl:=lY z;try dsimp only[aU,bc]
 refine cut (λσ H'=>H=H'/\σ= [some 216,none]) 91 ?_
 ·sleep 172
  ·have:=nz.1;lia
  ·have:=nz.2.1;lia
  ·exact hN _ _ 239
 sleep 141;refine (z,rfl,yn (λi σ H2=>H=H2/\∃o,σ= [some 216,o]) (rfl,⟨ν⟩) (λi σ H2 _ hP=>hP.1▸hok) (λi c σ H2 hc hP=>?_) (λσ H2 hP=>?_))
 ·obtain ⟨rfl,⟨o,rfl⟩⟩:=hP;refine (aR _ _ (rfl,rfl,E5 (λe=>?_) (λe=>(rfl,⟨ν⟩))))
  have e':=(pG c).symm.trans e;have:=nz.2.2 c 472
  rw[decide_eq_true this] at e';cases e'
 ·obtain ⟨rfl,_⟩:=hP;exact q1
theorem Ef {dV:Value} (F:bu K "names_ahead" "names_ahead" Au dV f fd):544 bC 1 f fd ["parts","good"] gL:=by
 have sc:aC ["parts","good","ahead","waiting","name","part"] ["parts","good"] (au Au):=dI 48
 sleep 255
 refine dY h λd good rows ps _hi=>?_
 refine gp _hi λ_r1 dd ok _hj=>?_
 refine cL _hj λfew q=>?_
 sleep 47;obtain ⟨rs,dr,ed,ndr,dnr⟩:=dd.ex;exists _,(ae (555 (k8 (jy 89 cQ k7) rfl rfl 73 13)) (ae (551 140) (ae (eu 93 (aD jq 432 af 162) (ae 355 (ar (pI (550 (uR (eC 187 95 161 b8 252)) 380 (ar (bv (eG (du 187 198 114) 74) (ae (cH 187 114 198 161 rfl) (ar (bG (546 119 512)))) aO))))))) 326)))
 try dsimp only[cxK]
 sleep 35;have slt:(6000:Nat)<sizeLine:=by decide
 sleep 272
 have ga:ax H (ay (556 ah 83) ah 232):=by
  rw[kU];exact ag na _
 sleep 44
 sleep 108;have aw:ah≠wt:=λz=>by rw[z,nw] at ea;cases ea
 try dsimp only[aU,bc]
 refine eA 106
  (λ(σ:L2.St) (H':Hp)=>match H' ah,H' wt with|some (.dK kvs),some (.lst xs)=>2*(1002-kvs.length)+xs.length|_,_=>0)
  ⟨g0,aN [405] [good] none none 179⟩ ?_
  (λσ H Q Q' m h9=>by obtain ⟨v,e,a,ys,e1,e2,h9⟩:=mV.e h9;exact mV.o e (aR a ys ⟨e1,e2,m _ _ h9⟩))
 sleep 128
 refine dY _hi λes ws o4 o5 _hj=>?_
 refine fJ _hj λ_r1 e1 w1 ab wsub _hk=>?_
 refine cL _hk λcl mes=>?_
 sleep 101;refine (aR wt _ (rfl,.inl (aQ.of w1),d2 220 220))
 ·rcases List.eq_nil_or_concat ws with rfl|⟨ws0,nm,rfl⟩
  ·simp at c
  sleep 278
  have wl:(ws0++ [nm]).length=ws0.length+1:=by simp
  sleep 265
  have w2:((ws0++ [nm]).map V.str).dropLast=ws0.map V.str:=by simp
  sleep 125
  sleep 49
  sleep 140;have hb_:∃(r:Addr) (ys:KA),(aT 230 (.inr nm)).getD 352= .ref r/\(ay H2 pn 83) r=some 152/\(H r=none∨H r=some 152)/\ys.length<=1000/\(∀b,b∈ys↔(nm,b)∈ps)/\r≠ah/\r≠wt:=by
   rcases xY (x:=nm) dr ndr ok with ⟨hv,no⟩|⟨r,ys,hv,_,hH,hl,_,hm⟩
   ·sleep 96
   ·sleep 143
  refine rX hb_ λrw_ ys _hi=>?_
  refine fJ _hi λhx hr hH ysl ym _hj=>?_
  refine cL _hj λra rw1=>?_
  sleep 198
  sleep 208
  sleep 200
  refine xV (kvs:=bg ys 71) (λi σ H4=>ax (556 rw_ (.frz o 152)) H4/\∃(es':List 90) (ws':KA) (o5:Option V),σ= [KJ d,some 261,KJ ah,KJ wt,some (.str nm),o5]/\H4 ah=some (.dK (aP es'))/\H4 wt=some (.lst (ws'.map V.str))/\dS ps good es'/\nm∈aH es'/\(∀y∈ws',y∈aH es')/\(∀y∈aH es',y≠nm->y∉ws'->∀b,(y,b)∈ps->b∈aH es')/\(∀(j:Nat) (b:Str),j<i->ys[j]?=some b->b∈aH es')/\2*(1002-(aH es').length)+ws'.length<=2*(1002-(aH es).length)+ws0.length)
   ⟨qW g3 _ _,cU es ws0 o5 157⟩
   (λi σ H4 _ h=>h.1 _ _ ac) ?_ ?_
  ·intro i k x σ H4 hk h_;sleep 164
   sleep 217
   sleep 114
   sleep 34;sleep 84
   ·sleep 203
    sleep 148
    sleep 113
    sleep 70
    ·rw[nk];rcases GU.mp hy with k|k
     ·simp[wsub' y k]
     ·simp at k;simp[k]
    ·rw[nk] at hy⊢;simp at hw;rcases GU.mp hy with k|k
     ·simp[cl' y k hn hw.1 c hc]
     ·simp at k;exact absurd k hw.2
    ·rw[nk];rcases HR.mp hj with k|rfl
     ·simp[pr' j c k hc]
     ·rw[hb] at hc;cases hc;simp
    ·rw[nk];simp only[G8,HS,IS]
     lia
   ·sleep 177
    rcases HR.mp hj with k|rfl
    ·exact pr' j c k hc
    ·rw[hb] at hc;cases hc;exact ib
  ·intro σ H4 h_;sleep 164
   sleep 217
   sleep 114
   sleep 34;sleep 161
   sleep 174
   sleep 99
   ·by_cases z:b'=rw_
    ·subst z;rcases hH with k|k
     ·rw[k] at hb';cases hb'
     ·rw[k] at hb';cases hb';exact ac
    ·rw[ak z];exact g4 _ _ (by rw[ak z];exact hb')
   ·by_cases z:y=nm
    ·sleep 242
    ·exact cl' y hy z hw b hb
   ·sleep 105
    lia
 ·have wz:ws= []:=by
   rw[G2] at c;exact II 42
  sleep 129
theorem Eg {dV:Value} {hd:KH} (F:bu K "names_ahead" "names_ahead" Cf dV f fd):rZ hd P w K mg base 1 f fd ["parts","good"] (nj hd gL):=by
 have sc:aC ["parts","good","ahead","waiting","name","part"] ["parts","good"] (au Cf):=dI 48
 sleep 11
 ·obtain ⟨_,_,_,_,_,rfl,_⟩:=h
  rfl
 sleep 165
 refine dY _hi λd good rows ps _hj=>?_
 refine gp _hj λ_r1 dd ok _hk=>?_
 refine cL _hk λfew q=>?_
 sleep 32;obtain ⟨rs,dr,ed,ndr,dnr⟩:=dd.ex;exists _,(ae (555 (k8 (jy 89 cQ k7) rfl rfl 73 13)) (ae (551 140) (ae (eu 93 (aD jq 432 af 162) (ae 355 (ar (pI (iI 93 hr.hd (mT (eC (iw hr) 95 161 b8 252)) 380 (ar (bv (eG (du (iw hr) 198 114) 74) (ae (cH (iw hr) 114 198 161 rfl) (ar (bG (546 119 512)))) aO))))))) 326)))
 try dsimp only[cxK]
 sleep 35;have slt:(6000:Nat)<sizeLine:=by decide
 sleep 272
 have ga:ax H (ay (556 ah 83) ah 232):=by
  rw[kU];exact ag na _
 sleep 44
 sleep 108;have aw:ah≠wt:=λz=>by rw[z,nw] at ea;cases ea
 try dsimp only[aU,bc]
 refine eA 106
  (λ(σ:L2.St) (H':Hp)=>match H' ah,H' wt with|some (.dK kvs),some (.lst xs)=>2*(1002-kvs.length)+xs.length|_,_=>0)
  ⟨g0,aN [405] [good] none none 179⟩ ?_
  (λσ H Q Q' m h9=>by obtain ⟨v,e,a,ys,e1,e2,h9⟩:=mV.e h9;exact mV.o e (aR a ys ⟨e1,e2,m _ _ h9⟩))
 sleep 128
 refine dY _hi λes ws o4 o5 _hj=>?_
 refine fJ _hj λ_r1 e1 w1 ab wsub _hk=>?_
 refine cL _hk λcl mes=>?_
 sleep 101;refine (aR wt _ (rfl,.inl (aQ.of w1),d2 220 220))
 ·rcases List.eq_nil_or_concat ws with rfl|⟨ws0,nm,rfl⟩
  ·simp at c
  sleep 278
  have wl:(ws0++ [nm]).length=ws0.length+1:=by simp
  sleep 265
  have w2:((ws0++ [nm]).map V.str).dropLast=ws0.map V.str:=by simp
  sleep 125
  sleep 49
  sleep 140;have hb_:∃(r:Addr) (ys:KA),(aT 230 (.inr nm)).getD 352= .ref r/\(ay H2 pn 83) r=some 152/\(H r=none∨H r=some 152)/\ys.length<=1000/\(∀b,b∈ys↔(nm,b)∈ps)/\r≠ah/\r≠wt:=by
   rcases xY (x:=nm) dr ndr ok with ⟨hv,no⟩|⟨r,ys,hv,_,hH,hl,_,hm⟩
   ·sleep 96
   ·sleep 143
  refine rX hb_ λrw_ ys _hi=>?_
  refine fJ _hi λhx hr hH ysl ym _hj=>?_
  refine cL _hj λra rw1=>?_
  sleep 198
  sleep 208
  sleep 200
  refine wE (kvs:=bg ys 71) (λi σ H4=>ax (556 rw_ (.frz o 152)) H4/\∃(es':List 90) (ws':KA) (o5:Option V),σ= [KJ d,some 261,KJ ah,KJ wt,some (.str nm),o5]/\H4 ah=some (.dK (aP es'))/\H4 wt=some (.lst (ws'.map V.str))/\dS ps good es'/\nm∈aH es'/\(∀y∈ws',y∈aH es')/\(∀y∈aH es',y≠nm->y∉ws'->∀b,(y,b)∈ps->b∈aH es')/\(∀(j:Nat) (b:Str),j<i->ys[j]?=some b->b∈aH es')/\2*(1002-(aH es').length)+ws'.length<=2*(1002-(aH es).length)+ws0.length)
   ⟨qW g3 _ _,cU es ws0 o5 157⟩
   (λi σ H4 _ h=>⟨h.1 _ _ ac,cJ (vq hok (λm cls dx w=>by rcases hH with k|k<;>rw[k] at w<;>unfold cR at w<;>cases w)) h.1⟩) ?_ ?_
  ·intro i k x σ H4 hk h_;sleep 164
   sleep 217
   sleep 114
   sleep 34;sleep 84
   ·sleep 203
    sleep 148
    sleep 113
    sleep 70
    ·rw[nk];rcases GU.mp hy with k|k
     ·simp[wsub' y k]
     ·simp at k;simp[k]
    ·rw[nk] at hy⊢;simp at hw;rcases GU.mp hy with k|k
     ·simp[cl' y k hn hw.1 c hc]
     ·simp at k;exact absurd k hw.2
    ·rw[nk];rcases HR.mp hj with k|rfl
     ·simp[pr' j c k hc]
     ·rw[hb] at hc;cases hc;simp
    ·rw[nk];simp only[G8,HS,IS]
     lia
   ·sleep 177
    rcases HR.mp hj with k|rfl
    ·exact pr' j c k hc
    ·rw[hb] at hc;cases hc;exact ib
  ·intro σ H4 h_;sleep 164
   sleep 217
   sleep 114
   sleep 34;sleep 161
   sleep 174
   sleep 99
   ·by_cases z:b'=rw_
    ·subst z;rcases hH with k|k
     ·rw[k] at hb';cases hb'
     ·rw[k] at hb';cases hb';exact ac
    ·rw[ak z];exact g4 _ _ (by rw[ak z];exact hb')
   ·by_cases z:y=nm
    ·sleep 242
    ·exact cl' y hy z hw b hb
   ·sleep 105
    lia
 ·have wz:ws= []:=by
   rw[G2] at c;exact II 42
  sleep 129
theorem Eh {dV:Value} (F:bu K "chain_to" "chain_to" Av dV f fd):544 bC 1 f fd ["ahead","goal"] oH:=by
 have sc:aC ["ahead","goal","chain","name"] ["ahead","goal"] (au Av):=dI 48
 sleep 255
 refine dY h λah goal good ps _hi=>?_
 refine jS _hi λes _hj=>?_
 refine gp _hj λ_r1 ea ab _hk=>?_
 refine cL _hk λhg q=>?_
 sleep 32;exists _,(ae (555 136) (ae (551 89) (ae (eu 93 (aD kW 119 cQ 162) (ae (bG (546 114 327)) (ar (551 (eQ 187 95 119 22))))) (ar (aE (tD rfl rfl B.Jm rfl B.JJ boot_list PyProof.Rows.Boot.«reversed» 114))))))
 try dsimp only[cxK]
 sleep 35;sleep 6
 have kl:(aH es).length=es.length:=by simp[aH]
 have rm:=ab.room;refine ((by show 0<=sizeLine;lia),λlc nl=>?_)
 have g0:=ag nl 130;try dsimp only[aU,bc]
 refine eA 172
  (λ(σ:L2.St) (H':Hp)=>n9 es σ[3]?)
  ⟨g0,aR [] (some goal) ⟨rfl,ac,.start hg⟩⟩ ?_
  (λσ H Q Q' m h9=>by obtain ⟨v,e,e2,h9⟩:=mV.e h9;exact mV.o e ⟨e2,m _ _ h9⟩)
 rintro σ H1 ⟨g1,rc,o,rfl,e1,bk⟩;refine (rfl,mB.i ?_);cases o with
 |none=>
  refine dP (aR lc _ 229)
 |some y=>
  obtain ⟨i,oy,hi,_,_,hl⟩:=bk.nxt y rfl;have al:ah≠lc:=λz=>by rw[z,nl] at ea;cases ea
  sleep 257
  sleep 86
theorem Ei {dV:Value} {hd:KH} (F:bu K "chain_to" "chain_to" Cg dV f fd):rZ hd P w K mg base 1 f fd ["ahead","goal"] (nj hd oH):=by
 have sc:aC ["ahead","goal","chain","name"] ["ahead","goal"] (au Cg):=dI 48
 sleep 11
 ·obtain ⟨_,_,_,_,_,_,rfl,_⟩:=h
  rfl
 sleep 165
 refine dY _hi λah goal good ps _hj=>?_
 refine jS _hj λes _hk=>?_
 refine gp _hk λ_r1 ea ab _hl=>?_
 refine cL _hl λhg q=>?_
 sleep 132;exists _,(ae (555 136) (ae (551 89) (ae (eu 93 (aD kW 119 cQ 162) (ae (bG (546 114 327)) (ar (551 (eQ (iw hr) 95 119 22))))) (ar (aE (rT (K:=K) rfl hr.hd rfl B.Jm rfl B.JJ boot_list PyProof.Rows.Boot.«reversed» 114))))))
 try dsimp only[cxK]
 sleep 35;sleep 6
 have kl:(aH es).length=es.length:=by simp[aH]
 have rm:=ab.room;refine ((by show 0<=sizeLine;lia),λlc nl=>?_)
 have g0:=ag nl 130;try dsimp only[aU,bc]
 refine eA 172
  (λ(σ:L2.St) (H':Hp)=>n9 es σ[3]?)
  ⟨g0,aR [] (some goal) ⟨rfl,ac,.start hg⟩⟩ ?_
  (λσ H Q Q' m h9=>by obtain ⟨v,e,e2,h9⟩:=mV.e h9;exact mV.o e ⟨e2,m _ _ h9⟩)
 rintro σ H1 ⟨g1,rc,o,rfl,e1,bk⟩;refine (rfl,mB.i ?_);cases o with
 |none=>
  refine dP (cJ hok g1,aR lc _ 229)
 |some y=>
  obtain ⟨i,oy,hi,_,_,hl⟩:=bk.nxt y rfl;have al:ah≠lc:=λz=>by rw[z,nl] at ea;cases ea
  sleep 257
  sleep 86
theorem Ej {dV:Value} (F:bu K "chain_down" "chain_down" Aw dV f fd) (DZ17:543 bC 1 "names_ahead" ["parts","good"] [] gL) (DZ19:543 bC 1 "chain_to" ["ahead","goal"] [] oH):544 bC 2 f fd ["parts","good","goals"] dG:=by
 have sc:aC ["parts","good","goals","ahead","found"] ["parts","good","goals"] (au Aw):=dI 48
 sleep 255
 refine kT h λd lg good rows ps gs _hi=>?_
 refine fJ _hi λ_r1 dd ok few hg _hj=>?_
 refine cL _hj λq1 q2=>?_
 sleep 47;exists _,(ae (551 (dW DZ17 hr (95<*>210))) (ae (pI (og sc.nd (i:=4) rfl rfl (own:= "name") (ys:= ["goals"]) (js:= [2]) rfl 102 (uR 119) 526 353)) (ae 335 (ar (aE (dW DZ19 hr (119<*>((av aS 161 af 22)<*>aj))))))))
 try dsimp only[cxK]
 sleep 35;sleep 6
 refine (aN d good rows ps (rfl,dd,ok,few,λah H1 es g1 e1 ao=>?_))
 have rm:=ao.base.room;have kl:=dm es;have l1:=g1 _ _ hg;have la:lg≠ah:=λz=>by rw[z,e1] at l1;cases l1
 refine (aR ah _ (rfl,e1,λo nf=>?_))
 refine qZ (E6 gs) ac 42 (λi k x hk H3 g3 R hR=>?_) (λp H' g' e'=>?_)
 ·have hk':=hk;unfold aP at hk';rw[GJ] at hk';cases he:es[i]? with
  |none=>rw[he] at hk';cases hk'
  |some e=>
   rw[he] at hk';cases hk';sleep 218
   show R (sG (.str e.1) 275) H3;rw[iE];exact hR
 ·have fa:=g' _ _ ac;have pa:p≠ah:=λz=>by rw[z,fa] at e';cases e'
  have g2:ax H (ay H' ah 330):=λb u hb=>by
   by_cases z:b=ah
   ·subst z;have:=(g1 _ _ hb).symm.trans e1;cases this;exact ac
   ·rw[ak z];exact g' _ _ (by rw[ak z];exact g1 _ _ hb)
  sleep 79
  sleep 69
  have hd:good∈gs->∃r,243=good::r:=λhin=>by
   have k0:=im ao.base.first;cases ek:aH es with
   |nil=>rw[ek] at k0;simp at k0
   |cons c r=>
    sleep 193
  generalize 243=fs at p2 mem hd
  refine (aR p _ (rfl,.inl (aQ.of p2),rfl,mB.i ?_));cases fs with
  |nil=>exact gG 323
  |cons c r=>
   sleep 135
   refine (aN p _ 0 (.str c) (rfl,rfl,aQ.of p2,(show iR ((c::r).map V.str) 331=some (.str c) from b9 rfl),aN ah c good ps 443))
   exact q2 l H3 cs c (g2.trans g3) (g2.free nl3) e3 wy hc.2 ((ao.all c).mp hc.1) λhin=>by
    obtain ⟨r',hr'⟩:=hd hin;cases hr'
    rfl
theorem Ek {dV:Value} {hd:KH} (F:bu K "chain_down" "chain_down" Ch dV f fd) (HZ18:∀hd,qJ hd P w K mg base 1 "names_ahead" ["parts","good"] (nj hd gL)) (HZ20:∀hd,qJ hd P w K mg base 1 "chain_to" ["ahead","goal"] (nj hd oH)):rZ hd P w K mg base 2 f fd ["parts","good","goals"] (nj hd dG):=by
 have sc:aC ["parts","good","goals","ahead","found"] ["parts","good","goals"] (au Ch):=dI 48
 sleep 11
 ·obtain ⟨_,_,_,_,_,_,_,rfl,_⟩:=h
  rfl
 sleep 165
 refine kT _hi λd lg good rows ps gs _hj=>?_
 refine fJ _hj λ_r1 dd ok few hg _hk=>?_
 refine cL _hk λq1 q2=>?_
 sleep 32;exists _,(ae (551 (ig (j:=1) (HZ18 hd) hr 13 rfl (95<*>210))) (ae (pI (uj sc.nd (i:=4) rfl rfl (own:= "name") (ys:= ["goals"]) (js:= [2]) hr.hd 102 (mT 119) 526 353)) (ae 335 (ar (aE (ig (j:=1) (HZ20 hd) hr 13 rfl (119<*>((av aS 161 af 22)<*>aj))))))))
 try dsimp only[cxK]
 sleep 35;sleep 6
 refine (hok,aN d good rows ps (rfl,dd,ok,few,λah H1 es g1 e1 ao=>?_))
 have rm:=ao.base.room;have kl:=dm es;have l1:=g1 _ _ hg;have la:lg≠ah:=λz=>by rw[z,e1] at l1;cases l1
 refine (aR ah _ (rfl,e1,λo nf=>?_))
 refine qa (E6 gs) ac 42 (vq (cJ hok g1) (λm cls dx w=>by rw[e1] at w;unfold cR at w;cases w)) (λi k x hk H3 g3 R hR=>?_) (λp H' g' e'=>?_)
 ·have hk':=hk;unfold aP at hk';rw[GJ] at hk';cases he:es[i]? with
  |none=>rw[he] at hk';cases hk'
  |some e=>
   rw[he] at hk';cases hk';sleep 218
   show R (sG (.str e.1) 275) H3;rw[iE];exact hR
 ·have fa:=g' _ _ ac;have pa:p≠ah:=λz=>by rw[z,fa] at e';cases e'
  have g2:ax H (ay H' ah 330):=λb u hb=>by
   by_cases z:b=ah
   ·subst z;have:=(g1 _ _ hb).symm.trans e1;cases this;exact ac
   ·rw[ak z];exact g' _ _ (by rw[ak z];exact g1 _ _ hb)
  sleep 79
  sleep 69
  have hd:good∈gs->∃r,243=good::r:=λhin=>by
   have k0:=im ao.base.first;cases ek:aH es with
   |nil=>rw[ek] at k0;simp at k0
   |cons c r=>
    sleep 193
  generalize 243=fs at p2 mem hd
  refine (aR p _ (rfl,.inl (aQ.of p2),rfl,mB.i ?_));cases fs with
  |nil=>exact gG 323
  |cons c r=>
   sleep 135
   refine (aN p _ 0 (.str c) (rfl,rfl,aQ.of p2,(show iR ((c::r).map V.str) 331=some (.str c) from b9 rfl),cJ hok g2,aN ah c good ps 443))
   exact q2 l H3 cs c (g2.trans g3) (g2.free nl3) e3 wy hc.2 ((ao.all c).mp hc.1) λhin=>by
    obtain ⟨r',hr'⟩:=hd hin;cases hr'
    rfl
theorem El {dV:Value} (F:bu K "all_inside" "all_inside" Ci dV f fd) (DZ17:543 bC 1 "names_ahead" ["parts","good"] [] gL):544 bC 2 f fd ["parts","good"] oA:=by
 have sc:aC ["parts","good"] ["parts","good"] (au Ci):=dI 48
 sleep 255
 refine dY h λd good rows ps _hi=>?_
 refine gp _hi λ_r1 dd ok _hj=>?_
 refine cL _hj λfew q=>?_
 sleep 47;exists _,(ar (aE (aL (ir rfl) rfl B.Jx PyProof.Rows.Boot.«sorted» ((dW DZ17 hr (95<*>210))<*>aj))));try dsimp only[cxK]
 refine (aN d good rows ps (rfl,dd,ok,by lia,λah H1 es g1 e1 ao=>?_))
 refine (cU ah (aH es) _ (rfl,e1,rg es,ao.base.nd,(by have:=uW ao.base.nd ao.all;lia),λp ys np pr sr=>q p _ ys (g1.trans (ag np _)) (g1.free np) ac sr (pr.nodup_iff.mpr ao.base.nd) λy=>(pr.mem_iff).trans (ao.all y)))
theorem Em {dV:Value} (F:bu K "ways_out" "ways_out" Cj dV f fd) (DZ3:543 bC 2 "fraction" ["top","bottom"] [.int 1] qC) (DZ7:543 bC 3 "product" ["one","other"] [] (pf K)):544 bC 4 f fd ["stands","good"] (AU K):=by
 have sc:aC ["stands","good","pairs","reached","place","chain","ratio","others","name"] ["stands","good"] (au Cj):=dI 48
 sleep 255
 refine kT h λd good b m vw g _hi=>?_
 refine rX _hi λU Rt _hj=>?_
 refine iY _hj λ_r1 hd hU lU m1 b1 bm rt0 _hk=>?_
 refine cL _hk λrts q=>?_
 sleep 32;exists _,(ae (555 (@bz _ _ _ _ ((@cE _ _ _ _ _ (140<*>((pA DZ3 hr 13 rfl 316)<*>aj)))<*>aj))) (ae (551 (k8 (jy 89 cg k7) rfl rfl 73 13)) (ae (554 af) (ae (eu 93 (aD jp 161 145 162) (ae (cf 5 sc (av aA (av aS 114 161 22) af 22)) (ae (cf 6 sc (av aA (av aS 114 161 22) af 22)) (ae (cf 7 sc (eC 187 95 (av aS 198 451 22) b8 252)) (ae (550 (cp (aL (ir rfl) rfl B.Jx PyProof.Rows.Boot.«sorted» ((pv 7)<*>aj))) (iT 8 sc) (ar (bv (eG (du 187 (pv 8) 119) 74) (ae (cH 187 119 (pv 8) cg rfl) (ar (bG (546 114 ((@cE _ _ _ _ _ ((aB sJ 198 (@bz _ _ _ _ ((pv 8)<*>aj)))<*>((dW DZ7 hr (415<*>((eQ 187 (pv 7) (pv 8) 22)<*>aj)))<*>aj)))<*>aj))))) aO))) (ar (A7 (i:=4) sc.nd rfl (Or.inl rfl) af A8))))))) 326))))
 try dsimp only[cxK]
 sleep 224;have sl:sizeLine=16777216:=sizeLine_eq;refine (by show 1<=sizeLine;decide,λc0 n0=>(aR 1 1 (rfl,by decide,(by unfold Bd;decide),λp0 q0 f0 r0 H1 g1 e1=>(by show 2<=sizeLine;decide,λt0 nt0=>(by show 1<=sizeLine;decide,λl nl=>?_)))))
 obtain ⟨rfl,rfl⟩:=BJ f0;have gA:=ag n0 (.lst [V.str good]);have gB:=gA.trans g1;have gC:=gB.trans (ag nt0 284);have gD:=gC.trans (ag nl 433);have nlH:H l=none:=gC.free nl;have wt:sd K b Rt 376 (ay (ay H1 t0 284) l 433) [t0] [[good]]:=by
  have k1:=ag nt0 284;have k2:=ag nl 433;refine sd.snoc (ts:= []) (cs:= []) (rfl,λi t c h=>nomatch h) (k2 _ _ ac) (k2 _ _ (k1 _ _ (g1 _ _ ac))) ?_ rt0 n0 (k2 _ _ (k1 _ _ e1))
  have b2:0<b*1:=by lia
  have b3:Bd (b*1) 1:=by unfold Bd;exact Nat.one_lt_two_pow 42
  exact (bU.of (k2 _ _ (k1 _ _ e1)),by decide,b3,b3)
 have el:ay (ay H1 t0 284) l 433 l=some (.lst (([t0]:KB).map V.ref)):=ac;generalize ay (ay H1 t0 284) l 433=H2 at gD wt el⊢;refine λrd nr=>423
 have g3:ax H2 (ay (ay H2 rd 83) rd 141):=by
  rw[kU];exact ag nr _
 have er:(ay (ay H2 rd 83) rd 141) rd=some (.dK (bg [good] 71)):=ac;generalize ay (ay H2 rd 83) rd 141=H3 at g3 er⊢;have nrH:H rd=none:=gD.free nr;have gE:=gD.trans g3;have wt3:=wt.same g3;have el3:=g3 _ _ el;clear gA gB gC gD g3 wt el nt0 nl n0 g1 e1 nr f0;try dsimp only[aU,bc]
 refine gQ (λNq=>Nq [some 486,some 261,some 176,some (.ref rd),some (.int 0),none,none,none,none] H3) (λN hN=>hN) ?_
 refine eA (λσ H'=>ax H H'/\∃(i:Nat) (cs:List KA) (ts:KB) (ks:KA) (o5 o6 o7 o8:Option V),σ= [KJ d,some 261,KJ l,KJ rd,some (.int i),o5,o6,o7,o8]/\H' l=some 146/\sd K b Rt 376 H' ts cs/\gR (u6 g) good cs i 289/\H' rd=some (.dK (bg ks 71))/\(∀x,x∈ks↔x∈cs.map aI)/\ks.length<=cs.length/\i<=cs.length)
  (λ(σ:L2.St) (_:Hp)=>match σ[4]? with|some (some (V.int i))=>U.length+2-i.toNat|_=>0) ⟨gE,fV 0 [[good]] [t0] [good] none none (aR none none ⟨rfl,el3,wt3,gR.start,er,λx=>Iff.rfl,G4 _,HC _⟩)⟩ ?_ (λσ H Q Q' mm h=>?_)
 ·intro σ H4 h_;sleep 164
  refine kT _hi λi cs ts ks o5 o6 _hj=>?_
  refine rX _hj λo7 o8 _hk=>?_
  refine fJ _hk λ_r1 el4 wt4 bf er4 _hl=>?_
  refine gW _hl λhk lk ic=>?_
  sleep 219;have few:=bf.few hU;have lt:(ts.map V.ref).length=cs.length:=by rw[G2,wt4.1]
  refine (aR l _ (rfl,.inl (aQ.of el4),d2 220 220))
  ·have il:i<cs.length:=by lia
   have hc:=G1 il;generalize cs[i]=ch at hc;have ht:=G1 (show i<ts.length by rw[wt4.1];exact il)
   generalize ts[i]'(by rw[wt4.1];exact il)=t at ht
   refine dY (wt4.2 i t ch ht hc) λcl rl p q' _hi=>?_
   refine gp _hi λet ecl frl _hj=>?_
   refine cL _hj λrtc _=>?_
   have at1:iR (ts.map V.ref) (i:Int)=some (.ref t):=b9 (gM ht);have cn:=bf.ne hc;have clen:=bf.long i ch hc;sleep 236;sleep 236;try dsimp only[aU,bc]
   refine cut (λσ H'=>ax H4 H'/\∃(oa:Addr) (row:List 149),σ= [KJ d,some 261,KJ l,KJ rd,some (.int i),KJ cl,KJ rl,KJ oa,o8]/\H' oa=some (.dK 530)/\(row.map 111).Nodup/\row.length<=200/\∀y t,g (aI ch) y=some t↔(y,t)∈row) 91 ?_
   ·obtain ⟨kvs,ed,hx⟩:=(hd.same g4).ex;refine (d,rfl,.inl (_,.inl ed),ν,aN cl _ _ _ (rfl,rfl,aQ.of ecl,fc cn,λpn hn=>(_,cq.k (k:= .inr (aI ch)) (ag hn _ _ _ ed),?_)))
    rcases hx (aI ch) with ⟨z1,z2⟩|⟨a,row,q1,q2,q3,q4,q5⟩
    ·rw[z1];exact hN _ _ (ag hn _,aR pn [] (rfl,ac,by simp,HC _,λy t=>by rw[z2];simp))
    ·rw[q1];exact hN _ _ (ag hn _,aR a row (rfl,ag hn _ _ _ q2,q3,q4,q5))
   intro σ H5 h_;refine cL h_ λg5 _hi=>?_
   refine rX _hi λoa row _hj=>?_
   refine gp _hj λ_r1 eoa nd _hk=>?_
   refine cL _hk λlr hrow=>?_
   sleep 101;try dsimp only[aU,bc]
   refine cut (λσ H'=>ax H H'/\∃(cs':List KA) (ts':KB) (ks':KA) (o8:Option V),σ= [KJ d,some 261,KJ l,KJ rd,some (.int i),KJ cl,KJ rl,KJ oa,o8]/\H' l=some (.lst (ts'.map V.ref))/\sd K b Rt 376 H' ts' cs'/\gR (u6 g) good cs' 236 289/\H' rd=some 519/\(∀x,x∈ks'↔x∈cs'.map aI)/\ks'.length<=cs'.length/\i<cs'.length) 91 ?_
   ·refine (cU oa _ _ ⟨rfl,eoa,ot row,nd,(by have:=Wo.cO nd (λy hy=>by obtain ⟨⟨y',t'⟩,h,e⟩:=G9.mp hy;cases e;exact hU _ _ ⟨t',(hrow _ _).mpr h⟩);lia),λsp ys nsp perm srt=>⟨sp,rfl,⟨_,aQ.of ac⟩,?_⟩⟩)
    have g6:=g5.trans (ag nsp 153);have spl:sp≠l:=λe=>by rw[e,g5 _ _ el4] at nsp;cases nsp
    have spr:sp≠rd:=λe=>by rw[e,g5 _ _ er4] at nsp;cases nsp
    have esp:ay H5 sp 153 sp=some (.lst 410):=ac;have eoa6:=ag nsp 153 _ _ eoa;generalize ay H5 sp 153=H6 at g6 esp eoa6⊢;have g46:=g4.trans g6;have el6:=g6 _ _ el4;have er6:=g6 _ _ er4;have ecl6:=g6 _ _ ecl;have frl6:=frl.same g6;have wt6:=wt4.same g6;have kn:ks≠ []:=λe=>by
     have:=(hk good).mpr (G9.mpr ([good],G5 bf.first,rfl));rw[e] at this;cases this
    have oal:oa≠l:=cV eoa6 el6 123
    have oar:oa≠rd:=cV eoa6 er6 (λz=>by injection z with z;exact zJ kn z)
    have cll:cl≠l:=cV ecl6 el6 (λz=>by injection z with z;exact ou cn z)
    have clr:cl≠rd:=cV ecl6 er6 123
    have pw:=So.j7 srt;have yin:∀y,y∈ys↔y∈row.map (·.1):=λy=>perm.mem_iff
    refine cX (xs:=ys.map V.str) (λj σ H'=>ax H H'/\dM l rd H6 H'/\∃(cs':List KA) (ts':KB) (ks':KA) (o8:Option V),σ= [KJ d,some 261,KJ l,KJ rd,some (.int i),KJ cl,KJ rl,KJ oa,o8]/\H' l=some (.lst (ts'.map V.ref))/\sd K b Rt 376 H' ts' cs'/\gR (u6 g) good cs' i (λz=>z∈ys.take j)/\cs'[i]?=some ch/\H' rd=some 519/\(∀x,x∈ks'↔x∈cs'.map aI)/\ks'.length<=cs'.length) ?_ ?_ ?_ ?_
    ·refine (g46,dM.refl _ _ _,aN cs ts ks o8 (rfl,el6,wt6,?_,hc,er6,hk,lk));rw[show (λz=>z∈ys.take 0)=(λ_:Str=>False) by funext z;simp]
     exact bf
    ·rintro j σ H' hj ⟨_,sb,_⟩;exact aQ.of (sb _ _ spl spr esp)
    ·intro j x σ H7 hx h_;refine gW h_ λg7 sb _hi=>?_
     sleep 281
     refine fJ _hj λ_r1 el7 wt7 bf7 hc7 _hk=>?_
     refine gW _hk λer7 hk7 lk7=>?_
     sleep 101;rw[GJ] at hx;obtain ⟨y,hy,rfl⟩:=HB.mp hx;have ym:=G5 hy;obtain ⟨⟨y',t'⟩,ht',e⟩:=G9.mp ((yin y).mp ym);cases e;have gy:=(hrow y' t').mpr ht';have tk:(λz=>z∈ys.take (j+1))=λz=>z∈ys.take j∨z=y':=by
      funext z
      rw[List.take_add_one,hy];simp
     have few7:=bf7.few hU;refine (aR rd _ (rfl,cq.k (k:= .inr y') er7,mB.i ?_));rw[ik]
     by_cases hin:y'∈ks'
     ·rw[if_pos hin];refine dP (g7,sb,aN cs' ts' ks' _ (rfl,el7,wt7,?_,hc7,er7,hk7,lk7));rw[tk];exact bf7.seen hc7 ((hk7 y').mp hin)
     ·rw[if_neg hin];have hny:y'∉cs'.map aI:=λz=>hin ((hk7 y').mpr z)
      refine gG (aR rd _ (rfl,fj.k (k:= .inr y') er7 461,?_))
      rw[gj];have lrd:l≠rd:=cV el7 er7 123
      have nz:∀c∈cs',c≠ []:=λc hc'=>by
       obtain ⟨k,hk'⟩:=GP.mp hc';exact bf7.ne hk'
      have el8:ay H7 rd (.dK 260) l=some (.lst (ts'.map V.ref)):=by rw[ak lrd];exact el7
      have er8:ay H7 rd (.dK 260) rd=some (.dK 260):=ac;have sb8:=sb.putR (.dK 260);have g8:=dA (o:= .dK 260) g7 nrH;have wt8:=wt7.keep nz ((dM.refl l rd H7).putR (.dK 260)) el7 er7;generalize ay H7 rd (.dK 260)=H8 at el8 er8 sb8 g8 wt8⊢;have ecl8:=sb8 _ _ cll clr ecl6;have eoa8:=sb8 _ _ oal oar eoa6;have frl8:=sb8.fr el6 er6 frl6;have lch:(ch.map V.str).length=ch.length:=G2 _;have lts:(ts'.map V.ref).length=cs'.length:=by rw[G2,wt7.1]
      refine (.inl (rfl,_,aQ.of el8),by show 1<=sizeLine;decide,λl3 n3=>(aN cl l3 _ _ (rfl,rfl,ag n3 _ _ _ ecl8,ac,by rw[lch];show ch.length+1<=sizeLine;lia,λc2 nc2=>?_)))
      have nc2H:=(g8.trans (ag n3 518)).free nc2;have k3:=(ag n3 518).trans (ag nc2 375);have ec2:ay (ay H8 l3 518) c2 375 c2=some (.lst ((ch++ [y']).map V.str)):=by rw[ac,GW];rfl
      generalize ay (ay H8 l3 518) c2 375=H9 at k3 ec2⊢;have dg:cq H9 oa (.str y') (some (.ref t')):=by
       rw[<-iq nd ht'];exact cq.k (k:= .inr y') (k3 _ _ eoa8)
      have fu:=hd.fr (aI ch) y' t' gy;have c4:b*ch.length+b<=4000:=by
       have:=Nat.mul_le_mul_left b (show ch.length+1<=m+2 by lia)
       rw[Nat.mul_succ] at this
       lia
      refine (aR oa (.ref t') (rfl,dg,fV rl t' p q' ((vw (aI ch) y').1) ((vw (aI ch) y').2) (rfl,(frl8.same k3).mono 42,((fu.same g8).same k3).mono 42,λr s fr tr H10 g10 e10=>(by show 2<=sizeLine;decide,λt5 n5=>?_))))
      have k11:=(k3.trans g10).trans (ag n5 513);have w11:sd K b Rt 376 (ay H10 t5 513) (ts'++ [t5]) (cs'++ [ch++ [y']]):=by
       refine sd.snoc (wt8.same k11) ac (ag n5 _ _ _ (g10 _ _ ec2)) ?_ (rts ch p q' y' t' r s rtc gy fr) nc2H (ag n5 _ _ _ e10);have e:b*(ch++ [y']).length=b*ch.length+b:=by rw[G8,GV,Nat.mul_succ]
       rw[e];exact (bU.of (ag n5 _ _ _ e10),fr.pos,(frl.bp.mul fu.bp).of_le fr.bt,(frl.bq.mul fu.bq).of_le fr.bb)
      have el11:=k11 _ _ el8;have er11:=k11 _ _ er8;generalize ay H10 t5 513=H11 at k11 w11 el11 er11⊢;refine (cU l _ _ (rfl,rfl,el11,by lia,?_))
      have nz2:∀c∈cs'++ [ch++ [y']],c≠ []:=λc hc'=>by
       rcases GU.mp hc' with z|z
       ·exact nz c z
       ·rw[GK.mp z];simp
      refine (dA (g8.trans k11) nlH _,(sb8.thenS k11).putL _,aN (cs'++ [ch++ [y']]) (ts'++ [t5]) (cB ks' y') _ (rfl,by rw[ac,GW];rfl,w11.keep nz2 ((dM.refl l rd H11).putL _) el11 er11,?_,?_,by rw[ak (Ne.symm lrd)];exact er11,λx=>?_,?_))
      ·rw[tk];refine bf7.more hc7 hny (t',gy) λz hz zn=>DI ?_ zn
       have sp2:(ys.take j++ys.drop j).Pairwise So.v5:=by rw[Hg];exact pw
       refine (IH.mp sp2).2.2 z hz y' (G5 (i:=0) ?_);rw[List.getElem?_drop];exact hy
      ·rw[G6 (G3.mp hc7).1];exact hc7
      ·rw[df,GW,GU,hk7 x,List.map_singleton,bS,GK]
      ·have:=(eD ks' y').2.2;rw[G8,GV]
       lia
    ·intro σ H7 h_;refine gW h_ λg7 sb _hi=>?_
     sleep 281
     refine fJ _hj λ_r1 el7 wt7 bf7 hc7 _hk=>?_
     refine gW _hk λer7 hk7 lk7=>?_
     sleep 101;rw[G2,List.take_length] at bf7;refine hN _ _ (g7,aN cs' ts' ks' o8 (rfl,el7,wt7,bf7.next hc7 (λy hy=>?_),er7,hk7,lk7,(G3.mp hc7).1))
     obtain ⟨t',gy⟩:=hy;exact (yin y).mpr (G9.mpr (_,(hrow y t').mp gy,rfl))
   intro σ H8 h_;refine cL h_ λg8 _hi=>?_
   sleep 281
   refine fJ _hj λ_r1 el8 wt8 bf8 er8 _hk=>?_
   refine gW _hk λhk8 lk8 il8=>?_
   sleep 101;exists (g8,fV 236 cs' ts' ks' _ _ (aR _ _ (rfl,el8,wt8,bf8,er8,hk8,lk8,il8)));show U.length+2-((i:Int)+1).toNat<U.length+2-(i:Int).toNat
   lia
  ·have e:i=cs.length:=by lia
   subst e;exact (q l cs H4 g4 nlH (ts,el4,wt4) bf)
 ·obtain ⟨v,e,h⟩:=mV.e h;obtain ⟨w,e2,p,ys,e3,s,h⟩:=mV.e h;obtain ⟨i,j,e4,e5,h⟩:=mI.e2 h;obtain ⟨b',hb,h2⟩:=mB.e h;exact (mV.o e (mV.o e2 (aR p ys (e3,s,mI.o e4 e5 (mB.o hb (mm _ _ h2))))))
theorem En {dV:Value} (F:bu K "refuse_no_names" "refuse_no_names" Ax dV f fd) (DZ15:543 bC 1 "is_name" ["thing"] [] (l7 K)):544 138 2 f fd ["things"] (gJ K Id):=by
 have sc:aC ["things","thing"] ["things"] (au Ax):=dI 48
 sleep 2
 ·obtain ⟨_,_,rfl,_⟩:=h
  rfl
 obtain ⟨l,xs,rfl,hl,ho,kt,kf⟩:=h;exists _,(ar (cv 482 rfl (cp 95) (iT 1 sc) (ar (bv (dD (cW (dW DZ15 hr 210))) (ar (fo B.JT rfl B.JZ rfl cG (ff<*>aj))) aO))));try dsimp only[cxK]
 refine (l,rfl,(_,aQ.of hl),cX (xs:=xs) (λi σ H'=>H=H'/\(∃o,σ= [KJ l,o])/\∀(j:Nat) x,j<i->xs[j]?=some x->lA x) (rfl,⟨ν⟩,λj x h=>absurd h (IU _)) (λi σ H' _ h=>by rw[<-h.1];exact aQ.of hl) ?_ ?_)
 ·rintro i x σ H' hx ⟨rfl,⟨o,rfl⟩,hP⟩
  by_cases hn:lA x
  ·obtain ⟨z,rfl,nz⟩:=id hn;refine (ν,.inl (z,rfl,xS nz,λ_=>?_,λn=>absurd nz n))
   refine (mB.i ?_);exact ⟨rfl,⟨ν⟩,λj y hj hy=>by
    rcases HR.mp hj with q|q
    ·exact hP j y q hy
    ·subst q;rw[hx] at hy;cases hy;exact hn⟩
  ·have bad:¬ ∀x∈xs,lA x:=λa=>hn (a x (G5 hx))
   rcases (ho x (G5 hx)).resolve_left hn with ⟨z,rfl,lz,nz⟩|⟨ty,h1,h2⟩
   ·refine (ν,.inl (z,rfl,lz,λn=>absurd n nz,λ_=>?_))
    exact 483
   ·refine (ν,.inr (ty,h1,h2,?_));exact 483
 ·rintro σ H' ⟨rfl,⟨o,rfl⟩,hP⟩;exact kt λx hx=>by
   obtain ⟨j,hj⟩:=GP.mp hx;exact hP j x (G3.mp hj).1 hj
theorem Eo {dV:Value} {hd:KH} (F:bu K "refuse_no_names" "refuse_no_names" Ck dV f fd) (HZ16:∀hd,qJ hd P w K mg base 1 "is_name" ["thing"] (pV hd)):rZ hd P w K mg base 2 f fd ["things"] (tR hd):=by
 have sc:aC ["things","thing"] ["things"] (au Ck):=dI 48
 sleep 11
 ·obtain ⟨_,_,rfl,_⟩:=h
  rfl
 obtain ⟨l,xs,rfl,hl,ho,hok,q⟩:=h;exists _,(ar (iI 93 hr.hd (mG (K:=K) rfl 95) (iT 1 sc) (ar (bv (dD (cW (ig (j:=1) (HZ16 hd) hr 13 rfl 210))) (ar qh) aO))))
 try dsimp only[cxK]
 refine (l,rfl,(_,aQ.of hl),oF (xs:=xs) (λi σ H'=>H=H'/\(∃o,σ= [KJ l,o])) (rfl,⟨ν⟩) (λi σ H' _ h=>by rw[<-h.1];exact (aQ.of hl,hok)) ?_ ?_)
 ·rintro i x σ H' hx ⟨rfl,⟨o,rfl⟩⟩;obtain ⟨z,rfl,nz⟩:=ho x (G5 hx);exact (z,rfl,nz,hok,rfl,⟨ν⟩)
 ·rintro σ H' ⟨rfl,_⟩;exact q
theorem Ep {dV:Value} (F:bu K "__init__" "Larder.__init__" Cl dV f fd):544 bC 1 f fd ["self"] (oB mt):=by
 have sc:aC ["self"] ["self"] (au Cl):=dI 48
 sleep 255
 obtain ⟨x,dx,rfl,e0,q⟩:=h;exists _,(ae (gF 95 b8 rfl) (ae (gF 95 b8 rfl) (ae (gF 95 b8 rfl) (ar (gF 95 b8 rfl)))));try dsimp only[cxK]
 sleep 35;have k0:j8 x H H:=λ_ _ _ e=>e
 have l0:([]:List 215).length<=0:=G4 _;intro p np;have xp:x≠p:=λz=>by rw[<-z,e0] at np;cases np
 refine (547 (rfl,(by rw[ak xp];exact e0),B.HM,B.Iz,by lia,?_))
 have e1:361 x=some (.ins mt dx 227):=ac;have k1:j8 x H (ay (556 p 83) x (.ins mt dx 227)):=k0.trans (j8.step 83 np);have vp:361 p=some (.dK []):=by rw[ak 424];exact ac
 have l1:((aJ "parts" 133 []):List 215).length<=1:=by have:=cZ "parts" 133 [];lia
 have fp:H p=none:=by
  cases h:H p with
  |none=>rfl
  |some ob=>rw[k0 p ob 424 h] at np;cases np
 generalize 361=H1 at e1 k1 vp⊢;intro st nst;have xst:x≠st:=λz=>by rw[<-z,e1] at nst;cases nst
 refine (547 (rfl,(by rw[ak xst];exact e1),B.HM,B.Jd,by lia,?_))
 have e2:247 x=some (.ins mt dx 46):=ac;have k2:j8 x H (ay (ay H1 st 83) x (.ins mt dx 46)):=k1.trans (j8.step 83 nst);have vst:247 st=some (.dK []):=by rw[ak (Ne.symm xst)];exact ac
 have l2:((aJ "stands" (.ref st) 227):List 215).length<=2:=by have:=cZ "stands" (.ref st) 227;lia
 have fst:H st=none:=by
  cases h:H st with
  |none=>rfl
  |some ob=>rw[k1 st ob (Ne.symm xst) h] at nst;cases nst
 have wpst:p≠st:=λz=>by rw[<-z,vp] at nst;cases nst
 replace vp:247 p=some (.dK []):=j8.step 83 nst p _ 424 vp;generalize 247=H2 at e2 k2 vst vp⊢;intro b nb;have xb:x≠b:=λz=>by rw[<-z,e2] at nb;cases nb
 refine (547 (rfl,(by rw[ak xb];exact e2),B.HM,B.Jf,by lia,?_))
 have e3:188 x=some (.ins mt dx 132):=ac;have k3:j8 x H (ay (ay H2 b 83) x (.ins mt dx 132)):=k2.trans (j8.step 83 nb);have vb:188 b=some (.dK []):=by rw[ak (Ne.symm xb)];exact ac
 have l3:((aJ "bars" 447 46):List 215).length<=3:=by have:=cZ "bars" 447 46;lia
 have fb:H b=none:=by
  cases h:H b with
  |none=>rfl
  |some ob=>rw[k2 b ob (Ne.symm xb) h] at nb;cases nb
 have wpb:p≠b:=λz=>by rw[<-z,vp] at nb;cases nb
 have wstb:st≠b:=λz=>by rw[<-z,vst] at nb;cases nb
 replace vp:188 p=some (.dK []):=j8.step 83 nb p _ 424 vp;replace vst:188 st=some (.dK []):=j8.step 83 nb st _ (Ne.symm xst) vst;generalize 188=H3 at e3 k3 vb vp vst⊢;intro n nn;have xn:x≠n:=λz=>by rw[<-z,e3] at nn;cases nn
 refine (547 (rfl,(by rw[ak xn];exact e3),B.HM,B.Je,by lia,?_))
 have e4:87 x=some (.ins mt dx (aJ "names" 485 132)):=ac;have k4:j8 x H (ay (ay H3 n 83) x (.ins mt dx (aJ "names" 485 132))):=k3.trans (j8.step 83 nn);have vn:87 n=some (.dK []):=by rw[ak (Ne.symm xn)];exact ac
 have l4:((aJ "names" 485 132):List 215).length<=4:=by have:=cZ "names" 485 132;lia
 have fn:H n=none:=by
  cases h:H n with
  |none=>rfl
  |some ob=>rw[k3 n ob (Ne.symm xn) h] at nn;cases nn
 have wpn:p≠n:=λz=>by rw[<-z,vp] at nn;cases nn
 have wstn:st≠n:=λz=>by rw[<-z,vst] at nn;cases nn
 have wbn:b≠n:=λz=>by rw[<-z,vb] at nn;cases nn
 replace vp:87 p=some (.dK []):=j8.step 83 nn p _ 424 vp;replace vst:87 st=some (.dK []):=j8.step 83 nn st _ (Ne.symm xst) vst;replace vb:87 b=some (.dK []):=j8.step 83 nn b _ (Ne.symm xb) vb;generalize 87=H4 at e4 k4 vn vp vst vb⊢;have la:LA mt [p,n] H4 x [] []:=(dx,p,n,jJ 133 (.ref st) 447 485,[],e4,pJ.1,pJ.2.1,trivial,vp,vn,rfl,by simp[wpn],pJ.2.2)
 refine q H4 [p,n,st,b] k4 (λa ha=>?_) ([p,n],dx,st,b,jJ 133 (.ref st) 447 485,[],la,e4,mD.1,mD.2.1,BO vst,vb,wstb,?_,?_,λy a e=>(by cases e),λa ha=>?_,by simp,by simp,λa ha=>?_,mD.2.2)
 ·simp only[GM,HQ,or_false] at ha;rcases ha with rfl|rfl|rfl|rfl
  ·exact fp
  ·exact fn
  ·exact fst
  ·exact fb
 ·simp only[GM,HQ,or_false];exact λz=>z.elim (λz=>wpst z.symm) (λz=>wstn z)
 ·simp only[GM,HQ,or_false];exact λz=>z.elim (λz=>wpb z.symm) (λz=>wbn z)
 ·simp only[GM,HQ,or_false] at ha⊢;rcases ha with rfl|rfl
  ·exact .inl rfl
  ·exact .inr (.inl rfl)
 ·simp only[GM,HQ,or_false] at ha;rcases ha with rfl|rfl|rfl|rfl
  ·exact (_,vp)
  ·exact (_,vn)
  ·exact (_,vst)
  ·exact (_,vb)
theorem Er {dV:Value} (F:bu K "learn" "Larder.learn" Cm dV f fd):544 bC 1 f fd ["self","told"] (lB mt):=by
 have sc:aC ["self","told","fresh","name"] ["self","told"] (au Cm):=dI 48
 sleep 255
 refine kT h λx l F0 rows ns xs _hi=>?_
 refine fJ _hi λ_r1 la el room nd q=>?_
 sleep 262;exists _,(ae (og sc.nd (i:=2) rfl rfl (own:= "name") (ys:= ["self"]) (js:= [0]) rfl 102 (cp 89) (λC fp s H=>(eG (du (by exact bY hr) 95 (zF (K:=K) rfl 89 rfl)) 74)) 353) (ae (bv (aD jq (aB cx (aL j5 rfl B.Jc boot_len (225<*>aj)) 145) (lX rfl B.JL) 162) (ar qh) aO) (ar (550 (cp 114) (iT 3 sc) (ar (cH 187 225 119 cg rfl))))))
 try dsimp only[cxK]
 sleep 45;refine dY la.dd λdx p n fs _hi=>?_
 sleep 190
 refine gW _hj λ_ _ fm=>?_
 sleep 6
 refine ⟨l,rfl,⟨_,aQ.of el⟩,kI (xs:=xs.map V.str) 429 (aQ.of el) (by rw[G2];lia) (λv hv H3 g3 R hR=>?_) (λp1 H1 g1 e1=>?_)⟩
 ·obtain ⟨y,hy,rfl⟩:=G9.mp hv;refine (547 (_,(rfl,g3 _ _ ex,B.HM,B.Je,fn,aR n _ (rfl,cq.k (k:= .inr y) (g3 _ _ en),mB.i ?_))));rw[ik]
  by_cases h:y∈ns
  ·rw[if_pos h];have hR':R (!decide (y∈ns)) H3:=hR;rw[decide_eq_true h] at hR';exact hR'
  ·rw[if_neg h];have hR':R (!decide (y∈ns)) H3:=hR;rw[decide_eq_false h] at hR';exact hR'
 ·have fe:∀l:KA,(l.map V.str).filter 429=(l.filter λy=> !decide (y∈ns)).map V.str:=by
   intro l
   induction l with
   |nil=>rfl
   |cons c l ih=>
    rw[HY,Ii,Ii,ih]
    by_cases h:c∈ns
    ·simp[h]
    ·simp[h]
  rw[fe] at e1;have fl:=IN (λy=> !decide (y∈ns)) xs
  have fmem:∀y,y∈ns∨y∈(xs.filter λy=> !decide (y∈ns))↔y∈ns∨y∈xs:=by
   intro y;rw[IR]
   by_cases h:y∈ns<;>simp[h]
  generalize (xs.filter λy=> !decide (y∈ns))=fr at e1 fl fmem
  try dsimp only[aU,bc]
  refine gQ (λNq=>Nq [some 328,some 176,some (.ref p1),none] H1) 91 ?_
  ·refine (547 (_,(rfl,g1 _ _ ex,B.HM,B.Je,fn,aR n _ (rfl,.inl (g1 _ _ en),aR p1 _ (rfl,.inl (aQ.of e1),d2 220 (λc=>hN))))))
   rw[cu,G2] at c
   lia
  refine (p1,rfl,(_,aQ.of e1),cX (xs:=fr.map V.str) (λi σ H'=>KF F0 H1 H'/\(∃o,σ= [KJ x,KJ l,KJ p1,o])/\LA mt F0 H' x rows (io ns (fr.take i))) (KF.refl,⟨ν⟩,la.same g1) (λi σ H' _ h=>aQ.of (h.1 _ _ ((la.same g1).not e1 84) e1)) ?_ ?_)
  ·rintro i v σ H' hx ⟨k,⟨o,rfl⟩,la'⟩;rw[GJ] at hx;cases hc:fr[i]? with
   |none=>rw[hc] at hx;cases hx
   |some y=>
    rw[hc] at hx;cases hx;refine dY la'.dd λdx' p' n' fs' _hi=>?_
    refine fJ _hi λex' fp' fn' dd' en' _hj=>?_
    refine gW _hj λ_ _ fm'=>?_
    have il:=(G3.mp hc).1;have tl:=om (fr.take i) ns;rw[GX] at tl;have tk:fr.take 236=fr.take i++ [y]:=by rw[IL,hc];rfl
    refine (aN x _ dx' _ (_,(rfl,ex',B.HM,B.Je,fn',aR n' _ (rfl,fj.k (k:= .inr y) en' 461,?_))))
    rw[gj,<-tG,<-tk];obtain ⟨la2,k2,_⟩:=la'.learn (ms:=io ns (fr.take 236)) ex' fn';exact (k.trans k2,⟨ν⟩,la2)
  ·rintro σ H' ⟨k,⟨o,rfl⟩,la'⟩;rw[G2,List.take_length] at la';exact q H' _ ((KF.of g1).trans k) la' (kJ nd) λy=>oj.trans (fmem y)
theorem Es {dV:Value} (F:bu K "part" "Larder.part" Cn dV f fd) (DZ21:543 bC 2 "chain_down" ["parts","good","goals"] [] dG) (DZ28:545 bC 1 Jo ["self","told"] [] (lB mt)) (XZ25:543 138 2 "refuse_no_names" ["things"] [] (gJ K Id)) (I_InRing:Bw P w K mg base 1 Iu ["self","ring"] (fR Iu "ring")):544 138 3 f fd ["self","good","other"] (uX K mt Id Iu):=by
 have sc:aC ["self","good","other","back","inside"] ["self","good","other"] (au Cn):=dI 48
 sleep 2
 ·obtain ⟨_,_,_,_,_,_,_,rfl,_⟩:=h
  rfl
 refine kT h λx g o F0 rows ns _hi=>?_
 refine jS _hi λps _hj=>?_
 refine iY _hj λ_r1 la ok few nd n78 hg ho _hk=>?_
 refine cL _hk λeN qq=>?_
 sleep 32;exists _,(ae (bG (fQ XZ25 hr 13 rfl cG 234)) (ae (551 (dW DZ21 hr (225<*>(114<*>(140<*>aj))))) (ae (bv (aD kW 119 cQ 162) (ar (pD I_InRing hr 13 rfl B.JN rfl cG ((aB sJ 140 (c6 kY 119 fK (cT 451)))<*>aj))) aO) (ae (bG (i9 95 DZ28 hr 13 234)) (ae 258 (ar (cH 187 161 114 cg rfl)))))))
 try dsimp only[cxK]
 refine Gs ?_;intro D' r5 r4 r3 r2 r1;sleep 6
 refine (by show 2<=sizeLine;decide,λl0 n0=>?_)
 have g1:=ag n0 (.lst [g,o]);sleep 187
 ·rcases GM.mp hy with rfl|hy
  ·exact hg.imp id (gc.same g1)
  ·rw[GK.mp hy];exact ho.imp id (gc.same g1)
 rotate_left
 ·rcases GM.mp hy with rfl|hy
  ·exact z.1
  ·rw[GK.mp hy];exact z.2
 obtain ⟨zg,rfl,mg'⟩:=nn g 73
 obtain ⟨zo,rfl,mo'⟩:=nn o 73
 obtain ⟨qR,qD⟩:=qq zg zo rfl rfl mg' mo';have la1:=la.same g1;generalize ay H l0 373=H1 at g1 la1⊢;refine dY la1.dd λdx p n fs _hi=>?_
 sleep 190
 refine gW _hj λ_ _ fm=>?_
 refine (547 (_,(rfl,ex,B.HM,B.Iz,fp,by show 1<=sizeLine;decide,λl2 n2=>?_)))
 have g2:=ag n2 (.lst [.str zg]);refine (fV p l2 zo rows ps [zg] (rfl,dd.same g2,ok,by lia,ac,λH3 g3 nl=>?_,λlb H3 c goal g3 nlb eb wy gm gl ga=>?_))
 ·have g13:=g2.trans g3;have la3:=la1.same g13;try dsimp only[aU,bc]
  refine (rfl,mB.i (dP ?_));refine dY la3.dd λdx p n fs _hi=>?_
  sleep 190
  refine gW _hj λ_ _ fm=>?_
  refine (547 (rfl,ex,B.HM,B.JQ,fm _ 73,by show 2<=sizeLine;decide,λl4 n4=>?_))
  have g4:=ag n4 373;refine (fV x l4 F0 rows ns [zg,zo] (rfl,la3.same g4,ac,by simp;lia,nd,λH5 ms k5 la5 nd5 m5=>?_))
  have k05:KF F0 H H5:=(KF.of ((g1.trans g13).trans g4)).trans k5;refine dY la5.ex λdx p n fs _hi=>?_
  refine jS _hi λrs _hj=>?_
  refine iY _hj λex fp fn dr ed en eF ndF fm=>?_
  have rf:=ok.few;have dl:=dr.len;have nl':¬Led ps zo zg:=nl zg 73
  refine (547 (_,(rfl,ex,B.HM,B.Iz,fp,.inr (.inr (.inl (rfl,.inl (_,ed)))),λpn hn=>?_)))
  have g6:=ag hn 83;refine (aN p _ (.inr zg) 352 (rfl,rfl,g6 _ _ ed,by lia,λw hw=>?_,λhw=>?_))
  ·obtain ⟨r,ys,rfl,hm,hH,la6,k6⟩:=(la5.same g6).put_some (y:=zo) (g6 _ _ ex) fp (g6 _ _ ed) hw;have ysl:=(ok.small _ hm).1;refine (aR r _ (rfl,fj.k (k:= .inr zo) hH (by rw[cu];have:ys.length<=ps.length:=ysl;lia),?_))
   rw[gj];exact qD nl' F0 _ ms ((k05.trans (KF.of g6)).trans k6) FG.refl la6 nd5 λy=>(m5 y).trans 73
  ·have pd:pn≠p:=λz=>by rw[z,ed] at hn;cases hn
   obtain ⟨la6,k6⟩:=la5.put_none (y:=zo) ex fp ed hn hw;refine (aR pn _ (rfl,fj.k (k:= .inr zo) (kvs:= []) (by rw[ak pd];exact ac) (by show 0<sizeLine;lia),?_))
   refine qD nl' (F0++ [pn]) _ ms (k05.trans k6) (λa ha=>?_) la6 nd5 λy=>(m5 y).trans 73
   rcases GU.mp ha with ha|ha
   ·exact .inl ha
   ·rw[GK.mp ha];refine .inr ?_;cases hp:H pn with
    |none=>rfl
    |some ob=>rw[k05 _ _ (la5.free hn) hp] at hn;cases hn
 ·obtain rfl:=GK.mp gm;try dsimp only[aU,bc]
  have c1:1<=c.length:=by
   have:=wy.first;cases c with
   |nil=>cases this
   |cons _ _=>simp
  refine (rfl,mB.i (gG ?_));refine (by show 1<=sizeLine;decide,λl4 n4=>?_)
  have g4:=ag n4 (.lst [.str goal]);refine (ν,ν,aR lb _ (rfl,aQ.of (g4 _ _ eb),λl5 n5=>?_))
  rw[vY (by rw[G2];exact c1),<-List.map_dropLast]
  have g5:=ag n5 (.lst (c.dropLast.map V.str));have lf:=wy.few;refine (aN l4 l5 _ _ (rfl,rfl,g5 _ _ ac,ac,(by rw[G2,List.length_dropLast];show 1+_<=_;lia),λl6 n6=>?_))
  have g6:=ag n6 (.lst ([.str goal]++c.dropLast.map V.str));have gA:=((((g1.trans g2).trans g3).trans g4).trans g5).trans g6;refine (by show 1<=sizeLine;decide,λxa na=>uP na λd H2 g ea ed ne gd edd=>(rfl,d,ea,?_))
  exact qR gl d l6 _ c (gA.trans gd) (gd _ _ ac) edd wy
theorem Et {dV:Value} (F:bu K "held" "Larder.held" Co dV f fd) (DZ23:543 bC 2 "all_inside" ["parts","good"] [] oA) (XZ25:543 138 2 "refuse_no_names" ["things"] [] (gJ K Id)):544 138 3 f fd ["self","good"] (vc K mt Id):=by
 have sc:aC ["self","good"] ["self","good"] (au Co):=dI 48
 sleep 2
 ·sleep 270
  rfl
 sleep 220
 refine fJ _hi λ_r1 lb ok few hv _hj=>?_
 refine cL _hj λeN qq=>?_
 sleep 47;exists _,(ae 233 (ar (aE (dW DZ23 hr (225<*>210)))))
 try dsimp only[cxK]
 sleep 126;sleep 97
 sleep 7
 sleep 195
 have qz:=qq z rfl mz;sleep 33;refine dY la.dd λdx p n fs _hi=>?_
 sleep 190
 refine gW _hj λ_ _ fm=>?_
 exact (547 (_,(rfl,ex,B.HM,B.Iz,fp,aN p z rows ps (rfl,dd,ok,few,λl H2 ys g2 n2 e2 s2 d2 m2=>qz l H2 ys 381 (g1.free n2) e2 s2 d2 m2))))
theorem Eu {dV:Value} (F:bu K "barred" "Larder.barred" Ay dV f fd) (DZ21:543 bC 2 "chain_down" ["parts","good","goals"] [] dG) (XZ25:543 138 2 "refuse_no_names" ["things"] [] (gJ K Id)):544 138 3 f fd ["self","good"] (iJ K mt Id):=by
 have sc:aC ["self","good"] ["self","good"] (au Ay):=dI 48
 sleep 2
 ·sleep 270
  rfl
 sleep 220
 refine fJ _hi λ_r1 lb ok few hv _hj=>?_
 refine cL _hj λeN qq=>?_
 sleep 47;exists _,(ae 233 (ar (aE (dW DZ21 hr (225<*>(89<*>((dJ (tN rfl) rfl B.Jm boot_list (225<*>aj))<*>aj)))))))
 try dsimp only[cxK]
 sleep 126;sleep 97
 sleep 7
 sleep 195
 have qz:=qq z rfl mz;sleep 33;refine dY la.dd λdx' p n fs' _hi=>?_
 refine fJ _hi λex' fp fn dd en _hj=>?_
 refine gW _hj λ_ _ fm'=>?_
 sleep 206
 sleep 58
 sleep 38
 refine (aN x _ dx' _ (_,(rfl,ex',B.HM,B.Iz,fp,aN x _ dx _ (_,(rfl,ex,B.HM,B.Jf,eb,aR b _ (rfl,hb,λl2 n2=>?_))))))
 have kk:(bg bs 71).map (λp=>kV p.1)=bs.map V.str:=by
  unfold bg;rw[He]
  rfl
 rw[kk];have g2:=ag n2 (.lst (bs.map V.str));exact (fV p l2 z rows ps bs (rfl,dd.same g2,ok,few,ac,λH3 g3 nl=>qz.1 H3 203 nl,λl H3 c goal g3 nl el wy gm gl ga=>qz.2 l H3 c goal 203 ((g1.trans g2).free nl) el wy gm gl ga))
theorem Ev {dV:Value} {hd:KH} (F:bu K "barred" "Larder.barred" Cp dV f fd) (HZ22:∀hd,qJ hd P w K mg base 2 "chain_down" ["parts","good","goals"] (nj hd dG)) (HZ26:∀hd,qJ hd P w K mg base 2 "refuse_no_names" ["things"] (tR hd)):rZ hd P w K mg base 3 f fd ["self","good"] (nj hd (dH mt)):=by
 have sc:aC ["self","good"] ["self","good"] (au Cp):=dI 48
 sleep 11
 ·obtain ⟨_,_,_,_,_,_,_,_,_,_,rfl,_⟩:=h
  rfl
 sleep 165
 refine ix _hi λx z F1 rows m g bs ns ps _hj=>?_
 refine fJ _hj λ_r1 lb ok few mz _hk=>?_
 refine cL _hk λqn ql=>?_
 sleep 32;exists _,(ae (bG (ig (j:=2) (HZ26 hd) hr 13 rfl (140<*>aj))) (ar (aE (ig (j:=2) (HZ22 hd) hr 13 rfl (225<*>(89<*>((dJ (rV hr.hd) rfl B.Jm boot_list (225<*>aj))<*>aj)))))))
 try dsimp only[cxK]
 sleep 126;sleep 97
 have g1:=ag n0 (.lst [.str z]);refine (aR l0 _ (rfl,ac,(λy hy=>by rw[GK.mp hy];exact (z,rfl,mz)),cJ hok g1,?_))
 sleep 33;refine dY la.dd λdx' p n fs' _hi=>?_
 refine fJ _hi λex' fp fn dd en _hj=>?_
 refine gW _hj λ_ _ fm'=>?_
 sleep 206
 sleep 58
 sleep 38
 refine (aN x _ dx' _ (_,(rfl,ex',B.HM,B.Iz,fp,aN x _ dx _ (_,(rfl,ex,B.HM,B.Jf,eb,cJ hok g1,aR b _ (rfl,hb,λl2 n2=>?_))))))
 have kk:(bg bs 71).map (λp=>kV p.1)=bs.map V.str:=by
  unfold bg;rw[He]
  rfl
 rw[kk];have g2:=ag n2 (.lst (bs.map V.str));exact (cJ hok 381,fV p l2 z rows ps bs (rfl,dd.same g2,ok,few,ac,λH3 g3 nl=>qn H3 203 nl,λl H3 c goal g3 nl el wy gm gl ga=>ql l H3 c goal 203 ((g1.trans g2).free nl) el wy gm gl))
theorem Ew {dV:Value} (F:bu K "bar" "Larder.bar" Cq dV f fd) (DZ28:545 bC 1 Jo ["self","told"] [] (lB mt)) (XZ25:543 138 2 "refuse_no_names" ["things"] [] (gJ K Id)):544 138 3 f fd ["self","good"] (yg K mt Id):=by
 have sc:aC ["self","good"] ["self","good"] (au Cq):=dI 48
 sleep 2
 ·obtain ⟨_,_,_,_,_,_,_,_,rfl,_⟩:=h
  rfl
 refine kT h λx v F1 rows m g _hi=>?_
 refine rX _hi λbs ns _hj=>?_
 refine fJ _hj λ_r1 lb b200 nd n79 _hk=>?_
 refine gW _hk λhv eN qq=>?_
 sleep 32;exists _,(ae 233 (ae (bG (i9 95 DZ28 hr 13 (140<*>aj))) (ar (cH 187 225 89 cg rfl))))
 try dsimp only[cxK]
 sleep 45;sleep 6
 sleep 97
 sleep 7
 sleep 195
 have qz:=qq z rfl mz;sleep 33;sleep 206
 sleep 58
 sleep 38
 refine (547 (rfl,ex,B.HM,B.JQ,fm _ 13,by show 1<=sizeLine;decide,λl4 n4=>?_))
 have g4:=ag n4 (.lst [.str z]);obtain ⟨F0,la,sub,back⟩:=(jj.same g4).la;refine (fV x l4 F0 rows ns [z] 449)
 have yS:=back _ _ _ la5 k5;have kF:KF F1 H H5:=(KF.of (g1.trans g4)).trans λa o n e=>k5 a o (λz=>n (sub a z)) e
 refine dY yS.at_ λdx s b fs _hi=>?_
 sleep 58
 sleep 38
 refine (547 (_,(rfl,ex,B.HM,B.Jf,eb,aR b _ (rfl,fj.k (k:= .inr z) hb 461,?_))))
 rw[gj];obtain ⟨lb6,k6⟩:=pb (cB bs z);exact qz _ ms (kF.trans k6) lb6 nd5 λy=>(m5 y).trans 73
theorem Ex {dV:Value} (F:bu K "stand" "Larder.stand" Az dV f fd) (Dis_Z3:543 bC 2 "is_fraction" ["thing"] [] (xL K)) (DZ28:545 bC 1 Jo ["self","told"] [] (lB mt)) (XZ3:543 138 2 "fraction" ["top","bottom"] [.int 1] (lW Iw)) (XZ25:543 138 2 "refuse_no_names" ["things"] [] (gJ K Id)):544 138 3 f fd ["self","good","other","ratio"] (mE K mt Id Ja):=by
 have sc:aC ["self","good","other","ratio","others"] ["self","good","other","ratio"] (au Az):=dI 48
 sleep 2
 ·obtain ⟨_,_,_,_,_,_,_,_,_,_,rfl,_⟩:=h
  rfl
 refine ix h λx v w r F1 rows m g bs _hi=>?_
 refine jS _hi λns _hj=>?_
 refine iY _hj λ_r1 lb m1000 nd n78 hv hw hr0 _hk=>?_
 refine cL _hk λeN qq=>?_
 sleep 32;exists _,(ae (bG (fQ XZ25 hr 13 rfl cG 234)) (ae (bv (aD jT 119 cQ 162) (ar (551 492)) aO) (ae (bv (aD gY 89 114 162) 303 aO) (ae (bv (eG (sM 187 114 (eC 187 225 89 b8 252)) 74) 303 aO) (ae (bv (PW.pt (fh (dD (cW (dW Dis_Z3 hr 327))) (fO (aD wW 226 af 162)))) 303 aO) (ae (bG (i9 95 DZ28 hr 13 234)) (ae 258 (ar (cH 187 161 114 119 rfl)))))))))
 try dsimp only[cxK]
 refine GI ?_;intro D' r7 r6 r5 r4 r3 r2 r1;sleep 6
 refine (by show 2<=sizeLine;decide,λl0 n0=>?_)
 have g1:=ag n0 (.lst [v,w]);sleep 187
 ·rcases GM.mp hy with rfl|hy
  ·exact hv.imp id (gc.same g1)
  ·rw[GK.mp hy];exact hw.imp id (gc.same g1)
 rotate_left
 ·rcases GM.mp hy with rfl|hy
  ·exact z.1
  ·rw[GK.mp hy];exact z.2
 obtain ⟨zg,rfl,mg'⟩:=nn v 73
 obtain ⟨zo,rfl,mo'⟩:=nn w 73
 obtain ⟨qS,qD⟩:=qq zg zo rfl rfl mg' mo';have jj:=lb.same g1;generalize ay H l0 373=H1 at g1 jj⊢;try dsimp only[aU,bc]
 refine gQ (λNq=>∀(r':V) (H':Hp),ax H1 H'->(((∃(p q:Int) (t:Addr),r'= .ref t/\H' t=some 82/\0<p/\mW p q/\Bd 200 p/\Bd 200 q/\tO H r p q/\∀r2,r= .ref r2->t=r2)∨(kK K H' r'/\kK K H r)))->Nq [some 328,some (.str zg),some (.str zo),some r',none] H') 91 ?_
 ·rcases hr0 with ⟨p,q,⟨rfl,rfl,rfl⟩|⟨t,rfl,et,p0,lo,bp,bq⟩⟩|bad
  ·refine (rfl,mB.i (dT rfl (aR 1 1 (rfl,Bd.one.mono 13,λ_ p' q' f t H2 g2 e2=>?_,λz=>absurd z 13))))
   obtain ⟨rfl,rfl⟩:=ri f;exact hN _ _ g2 (.inl (cU 1 1 t (rfl,e2,by decide,(by decide,rfl),Bd.one.mono 13,Bd.one.mono 13,.inl (rfl,rfl,rfl),λr2 z=>(by cases z))))
  ·exact (rfl,mB.i (dF nofun (hN 246 _ 351 (.inl (cU p q t (rfl,g1 _ _ et,p0,lo,bp,bq,.inr (t,rfl,et,p0,lo,bp,bq),λr2 z=>(by cases z;rfl)))))))
  ·exact (rfl,mB.i (dF bad.1 (hN r _ 351 (.inr (bad.same g1,bad)))))
 intro r' H2 g2 hr2;have k2:=g1.trans g2;have AD:=jj.same g2;refine (rfl,d2 (λc=>(by show 1<=sizeLine;decide,qS (.inl (by injection c)) _ k2)) 220)
 have zne:zg≠zo:=λz=>c (by rw[z])
 refine dY AD.at_ λdx s b fs _hi=>?_
 sleep 58
 sleep 38
 try dsimp only[aU,bc]
 refine gQ (λNq=>∀H':Hp,ax H2 H'->¬u6 g zg zo->Nq [some 328,some (.str zg),some (.str zo),some r',none] H') 91 ?_
 ·refine (547 (_,(rfl,ex,B.HM,B.Jd,es,s,rfl,.inl (_,.inl bd.at_),λpn hn=>?_)))
  have g3:=ag hn 83;exists _,cq.k (k:= .inr zg) (g3 _ _ bd.at_);rcases bd.ex zg with ⟨e1,e2⟩|⟨a,row,e1,e2,e3,e4,e5,e6,e7⟩
  ·rw[e1];exact (aR pn _ ⟨rfl,cq.k (k:= .inr zo) ac,(hN _ g3 (λ⟨t,z⟩=>(by rw[e2] at z;cases z)))⟩)
  ·rw[e1];refine (aR a _ (rfl,cq.k (k:= .inr zo) (g3 _ _ e2),mB.i ?_));cases hg:g zg zo with
   |none=>
    have:aT 530 (.inr zo)=none:=by
     cases hx:aT (dy row) (.inr zo) with
     |none=>rfl
     |some u=>
      obtain ⟨⟨y,t⟩,hm,e⟩:=G9.mp (show (.inr zo,u)∈dy row from iG hx)
      cases e;have:=(e7 _ _).mpr hm;rw[hg] at this;cases this
    rw[this];exact dP (hN _ g3 (λ⟨t,z⟩=>(by rw[hg] at z;cases z)))
   |some t=>
    rw[iq e5 ((e7 zo t).mp hg)];exact gG (by show 1<=sizeLine;decide,qS (.inr (.inl (t,hg))) _ (k2.trans g3))
 intro H3 g3 nst;have k3:=k2.trans g3;have AE:=AD.same g3;clear ex es eb bd hb fm sF bF pb;rcases hr2 with ⟨p,q,t,rfl,et,p0,lo,bp,bq,rok,tr⟩|⟨bad,bad0⟩
 rotate_left
 ·have bad3:=bad.same g3;obtain ⟨_,f|⟨t,p,q,rfl,et,f,pz⟩⟩:=bad3
  ·exact (aR r' false (rfl,f,430))
  ·exact (aR _ true (rfl,f,(553 (rfl,rfl,bU.of et,rfl,dT pz 430))))
 have et3:=g3 _ _ et;refine (aR _ true (rfl,Bv et3 (by rw[decide_eq_true (show 1<=q by have:=lo.pos;lia),decide_eq_true lo.low];rfl),(553 (rfl,rfl,bU.of et3,rfl,dF 42 ?_))))
 refine dY AE.at_ λdx s b fs _hi=>?_
 sleep 58
 sleep 38
 refine (547 (rfl,ex,B.HM,B.JQ,fm _ 13,by show 2<=sizeLine;decide,λl4 n4=>?_))
 have g4:=ag n4 373;obtain ⟨F0,la,sub,back⟩:=(AE.same g4).la;refine (fV x l4 F0 rows ns [zg,zo] 449)
 have yS:=back _ _ _ la5 k5;have kF:KF F1 H H5:=(KF.of (k3.trans g4)).trans λa o n e=>k5 a o (λz=>n (sub a z)) e
 have et5:H5 t=some (.tup [.int p,.int q]):=k5 _ _ (λz=>(AE.same g4).not (g4 _ _ et3) 84 (sub t z)) (g4 _ _ et3)
 clear ex es eb bd hb fm sF bF pb;refine dY yS.at_ λdx s b fs _hi=>?_
 sleep 58
 sleep 38
 have dF:∀a∈F1,∃kv,H5 a=some (.dK kv):=λa ha=>by
  refine kT yS.ex λ_ _ _ _ _ _ _hi=>?_
  refine iY _hi λ_ _ _ _ _ _ _ _ _hj=>?_
  refine fJ _hj λ_ _ _ _ _ _hk=>?_
  refine cL _hk λq8 _=>?_
  exact q8 a ha
 refine (547 (_,(rfl,ex,B.HM,B.Jd,es,.inr (.inr (.inl (rfl,.inl (_,bd.at_)))),λpn hn=>?_)))
 have g6:=ag hn 83;have dkl:=bd.few;have m5':∀y,y∈ms↔y∈ns∨y=zg∨y=zo:=λy=>(m5 y).trans 73
 refine (aN s _ (.inr zg) 352 (rfl,rfl,g6 _ _ bd.at_,by lia,λw hw=>?_,λhw=>?_))
 ·rcases bd.ex zg with ⟨e1,_⟩|⟨a,row,e1,e2,e3,e4,e5,e6,e7⟩
  ·rw[hw] at e1;cases e1
  rw[hw] at e1;cases e1;have aF:=gO.mp e3;have lb6:=yS.same g6;have bd6:=bd.same g6;have bd7:=BD.put (g':=pS g zg zo t) bd6 hw (g6 _ _ e2) 22
  refine (aR a _ (rfl,fj.k (k:= .inr zo) (g6 _ _ e2) (by unfold dy;rw[G2];lia),?_))
  refine qD zne nst p q rok F1 _ ms t ((kF.trans (KF.of g6)).trans (KF.put _ aF)) FG.refl (LB.stands (r:=a) (u:= .dK []) lb6 (g6 _ _ ex) es (λ_ h=>h) (λb' o n e=>KF.put _ aF b' o n e) (λb' o e ns' ni=>?_) (bd7.mono 42) (λdk2 e y b' z=>?_) (λb' hb'=>?_)) (by rw[ak (λz=>by rw[z] at et5;rw[et5] at e2;cases e2)];exact g6 _ _ et5) tr nd5 m5'
  ·rw[ak (λz=>ni dk bd6.at_ zg (by rw[z];exact hw))]
   exact e
  ·rw[bd6.at_] at e;cases e;exact .inl z
  ·by_cases c:b'=a
   ·exact (_,by rw[c];exact ac)
   ·obtain ⟨kv,e⟩:=dF b' hb';exact (kv,by rw[ak c];exact g6 _ _ e)
 ·have ps:pn≠s:=λz=>by rw[z,bd.at_] at hn;cases hn
  have pF:pn∉F1:=yS.free hn;have new:∀y,aT dk (.inr y)≠some (.ref pn):=λy=>bd.new hn y
  have bd6:=zK (F':=F1++ [pn]) (bd.same g6) (λa h=>Hu _ h)
  have bd7:=BD.open (x0:=zg) bd6 hw (show ay H5 pn 83 pn=some (.dK (dy [])) from ac) (gO.mpr 73) ps new
  have hv7:aT (putK dk (.inr zg) 352) (.inr zg)=some (V.ref pn):=by rw[hV,if_pos rfl]
  have ep7:ay (ay H5 pn 83) s (.dK (putK dk (.inr zg) 352)) pn=some (.dK (dy [])):=by rw[ak ps];exact ac
  have bd8:=BD.put (g':=pS g zg zo t) bd7 hv7 ep7 22
  refine (aR pn _ (rfl,fj.k (k:= .inr zo) (kvs:= []) ep7 (by show 0<sizeLine;lia),?_))
  have tp:t≠pn:=λz=>by rw[z,hn] at et5;cases et5
  have ts:t≠s:=λz=>by rw[z,bd.at_] at et5;cases et5
  refine qD zne nst p q rok (F1++ [pn]) _ ms t (kF.trans λb' o n e=>?_) (λa ha=>?_) (LB.stands (r:=s) (u:= .dK []) yS ex es (λa h=>Hu _ h) (λb' o n e=>?_) (λb' o e ns' ni=>?_) bd8 (λdk2 e y b' z=>?_) (λb' hb'=>?_)) (by rw[ak tp,ak ts,ak tp];exact et5) tr nd5 m5'
  ·rw[ak 180,ak (λz=>n (by rw[z];exact sF)),ak 180]
   exact e
  ·rcases GU.mp ha with h|h
   ·exact .inl h
   ·rw[GK.mp h];refine .inr ?_;cases hp:H pn with
    |none=>rfl
    |some ob=>rw[kF _ _ pF hp] at hn;cases hn
  ·rw[ak 180,ak (λz=>n (Hu _ (by rw[z];exact sF))),ak 180]
   exact e
  ·rw[ak 180,ak ns',ak 180]
   exact e
  ·rw[bd.at_] at e;cases e;rw[hV] at z
   split at z
   ·cases z;exact .inr hn
   ·exact .inl z
  ·by_cases c1:b'=pn
   ·exact (_,by rw[c1];exact ac)
   ·by_cases c2:b'=s
    ·exact (_,by rw[ak c1,c2];exact ac)
    ·rcases GU.mp hb' with h|h
     ·obtain ⟨kv,e⟩:=dF b' h;exact (kv,by rw[ak c1,ak c2,ak c1];exact e)
     ·exact absurd (GK.mp h) c1
theorem Ey {dV:Value} (F:bu K "stand_in" "Larder.stand_in" Cr dV f fd) (DZ24:543 bC 4 "ways_out" ["stands","good"] [] (AU K)) (XZ25:543 138 2 "refuse_no_names" ["things"] [] (gJ K Id)) (XZ31:545 138 3 Jh ["self","good"] [] (iJ K mt Id)) (I_NoStandIn:Bw P w K mg base 1 on ["self","good"] (fR on "good")):544 138 5 f fd ["self","good"] (yt K mt Id on):=by
 have sc:aC ["self","good","pair"] ["self","good"] (au Cr):=dI 48
 sleep 2
 ·obtain ⟨_,_,_,_,_,_,_,_,_,_,_,_,rfl,_⟩:=h
  rfl
 sleep 220
 refine si _hi λvw U Rt _hj=>?_
 refine iY _hj λ_r1 lb m200 ok few hv ra hU _hk=>?_
 refine gp _hk λu17 rt0 rts _hl=>?_
 refine cL _hl λeN qq=>?_
 sleep 132;exists _,(ae 233 (ae (cv 482 rfl (cp (dW DZ24 hr (225<*>210))) (iT 2 sc) (ar (bv (aD jT (sY XZ31 hr 13 cG 95 ((av aS 508 451 22)<*>aj)) cQ 162) 326 aO))) (ar (pD I_NoStandIn hr 13 rfl B.JB rfl cG 210))))
 try dsimp only[cxK]
 sleep 45;sleep 97
 sleep 7
 sleep 195
 have qz:=qq z rfl mz;have jj:=lb.same g1;generalize ay H l0 (.lst [.str z])=H1 at g1 jj⊢;have ra1:∀a b t,g a b=some t->b7 K 200 H1 t (vw a b).1 (vw a b).2:=λa b t e=>(bU.of (g1 _ _ (ra.fr a b t e).1),(ra.fr a b t e).2.2.1.pos,(ra.fr a b t e).2.2.2.1,(ra.fr a b t e).2.2.2.2)
 sleep 206
 sleep 58
 sleep 38
 refine (547 (_,(rfl,ex,B.HM,B.Jd,es,fV s z 200 17 vw g (aR U Rt (rfl,bd.done m200 ra1,hU,u17,by decide,by decide,by decide,rt0 z rfl,rts,λl cs H2 g2 nl wo bf=>?_)))))
 obtain ⟨q1,q2⟩:=qz cs bf;obtain ⟨ts,el,lt,each⟩:=wo.ex;have lst:∀(j:Nat) (d:KA),cs[j]?=some d->Nm (aI d):=λj d hd=>by
  by_cases c0:j=0
  ·subst c0;rw[bf.first] at hd;cases hd;exact mz
  ·refine si (bf.from_ j d 42 hd) λi c y _hi=>?_
   refine fJ _hi λ_ _ _ e _r1 _=>?_
   obtain ⟨t,ht⟩:=_r1;rw[e];have:aI (c++ [y])=y:=by unfold aI;simp
   rw[this];exact (ra.nm _ _ _ ht).2
 refine (l,rfl,(_,aQ.of el),cX (xs:=ts.map V.ref) (λk σ H'=>(∃o2:Option V,σ= [KJ x,some 216,o2])/\ax H2 H'/\∀(j:Nat) (d:KA),j<k->cs[j]?=some d->Blk ps bs (aI d)) ((none,rfl),.refl _,λj d h=>absurd h (IU _)) (λk σ H' _ h=>aQ.of (h.2.1 _ _ el)) ?_ ?_)
 ·rintro k y σ H3 hy ⟨⟨o2,rfl⟩,g3,bl⟩;rw[GJ] at hy;obtain ⟨t,ht,rfl⟩:=HB.mp hy;have kl:k<cs.length:=by rw[<-lt];exact (G3.mp ht).1
  have hc:=G1 kl;generalize cs[k]=c at hc;refine dY (each k t c ht hc) λcl rl p q _hi=>?_
  refine fJ _hi λe1 e2 _ rt ncl e3=>?_
  have nl:=lst k c hc;have k3:=g2.trans g3;have c1:1<=c.length:=by
   cases c with
   |nil=>exact absurd nl.1 (by show ¬1<=(sL "").length;decide)
   |cons _ _=>simp
  have al:iR 159 (-1)=some (.str 348):=fc (λz=>by rw[z] at c1;simp at c1)
  have AE:=jj.same k3;refine dY AE.at_ λdx3 s3 b3 fs3 _hi=>?_
  refine jS _hi λdk3 _hj=>?_
  refine iY _hj λex3 es3 eb3 bd3 hb3 fm3 sF3 bF3 pb3=>?_
  refine (aN x _ dx3 _ (rfl,ex3,B.HM,B.JP,fm3 _ 13,aN t _ _ _ (rfl,rfl,bU.of (g3 _ _ e1),rfl,ν,aN cl _ _ _ (rfl,rfl,aQ.of (g3 _ _ e2),al,jR x (.str 348) F1 rows m g bs ns ps (rfl,AE,ok,few,.inl (ν,nl),λz'=>absurd (ν,nl) z',λz' ez' mz'=>?_)))))
  injection ez' with ez'
  subst ez';refine (λH4 g4 nb=>?_,λlw H4 cw goal g4 nlw ew wy gm gl ga=>?_)
  ·exact ⟨rfl,mB.i (dT rfl (q1 k c t cl rl p q H4 ((g1.trans k3).trans g4) (g1.free ncl) hc bl (λ⟨b',h1,h2⟩=>nb b' h1 h2) (g4 _ _ (g3 _ _ e1)) (g4 _ _ (g3 _ _ e2)) (g4 _ _ (g3 _ _ e3)) rt))⟩
  ·refine ⟨rfl,mB.i (dF nofun ⟨⟨_,rfl⟩,g3.trans g4,λj d hj hd=>?_⟩)⟩
   by_cases cj:j=k
   ·subst cj;rw[hc] at hd;cases hd;exact (goal,gm,gl)
   ·exact bl j d 42 hd
 ·rintro σ H3 ⟨⟨o2,rfl⟩,g3,bl⟩;rw[G2,lt] at bl;refine (by show 1<=sizeLine;decide,λxa na=>uP na λd H4 gx ea ed ne gd edd=>(rfl,d,ea,?_))
  exact q2 (λj d hd=>bl j d (G3.mp hd).1 hd) d _ (((g1.trans g2).trans g3).trans gd) edd
theorem Ez {dV:Value} (F:bu K "chosen" "chosen" Cs dV f fd) (XZ35:545 138 5 Jr ["self","good"] [] (yt K mt Id on)):544 138 6 f fd ["recipe","larder"] (j9 K GT mt on):=by
 have sc:aC ["recipe","larder","told","take","pair"] ["recipe","larder"] (au Cs):=dI 48
 sleep 2
 ·obtain ⟨_,_,_,_,_,_,_,_,_,_,_,_,_,_,_,_,_,_,rfl,_⟩:=h
  rfl
 refine ix h λr x dp ds db pl ks nm n _hi=>?_
 refine ix _hi λF1 rows m g bs ns ps es vw _hj=>?_
 refine fJ _hj λ_r1 rc k100 knm s7 _hk=>?_
 refine gW _hk λn60 qD qE=>?_
 sleep 32;exists _,(ae (555 136) (ae (cv 482 rfl (cp 225) (iT 3 sc) (ae (554 (sY XZ35 hr 13 cG 89 (226<*>aj))) (ar (bG (546 114 ((@cE _ _ _ _ _ (226<*>(325<*>(325<*>aj))))<*>aj)))))) 326))
 try dsimp only[cxK]
 sleep 45;sleep 6
 obtain ⟨dr,lt,fs,er,ft,fp,⟨ts,el,tl,each⟩⟩:=rc.ex;sleep 151;refine (by show 0<=sizeLine;decide,λl nl=>?_)
 have g0:=ag nl 130;have w0:yz H (556 l 130) l ks [] (λz c p q=>eW es ps bs z c/\oz vw c p q):=([],ac,rfl,HC _,λi t k r h=>by simp at h)
 generalize ay H l 130=H0 at g0 w0⊢;try dsimp only[aU,bc]
 refine gQ (λNq=>∀(rs:List gU) (o3 o4:Option V) (H':Hp),ax H H'->rs.length=ks.length->(yz H H' l ks rs 218)->Nq [some (.ref r),some 328,some 176,o3,o4] H') 91 ?_
 ·refine (aN r _ dr _ (_,(rfl,g0 _ _ er,B.IO,B.Iy,ft,lt,rfl,(_,aQ.of (g0 _ _ el)),cX (xs:=ts.map V.ref) (λi σ H'=>ax H H'/\(∃rs:List gU,rs.length=i/\yz H H' l ks rs 218)/\(∀(j:Nat) (k':KI),j<i->ks[j]?=some k'->sg es ps bs k'.1)/\∃o3 o4:Option V,σ= [KJ r,KJ x,KJ l,o3,o4]) (g0,([],rfl,w0),λj k h=>absurd h (IU _),aR none none rfl) (λi σ H' _ h=>aQ.of (h.1 _ _ el)) ?_ ?_)))
  ·rintro i v σ H1 hv ⟨g1,⟨rs,rl',cw⟩,pre,o3,o4,rfl⟩;rw[GJ] at hv;cases ht:ts[i]? with
   |none=>rw[ht] at hv;cases hv
   |some t=>
    rw[ht] at hv;cases hv;have il:i<ks.length:=by rw[<-tl];exact (G3.mp ht).1
    have hk:=G1 il;generalize ks[i]=k at hk;obtain ⟨am,e1,e2⟩:=each i t k ht hk;have nk:=knm k (G5 hk);have s1:=s7.same g1;refine dY s1.lb.at_ λdx s0 b0 fs' _hi=>?_
    sleep 58
    sleep 145
    refine (547 (rfl,ex,B.HM,B.Ke,fm _ 13,aN t _ _ _ (rfl,rfl,bU.of (g1 _ _ e1),rfl,jR x (.str k.1) F1 rows m g bs ns ps (cU vw nm (oz vw) (rfl,s1.lb,by lia,s1.ok,by lia,.inl (k.1,rfl,nk),s1.ra,s1.hU,by lia,λy ey=>yf _ _,λc p q y t r s h1 h2 h3=>u8 h1 h3,λnn=>absurd (k.1,rfl,nk) nn,λy ey _ cs hbf=>?_)))))
    cases ey;refine (λkk c pt cl rl p q' H2 g2 ncl hkk bl nb e1' e2' e3' hRt=>?_,λall d H2 g2 ed=>qE i k d H2 381 hk pre (vd 480 hbf all) ed)
    have due:=yx 480 hbf hkk bl nb
    obtain ⟨ts2,hl2,tl2,rk2,_⟩:=(cw.same g2).ex;have cll:cl≠l:=λz=>by
     obtain ⟨_,hl1,_⟩:=cw.ex;rw[z,hl1] at ncl;cases ncl
    try dsimp only[aU,bc]
    refine (.inl (rfl,_,aQ.of hl2),aN t _ _ _ (rfl,rfl,bU.of (g2 _ _ (g1 _ _ e1)),rfl,aN pt _ _ _ (rfl,rfl,bU.of e1',rfl,aN pt _ _ _ (rfl,rfl,bU.of e1',rfl,by show 3<=sizeLine;decide,λt3 n3=>?_))))
    have k3:=ag n3 211;have et3:ay H2 t3 211 t3=some (.tup [.str k.1,.ref cl,.ref rl]):=ac;generalize ay H2 t3 211=H3 at k3 et3⊢;refine (cU l _ _ (rfl,rfl,k3 _ _ hl2,by rw[G2];lia,dA ((g1.trans g2).trans k3) nl _,(rs++ [(c,p,q')],by rw[G8,rl'];rfl,?_),λj k' hj hk'=>?_,aR _ _ rfl))
    ·have:=((cw.same g2).same k3).snoc (k3 _ _ hl2) (k:=k) (by rw[rl'];exact hk) (t:=t3) (cl:=cl) (rl:=rl) (c:=c) (p:=p) (q:=q') (due,hRt) et3 (k3 _ _ e2') (k3 _ _ e3') (g1.free ncl) cll
     rw[GW] at this;exact this
    ·rcases HR.mp hj with w|rfl
     ·exact pre j k' w hk'
     ·rw[hk] at hk';cases hk';exact yy due
  ·rintro σ H1 ⟨g1,⟨rs,rl',cw⟩,pre,o3,o4,rfl⟩;rw[G2,tl] at rl';exact hN rs o3 o4 _ g1 rl' cw
 intro rs o3 o4 H1 g1 rl' cw;exact (qD l rs H1 g1 nl rl' cw)
theorem EA {dV:Value} (F:bu K "needs_of" "needs_of" Ct dV f fd) (DZ5:543 bC 3 "plus" ["one","other"] [] (sR K)) (DZ7:543 bC 3 "product" ["one","other"] [] (pf K)) (DZ14:543 bC 3 "factor_of" ["recipe","plates"] [] (rJ GT)) (XZ3:543 138 2 "fraction" ["top","bottom"] [.int 1] (lW Iw)) (XZ36:543 138 6 "chosen" ["recipe","larder"] [] (j9 K GT mt on)):544 138 7 f fd ["dishes","larder"] (jd K GT mt on):=by
 have sc:aC ["dishes","larder","sums","dish","factor","take","choice","name","amount"] ["dishes","larder"] (au Ct):=dI 48
 sleep 2
 ·obtain ⟨_,_,_,_,_,_,_,_,_,_,_,_,_,_,_,_,_,_,rfl,_⟩:=h
  rfl
 refine ix h λld x dp ds db nm n F1 rows _hi=>?_
 refine ix _hi λm g bs ns ps es vw dd DT _hj=>?_
 refine fJ _hj λ_r1 da nmz s7 n60 _hk=>?_
 refine gW _hk λtw qD qE=>?_
 sleep 32;exists _,(ae (555 b8) (ae (cv 482 rfl (cp 95) (iT 3 sc) (ae (554 (dW DZ14 hr (226<*>(226<*>aj)))) (ar (cv 482 rfl (tK rfl B.J3 ((cA 226 rfl)<*>((fQ XZ36 hr 13 rfl cG (226<*>210))<*>aj))) (oU rfl 476) (ae (cf 7 sc (av aS (av aA 415 af 22) 451 22)) (ae (cf 8 sc (dW DZ7 hr ((dW DZ7 hr (253<*>(161<*>aj)))<*>((av aA 415 af 22)<*>aj)))) (ar (cH 187 114 (pv 7) (dW DZ5 hr ((eC 187 114 (pv 7) 492 252)<*>((pv 8)<*>aj))) rfl)))))))) (ar (aE (aL (mK rfl) rfl B.Jx PyProof.Rows.Boot.«sorted» ((sH Ip PySem.F.slot_dict_items PySem.F.type_dict_items ya 114)<*>aj))))))
 try dsimp only[cxK]
 sleep 45;sleep 6
 sleep 227;sleep 78
 sleep 160
 generalize ay H d 83=H0 at g0 sm0⊢;try dsimp only[aU,bc]
 refine cut (λσ H'=>ax H H'/\(∃rows',lG H' d rows' 442/\∀y∈rows'.map 111,y∈nm)/\kS 446 127 442/\(∀d'∈dd,∀k∈d'.ks,sg es ps bs k.1)/\∃o3 o4 o5 o6 o7 o8:Option V,σ= [KJ ld,KJ x,KJ d,o3,o4,o5,o6,o7,o8]) 91 ?_
 ·refine (ld,rfl,(_,aQ.of (g0 _ _ da.at_)),cX (xs:=dd.map λd=>V.ref d.t) (λi σ H'=>ax H H'/\(∃rows',lG H' d rows' 88/\∀y∈rows'.map 111,y∈nm)/\kS 446 (12*i) 88/\(∀(i':Nat) (d':mZ),i'<i->dd[i']?=some d'->∀k∈d'.ks,sg es ps bs k.1)/\∃o3 o4 o5 o6 o7 o8:Option V,σ= [KJ ld,KJ x,KJ d,o3,o4,o5,o6,o7,o8]) (g0,([],sm0,λy hy=>nomatch hy),kS.nil,λi' _ h=>absurd h (IU _),fV none none none none none none rfl) (λi σ H' _ h=>aQ.of (h.1 _ _ da.at_)) ?_ ?_)
  ·intro i v σ H1 hv h_;sleep 171
   refine cL _hi λpre _hj=>?_
   sleep 252
   clear h_ _hi _hj;sleep 90;rw[GJ] at hv;cases hd:dd[i]? with
   |none=>rw[hd] at hv;cases hv
   |some d9=>
   rw[hd] at hv;cases hv;have il:i<dd.length:=(G3.mp hd).1;obtain ⟨et,rc,kok,pl1,pl2,n1,n2⟩:=(da.same g1).each d9 (G5 hd);have kf:=kok.few nm12;have bn:=yF n1 n2;have bpl:=yF pl1 pl2;try dsimp only[aU,bc]
   refine cut (λσ H'=>ax H1 H'/\∃(tf:Addr) (fp fq:Int),Fr fp fq d9.n d9.pl/\H' tf=some (.tup [.int fp,.int fq])/\σ= [KJ ld,KJ x,KJ d,KJ d9.t,KJ tf,o5,o6,o7,o8]) (λN hN=>(aN d9.t _ _ _ (rfl,rfl,bU.of et,rfl,aN d9.t _ _ _ (rfl,rfl,bU.of et,rfl,aN d9.r d9.n d9.pl d9.ks (rfl,rc,pl1,pl2,λfp fq f tf H2 g2 etf=>hN _ _ (g2,cU tf fp fq (f,etf,rfl))))))) ?_
   rintro σ H2 ⟨g2,tf,fp,fq,f1,etf,rfl⟩;have bfp:Bd 10 fp:=bn.of_le f1.bt;have bfq:Bd 10 fq:=bpl.of_le f1.bb;obtain ⟨dr,lt,fs,er,ft,_,⟨ts,el,tl,each⟩⟩:=(rc.kd (KD.of g2)).ex;have et2:=g2 _ _ et;refine (aN d9.t _ _ _ (rfl,rfl,bU.of et2,rfl,aN d9.r _ dr _ (_,(rfl,er,B.IO,B.Iy,ft,aN d9.t _ _ _ (rfl,rfl,bU.of et2,rfl,jR d9.r x dp ds db d9.pl d9.ks nm n (jR F1 rows m g bs ns ps es vw (rfl,rc.kd (KD.of g2),by lia,λk hk=>nmz _ (kok.inn k hk),s7.same 381,n60,λl rs H3 g3 nl rl cw=>?_,λj k a H3 g3 hk prek nf ea=>qE i j d9 k a H3 hd hk pre prek nf 203 ea)))))))
   have cw':=cw;obtain ⟨ts2,el2,tl2,_,each2⟩:=cw.ex;have g03:=(g1.trans g2).trans g3;have elt3:=g3 _ _ el;refine (aR lt l (rfl,(_,aQ.of elt3),(_,aQ.of el2),pO (xs:=ts.map V.ref) (ys:=ts2.map V.ref) (λj σ H'=>ax H H'/\KD H3 H'/\(∃rows',lG H' d rows' 354/\∀y∈rows'.map 111,y∈nm)/\kS 446 (12*i+j) 354/\(∀(j':Nat) (k':KI),j'<j->d9.ks[j']?=some k'->sg es ps bs k'.1)/\∃o5 o6 o7 o8:Option V,σ= [KJ ld,KJ x,KJ d,KJ d9.t,KJ tf,o5,o6,o7,o8]) ?_ ?_ ?_ ?_))
   ·exact (g03,KD.of 351,(rows1,(sm1.same (g2.trans g3)),rl1),gk1,λj' _ h=>absurd h (IU _),aN _ _ _ _ rfl)
   ·rintro j σ H4 _ ⟨_,k4,_⟩;exact (aQ.of (k4 _ _ 70 70 elt3),aQ.of (k4 _ _ 70 70 el2))
   ·rintro j x' y' σ H4 T hx hy ⟨g4,k4,⟨rows4,sm4,rl4⟩,gk4,pre4,o5,o6,o7,o8,rfl⟩ nT;obtain ⟨t,ht,rfl⟩:=jN hx;obtain ⟨t2,ht2,rfl⟩:=jN hy;have jk:j<d9.ks.length:=by rw[<-tl];exact (G3.mp ht).1
    have jr:j<rs.length:=by rw[<-tl2];exact (G3.mp ht2).1
    sleep 87
    refine rX _hi λcl rl' _hj=>?_
    refine gp _hj λe3 e4 e5 _hk=>?_
    refine cL _hk λ_ _=>?_
    sleep 111;have gT:=ag nT 536;have kd:=k4.trans (KD.of gT);have up:∀a o,(∀kv,o≠HO.dK kv)->(∀kv,o≠HO.dT kv)->H3 a=some o->ay H4 T 536 a=some o:=kd;have f1':=up _ _ 70 70 (g3 _ _ e1)
    have f2':=up _ _ 70 70 (g3 _ _ e2)
    have f3':=up _ _ 70 70 e3
    have f4':=up _ _ 70 70 e4
    have f5':=up _ _ 70 70 e5
    have ftf:=up _ _ 70 70 (g3 _ _ etf)
    have sm5:=sm4.same gT;have g5:=g4.trans gT;sleep 142;clear up;generalize ay H4 T 536=H5 at*;try dsimp only[aU,bc]
    refine gQ (λNq=>Nq [some 514,some 328,some 486,some (.ref d9.t),some (.ref tf),some 246,some (.ref t2),some (.str 356),o8] H5) (λN hN=>(aN t2 _ _ _ (rfl,rfl,bU.of f3',rfl,ν,aN cl _ _ _ (rfl,rfl,aQ.of f4',(fc rtv.1),hN)))) ?_
    refine cut (λσ H'=>ax H5 H'/\∃(ap aq tp tq:Int) (tb:Addr),Fr ap aq (k.2.1*fp) (k.2.2*fq)/\Fr tp tq (ap*r.2.1) (aq*r.2.2)/\Bd 301 tp/\Bd 228 tq/\H' tb=some (.tup [.int tp,.int tq])/\σ= [KJ ld,KJ x,KJ d,KJ d9.t,KJ tf,KJ t,KJ t2,some (.str 356),KJ tb]) 91 ?_
    ·refine (553 (rfl,rfl,bU.of f1',rfl,fV am tf _ _ _ _ (rfl,(bU.of f2',klo.pos,kb1.mono 13,kb2.mono 13),(bU.of ftf,f1.pos,bfp.mono 13,bfq.mono 13),λap aq f2 ta H6 g6 eta=>?_)))
     have ba1:=(kb1.mul bfp).of_le f2.bt;have ba2:=(kb2.mul bfq).of_le f2.bb;refine (aN t2 _ _ _ (rfl,rfl,bU.of (g6 _ _ f3'),rfl,fV ta rl' ap aq r.2.1 r.2.2 (rfl,(bU.of eta,f2.pos,ba1.mono 13,ba2.mono 13),(bU.of (g6 _ _ f5'),rlo.pos,rb1.mono 13,rb2.mono 13),λtp tq f3 tb H7 g7 etb=>hN _ _ (g6.trans g7,aN ap aq tp tq (tb,(f2,f3,((ba1.mul rb1).of_le f3.bt).mono 13,((ba2.mul rb2).of_le f3.bb).mono 13,etb,rfl))))))
    intro σ H7 h_;refine cL h_ λg7 _hi=>?_
    refine dY _hi λap aq tp tq _hj=>?_
    refine jS _hj λtb _hk=>?_
    refine fJ _hk λf2 f3 bt1 bt2 etb _r1=>?_
    sleep 101;have sm7:=sm5.same g7;refine (d,rfl,.inl (_,.inl sm7.at_),aR 0 1 (rfl,Bd.one.mono 13,λ_ p' q' f0 tz H8 g8 etz=>?_,λz=>absurd z 13))
    obtain ⟨rfl,rfl⟩:=DV f0;have sm8:=sm7.same g8;sleep 121
    obtain ⟨z2,z3⟩:=gk4.bd D0 bD 42 356
    have rf4:=jP sm4.nd rl4;refine (fV th tb _ _ tp tq (rfl,(bU.of eth,z1,z2.mono 13,z3.mono 13),(bU.of (g8 _ _ etb),f3.pos,bt1.mono 13,bt2.mono 13),λsp sq f4 tsm H9 g9 ets=>?_))
    have sm9:=sm8.same g9;refine (aR d _ 450)
    have bT:Bd 301 (k.2.1*d9.n*r.2.1):=((kb1.mul bn).mul rb1).mono 13
    have bB:Bd 228 (k.2.2*d9.pl*r.2.2):=((kb2.mul bpl).mul rb2).mono 13
    have T0:0<=k.2.1*d9.n*r.2.1:=IM (IM (Hv k10) 42) (Hv r0)
    have bV:k.2.2*d9.pl*r.2.2∣DT*oN es vw:=Int.mul_dvd_mul (da.dv d9 (G5 hd) k (G5 hk)) (B2 due rtv);obtain ⟨eq,gk'⟩:=wA gk4 klo.pos 42 rlo.pos f1 f2 f3 f4 T0 (yH bT) bV
    have eN:wx 147 d9 88 (j+1)=kc 354 356 (sp,sq):=by
     rw[rL hk,<-eq];unfold rH;rw[hW]
    have pl':∀y∈(fS rows4 356 tsm).map 111,y∈nm:=λy hy=>by
     sleep 188
     by_cases c:y'=aI r.1
     ·rw[c];exact tZ s7.d7.inn (kok.inn k (G5 hk)) due
     ·rw[if_neg c] at hm;exact rl4 y' (G9.mpr (_,hm,rfl))
    have g79:=(g7.trans g8).trans g9;refine (dA (g5.trans g79) nd _,(kd.trans (KD.of g79)).trans (KD.putK sm9.at_ _),(_,eN▸sm9.put ets,pl'),eN▸gk',λj' k' hj' hk'=>?_,aN _ _ _ _ rfl)
    rcases HR.mp hj' with w|rfl
    ·exact pre4 j' k' w hk'
    ·rw[hk] at hk';cases hk';exact yy due
   ·intro σ H4 h_;refine fJ h_ λg4 k4 _r1 gk4 pre4 _hi=>?_
    refine dY _hi λo5 o6 o7 o8 _r2=>?_
    clear h_ _hi;obtain ⟨rows4,sm4,rl4⟩:=_r1;subst _r2;have lmin:min (ts.map V.ref).length (ts2.map V.ref).length=d9.ks.length:=by rw[G2,G2,tl,tl2,rl];exact Nat.min_self _
    rw[lmin] at sm4 gk4 pre4;rw[vh 173,<-oK hd] at sm4 gk4;refine (g4,(rows4,sm4,rl4),gk4.mono 42,λi' d' hi' hd' k hk=>?_,fV _ _ _ _ _ _ rfl)
    rcases HR.mp hi' with w|rfl
    ·exact pre i' d' w hd' k hk
    ·rw[hd] at hd';cases hd';obtain ⟨j',hj'⟩:=GP.mp hk;exact pre4 j' k (G3.mp hj').1 hj'
  ·intro σ H1 h_;sleep 171
   refine cL _hi λpre _hj=>?_
   sleep 252
   clear h_ _hi _hj;sleep 90;rw[G2,Hn 173] at sm1 gk1;rw[G2] at pre;refine hN _ _ (g1,(rows1,sm1,rl1),gk1.mono 42,λd' hd' k hk=>?_,fV _ _ _ _ _ _ rfl)
   obtain ⟨i',hi'⟩:=GP.mp hd';exact pre i' d' (G3.mp hi').1 hi' k hk
 intro σ H1 h_;sleep 171
 refine cL _hi λallF _hj=>?_
 sleep 252
 clear h_ _hi _hj;sleep 90;refine (.inr (.inr (.inl (rfl,.inl (_,sm1.at_)))),aR d _ (rfl,rfl,sm1.at_,λv nv=>?_))
 have gv:=ag nv 295
 have rf1:=jP sm1.nd rl1;have sm2:=sm1.same gv;refine (cU v d rows1 (rfl,ac,sm2.at_,sm2.nd,by lia,λl ys as H2 g2 nl el py sy ly each=>?_))
 have gA:=(g1.trans gv).trans g2;exact qD l H2 allF gA ((g1.trans gv).free nl) (sm2.srt g2 el py sy ly each 42) gk1 (λy hy=>by
  cases hv:sumF (iS es ps bs vw) dd y with
  |none=>exact absurd hv hy
  |some v=>
   obtain ⟨s',hm⟩:=sm1.dom y v hv;exact rl1 y (G9.mpr (_,hm,rfl)))
theorem EB {dV:Value} (F:bu K "__init__" "Recipe.__init__" Cu dV f fd):544 bC 1 f fd ["self","name","plates","takes","steps","links"] (ve GT):=by
 have sc:aC ["self","name","plates","takes","steps","links"] ["self","name","plates","takes","steps","links"] (au Cu):=dI 48
 sleep 255
 refine ix h λa dx lt ls lk nm pl xt xs _hi=>?_
 refine jS _hi λxk _hj=>?_
 refine fJ _hj λ_r1 e0 et es ek q=>?_
 sleep 47;exists _,(ae (gF 95 89 rfl) (ae (gF 95 114 rfl) (ae (gF 95 (dJ eP rfl B.Jm boot_list 327) rfl) (ae (gF 95 (dJ eP rfl B.Jm boot_list (161<*>aj)) rfl) (ar (gF 95 (dJ eP rfl B.Jm boot_list 512) rfl))))));try dsimp only[cxK]
 sleep 224;have l0:([]:List 215).length<=0:=G4 _;have l1:=E8 (s:= "name") (v:=nm) l0;have l2:=E8 (s:= "plates") (v:= .int pl) l1;refine (aN a _ dx _ (rfl,e0,B.IO,B.JI,by lia,?_))
 refine (aN a _ dx _ (rfl,ac,B.IO,B.Jg,by lia,?_))
 refine (aR lt xt (rfl,.inl (aQ.of (dC ac (dC e0 et))),λla na=>?_))
 have l3:=E8 (s:= "takes") (v:= .ref la) l2;refine (aN a _ dx _ (rfl,eY ac na,B.IO,B.Iy,by lia,?_))
 refine (aR ls xs (rfl,.inl (aQ.of (dC (eY ac na) (ag na _ _ _ (dC ac (dC e0 es))))),λl2 n2=>?_))
 have l4:=E8 (s:= "steps") (v:= .ref l2) l3;refine (aN a _ dx _ (rfl,eY ac n2,B.IO,B.JG,by lia,?_))
 refine (aR lk xk (rfl,.inl (aQ.of (dC (eY ac n2) (ag n2 _ _ _ (dC (eY ac na) (ag na _ _ _ (dC ac (dC e0 ek))))))),λl3 n3=>?_))
 exact (aN a _ dx _ (rfl,eY ac n3,B.IO,B.JH,by lia,q la _ _ (jc (tV (jc (tV (jc (tV (jc (jc (λ_ _ _ e=>e) _) _) na _) _) n2 _) _) n3 _) _) (Ab (jc (jc (λ_ _ _ e=>e) _) _) ac na) (dC (eY ac n3) (ag n3 _ _ _ (dC (eY ac n2) (ag n2 _ _ _ (dC (eY ac na) ac))))) ac vf.1 vf.2))
theorem EC {dV:Value} (F:bu K "_law_cell_at" "_law_cell_at" Cv dV f fd):544 bC 1 f fd ["_law_script","_law_k"] (xq K):=by
 have sc:aC ["_law_script","_law_k"] ["_law_script","_law_k"] (au Cv):=dI 48
 sleep 255
 obtain ⟨a,ns,k,rfl,hS,h0,q⟩:=h;exists _,(ae (bv (aD jp 89 (548 349) 162) (ar (aE (av aS 95 89 22))) aO) (ar (aE af)))
 try dsimp only[cxK]
 sleep 126;refine (aR a _ (rfl,.inl hS,d2 220 220))
 ·obtain ⟨v,hv⟩:=zh h0 c;exact (aN a _ _ _ (rfl,rfl,hS,hv,q v))
 ·exact q 0
theorem ED {dV:Value} (F:bu K "_law_names" "_law_names" Cw dV f fd):544 bC 1 f fd ["_law_number","_law_many"] rD:=by
 have sc:aC ["_law_number","_law_many","_law_cell","_law_letters","_law_base","_law_k","_law_at","_law_size","_law_step","_law_core","_law_names_here","_law_sign"] ["_law_number","_law_many"] (au Cw):=dI 48
 sleep 255
 obtain ⟨nb,many,rfl,m0,m1,q⟩:=h;exists _,(ae (555 (aB bw 95 af)) (ae (551 ff) (ae (554 ff) (ae (550 (fZ rfl B.Jn 316) 380 (ar (554 (aB dE 161 (av sD 119 (aB bw (aB bw (aB aW (aB cx 114 af) (aB cx (aB cx (aB aW 198 198) (aB aW af 198)) af)) af) af) 22))))) (ae (cf 6 sc 494) (ae (cf 7 sc 494) (ae (cf 8 sc (av aS (@bz _ _ _ _ (af<*>(af<*>(af<*>(af<*>(af<*>(af<*>(af<*>316)))))))) 494 22)) (ae (cf 9 sc (c6 ja 161 fK (cT (pv 7)))) (ae (cf 10 sc 136) (ae (550 (fZ rfl B.Jn 210) 380 (ae (cf 11 sc (av sD 119 (aB bw (aB cx (aB bA 114 af) (aB aW 198 (pv 8))) af) 22)) (ar (bv (aD jq 89 af 162) (ar (bG (546 (pv 10) ((aB dE (aB dE (aB dE (c6 ja (pv 9) fK (cT 415)) (av sD 119 (aB bA 198 af) 22)) (pv 11)) (c6 ja (pv 9) (cT 415) fK))<*>aj)))) (ar (bv (PW.pt (iZ (aD gY (aB bw 114 af) af 162) (iy (aD wW 89 af 162)))) (ar (bG (546 (pv 10) ((c6 ja 161 fK (cT (aB cx 198 af)))<*>aj)))) (ar (bv (aD gY (aB bw 114 af) af 162) (ar (bG (546 (pv 10) ((aB dE (c6 ja 161 fK (cT (aB bw 198 af))) (pv 11))<*>aj)))) (ar (bG (546 (pv 10) ((aB dE (aB dE (c6 ja (pv 9) fK (cT 415)) (pv 11)) (c6 ja (pv 9) (cT 415) fK))<*>aj)))))))))))) (ar (aE (pv 10)))))))))))))
 try dsimp only[cxK]
 refine FW ?_;intro D' r10 r9 r8 r7 r6 r5 r4 r3 r2 r1;exists (by show (1000003:Int)≠0;decide)
 have c0:=GO nb (show (0:Int)<1000003 by decide)
 have c1:=HD nb (show (0:Int)<1000003 by decide)
 have s9:(9000:Nat)<=sizeLine:=by decide
 have one:∀c:Nat,(⟨#[c]⟩:Str).length=1:=λ_=>rfl
 have sm:∀(x:Int),0<=x->x<2^30->Bd 30 x:=λx h0 h1=>by unfold Bd;lia
 have bd3:Bd 30 (3:Int):=by unfold Bd;decide
 try dsimp only[aU,bc]
 refine cut (λσ H'=>H=H'/\∃c:Int,0<=c/\c<1000003/\σ= [some (.int nb),some 539,some 390,some (.str fB),none,none,none,none,none,none,none,none]) (λN hN=>hN _ _ (rfl,_,c0,c1,rfl)) ?_
 clear c0 c1;rintro σ _ ⟨rfl,c,c0,c1,rfl⟩;refine gQ (λNq=>Nq [some (.int nb),some 539,some 390,some (.str fB),some (.str ""),none,none,none,none,none,none,none] H) (λN hN=>hN) ?_
 refine cut (λσ H'=>H=H'/\∃(b:Str) (o5:Option V),σ= [some (.int nb),some 539,some 390,some (.str fB),some (.str b),o5,none,none,none,none,none,none]/\b.length=12/\Lt b) 91 ?_
 ·refine (ν,by decide,by decide,f8 (λi σ H'=>H=H'/\∃(b:Str) (o5:Option V),σ= [some (.int nb),some 539,some 390,some (.str fB),some (.str b),o5,none,none,none,none,none,none]/\b.length=i/\Lt b) (rfl,aR _ none (rfl,rfl,Lt.nil)) (λi σ H' hi hP=>?_) (λσ H' hP=>?_))
  ·obtain ⟨rfl,b,o5,rfl,hb,hL⟩:=hP;have hi':i<12:=hi;have bk:Bd 30 (0+(i:Int)):=sm _ 42 42
   have b1:Bd 60 (171*171):=bk.mul bk;have b2:Bd 60 (3*171):=bd3.mul bk;have b3:Bd 62 (171*171+3*171+7):=(b1.add b2).add ((show Bd 61 (7:Int) by unfold Bd;decide))
   have i0:=GO (((c+1)*(171*171+3*171+7)).fmod 1013) (show (0:Int)<26 by decide)
   have i1:=HD (((c+1)*(171*171+3*171+7)).fmod 1013) (show (0:Int)<26 by decide)
   obtain ⟨ch,hch,hq⟩:=x2 i0 i1;refine (bk.ok bk,bd3.ok bk,(sm (c+1) 42 42).ok b3,(by show (1013:Int)≠0;decide),(by show (26:Int)≠0;decide),cU fB _ ch (rfl,rfl,by decide,hch,aR _ _ (rfl,rfl,?_,?_)))
   ·rw[one];lia
   ·exact (rfl,aR _ _ (rfl,by rw[Str.length_append,one,hb],hL.app (Lt.one hq)))
  ·obtain ⟨rfl,b,o5,rfl,hb,hL⟩:=hP;exact hN _ _ (rfl,aR b o5 (rfl,by rw[hb];rfl,hL))
 rintro σ _ ⟨rfl,b,o5,rfl,hb12,hL⟩;have hb:b.length<=12:=by lia
 have hz:b.length<=sizeLine:=by lia
 have a0:=GO (c.fdiv 3) (show (0:Int)<11 by decide)
 have z0:=GO (c.fdiv 40) (show (0:Int)<11 by decide)
 have t0:=GO (c.fdiv 500) (show (0:Int)<8 by decide)
 have t1:=HD (c.fdiv 500) (show (0:Int)<8 by decide)
 exists (by show (3:Int)≠0;decide,GZ 13),292
 exists (by show (40:Int)≠0;decide,GZ 13),292
 refine (by show 8<=sizeLine;decide,λls ns=>?_)
 have g1:=ag ns (.lst [.int 1,.int 3,.int 5,.int 7,.int 9,.int 11,.int 15,.int 17]);obtain ⟨v,hv,ev⟩:=BE (xs:= [V.int 1,V.int 3,V.int 5,V.int 7,V.int 9,V.int 11,V.int 15,V.int 17]) t0 (by show (c.fdiv 500).fmod 8<((8:Nat):Int);exact t1)
 obtain ⟨st,rfl,st0,st1,sto⟩:∃y:Int,v= .int y/\0<=y/\y<20/\pT y:=by
  simp at hv;rcases hv with rfl|rfl|rfl|rfl|rfl|rfl|rfl|rfl
  all_goals exact ⟨_,rfl,by decide,by decide,by unfold pT;decide⟩
 refine ((by show (500:Int)≠0;decide,GZ 13),139,aN ls _ _ _ (rfl,rfl,aQ.of ac,ev,?_))
 exists ν,b,rfl,hz;have hc:(eU b none (some 273)).length<=12:=HN (fM _ _ _) hb;refine (by show 0<=sizeLine;decide,λlp np=>?_)
 have z1:=HD (c.fdiv 40) (show (0:Int)<11 by decide)
 have a1:=HD (c.fdiv 3) (show (0:Int)<11 by decide)
 have hc10:(eU b none (some 273)).length<=10:=by rw[jK z0];lia
 have hcL:=hL.cut none (some 273);generalize eU b none (some 273)=core at*;have cz:core.length<=sizeLine:=by lia
 have g2:=g1.trans (ag np 130);have cl:∀lo hi,(eU core lo hi).length<=12:=λlo hi=>HN (fM _ _ _) hc
 have bl:∀lo hi,(eU b lo hi).length<=12:=λlo hi=>HN (fM _ _ _) hb
 try dsimp only[aU,bc]
 refine cut (λσ H'=>ax H H'/\∃(zs:KA) (o5 o11:Option V),σ= [some (.int nb),some 539,some 390,some (.str fB),some (.str b),o5,some (.int ((c.fdiv 3).fmod 11)),some (.int 273),some (.int st),some (.str core),KJ lp,o11]/\(zs.length:Int)=many/\H' lp=some 202/\∀(k:Nat) (z:Str),zs[k]?=some z->Nm z/\zP (c.fmod 3) (eU core none 116).cps.toList (eU core 116 none).cps.toList k (sgn 452 st k) z) 91 ?_
 ·refine (ν,by lia,by lia,f8 (λi σ H'=>ax H H'/\∃(zs:KA) (o5 o11:Option V),σ= [some (.int nb),some 539,some 390,some (.str fB),some (.str b),o5,some (.int ((c.fdiv 3).fmod 11)),some (.int 273),some (.int st),some (.str core),KJ lp,o11]/\zs.length=i/\H' lp=some 202/\∀(k:Nat) (z:Str),zs[k]?=some z->Nm z/\zP (c.fmod 3) (eU core none 116).cps.toList (eU core 116 none).cps.toList k (sgn 452 st k) z) (g2,cU [] o5 none (rfl,rfl,ac,λk z h=>by simp at h)) (λi σ H' hi hP=>?_) (λσ H' hP=>?_))
  ·refine cL hP λg _hi=>?_
   refine si _hi λzs o5 o11 _hj=>?_
   refine gp _hj λ_r1 hl e nz=>?_
   clear hP _hi _hj;subst _r1;have hi':(i:Int)<many:=by have:i<many.toNat:=hi;lia
   have i0:=GO (c.fdiv 7+171*st) (show (0:Int)<26 by decide)
   have i1:=HD (c.fdiv 7+171*st) (show (0:Int)<26 by decide)
   have hch:=zN i0 i1;have hq:97<=sgn 452 st i/\sgn 452 st i<=122:=by unfold sgn;lia
   rw[show 97+((c.fdiv 7+171*st).fmod 26).toNat=sgn 452 st i from rfl] at hch
   have k0:0<=(0+(i:Int)).fdiv 26:=by rw[Int.fdiv_eq_ediv_of_nonneg _ 13];lia
   have k1:(0+(i:Int)).fdiv 26<26:=by rw[Int.fdiv_eq_ediv_of_nonneg _ 13];lia
   obtain ⟨ch2,hch2⟩:=uT k0 k1;have app:∀(z:Str),ax H (ay H' lp (.lst (zs.map V.str++ [.str z])))/\ay H' lp (.lst (zs.map V.str++ [.str z])) lp=some (.lst ((zs++ [z]).map V.str)):=λz=>(dA g (g1.free np) _,by rw[ac,GW];rfl)
   have lnp:(zs.map V.str).length<sizeLine:=by rw[G2,hl];lia
   refine ((by show (7:Int)≠0;decide,GZ 13),(sm _ 42 42).ok (sm st 42 42),(by show (26:Int)≠0;decide),cU fB _ (sgn 452 st i) (rfl,rfl,by decide,hch,?_))
   have sn:∀z,Nm z/\zP (c.fmod 3) (eU core none 116).cps.toList (eU core 116 none).cps.toList i (sgn 452 st i) z->∀(k:Nat) (y:Str),(zs++ [z])[k]?=some y->Nm y/\zP (c.fmod 3) (eU core none 116).cps.toList (eU core 116 none).cps.toList k (sgn 452 st k) y:=λz hz' k y hy=>by
    by_cases ck:k<zs.length
    ·rw[G6 ck] at hy;exact nz k y hy
    ·rw[G7 42] at hy
     have:k-zs.length=0:=by
      cases hk:k-zs.length with
      |zero=>rfl
      |succ n=>rw[hk] at hy;simp at hy
     rw[this] at hy;cases hy;have:k=i:=by lia
     rw[this];exact hz'
   have q0:=GO 171 (show (0:Int)<11 by decide)
   have q1:=HD 171 (show (0:Int)<11 by decide)
   refine (d2 (λz26=>absurd m1 42) 454)
   ·refine (445,rfl,Bj (λm1c=>(d2 454 (λz12=>absurd m1 42))) (λm1n=>?_))
    ·refine (.inl (rfl,_,aQ.of e),ν,b,rfl,hz,cU lp _ _ 177)
     exists (hL.cut _ _).nm ?_ ?_
     ·rw[jK 42];lia
     ·exact bl _ _
     ·unfold zP;rw[if_pos m1c,jK 42]
      lia
    ·refine (445,rfl,Bj (λm2c=>?_) (λm2n=>?_))
     ·refine (.inl (rfl,_,aQ.of e),292,ν,b,rfl,hz,aR _ _ (rfl,rfl,?_,cU lp _ _ 177))
      ·(simp only[Str.length_append,one];have l3:=bl none (some ((0+(i:Int)).fmod 11));lia)
      ·exists ((hL.cut _ _).app (Lt.one hq)).nm ?_ ?_
       ·rw[Str.length_append,one];lia
       ·rw[Str.length_append,one,jK q0];lia
       ·unfold zP;rw[if_neg m1n,if_pos m2c];exact (_,pU _ _)
     ·refine (.inl (rfl,_,aQ.of e),ν,core,rfl,cz,aR _ _ (rfl,rfl,?_,ν,core,rfl,cz,aR _ _ (rfl,rfl,?_,cU lp _ _ 177)))
      ·(simp only[Str.length_append,one];have l1:=cl none 116;have l2:=cl 116 none;lia)
      ·(simp only[Str.length_append,one];have l1:=cl none 116;have l2:=cl 116 none;lia)
      ·exists (((hcL.cut _ _).app (Lt.one hq)).app (hcL.cut _ _)).nm ?_ ?_
       ·rw[Str.length_append,Str.length_append,one];lia
       ·rw[Str.length_append,Str.length_append,one,jK a0,zH a0];lia
       ·unfold zP;rw[if_neg m1n,if_neg m2n,pU,pU,List.append_assoc]
        rfl
  ·refine cL hP λg _hi=>?_
   refine si _hi λzs o5 o11 _hj=>?_
   refine gp _hj λ_r1 hl e nz=>?_
   clear hP _hi _hj;subst _r1;exact hN _ _ (g,cU zs o5 o11 (rfl,by lia,e,nz))
 intro σ H1 h_;refine cL h_ λg _hi=>?_
 refine si _hi λzs o5' o11 _hj=>?_
 refine gp _hj λ_r1 hl e nz=>?_
 sleep 34;exact (q lp H1 zs g e hl (λz hz=>by obtain ⟨k,hk⟩:=GP.mp hz;exact (nz k z hk).1) (wj sto 42 nz))
theorem EE {dV:Value} (F:bu K "_law_divisor_of" "_law_divisor_of" Cy dV f fd):544 bC 1 f fd ["_law_one","_law_other"] yi:=by
 have sc:aC ["_law_one","_law_other"] ["_law_one","_law_other"] (au Cy):=dI 48
 sleep 255
 obtain ⟨a,b,rfl,b0,q⟩:=h;exists _,(ae (eu 93 (aD ku 89 af 162) (ar (A6 (i:=0) (j:=1) rfl sc.nd rfl rfl 13 rfl rfl (89<*>((aB bw 95 89)<*>aj)) rfl))) (ar (aE (aL lM rfl B.J6 boot_abs 349))))
 try dsimp only[cxK]
 sleep 126;refine eA (λσ H'=>H=H'/\∃(g l:Int),σ= [some (.int g),some (.int l)]/\(l=0->0<=g)/\0<=l/\b6 g l=b6 a b)
  (λ(σ:L2.St) (_:Hp)=>match σ[1]? with|some (some (V.int l))=>l.toNat|_=>0) ⟨rfl,aR _ _ ⟨rfl,λz=>by lia,by lia,rfl⟩⟩ ?_ (λσ H Q Q' m h9=>by obtain ⟨v,e,s,h9⟩:=mV.e h9;obtain ⟨k,hk,h2⟩:=mB.e h9;exact mV.o e ⟨s,mB.o hk (m _ _ h2)⟩)
 rintro σ H' ⟨rfl,g,l,rfl,g0,l0,inv⟩;refine (rfl,Go 220 220)
 ·have lp:0<l:=by lia
  refine (c,aR _ _ (rfl,(rfl,aR l (g.fmod l) (rfl,λ_=>l0,GO g lp,?_)),?_))
  ·rw[nQ lp];exact inv
  ·have h1:=HD g lp;have h2:=GO g lp;show (g.fmod l).toNat<l.toNat
   lia
 ·have g1:=g0 c;subst c;rw[nR g1] at inv;rw[<-inv] at q;exists ν;rw[if_neg (show ¬g<0 by lia)]
  exact q
theorem EF {dV:Value} (F:bu K "_law_lowest" "_law_lowest" Cz dV f fd) (DZ41:543 bC 1 "_law_divisor_of" ["_law_one","_law_other"] [] yi):544 bC 2 f fd ["_law_top","_law_bottom"] xv:=by
 have sc:aC ["_law_top","_law_bottom","_law_by"] ["_law_top","_law_bottom"] (au Cz):=dI 48
 sleep 255
 obtain ⟨a,b,rfl,b0,hb,q⟩:=h;exists _,(ae (555 (dW DZ41 hr (95<*>210))) 371);try dsimp only[cxK]
 sleep 126;have c0:=sQ (a:=a) (show b≠0 by lia)
 have cb:=xu (a:=a) (show b≠0 by lia) hb
 have f:=AK (a:=a) (show b≠0 by lia)
 rw[zi b0] at c0 cb f;exact (aR a b (rfl,b0,411,411,by show 2<=sizeLine;decide,λt ht=>q _ _ f t _ (ag ht _) ac))
theorem EG {dV:Value} (F:bu K "_law_led_to" "_law_led_to" AA dV f fd):544 bC 1 f fd ["_law_pairs","_law_good"] jC:=by
 have sc:aC ["_law_pairs","_law_good","_law_known","_law_grows","_law_before","_law_one","_law_other"] ["_law_pairs","_law_good"] (au AA):=dI 48
 sleep 120
theorem EH {dV:Value} {hd:KH} (F:bu K "_law_led_to" "_law_led_to" CA dV f fd):rZ hd P w K mg base 1 f fd ["_law_pairs","_law_good"] (nj hd pY):=by
 have sc:aC ["_law_pairs","_law_good","_law_known","_law_grows","_law_before","_law_one","_law_other"] ["_law_pairs","_law_good"] (au CA):=dI 48
 sleep 11
 ·obtain ⟨_,_,_,_,_,rfl,_⟩:=h
  rfl
 sleep 165
 refine dY _hi λdp good kvs ps _hj=>?_
 refine gp _hj λ_r1 ep ky _hk=>?_
 refine cL _hk λfew q=>?_
 sleep 32;exists _,(ae (555 (k8 (jy 89 cg k7) rfl rfl 73 13)) (ae (551 cg) (ae (eu 93 (cW 119) (ae (554 (aL j5 rfl B.Jc boot_len 372)) (ae (zI (iI 93 hr.hd (wD 95) (vt (K:=K) rfl hr.hd 476) (ar (bv (eG (sM (iw hr) 198 114) 74) (ar (cH (iw hr) 114 415 cg rfl)) aO)))) (ar (551 (eK jq (aL j5 rfl B.Jc boot_len 372) 161 162)))))) 326)))
 try dsimp only[cxK]
 sleep 35;refine λd nd=>423
 have g0:ax H (ay (556 d 83) d 141):=by
  rw[kU];exact ag nd _
 have e0:(ay (556 d 83) d 141) d=some (.dK (bg [good] 71)):=ac;generalize ay (556 d 83) d 141=H0 at g0 e0⊢;sleep 6
 have dpd:d≠dp:=λz=>by rw[z,ep] at nd;cases nd
 try dsimp only[aU,bc]
 refine gQ (λNq=>∀H':Hp,H'=H0->Nq [some (.ref dp),some 261,some 486,some 71,none,none,none] H') (λN hN=>hN _ rfl) ?_
 intro _ rfl;refine cut (λσ H'=>ax H H'/\∃(ks:KA) (o4 o5 o6:Option V),σ= [KJ dp,some 261,KJ d,some 541,o4,o5,o6]/\H' d=some (.dK (bg ks 71))/\ks.Nodup/\ks.length<=1001/\∀y,y∈ks↔Led ps good y) 91 ?_
 ·refine eA (λσ H'=>ax H H'/\∃(ks:KA) (g:Bool) (o4 o5 o6:Option V),σ= [KJ dp,some 261,KJ d,some (.bl g),o4,o5,o6]/\H' d=some (.dK (bg ks 71))/\ks.Nodup/\good∈ks/\(∀y∈ks,Led ps good y)/\ks.length+jH 379 ks<=1001/\(g=false->∀a b,a∈ks->(a,b)∈ps->b∈ks))
   (λ(σ:L2.St) (H':Hp)=>match σ[3]?,H' d with|some (some (V.bl g)),some (.dK kvs)=>2*(1002-kvs.length)+(if g=true then 1 else 0)|_,_=>0)
   ⟨g0,aN [good] true none none ⟨none,⟨rfl,e0,by simp,by simp,λy hy=>by simp at hy;subst hy;exact .self,?_,λz=>nomatch z⟩⟩⟩ ?_ (λσ H Q Q' m h9=>by obtain ⟨v,e,h9⟩:=mV.e h9;obtain ⟨b,hb,h2⟩:=mB.e h9;exact mV.o e (mB.o hb (m _ _ h2)))
  ·have:=kH 379 [good];rw[G2] at this;show 1+_<=_
   lia
  sleep 128
  refine dY _hi λks gr o4 o5 _hj=>?_
  refine jS _hj λo6 _hk=>?_
  refine fJ _hk λ_r1 e1 nd1 hg hL _hl=>?_
  refine cL _hl λroom cl=>?_
  sleep 219;cases gr with
  |false=>exact hN _ _ ⟨g1,aN ks o4 o5 o6 ⟨rfl,e1,nd1,by lia,λy=>⟨hL y,λl=>l.closed (S:=λy=>y∈ks) hg (cl rfl)⟩⟩⟩
  |true=>
   refine (aR d _ (rfl,.inl e1,?_));try dsimp only[aU,bc]
   refine cut (λσ H'=>ax H H'/\∃(ks':KA) (o5 o6:Option V),σ= [KJ dp,some 261,KJ d,some 71,some (.int ((bg ks (V.bl true)).length)),o5,o6]/\H' d=some 519/\ks'.Nodup/\(∀y∈ks,y∈ks')/\(∀y∈ks',Led ps good y)/\ks'.length+jH 379 ks'<=1001/\ks.length<=ks'.length/\(ks'.length=ks.length->∀y∈ks',y∈ks)/\(∀a b,a∈ks->(a,b)∈ps->b∈ks')) (λN' hN'=>?_) ?_
   ·refine (aR dp _ (rfl,g1 _ _ ep,λo nf=>?_))
    have gf:ax (556 dp 120) (ay H1 dp 120):=λa u z=>by
     by_cases c:a=dp
     ·rw[c,ac] at z;cases z;rw[c];exact ac
     ·rw[ak c] at z⊢;exact g1 _ _ z
    have nf':ay H dp 120 d=none:=by rw[ak dpd];exact nd
    refine ug (λi σ H'=>ax (556 dp 120) H'/\∃(ks':KA) (o5 o6:Option V),σ= [KJ dp,some 261,KJ d,some 71,some (.int ((bg ks (V.bl true)).length)),o5,o6]/\H' d=some 519/\ks'.Nodup/\(∀y∈ks,y∈ks')/\(∀y∈ks',Led ps good y)/\ks'.length+jH 379 ks'<=1001/\ks.length<=ks'.length/\(ks'.length=ks.length->∀y∈ks',y∈ks)/\(∀(j:Nat) (a b:Str),j<i->ps[j]?=some (a,b)->a∈ks->b∈ks'))
     ⟨gf,cU ks o5 o6 ⟨rfl,by rw[ak dpd];exact e1,nd1,λ_ z=>z,hL,room,G4 _,λ_ _ z=>z,λj a b h=>absurd h 42⟩⟩ (λi σ H' _ h=>⟨h.1 _ _ ac,cJ 393 h.1⟩) ?_ ?_
    ·intro i k v b σ H2 hk eb2 h_;refine cL h_ λg2 _hi=>?_
     refine si _hi λks' o5 o6 _hj=>?_
     sleep 180
     sleep 34;obtain ⟨p1,p2,rfl,hpi⟩:=ky.at_ hk;have pm:(p1,p2)∈ps:=G5 hpi;have pm2:p2∈ps.map (·.2):=G9.mpr (_,pm,rfl);refine (cJ 393 g2,aR b _ (rfl,bU.of eb2,rfl,aR _ _ 345))
     refine (aR d _ (rfl,cq.k (k:= .inr p1) e2,mB.i ?_));rw[ik]
     by_cases hin:p1∈ks'
     ·rw[if_pos hin];refine gG (aR d _ (rfl,fj.k (k:= .inr p2) e2 461,?_))
      have gN:=dA (o:= .dK (putK (bg ks' 71) (.inr p2) 71)) g2 nf';refine (gN,cU (cB ks' p2) _ _ (rfl,by rw[ac,gj],fA nd2,λy hy=>df.mpr (.inl (sub y hy)),λy hy=>?_,HN (nZ pm2) room2,HN le2 (eD ks' p2).1,λe y hy=>?_,λj u v hj hv hu=>?_))
      ·rcases df.mp hy with k|rfl
       ·exact hL2 y k
       ·exact .step (hL2 _ hin) pm
      ·have k1:=(eD ks' p2).1;have e':ks'.length=ks.length:=by lia
       rcases df.mp hy with k|rfl
       ·exact eq2 e' y k
       ·exact eq2 e' _ ((eD ks' _).2.1 42)
      ·rcases HR.mp hj with k|rfl
       ·exact df.mpr (.inl (cl2 j u v k hv hu))
       ·rw[hpi] at hv;cases hv;exact df.mpr (.inr rfl)
     ·rw[if_neg hin];refine dP (g2,cU ks' _ _ (rfl,e2,nd2,sub,hL2,room2,le2,eq2,λj u v hj hv hu=>?_))
      rcases HR.mp hj with k|rfl
      ·exact cl2 j u v k hv hu
      ·rw[hpi] at hv;cases hv;exact absurd (sub _ hu) hin
    ·sleep 127
     refine si _hi λks' o5 o6 _hj=>?_
     sleep 180
     sleep 34;refine (cU dp o _ (g2 _ _ ac,nf,hN' _ _ (AT ep g2,cU ks' o5 o6 (rfl,by rw[ak dpd];exact e2,nd2,sub,hL2,room2,le2,eq2,λa b ha hab=>?_))))
     obtain ⟨j,hj⟩:=GP.mp hab;have jl:=(G3.mp hj).1;exact cl2 j a b (by rw[ky.len];exact jl) hj ha
   sleep 127
   refine si _hi λks' o5 o6 _hj=>?_
   sleep 180
   sleep 34;refine (aR d _ (rfl,.inl e2,(g2,aN ks' _ _ o5 (o6,(rfl,e2,nd2,sub good hg,hL2,room2,λhf a b ha hab=>?_))),?_))
   ·have nlt:=of_decide_eq_false hf;rw[cu,cu] at nlt;exact cl2 a b (eq2 42 a ha) hab
   ·show (match (some (some (V.bl (decide (_:Prop))))),H2 d with|some (some (V.bl g)),some (.dK kvs)=>2*(1002-kvs.length)+(if g=true then 1 else 0)|_,_=>0)<(match (some (some (V.bl true))),H1 d with|some (some (V.bl g)),some (.dK kvs)=>2*(1002-kvs.length)+(if g=true then 1 else 0)|_,_=>0)
    rw[e1,e2];show 2*(1002-(bg ks' (V.bl true)).length)+(if decide (_:Prop)=true then 1 else 0)<2*(1002-(bg ks (V.bl true)).length)+(if true=true then 1 else 0)
    rw[cu,cu,if_pos rfl]
    by_cases c:((ks.length:Nat):Int)<((ks'.length:Nat):Int)
    ·rw[decide_eq_true c,if_pos rfl]
     lia
    ·rw[decide_eq_false c,if_neg 13]
     lia
 sleep 128
 refine dY _hi λks o4 o5 o6 _hj=>?_
 refine gp _hj λ_r1 e1 ndk _hk=>?_
 refine cL _hk λkl mem=>?_
 sleep 101;exact (q d H1 ks g1 nd e1 ndk kl mem)
theorem EI {dV:Value} (F:bu K "_law_ratio" "_law_ratio" CB dV f fd) (DZ42:543 bC 2 "_law_lowest" ["_law_top","_law_bottom"] [] xv):544 bC 3 f fd ["_law_cell"] iL:=by
 have sc:aC ["_law_cell","_law_number"] ["_law_cell"] (au CB):=dI 48
 sleep 255
 obtain ⟨c,rfl,q⟩:=h;exists _,(ae (cf 1 sc (aB bw (aB aW (aB bw 95 af) af) af)) (ar (aE (dW DZ42 hr ((aB cx af 89)<*>((aB cx af (aB bw (aB aW 89 af) af))<*>aj))))));try dsimp only[cxK]
 sleep 126;exists (by show (1000003:Int)≠0;decide),IntMulOk.of_right 13,(by show (999983:Int)≠0;decide)
 have n0:=GO 399 (show (0:Int)<999983 by decide)
 have n1:=HD 399 (show (0:Int)<999983 by decide)
 have m0:=GO 178 (show (0:Int)<997 by decide)
 have m1:=HD 178 (show (0:Int)<997 by decide)
 refine (IntMulOk.of_right 13,(by show (997:Int)≠0;decide),aR _ _ (rfl,by lia,?_,λp' q' f=>q p' q' (zE f.same 42 f.pos 42) f.to ?_ ?_ f))
 ·unfold Bd;lia
 ·have:=f.bt;unfold Bd;lia
 ·have:=f.bb;unfold Bd;lia
theorem EJ {dV:Value} (F:bu K "_law_deed" "_law_deed" CC dV f fd) (DZ33:545 bC 3 Js ["self","good"] [] (tS mt)) (DZ34:545 bC 3 Jl ["self","good","other","ratio"] [.non] (mH mt)) (DZ45:543 bC 3 "_law_ratio" ["_law_cell"] [] iL) (XZ29:545 138 3 Ju ["self","good","other"] [] (uX K mt Id Iu)):544 bC 4 f fd ["_law_larder","_law_told","_law_names_here","_law_cell"] (rM K mt):=by
 have sc:aC ["_law_larder","_law_told","_law_names_here","_law_cell","_law_one","_law_other"] ["_law_larder","_law_told","_law_names_here","_law_cell"] (au CC):=dI 48
 sleep 255
 refine kT h λL l c nm n F1 _hi=>?_
 refine fJ _hi λ_r1 _r2 n60 el n2 _hj=>?_
 refine cL _hj λnmz q=>?_
 sleep 47;obtain ⟨et,rows,m,g,bs,ns,ps,es,vw,s7,tw⟩:=_r2;exists _,(ae (554 (av aS 114 (aB bw 412 145) 22)) (ae (cf 5 sc (av aS 114 (aB bw (aB bA 412 145) 145) 22)) (ar (bv (aD gY (aB bw 119 af) af 162) (ae (xC rfl rfl (λpins E=>(ar (bG (zG (K:=K) rfl XZ29 hr 13 95 (161<*>512))))) (BU B.JU rfl B.JN (λpins a=>(ar yU)) xD)) (ar (cH 187 268 265 cg rfl))) (ar (bv (PW.pt (iZ (aD jp (aB bw 119 af) af 162) (iZ (aD ku 161 198 162) (iy (eG (du 187 265 268) 74))))) (ae (cH 187 268 265 (dW DZ45 hr (412<*>aj)) rfl) (ar (bG (i9 95 DZ34 hr 13 (161<*>(198<*>((dW DZ45 hr (412<*>aj))<*>aj))))))) (ar (bv (aD gY (aB bw 119 af) af 162) (ae (bG (i9 95 DZ33 hr 13 (161<*>aj))) (ar (cH 187 268 161 cg rfl))) aO))))))))
 try dsimp only[cxK]
 sleep 45;sleep 6
 sleep 151;have nl:=s7.len;have b12:=s7.d7.bars;sleep 192
 have ln:((nm.map V.str).length:Int)≠0:=by lia
 have i0:∀e:Int,0<=e.fmod 318/\e.fmod 318<(nm.length:Int):=λe=>(GO _ lp,by have:=HD e lp;lia)
 obtain ⟨a,ea,ain⟩:=mn (i0 (c.fdiv 8)).1 (i0 (c.fdiv 8)).2;obtain ⟨b,eb,bin⟩:=mn (i0 ((c.fdiv 8).fdiv 318)).1 (i0 ((c.fdiv 8).fdiv 318)).2;have na:=nmz a ain;have nb:=nmz b bin;have w0:=GO c (show (0:Int)<8 by decide)
 refine cut (λσ H'=>σ= [KJ L.x,KJ L.t,KJ l,some 390,some (.str a),none]/\H=H') 91 ?_
 ·exact (201,aR l _ (rfl,.inl (aQ.of el),ln,aN l _ _ _ (rfl,rfl,aQ.of el,ea,hN _ _ 239)))
 sleep 141;refine cut (λσ H'=>σ= [KJ L.x,KJ L.t,KJ l,some 390,some (.str a),some (.str b)]/\H=H') 91 ?_
 ·exact (201,aR l _ (rfl,.inl (aQ.of el),(ln,GZ 42),aR l _ (rfl,.inl (aQ.of el),ln,aN l _ _ _ (rfl,rfl,aQ.of el,eb,hN _ _ 239))))
 sleep 141;obtain ⟨F0,la,back⟩:=s7.lb.part;sleep 253
 refine jS _hi λdk' _hj=>?_
 refine iY _hj λex es0 eb0 bd hb fm sF bF pb=>?_
 refine (139,rfl,Bj 454 λc0=>?_)
 ·refine (aN L.x _ dx _ (rfl,ex,B.HM,B.Ki,fm _ 13,fV L.x (.str a) (.str b) F0 rows ns (ps,(rfl,la,s7.ok,by lia,s7.nn,by lia,.inl (a,rfl,na),.inl (b,rfl,nb),λw=>absurd ((a,rfl,na),(b,rfl,nb)) w,λzg zo e1 e2 _ _=>?_))))
  cases e1;cases e2;refine (λ_ d l H2 c g2 el ed wy xa nxa=>(aR Iu true (rfl,B.JF,gG ?_)),λ_ F0' H2 ms k2 fg la2 nd hs=>?_)
  ·have g3:=g2.trans (ag nxa (xB xa 467 (some d)));exact q _ F1 (KF.of g3) 367
  ·obtain ⟨F',AD,k2',fg'⟩:=back H2 F0' _ ms k2 fg la2;have d2':=s7.d7k k2';have kz:(rF ps).length<sizeLine:=by rw[zV];lia
   have et2:=k2' _ _ (s7.lb.not et 84) et
   refine (549 (rfl,rfl,aQ.of et2,rfl,by show 2<=sizeLine;decide,λt1 m1=>(aR L.dp _ (rfl,fj.t (k:= [.inr a,.inr b]) (ag m1 _ _ _ d2'.ep) ac kz,?_))))
   have kA:KF 403 H (ay (ay H2 t1 221) L.dp (.dT (putK (rF ps) [.inr a,.inr b] 71))):=(k2'.ow.trans (KF.of (ag m1 _))).trans 495
   exact q _ F' kA (kA _ _ 343 et,fV _ m g bs ms _ (aR es vw (s7.part k2' fg' AD nd hs (ag m1 _) ain bin n60,tw)))
 ·have skip:∀H',ax H H'->Q .non H':=λH' g3=>q _ F1 (KF.of g3) 367
  by_cases c3:c.fmod 8<3
  ·refine (139,dT c3 ?_)
   have ne3:¬c.fmod 8=3:=by lia
   by_cases ab:a=b
   ·refine (rfl,mB.i (nF (by rw[ab]) (139,rfl,Gp ne3 (skip _ 351))))
   refine (rfl,mB.i (nT (λz=>ab (by injection z)) (by show 2<=sizeLine;decide,λt0 n0=>(549 (rfl,rfl,aQ.of (ag n0 _ _ _ et),rfl,aR L.ds _ (rfl,cq.t (k:= [.inr a,.inr b]) (ag n0 _ _ _ s7.d7.ee) ac,mB.i ?_))))))
   have k0:=ag n0 221;generalize ay H t0 221=H5 at k0⊢;cases hv9:aT (oC es) [.inr a,.inr b] with
   |some v9=>exact dP ⟨139,rfl,Gp ne3 (skip _ k0)⟩
   |none=>
    have new:∀t,(a,b,t)∉es:=λt z=>by
     obtain ⟨t',e',_⟩:=rE z;rw[hv9] at e';cases e'
    have kz:(oC es).length<sizeLine:=by rw[zR];lia
    refine gG (201,ν,λp q' p0 lo b1 b2 fq r0 H6 g6 er0=>?_)
    have k6:=k0.trans g6;have s6b:=s7.same k6;refine (549 (rfl,rfl,aQ.of (k6 _ _ et),rfl,by show 2<=sizeLine;decide,λt1 m1=>(aR L.ds _ (rfl,fj.t (k:= [.inr a,.inr b]) (ag m1 _ _ _ s6b.d7.ee) ac kz,?_))))
    have s7a:=s6b.same (ag m1 221);have er0a:=ag m1 221 _ _ er0;have kf7:KF 403 H (ay H6 t1 221):=KF.of (k6.trans (ag m1 _));generalize ay H6 t1 221=H7 at s7a er0a kf7⊢;have lb7:=s7a.lb.far s7a.d7.ee 84 397 193
    have kf8:KF 403 H (ay H7 L.ds 193):=kf7.trans 495
    refine dY lb7.at_ λdx s0 b0 fs _hi=>?_
    sleep 58
    refine iY _hj λex es1 eb1 bd hb1 fm sF bF pb=>?_
    refine (aN L.x _ dx _ (rfl,ex,B.HM,B.Kf,fm _ 13,201,ν,λp2 q2 _ _ _ _ fq2 r H8 g8 er=>?_))
    obtain ⟨rfl,rfl⟩:=z6 fq fq2;refine (jR L.x r a b p q' F1 rows m (cU g bs ns ⟨rfl,lb7.same g8,by lia,s7.nn,by lia,na,nb,er,p0,lo,b1,b2,ab,(λz=>by obtain ⟨t,z⟩:=(s7.st _ _).mp z;exact new t z),λF' H9 ms k9 fg lb9 er9 nd hs=>?_⟩))
    have kA:=(kf8.trans (KF.of g8)).trans k9.ow;exact q _ F' kA (kA _ _ 343 et,fV rows (m+2) _ bs ms ps (aR _ _ (s7a.standB er0a g8 k9 fg lb9 er9 p0 lo b1 b2 na nb nd hs ain bin ab new 42,tw.add p0 lo.pos (oJ fq).1 (oJ fq).2)))
  ·refine (139,dF c3 (139,rfl,Bj 454 (λ_=>skip _ 351)))
   have kz:(bg bs 71).length<sizeLine:=by rw[cu];lia
   refine (aN L.x _ dx _ (rfl,ex,B.HM,B.Kg,fm _ 13,fV L.x a F1 rows m g (aR bs ns (rfl,s7.lb,by lia,s7.nn,by lia,na,λH1 ms k1 jj nd hs=>?_))))
   have et1:=k1 _ _ (s7.lb.not et 84) et
   have d1:=s7.d7k k1;refine (549 (rfl,rfl,aQ.of et1,rfl,aR L.db _ (rfl,fj.k (k:= .inr a) d1.eb kz,?_)));rw[gj];have kA:KF 403 H (ay H1 L.db (.dK (bg (cB bs a) 71))):=k1.ow.trans 495
   refine q _ F1 kA (kA _ _ 343 et,fV rows m g _ ms ps (aR es vw ((s7.barred k1 jj nd (λy hy=>?_) (fA s7.d7.bnd) (λy hy=>?_)).more,tw)))
   ·rcases (hs y).mp hy with w|rfl
    ·exact s7.nsm y w
    ·exact ain
   ·rcases df.mp hy with w|rfl
    ·exact s7.d7.binn y w
    ·exact ain
theorem EK {dV:Value} (F:bu K "_law_takes" "_law_takes" CD dV f fd) (DZ45:543 bC 3 "_law_ratio" ["_law_cell"] [] iL):544 bC 4 f fd ["_law_script","_law_names_here","_law_turn"] (oO K):=by
 have sc:aC ["_law_script","_law_names_here","_law_turn","_law_takes_here","_law_cell","_law_good"] ["_law_script","_law_names_here","_law_turn"] (au CD):=dI 48
 sleep 255
 refine dY h λa l ns0 nm _hi=>?_
 refine jS _hi λtn _hj=>?_
 refine fJ _hj λ_r1 hS el n2 n12 q=>?_
 sleep 47;exists _,(ae (551 136) (ae (550 406 (iT 4 sc) (ar (bv (PW.pt (iZ (aD nM (aB bw 161 af) 478 74) (iy (aD gY (aB bw (aB bA 161 af) af) 114 162)))) (ae (cf 5 sc (av aS 89 (aB bw (aB bA 161 af) (548 210)) 22)) (ar (bv (aD eM 198 (lj (own:= "_law_take") (ys:= []) (js:= []) rfl 186 (cp 119) 504) 74) (ar (bG (546 119 ((@cE _ _ _ _ _ (198<*>((dW DZ45 hr ((aB bA 161 af)<*>aj))<*>aj)))<*>aj)))) aO))) aO))) (ar (aE 119))))
 try dsimp only[cxK]
 sleep 45;sleep 6
 sleep 192
 have ln:((nm.map V.str).length:Int)≠0:=by lia
 refine (by show 0<=sizeLine;decide,λlt nlt=>?_)
 have g1:=ag nlt 130;have e1:ay H lt 130 lt=some (.lst []):=ac;generalize ay H lt 130=H1 at g1 e1⊢;try dsimp only[aU,bc]
 refine cut (λσ H'=>ax H H'/\∃(ts:KB) (ks:Kv) (o4 o5:Option V),H' lt=some 146/\wL H' ts ks/\tX nm ks/\σ= [KJ a,KJ l,some (.int tn),KJ lt,o4,o5]) 91 ?_
 ·sleep 264
  have nll:ls≠lt:=λz=>by rw[z,e1] at nls;cases nls
  have ci:∀v∈jt 457 (some 2) (some 62),∃c:Int,v= .int c:=λv hv=>by
   sleep 88
  sleep 48;refine cX (xs:=cells) (λi σ H'=>H' ls=some 317/\ax H H'/\∃(ts:KB) (ks:Kv) (o4 o5:Option V),H' lt=some 146/\wL H' ts ks/\tX nm ks/\σ= [KJ a,KJ l,some (.int tn),KJ lt,o4,o5]) (e2,g2,aN [] [] none none (e21,(rfl,λi t k h1 _=>(by simp at h1)),tX.nil,rfl)) 475 ?_ (λσ H' h=>by
   refine gW h λ_ g _hi=>?_
   refine dY _hi λts ks o4 o5 _hj=>?_
   refine gp _hj λe tk ok _r1=>?_
   sleep 47;exact hN _ _ (g,aN ts ks o4 o5 (e,tk,ok,rfl)))
  sleep 271
  refine dY _hi λts ks o4 o5 _hj=>?_
  refine gp _hj λe2 tk ok _r1=>?_
  sleep 34;obtain ⟨c,rfl⟩:=ci v (G5 hv);have el2:=g2 _ _ el;have kf:=ok.few n12;have tl:=tk.len;try dsimp only[aU,bc]
  refine (139,by show 2<=sizeLine;decide,λt0 nt0=>(aR t0 _ (rfl,.inr (bU.of ac),rfl,rfl,mB.i ?_)))
  have g3:=ag nt0 (.tup [.int 4,.int 5]);generalize ay H2 t0 (.tup [.int 4,.int 5])=H3 at g3⊢;have skip:∀(H':Hp) (o5:Option V),ax H3 H'->H' ls=some 317/\ax H H'/\∃(ts:KB) (ks:Kv) (o4' o5':Option V),H' lt=some 146/\wL H' ts ks/\tX nm ks/\ [some 134,some 176,some (.int tn),some (.ref lt),some 390,o5]= [some 134,some 176,some (.int tn),some (.ref lt),o4',o5']:=λH' o5 g=>((g3.trans g) _ _ els,g2.trans (g3.trans g),aN ts ks (some 390) o5 ((g3.trans g) _ _ e2,tk.mono (λ_ _ e=>(g3.trans g) _ _ e),ok,rfl))
  refine FU (c:= [4,5]) 454 (λ_=>dP (skip _ o5 351))
  refine (201,(by show (2:Int)≠0;decide),rfl,Bj 454 (λ_=>skip _ o5 351))
  refine cut (λσ H'=>H3=H'/\∃z:Str,z∈nm/\σ= [KJ a,KJ l,some (.int tn),KJ lt,some 390,some 216]) 91 ?_
  ·obtain ⟨z,az,hz⟩:=mn (zs:=nm) (GO (c.fdiv 16) lp) (by have:=HD (c.fdiv 16) lp;lia)
   have el3:=g3 _ _ el2;exact (201,aR l _ (rfl,.inl (aQ.of el3),ln,aN l _ _ _ (rfl,rfl,aQ.of el3,az,hN _ _ (rfl,z,hz,rfl))))
  rintro σ _ ⟨rfl,z,hz,rfl⟩;have e3:=g3 _ _ e2;have xat:∀v∈ts.map V.ref,∃(r am:Addr) (k:KI),v= .ref r/\H3 r=some (.tup [.str k.1,.ref am]):=λv hv=>by
   obtain ⟨r,hr,rfl⟩:=G9.mp hv;obtain ⟨j,hj⟩:=GP.mp hr;have jl:j<ks.length:=by rw[<-tl];exact (G3.mp hj).1
   obtain ⟨am,w1,_⟩:=tk.each j r _ hj (G1 jl);exact (cU r am _ (rfl,g3 _ _ w1))
  refine (lt,rfl,(_,aQ.of e3),lZ (xs:=ts.map V.ref) (λx y=>∃(r am:Addr) (k:KI),x= .ref r/\H3 r=some 350/\y= .str k.1) (aQ.of e3) 281 (λv hv H4 g4 Q' hQ=>?_) (λp1 ys1 H4 np1 hl1 ht1 g4 e4=>?_))
  ·obtain ⟨r,am,k,rfl,er⟩:=xat v hv;exact (aN r _ 0 (.str k.1) (rfl,rfl,bU.of (g4 _ _ er),rfl,hQ _ _ (cU r am k (rfl,er,rfl)) 351))
  have tk3:=tk.mono (λ_ _ e=>g3 _ _ e)
  rw[tk3.col hl1 ht1] at e4;refine (aR p1 _ (rfl,.inl (aQ.of e4),rfl,(by rw[List.all_map];exact Hw.mpr λ_ _=>rfl),mB.i ?_))
  refine DU (λnin=>?_) (λ_=>skip _ (some 216) g4)
  refine (Or.inl (rfl,_,aQ.of (g4 _ _ e3)),201,ν,λp q' p0 lo _ _ f am H5 g5 e5=>(by show 2<=sizeLine;decide,λt nt=>(cU lt _ _ (rfl,rfl,ag nt _ _ _ (g5 _ _ (g4 _ _ e3)),by rw[G2];lia,?_))))
  have g6:=ag nt 387;have g26:=(g4.trans g5).trans g6;have e26:=g26 _ _ e3;have tp:∀b xs,ay H5 t 387 b=some 282->ay (ay H5 t 387) lt (.lst (ts.map V.ref++ [.ref t])) b=some (.tup xs):=λb xs e=>by
   rw[ak (λw=>by rw[w,e26] at e;cases e)]
   exact e
  exact (by rw[ak nll];exact (g3.trans g26) _ _ els,dA (g2.trans (g3.trans g26)) nlt _,aN (ts++ [t]) (ks++ [(z,p,q')]) _ _ ((by rw[ac,GW];rfl),(tk3.mono (λ_ _ e=>tp _ _ (g26 _ _ e))).snoc (tp _ _ ac) (tp _ _ (g6 _ _ e5)),ok.snoc hz nin p0 lo (oJ f).1 (oJ f).2,rfl))
 sleep 127
 refine dY _hi λts ks o4 o5 _hj=>?_
 refine gp _hj λe2 tk ok _r1=>?_
 sleep 34;exact (q lt ts ks H2 g2 nlt e2 tk ok)
theorem EL {dV:Value} (F:bu K "_law_dishes" "_law_dishes" CF dV f fd):544 bC 2 f fd ["_law_script","_law_recipes"] (mO K GT):=by
 have sc:aC ["_law_script","_law_recipes","_law_dishes_here","_law_cell"] ["_law_script","_law_recipes"] (au CF):=dI 48
 sleep 255
 refine dY h λa lr ns0 nm _hi=>?_
 refine jS _hi λrcs _hj=>?_
 refine gp _hj λ_r1 hS rc _hk=>?_
 refine cL _hk λn12 q=>?_
 sleep 32;exists _,(ae (555 136) (ae (550 406 (iT 3 sc) (ar (bv (PW.pt (iZ (aD jq (aB bw 119 af) af 162) (iy (aD jp 145 af 162)))) (ar (bG (546 114 ((@cE _ _ _ _ _ ((av aS 89 (aB bw 412 af) 22)<*>((aB cx af (aB bw 412 af))<*>aj)))<*>aj)))) aO))) 326))
 try dsimp only[cxK]
 sleep 45;sleep 6
 refine (by show 0<=sizeLine;decide,λld nld=>?_)
 have g1:=ag nld 130;have e1:ay H ld 130 ld=some (.lst []):=ac;generalize ay H ld 130=H1 at g1 e1⊢;try dsimp only[aU,bc]
 refine cut (λσ H'=>ax H H'/\∃(dd:List mZ) (o3:Option V),H' ld=some (.lst 382)/\dd.length<=10/\(∀d∈dd,H' d.t=some 336/\(∃rk∈rcs,d.r=rk.r/\d.pl=rk.pl/\d.ks=rk.ks)/\1<=d.n/\d.n<=1000)/\σ= [KJ a,KJ lr,KJ ld,o3]) 91 ?_
 ·sleep 264
  have nll:ls≠ld:=λz=>by rw[z,e1] at nls;cases nls
  have ci:∀v∈jt 457 (some 2) (some 62),∃c:Int,v= .int c:=λv hv=>by
   sleep 88
  sleep 48;refine cX (xs:=cells) (λi σ H'=>H' ls=some 317/\ax H H'/\∃(dd:List mZ) (o3:Option V),H' ld=some (.lst 382)/\dd.length<=10/\(∀d∈dd,H' d.t=some 336/\(∃rk∈rcs,d.r=rk.r/\d.pl=rk.pl/\d.ks=rk.ks)/\1<=d.n/\d.n<=1000)/\σ= [KJ a,KJ lr,KJ ld,o3]) (e2,g2,aR [] none (e21,HC _,λd hd=>(nomatch hd),rfl)) 475 ?_ (λσ H' h=>by
   refine gW h λ_ g _hi=>?_
   refine rX _hi λdd o3 _hj=>?_
   refine gp _hj λe dl each _r1=>?_
   sleep 47;exact hN _ _ (g,aR dd o3 (e,dl,each,rfl)))
  sleep 271
  refine rX _hi λdd o3 _hj=>?_
  refine gp _hj λe2 dl each _r1=>?_
  sleep 34;obtain ⟨c,rfl⟩:=ci v (G5 hv);have el2:=g2 _ _ rc.at_;have skip:H2 ls=some 317/\ax H H2/\∃(dd:List mZ) (o3:Option V),H2 ld=some (.lst 382)/\dd.length<=10/\(∀d∈dd,H2 d.t=some 336/\(∃rk∈rcs,d.r=rk.r/\d.pl=rk.pl/\d.ks=rk.ks)/\1<=d.n/\d.n<=1000)/\ [some 134,some (.ref lr),some 514,some 390]= [some 134,some (.ref lr),some 514,o3]:=(els,g2,aR dd (some 390) (e2,dl,each,rfl))
  try dsimp only[aU,bc]
  exists 139
  by_cases c5:5<c.fmod 8
  ·refine dT c5 (aR ld _ (rfl,.inl (aQ.of e2),?_));rw[G2]
   by_cases l10:(dd.length:Int)<10
   ·refine dT l10 ?_;obtain ⟨rk,hrk,az⟩:∃rk:Rc,rk∈rcs/\iR (rcs.map λr=>V.ref r.r) ((c.fdiv 8).fmod 2)=some (.ref rk.r):=by
     have h0:=GO (c.fdiv 8) (show (0:Int)<2 by decide)
     have h1:=HD (c.fdiv 8) (show (0:Int)<2 by decide)
     obtain ⟨j,ej⟩:∃j:Nat,(c.fdiv 8).fmod 2=(j:Int):=⟨_,(Int.toNat_of_nonneg h0).symm⟩;rw[ej] at h1⊢;have two:=rc.two;have jl:j<rcs.length:=by lia
     exact (rcs[j],List.getElem_mem jl,b9 (by rw[GJ,G1 jl];rfl))
    have w0:=GO (c.fdiv 16) (show (0:Int)<1000 by decide)
    have w1:=HD (c.fdiv 16) (show (0:Int)<1000 by decide)
    refine (Or.inl (rfl,_,aQ.of e2),201,(by show (2:Int)≠0;decide),aN lr _ _ _ (rfl,rfl,aQ.of el2,az,201,(by show (1000:Int)≠0;decide),by show 2<=sizeLine;decide,λt nt=>(cU ld _ _ (rfl,rfl,ag nt _ _ _ e2,by rw[G2];lia,?_))))
    have g3:=ag nt 266;have e3:=g3 _ _ e2;have tp:∀b xs,ay H2 t 266 b=some 282->ay (ay H2 t 266) ld (.lst (382++ [.ref t])) b=some (.tup xs):=λb xs e=>by
     rw[ak (λw=>by rw[w,e3] at e;cases e)]
     exact e
    refine (by rw[ak nll];exact g3 _ _ els,dA (g2.trans g3) nld _,aR (dd++ [(t,rk.r,rk.pl,rk.ks,1+(c.fdiv 16).fmod 1000)]) _ (by rw[ac,GW];rfl,by rw[G8,GV];lia,λd hd=>?_,rfl))
    rcases GU.mp hd with w|w
    ·obtain ⟨f1,f2⟩:=each d w;exact (tp _ _ (g3 _ _ f1),f2)
    ·rw[GK] at w;subst w;exact (tp _ _ ac,(rk,hrk,rfl,rfl,rfl),by show (1:Int)<=1+_;lia,by show 1+(c.fdiv 16).fmod 1000<=1000;lia)
   ·exact dF l10 skip
  ·exact dF c5 skip
 rintro σ H1 ⟨g1,dd,o3,e1,dl,each,rfl⟩;obtain ⟨d0,db,dv⟩:=B3 rc n12;exact (q ld dd H1 g1 nld ⟨e1,λd hd=>by
  obtain ⟨f1,⟨rk,hrk,z1,z2,z3⟩,f2,f3⟩:=each d hd;obtain ⟨k1,k2,k3,k4⟩:=rc.each rk hrk;rw[z1,z2,z3];exact (z1▸f1,k1.kd (KD.of g1),k2,k3,k4,f2,f3),dl,d0,db,λd hd k hk=>by
  obtain ⟨f1,⟨rk,hrk,z1,z2,z3⟩,f2,f3⟩:=each d hd;rw[z2];exact dv rk hrk k (z3▸hk)⟩)
theorem EM {dV:Value} (F:bu K "_law_free" "_law_free" CG dV f fd) (DZ30:545 bC 3 Jt ["self","good"] [] (mJ mt)) (DZ31:545 bC 3 Jh ["self","good"] [] (dH mt)):544 bC 4 f fd ["_law_larder","_law_told","_law_good"] (rN K mt):=by
 have sc:aC ["_law_larder","_law_told","_law_good","_law_held"] ["_law_larder","_law_told","_law_good"] (au CG):=dI 48
 sleep 255
 refine ix h λL z nm n F1 rows m g bs _hi=>?_
 refine dY _hi λns ps es vw _hj=>?_
 refine fJ _hj λ_r1 et s7 n60 nz _hk=>?_
 refine cL _hk λnb q=>?_
 sleep 32;exists _,(ae (ss (i:=3) sc.nd rfl (Or.inr rfl) (i9 95 DZ30 hr 13 372)) (ae (bv (PW.pt (fh (aD kW (i9 95 DZ31 hr 13 372) cQ 162) (fO (aD eM 114 119 74)))) 170 aO) (ae (bv (aD (wH hr.units0) (nX (own:= "_law_name") (ys:= ["_law_told"]) (js:= [1]) rfl 102 (cp 119) (λC fp s H=>(eG (sM (by exact bY hr) 95 (av (yd (K:=K) rfl) 89 af 22)) 74)) 353) 136 162) 170 aO) (ar (aE (eK (iP hr.units0) (zQ (nX (own:= "_law_pair") (ys:= ["_law_held"]) (js:= [3]) rfl 102 (x4 268) (λC fp s H=>(PW.pt (iZ (aD (tF (K:=K) rfl) 192 89 74) (iy (aD (wB (K:=K) rfl) 192 89 74))))) 353)) 136 162))))))
 try dsimp only[cxK]
 sleep 35;sleep 6
 sleep 151;have b12:=s7.d7.bars;sleep 253
 sleep 58
 sleep 145
 refine (aN L.x _ dx _ (rfl,ex,B.HM,B.Kh,fm _ 13,jR L.x z F1 rows m g bs ns ps (rfl,s7.lb,s7.ok,by lia,nz,λlh H4 ys g4 nlh eh ndy my=>?_)))
 have s4:=s7.same g4;have et4:=g4 _ _ et;have inn:∀y,y∈ys->sG (.str y) 410=true:=λy hy=>by rw[iE];exact decide_eq_true hy
 have nl:∀b'∈bs,¬Led ps z b':=λb' h1 h2=>nb (b',h1,h2)
 try dsimp only[aU,bc]
 refine cut (λσ H'=>σ= [KJ L.x,KJ L.t,some 216,KJ lh]/\ax H4 H') 91 ?_
 ·refine dY s4.lb.at_ λdx s0 b0 fs _hi=>?_
  sleep 58
  sleep 145
  refine (aN L.x _ dx _ (rfl,ex,B.HM,B.JP,fm _ 13,jR L.x z F1 rows m g bs ns ps (rfl,s4.lb,s4.ok,by lia,nz,λH5 g5 _=>?_,λl H3 c goal g3 nl' el wy gm gl=>absurd gl (nl goal gm))))
  refine (rfl,mB.i (nF rfl (aR lh _ (rfl,.inl (aQ.of (g5 _ _ eh)),rfl,eZ ys,mB.i ?_))));rw[inn z ((my z).mpr .self)];exact dP (hN _ _ (rfl,g5))
 rintro σ H5 ⟨rfl,g5⟩;have s5:=s4.same g5;have et5:=g5 _ _ et4;have eh5:=g5 _ _ eh;have yl:=uW ndy my;refine cut (λσ H'=>σ= [KJ L.x,KJ L.t,some 216,KJ lh]/\ax H5 H') 91 ?_
 ·refine (lh,rfl,(_,aQ.of eh5),kI (K:=K) (λ_=>false) (aQ.of eh5) 281 (λv hv H6 g6 R hR=>?_) (λp H6 g6 ep=>?_))
  ·obtain ⟨y,hy,rfl⟩:=G9.mp hv;refine (549 (rfl,rfl,aQ.of (g6 _ _ et5),rfl,aR L.db _ (rfl,cq.k (k:= .inr y) (g6 _ _ s5.d7.eb),mB.i ?_)));rw[ik,if_neg (λw=>nl y w ((my y).mp hy))]
   exact hR
  ·rw[List.filter_eq_nil_iff.mpr (λ_ _=>by decide)] at ep
   exact (by show 0<=sizeLine;decide,λle ne=>(cU p le [] (rfl,rfl,aQ.of (ag ne _ _ _ ep),aQ.of ac,(hN _ _ (rfl,g6.trans (ag ne _))))))
 rintro σ H6 ⟨rfl,g6⟩;have s6:=s5.same g6;have eh6:=g6 _ _ eh5;have dpl:lh≠L.dp:=λw=>by rw[w,s6.d7.ep] at eh6;cases eh6
 refine (549 (rfl,rfl,aQ.of (g6 _ _ et5),rfl,aR L.dp _ (rfl,s6.d7.ep,λo nf=>t6 ac (λi k v b hk H7 g7 eb7 R hR=>?_) (λp H7 g7 _ ep=>?_))))
 ·obtain ⟨p1,p2,rfl,hpi⟩:=BV hk;have eh7:=g7 lh _ (by rw[ak dpl];exact eh6)
  have eb8:H7 b=some (.tup [.str p1,.str p2]):=eb7;refine (aN b _ 0 (.str p1) 334)
  by_cases h1:p1∈ys
  ·rw[inn p1 h1];refine gG (aN b _ 1 (.str p2) 334);rw[inn p2 ((my p2).mpr (.step ((my p1).mp h1) (G5 hpi)))];exact hR
  ·rw[show sG (.str p1) 410=false by rw[iE];exact decide_eq_false h1]
   exact dP hR
 ·have g8:=AT s6.d7.ep g7;have pd:p≠L.dp:=λw=>by rw[w,g7 _ _ ac] at ep;cases ep
  refine (cU L.dp o _ (g7 _ _ ac,nf,by show 0<=sizeLine;decide,λle ne=>(cU p le [] (rfl,rfl,aQ.of (ag ne _ _ _ (by rw[ak pd];exact ep)),aQ.of ac,?_))))
  exact q _ ((((g4.trans g5).trans g6).trans g8).trans (ag ne _))
theorem EN {dV:Value} (F:bu K "_law_barred" "_law_barred" AB dV f fd) (DZ31:545 bC 3 Jh ["self","good"] [] (dH mt)):544 bC 4 f fd ["_law_larder","_law_told","_law_good"] jC:=by
 have sc:aC ["_law_larder","_law_told","_law_good","_law_found","_law_k"] ["_law_larder","_law_told","_law_good"] (au AB):=dI 48
 sleep 120
theorem EO {dV:Value} {hd:KH} (F:bu K "_law_barred" "_law_barred" CH dV f fd) (HZ32:∀hd,BR hd P w K mg base 3 Jh ["self","good"] (nj hd (dH mt))):rZ hd P w K mg base 4 f fd ["_law_larder","_law_told","_law_good"] (nj hd (jg K mt)):=by
 have sc:aC ["_law_larder","_law_told","_law_good","_law_found","_law_k"] ["_law_larder","_law_told","_law_good"] (au CH):=dI 48
 sleep 11
 ·obtain ⟨_,_,_,_,_,_,_,_,_,_,_,_,_,_,rfl,_⟩:=h
  rfl
 sleep 165
 refine ix _hi λL z nm n F1 rows m g bs _hj=>?_
 refine dY _hj λns ps es vw _hk=>?_
 refine fJ _hk λ_r1 et s7 n60 nz _hl=>?_
 refine cL _hl λblk q=>?_
 sleep 132;exists _,(ae (551 (BS (K:=K) (j:=3) rfl 95 (HZ32 hd) hr 13 372)) (ae (bv (PW.pt (fh (aD jT 119 cQ 162) (fh (aD (iP hr.units0) 119 136 162) (fh (aD ku (av aS 119 af 22) 114 162) (fO (eG (du (iw hr) (av aS 119 451 22) 268) 74)))))) 170 aO) (ae (iI 93 hr.hd (vT rfl B.Jn ((aB oV 432 af)<*>aj)) (iT 4 sc) (ar (bv (eG (du (iw hr) (@cE _ _ _ _ _ ((av aS 119 161 22)<*>((av aS 119 (aB cx 161 af) 22)<*>aj))) 268) 74) 170 aO))) 170)))
 try dsimp only[cxK]
 sleep 35;sleep 6
 have cnt:=s7.cnt;sleep 253
 sleep 58
 sleep 145
 refine (aN L.x _ dx _ ⟨rfl,ex,B.HM,B.JP,fm _ 13,hok,jR L.x z F1 rows m g bs ns ps ⟨rfl,s7.lb,s7.ok,by lia,nz,λH3 g3 nl=>absurd blk (λ⟨b',h1,h2⟩=>nl b' h1 h2),λl H3 c goal g3 nl el wy gm gl=>?_⟩⟩)
 have s4:=s7.same g3;have et4:=g3 _ _ et;have cn:c≠ []:=λe=>by have:=wy.first;rw[e] at this;cases this
 have c1:=Hx.mpr cn;have c9:=wy.few;have lcm:(c.map V.str).length=c.length:=G2 _;have hE:(c.map V.str).isEmpty=false:=by
  cases c with
  |nil=>exact absurd rfl cn
  |cons x r=>rfl
 have atl:iR 159 (-1)=some (.str goal):=by
  obtain ⟨ys,e⟩:=List.getLast?_eq_some_iff.mp wy.last;rw[e,GW];exact qm _ _
 try dsimp only[aU,bc]
 refine cut (λσ H'=>σ= [KJ L.x,KJ L.t,some 216,KJ l,none]/\ax H3 H') 91 ?_
 ·refine (rfl,mB.i (d2 (λw=>nomatch w) (λ_=>(by show 0<=sizeLine;decide,λl0 n0=>(cU l l0 _ (rfl,rfl,aQ.of (ag n0 _ _ _ el),aQ.of ac,mB.i ?_))))))
  have k0:=ag n0 130;generalize ay H3 l0 130=H5 at k0⊢;rw[hE];refine dP (aN l _ _ _ (rfl,rfl,aQ.of (k0 _ _ el),b9 (j:=0) (gM wy.first),rfl,mB.i (nF rfl ?_)));refine (ν,aN l _ _ _ (rfl,rfl,aQ.of (k0 _ _ el),atl,aN L.t _ _ _ (rfl,rfl,aQ.of (k0 _ _ et4),rfl,aR L.db _ (rfl,cq.k (k:= .inr goal) (k0 _ _ s4.d7.eb),mB.i ?_))));rw[ik,if_pos gm];exact dP (hN _ _ (rfl,k0))
 rintro σ H5 ⟨rfl,g5⟩;have el5:=g5 _ _ el;refine (aR l _ ⟨rfl,.inl (aQ.of el5),_,rfl,by lia,by lia,uk (λi σ H'=>∃o4:Option V,σ= [KJ L.x,KJ L.t,some 216,KJ l,o4]/\ax H3 H') ⟨none,rfl,g5⟩ (λi σ H' _ h=>by obtain ⟨_,_,g⟩:=h;exact cJ hok (g3.trans g)) ?_ ?_⟩)
 ·rintro i σ H6 hi ⟨o5,rfl,g6⟩;have i1:i+1<c.length:=by lia
  have hx:=G1 (show i<c.length by lia)
  have hy:=G1 i1;generalize c[i]=u at hx;generalize c[i+1]=v at hy;have pm:=wy.pair i u v hx hy;have at1:iR 159 171=some (.str u):=by rw[show 0+(i:Int)=(i:Int) by lia];exact b9 (gM hx)
  have at2:iR 159 (0+(i:Int)+1)=some (.str v):=by rw[show 0+(i:Int)+1=392 by lia];exact b9 (gM hy)
  refine (aN l _ _ _ (rfl,rfl,aQ.of (g6 _ _ el),at1,aN l _ _ _ (rfl,rfl,aQ.of (g6 _ _ el),at2,by show 2<=sizeLine;decide,λtt ntt=>?_)))
  have k2:=ag ntt (.tup [.str u,.str v]);refine (549 (rfl,rfl,aQ.of (k2 _ _ (g6 _ _ et4)),rfl,aR L.dp _ (rfl,cq.t (k:= [.inr u,.inr v]) (k2 _ _ (g6 _ _ s4.d7.ep)) ac,mB.i ?_)));rw[va,decide_eq_true pm];exact dP (ν,g6.trans k2)
 ·rintro σ H6 ⟨o5,rfl,g6⟩;exact q _ (g3.trans g6)
theorem EQ {dV:Value} (F:bu K "_law_along" "_law_along" CI dV f fd) (DZ49:543 bC 4 "_law_free" ["_law_larder","_law_told","_law_good"] [] (rN K mt)):544 bC 5 f fd ["_law_row","_law_good","_law_larder","_law_told"] (oP K mt):=by
 have sc:aC ["_law_row","_law_good","_law_larder","_law_told","_law_top","_law_bottom","_law_k","_law_pair"] ["_law_row","_law_good","_law_larder","_law_told"] (au CI):=dI 48
 sleep 255
 refine ix h λL t cl rl z c nm n F1 _hi=>?_
 refine kT _hi λrows m g bs ns ps _hj=>?_
 refine rX _hj λes vw _hk=>?_
 refine iY _hk λ_r1 e1 e2 nl due et s7 n60 _hl=>?_
 refine cL _hl λtw q=>?_
 sleep 132;exists _,(ae (bv (PW.pt (fh (aD ku 77 89 162) (fh (aD ku (av aS 77 af 22) 89 162) (fO (dD (cW (dW DZ49 hr (114<*>(119<*>((av aS 77 451 22)<*>aj)))))))))) (ar (aE cQ)) aO) (ae (554 af) (ae (cf 5 sc af) (ae (550 (fZ rfl B.Jn ((aB oV (548 (77<*>aj)) af)<*>aj)) (iT 6 sc) (ae (cf 7 sc (@cE _ _ _ _ _ ((av aS 77 415 22)<*>((av aS 77 (aB cx 415 af) 22)<*>aj)))) (ae (bv (eG (du 187 (pv 7) (av aS 119 af 22)) 74) (ar (aE cQ)) aO) (ae (554 (aB aW 161 470)) (ar (cf 5 sc (aB aW 198 470))))))) (ar (aE 265))))))
 try dsimp only[cxK]
 sleep 224;sleep 6
 sleep 151;have cfew:=due.len (U:=nm) (λa b (t,h)=>(s7.d7.inn a b t h).2.1)
 have pc:=due.1;have cn:=pc.ne;have c1:=Hx.mpr cn;obtain ⟨c0,lnk⟩:=pc.link;have lcm:(c.map V.str).length=c.length:=G2 _;refine cut (λσ H'=>σ= [KJ t,some 216,KJ L.x,KJ L.t,none,none,none,none]/\ax H H') 91 ?_
 ·refine (553 (rfl,rfl,bU.of e1,rfl,rfl,mB.i (nF rfl (553 (rfl,rfl,bU.of e1,rfl,aN cl _ _ _ (rfl,rfl,aQ.of e2,b9 (j:=0) (gM c0),rfl,mB.i (nF rfl ?_)))))));exact (553 (rfl,rfl,bU.of e1,rfl,ν,aN cl _ _ _ (rfl,rfl,aQ.of e2,fc cn,jR L 348 nm n F1 rows m g bs (aN ns ps es vw (rfl,et,s7,n60,nl,due.2.1,λH1 g1=>(hN _ _ (rfl,g1)))))))
 rintro σ H4 ⟨rfl,g4⟩;have s4:=s7.same g4;have et4:=g4 _ _ et;have e14:=g4 _ _ e1;have ec:=g4 _ _ e2;have bd1:Bd (200*0+1) 1:=by rw[Nat.mul_zero];unfold Bd;decide
 try dsimp only[aU,bc]
 refine cut (λσ H'=>H4=H'/\σ= [KJ t,some 216,KJ L.x,KJ L.t,some (.int 1),none,none,none]) (λN hN=>hN _ _ 239) ?_
 sleep 141;refine cut (λσ H'=>H4=H'/\σ= [KJ t,some 216,KJ L.x,KJ L.t,some (.int 1),some (.int 1),none,none]) (λN hN=>hN _ _ 239) ?_
 sleep 141;refine cut (λσ H'=>∃o6 o7:Option V,σ= [KJ t,some 216,KJ L.x,KJ L.t,some (.int (dN vw c 96).1),some (.int (dN vw c 96).2),o6,o7]/\ax H4 H'/\Bd (200*96+1) (dN vw c 96).1/\Bd (200*96+1) (dN vw c 96).2/\0<(dN vw c 96).1/\0<(dN vw c 96).2) 91 ?_
 ·refine (553 (rfl,rfl,bU.of e14,rfl,aR cl _ (rfl,.inl (aQ.of ec),ν,by lia,by lia,f8 (λi σ H'=>∃o6 o7:Option V,σ= [KJ t,some 216,KJ L.x,KJ L.t,some (.int (dN vw c i).1),some (.int (dN vw c i).2),o6,o7]/\ax H4 H'/\Bd (200*i+1) (dN vw c i).1/\Bd (200*i+1) (dN vw c i).2/\0<(dN vw c i).1/\0<(dN vw c i).2) (aR none none (rfl,.refl _,bd1,bd1,(by show (0:Int)<1;decide),(by show (0:Int)<1;decide))) ?_ ?_)))
  ·intro i σ H5 hi h_;refine rX h_ λo6 o7 _hi=>?_
   sleep 280
   clear h_ _hi;subst _r1;have i1:i+1<c.length:=by lia
   have hx:=G1 (show i<c.length by lia)
   have hy:=G1 i1;generalize c[i]=xx at hx;generalize c[i+1]=y at hy;obtain ⟨t',ht'⟩:=lnk i xx y hx hy;obtain ⟨tr,hv,ht⟩:=rE ht';obtain ⟨etr,p0,lo,bp,bq⟩:=s4.d7.val xx y tr ht;have at1:iR 159 171=some (.str xx):=by rw[show 0+(i:Int)=(i:Int) by lia];exact b9 (gM hx)
   have at2:iR 159 (0+(i:Int)+1)=some (.str y):=by rw[show 0+(i:Int)+1=392 by lia];exact b9 (gM hy)
   refine (553 (rfl,rfl,bU.of (g5 _ _ e14),rfl,aN cl _ _ _ (rfl,rfl,aQ.of (g5 _ _ ec),at1,aN t _ _ _ (rfl,rfl,bU.of (g5 _ _ e14),rfl,aN cl _ _ _ (rfl,rfl,aQ.of (g5 _ _ ec),at2,by show 2<=sizeLine;decide,λtt ntt=>?_)))))
   have k2:=g5.trans (ag ntt 534);have ett:ay H5 tt 534 tt=some (.tup [.str xx,.str y]):=ac;generalize ay H5 tt 534=H6 at k2 ett⊢;try dsimp only[aU,bc]
   refine (549 (rfl,rfl,aQ.of (k2 _ _ et4),rfl,aR L.ds _ (rfl,cq.t (k:= [.inr xx,.inr y]) (k2 _ _ s4.d7.ee) ett,mB.i ?_)));rw[hv];refine dP ?_;have big:200*i+1+200<=134217728:=by lia
   try dsimp only[aU,bc]
   refine (549 (rfl,rfl,aQ.of (k2 _ _ et4),rfl,aR L.ds (.ref tr) (rfl,347,aN tr _ _ _ (rfl,rfl,bU.of (k2 _ _ etr),rfl,bT.ok bp big,?_))))
   try dsimp only[aU,bc]
   refine (549 (rfl,rfl,aQ.of (k2 _ _ et4),rfl,aR L.ds (.ref tr) (rfl,347,aN tr _ _ _ (rfl,rfl,bU.of (k2 _ _ etr),rfl,bB.ok bq big,?_))))
   have pr:dN vw c 236=((dN vw c i).1*(vw xx y).1,(dN vw c i).2*(vw xx y).2):=by
    show (Prod.mk ((dN vw c i).1*(vw (c.getD i "") (c.getD 236 "")).1) ((dN vw c i).2*(vw (c.getD i "") (c.getD 236 "")).2))=_;rw[GS,GS,hx,hy]
    rfl
   have bi':200*236+1=200*i+1+200:=by lia
   refine (aR (some (.int 171)) (some (.ref tt)) ((by rw[pr];rfl),k2,?_,?_,?_,?_))
   ·rw[pr,bi'];exact bT.mul bp
   ·rw[pr,bi'];exact bB.mul bq
   ·rw[pr];exact HU T0 p0
   ·rw[pr];exact HU B0 lo.pos
  ·intro σ H5 h_;refine rX h_ λo6 o7 _hi=>?_
   sleep 280
   clear h_ _hi;subst _r1;have e:((((c.map V.str).length:Nat):Int)-1).toNat=c.length-1:=by lia
   rw[e] at bT bB B0 T0;rw[e];exact hN _ _ (aR o6 o7 (rfl,g5,bT,bB,T0,B0))
 intro σ H5 h_;refine rX h_ λo6 o7 _hi=>?_
 sleep 280
 clear h_ _hi;subst _r1;exact (by show 2<=sizeLine;decide,λt' n'=>q t' _ ((g4.trans g5).trans (ag n' _)) ac bT bB T0 B0)
theorem ER {dV:Value} (F:bu K "_law_sums" "_law_sums" CJ dV f fd) (DZ36:543 bC 6 "chosen" ["recipe","larder"] [] (kg K GT mt)) (DZ42:543 bC 2 "_law_lowest" ["_law_top","_law_bottom"] [] xv) (DZ52:543 bC 5 "_law_along" ["_law_row","_law_good","_law_larder","_law_told"] [] (oP K mt)):544 bC 8 f fd ["_law_dishes_here","_law_larder","_law_told"] (rO K GT mt):=by
 have sc:aC ["_law_dishes_here","_law_larder","_law_told","_law_sums_here","_law_recipe","_law_plates","_law_rows","_law_row","_law_take","_law_along_here","_law_top","_law_bottom","_law_before"] ["_law_dishes_here","_law_larder","_law_told"] (au CJ):=dI 48
 sleep 255
 refine ix h λld L nm n F1 rows m g bs _hi=>?_
 refine kT _hi λns ps es vw dd DT _hj=>?_
 refine iY _hj λ_r1 da nmz et0 s7 n60 tw allF q=>?_
 sleep 47;exists _,(ae (ss (i:=3) sc.nd rfl (Or.inr rfl) b8) (ae (550 (cp 95) (oU rfl (cM (iT 4 sc) (cM 380 iz))) (ae (cf 6 sc (dW DZ36 hr (161<*>210))) (ae (bv (aD ku (548 (415<*>aj)) (548 ((cA 161 rfl)<*>aj)) 162) (ar (aE cQ)) aO) (ar (550 (tK rfl B.J3 (415<*>((cA 161 rfl)<*>aj))) (oU rfl (cM (iT 7 sc) (cM (iT 8 sc) iz))) (ae (cf 9 sc (dW DZ52 hr ((pv 7)<*>((av aA (pv 8) af 22)<*>(89<*>372))))) (ae (bv (aD jT (pv 9) cQ 162) (ar (aE cQ)) aO) (ae (cf 10 sc (aB aW (aB aW (av aA (av aA (pv 8) af 22) af 22) 198) (av aA (pv 9) af 22))) (ae (cf 11 sc (aB aW (aB aW (av aA (av aA (pv 8) af 22) af 22) (cA 161 rfl)) (av aA (pv 9) af 22))) (ae (cf 12 sc (eC 187 119 (av aS 437 451 22) 478 252)) (ar (cH 187 119 (av aS 437 451 22) (dW DZ42 hr ((aB cx (aB aW (av aA (pv 12) af 22) (pv 11)) (aB aW (pv 10) (av aA (pv 12) af 22)))<*>((aB aW (av aA (pv 12) af 22) (pv 11))<*>aj))) rfl)))))))))))) (ar (aE (lj (own:= "_law_name") (ys:= ["_law_sums_here"]) (js:= [3]) rfl 102 (cp (aL (ir rfl) rfl B.Jx PyProof.Rows.Boot.«sorted» 327)) (λC fp s H=>(@cE _ _ _ _ _ (95<*>((eQ 187 89 95 22)<*>aj)))))))))
 try dsimp only[cxK]
 sleep 45;sleep 6
 sleep 227;sleep 78
 sleep 160
 generalize ay H d 83=H0 at g0 sm0⊢;try dsimp only[aU,bc]
 refine cut (λσ H'=>ax H H'/\(∃rows',lG H' d rows' 442/\∀y∈rows'.map 111,y∈nm)/\∃o4 o5 o6 o7 o8 o9 o10 o11 o12:Option V,σ= [KJ ld,KJ L.x,KJ L.t,KJ d,o4,o5,o6,o7,o8,o9,o10,o11,o12]) 91 ?_
 ·refine (ld,rfl,(_,aQ.of (g0 _ _ da.at_)),cX (xs:=dd.map λd=>V.ref d.t) (λi σ H'=>ax H H'/\(∃rows',lG H' d rows' 88/\∀y∈rows'.map 111,y∈nm)/\kS 446 (12*i) 88/\∃o4 o5 o6 o7 o8 o9 o10 o11 o12:Option V,σ= [KJ ld,KJ L.x,KJ L.t,KJ d,o4,o5,o6,o7,o8,o9,o10,o11,o12]) (g0,([],sm0,λy hy=>nomatch hy),kS.nil,jR none none none none none none none none none rfl) (λi σ H' _ h=>aQ.of (h.1 _ _ da.at_)) ?_ ?_)
  ·intro i v σ H1 hv h_;sleep 171
   sleep 189
   clear h_ _hi;sleep 90;rw[GJ] at hv;cases hd:dd[i]? with
   |none=>rw[hd] at hv;cases hv
   |some d9=>
   rw[hd] at hv;cases hv;have il:i<dd.length:=(G3.mp hd).1;have hdm:=G5 hd;obtain ⟨et,rc,kok,pl1,pl2,n1,n2⟩:=(da.same g1).each d9 hdm;have kf:=kok.few nm12;have bn:=yF n1 n2;have bpl:=yF pl1 pl2;refine (aR d9.t _ (rfl,bU.of et,rfl,aR _ _ 345));try dsimp only[aU,bc]
   refine (jR d9.r L.x L.dp L.ds L.db d9.pl d9.ks nm n (jR F1 rows m g bs ns ps es vw (rfl,rc,by lia,λk hk=>nmz _ (kok.inn k hk),s7.same g1,n60,allF d9 hdm,λl rs H3 g3 nl rl cw=>?_)))
   obtain ⟨ts2,el2,tl2,_,each2⟩:=cw.ex;obtain ⟨dr,lt,fs,er,ft,fp,⟨ts,el,tl,each⟩⟩:=(rc.kd (KD.of g3)).ex;have g03:=g1.trans g3;try dsimp only[aU,bc]
   refine (aR l _ (rfl,.inl (aQ.of el2),aN d9.r _ dr _ (_,(rfl,er,B.IO,B.Iy,ft,aR lt _ (rfl,.inl (aQ.of el),rfl,mB.i (nF (congrArg (λn:Nat=>V.int (n:Int)) (by rw[G2,G2,tl,tl2,rl])) ?_))))))
   refine (aN d9.r _ dr _ (_,(rfl,er,B.IO,B.Iy,ft,aR l lt (rfl,(_,aQ.of el2),(_,aQ.of el),pO (xs:=ts2.map V.ref) (ys:=ts.map V.ref) (λj σ H'=>ax H H'/\KD H3 H'/\(∃rows',lG H' d rows' 354/\∀y∈rows'.map 111,y∈nm)/\kS 446 (12*i+j) 354/\∃o7 o8 o9 o10 o11 o12:Option V,σ= [KJ ld,KJ L.x,KJ L.t,KJ d,KJ d9.r,some (.int d9.n),KJ l,o7,o8,o9,o10,o11,o12]) ?_ ?_ ?_ ?_))))
   ·exact (g03,KD.of 351,(rows1,sm1.same g3,rl1),gk1,fV _ _ _ _ _ _ rfl)
   ·rintro j σ H4 _ ⟨_,k4,_⟩;exact (aQ.of (k4 _ _ 70 70 el2),aQ.of (k4 _ _ 70 70 el))
   ·rintro j x' y' σ H4 T hx hy ⟨g4,k4,⟨rows4,sm4,rl4⟩,gk4,o7,o8,o9,o10,o11,o12,rfl⟩ nT;obtain ⟨t2,ht2,rfl⟩:=jN hx;obtain ⟨t,ht,rfl⟩:=jN hy;have jk:j<d9.ks.length:=by rw[<-tl];exact (G3.mp ht).1
    have jr:j<rs.length:=by rw[<-tl2];exact (G3.mp ht2).1
    sleep 87
    refine rX _hi λcl rl' _hj=>?_
    refine gp _hj λe3 e4 e5 _hk=>?_
    refine cL _hk λ_ _=>?_
    sleep 111;obtain ⟨P0,Q0,bP,bQ,dQ,esame⟩:=B4 tw s7.d7.inn dfew.2.2 due rtv;have gT:=ag nT 535;have kd:=k4.trans (KD.of gT);have up:∀a o,(∀kv,o≠HO.dK kv)->(∀kv,o≠HO.dT kv)->H3 a=some o->ay H4 T 535 a=some o:=kd;have f1':=up _ _ 70 70 e1
    have f2':=up _ _ 70 70 e2
    have f3':=up _ _ 70 70 e3
    have f4':=up _ _ 70 70 e4
    have er4:=up _ _ 70 70 er
    have sm5:=sm4.same gT;have g5:=g4.trans gT;sleep 142;clear up;generalize ay H4 T 535=H5 at*;try dsimp only[aU,bc]
    refine (553 (rfl,rfl,bU.of f1',rfl,jR L t2 cl rl' k.1 r.1 nm n F1 (fV rows m g bs ns ps (aR es vw (rfl,f3',f4',nmz _ (tZ s7.d7.inn (kok.inn k (G5 hk)) due),due,g5 _ _ et0,s7.same g5,n60,tw,λt9 H6 g6 e9 _ _ _ _=>?_)))))
    replace f1':=g6 _ _ f1';replace f2':=g6 _ _ f2';replace f3':=g6 _ _ f3';replace f4':=g6 _ _ f4';replace er4:=g6 _ _ er4;have sm6:=sm5.same g6;try dsimp only[aU,bc]
    refine (rfl,mB.i (d2 (λw=>nomatch w) 454))
    generalize (dN vw r.1 (r.1.length-1)).1=PP at*;generalize (dN vw r.1 (r.1.length-1)).2=QQ at*;try dsimp only[aU,bc]
    refine cut (λσ H'=>H6=H'/\σ= [KJ ld,KJ L.x,KJ L.t,KJ d,KJ d9.r,some (.int d9.n),KJ l,KJ t2,KJ t,KJ t9,some (.int (k.2.1*d9.n*PP)),o11,o12]) (λN hN=>(553 (rfl,rfl,bU.of f1',rfl,aN am _ _ _ (rfl,rfl,bU.of f2',rfl,kb1.ok bn,aN t9 _ _ _ (rfl,rfl,bU.of e9,rfl,(kb1.mul bn).ok bP,hN _ _ 239))))) ?_
    sleep 141;refine cut (λσ H'=>H6=H'/\σ= [KJ ld,KJ L.x,KJ L.t,KJ d,KJ d9.r,some (.int d9.n),KJ l,KJ t2,KJ t,KJ t9,some (.int (k.2.1*d9.n*PP)),some (.int (k.2.2*d9.pl*QQ)),o12]) (λN hN=>(553 (rfl,rfl,bU.of f1',rfl,aN am _ _ _ (rfl,rfl,bU.of f2',rfl,aN d9.r _ dr _ (_,(rfl,er4,B.IO,B.Jg,fp,kb2.ok bpl,aN t9 _ _ _ (rfl,rfl,bU.of e9,rfl,(kb2.mul bpl).ok bQ,hN _ _ 239))))))) ?_
    sleep 141;have bT:Bd 301 (k.2.1*d9.n*PP):=((kb1.mul bn).mul bP).mono 13
    have bB:Bd 228 (k.2.2*d9.pl*QQ):=((kb2.mul bpl).mul bQ).mono 13
    have T0:0<=k.2.1*d9.n*PP:=IM (IM (Hv k10) 42) (Hv P0)
    have B0:0<k.2.2*d9.pl*QQ:=HU (HU klo.pos 42) Q0
    have bV:k.2.2*d9.pl*QQ∣DT*oN es vw:=Int.mul_dvd_mul (da.dv d9 hdm k (G5 hk)) dQ;have C0:0<k.2.2*d9.pl*r.2.2:=HU (HU klo.pos 42) rlo.pos
    have eT:k.2.1*d9.n*r.2.1*(k.2.2*d9.pl*QQ)=k.2.1*d9.n*PP*(k.2.2*d9.pl*r.2.2):=by
     have h1:k.2.1*d9.n*r.2.1*(k.2.2*d9.pl*QQ)=k.2.1*d9.n*(k.2.2*d9.pl)*(r.2.1*QQ):=by grind
     rw[h1,esame]
     grind
    generalize k.2.1*d9.n*PP=T9 at bT T0 eT⊢;generalize k.2.2*d9.pl*QQ=B9 at bB B0 bV eT⊢;refine (d,rfl,.inl (_,.inl sm6.at_),aN t2 _ _ _ (rfl,rfl,bU.of f3',rfl,ν,aN cl _ _ _ (rfl,rfl,aQ.of f4',(fc rtv.1),by show 2<=sizeLine;decide,λtz ntz=>?_)))
    have g8:=ag ntz 222;have sm8:=sm6.same g8;have etz:ay H6 tz 222 tz=some (.tup [.int 0,.int 1]):=ac;replace f3':=g8 _ _ f3';replace f4':=g8 _ _ f4';generalize ay H6 tz 222=H8 at g8 sm8 etz f3' f4'⊢;sleep 121
    obtain ⟨z2,z3⟩:=gk4.bd D0 bD 42 356
    have rf4:=jP sm4.nd rl4;try dsimp only[aU,bc]
    refine (aN th _ _ _ (rfl,rfl,bU.of eth,rfl,z2.ok bB 42,aN th _ _ _ (rfl,rfl,bU.of eth,rfl,bT.ok z3 42,aN th _ _ _ (rfl,rfl,bU.of eth,rfl,z3.ok bB 42,aR _ _ (rfl,HU z1 B0,(z3.mul bB).mono 42,λsp sq f4 tsm H9 g9 ets=>?_)))))
    have sm9:=sm8.same g9;refine (aN t2 _ _ _ (rfl,rfl,bU.of (g9 _ _ f3'),rfl,ν,aN cl _ _ _ (rfl,rfl,aQ.of (g9 _ _ f4'),(fc rtv.1),aR d _ 450)))
    have eN:wx 147 d9 88 (j+1)=kc 354 356 (sp,sq):=by
     rw[rL hk,<-yI gk4 C0 B0 eT f4];unfold rH;rw[hW]
    have gk':=gk4.set B0 T0 (yH bT) bV f4;have pl':∀y∈(fS rows4 356 tsm).map 111,y∈nm:=λy hy=>by
     sleep 188
     by_cases c:y'=aI r.1
     ·rw[c];exact tZ s7.d7.inn (kok.inn k (G5 hk)) due
     ·rw[if_neg c] at hm;exact rl4 y' (G9.mpr (_,hm,rfl))
    have g79:=(g6.trans g8).trans g9;exact (dA (g5.trans g79) nd _,(kd.trans (KD.of g79)).trans (KD.putK sm9.at_ _),(_,eN▸sm9.put ets,pl'),eN▸gk',fV _ _ _ _ _ _ rfl)
   ·intro σ H4 h_;refine gp h_ λg4 k4 _r1 _hi=>?_
    refine cL _hi λgk4 _hj=>?_
    refine kT _hj λo7 o8 o9 o10 o11 o12 _r2=>?_
    clear h_ _hi _hj;obtain ⟨rows4,sm4,rl4⟩:=_r1;subst _r2;have lmin:min (ts2.map V.ref).length (ts.map V.ref).length=d9.ks.length:=by rw[G2,G2,tl,tl2,rl];exact Nat.min_self _
    rw[lmin] at sm4 gk4;rw[vh 173,<-oK hd] at sm4 gk4;exact (g4,(rows4,sm4,rl4),gk4.mono 42,jR _ _ _ _ _ _ _ _ _ rfl)
  ·intro σ H1 h_;sleep 171
   sleep 189
   clear h_ _hi;sleep 90;rw[G2,Hn 173] at sm1;exact hN _ _ (g1,(rows1,sm1,rl1),jR _ _ _ _ _ _ _ _ _ rfl)
 intro σ H1 h_;refine gW h_ λg1 _r1 _hi=>?_
 sleep 189
 clear h_ _hi;sleep 90;have rf1:=jP sm1.nd rl1;refine (cU d _ _ (rfl,sm1.at_,ot rows1,sm1.nd,by rw[G2];lia,λls ys nls py sy=>505))
 have gs:=ag nls 153;have els:ay H1 ls 153 ls=some (.lst 410):=ac;generalize ay H1 ls 153=H2 at gs els⊢;have sm2:=sm1.same gs;have yl:ys.length=rows1.length:=by rw[py.length_eq,G2]
 refine yc (K:=K) (λH3 v y H4=>∃(z:Str) (t a:Addr),v= .str z/\(z,t)∈rows1/\y= .ref a/\H4 a=some (.tup [.str z,.ref t])/\H3 a=none) (aQ.of els) 281 501 (λp vs H3 np lv each g3 ep=>?_)
 ·obtain ⟨z,hz,rfl⟩:=G9.mp hv;obtain ⟨⟨z',t⟩,hm,rfl⟩:=G9.mp (py.mem_iff.mp hz);refine (aR d 246 (rfl,(by rw[<-iq sm1.nd hm];exact cq.k (k:= .inr z') (g3 _ _ sm2.at_)),by show 2<=sizeLine;decide,λa na=>hQ _ _ (cU z' t a (rfl,hm,rfl,ac,na)) (ag na _)))
 ·refine q p H3 ((g1.trans gs).trans g3) (sm2.told g3 ep py sy (by rw[lv,G2]) (λi z v hz hv=>?_) 42)
  obtain ⟨H4,H5,s4,n4,⟨z',t,a,e1,hm,e2,e3,e4⟩,keep⟩:=each i 216 v (gM hz) hv;cases e1;refine (aR a t (e2,hm,keep a _ (λw=>?_) e3))
  rw[w] at e4;exact n4 e4
theorem ES {dV:Value} (F:bu K "_law_enough" "_law_enough" CK dV f fd):544 bC 1 f fd ["_law_count","_law_size","_law_have","_law_need"] (mQ K):=by
 have sc:aC ["_law_count","_law_size","_law_have","_law_need","_law_there"] ["_law_count","_law_size","_law_have","_law_need"] (au CK):=dI 48
 sleep 255
 refine ix h λk ts th tn p2 q2 a0 b0 p _hi=>?_
 refine jS _hi λq _hj=>?_
 refine fJ _hj λ_r1 bk F2 F0 F1 qq=>?_
 sleep 47;exists _,(ae (554 (aB cx (aB aW (aB aW 95 148) 508) (aB aW 508 148))) (ar (aE (eK AG (aB aW 161 226) (aB aW (aB aW 226 148) 508) 162))))
 try dsimp only[cxK]
 sleep 126;have b1:=bk.mul F2.bp;have b2:=b1.mul F0.bq;have b3:=F0.bp.mul F2.bq;have b4:=b2.add (b3.mono 13)
 have b5:=F1.bp.mul F2.bq;refine (aN ts _ _ _ (rfl,rfl,F2.at_,rfl,bk.ok F2.bp,aN th _ _ _ (rfl,rfl,F0.at_,rfl,b1.ok F0.bq,aN th _ _ _ (rfl,rfl,F0.at_,rfl,aN ts _ _ _ (rfl,rfl,F2.at_,rfl,F0.bp.ok F2.bq,?_)))));try dsimp only[aU,bc]
 exact (aN tn _ _ _ (rfl,rfl,F1.at_,rfl,b4.ok F1.bq,aN tn _ _ _ (rfl,rfl,F1.at_,rfl,aN ts _ _ _ (rfl,rfl,F2.at_,rfl,F1.bp.ok F2.bq,aN th _ _ _ (rfl,rfl,F0.at_,rfl,b5.ok F0.bq,qq)))))
theorem ET {dV:Value} (F:bu K "_law_bought" "_law_bought" CL dV f fd) (DZ13:543 bC 6 "bought_of" ["needed","sizes","shelf"] [.non] gP) (DZ54:543 bC 1 "_law_enough" ["_law_count","_law_size","_law_have","_law_need"] [] (mQ K)):544 bC 7 f fd ["_law_needed","_law_sizes","_law_shelf"] vm:=by
 have sc:aC ["_law_needed","_law_sizes","_law_shelf","_law_rows","_law_row","_law_need","_law_have"] ["_law_needed","_law_sizes","_law_shelf"] (au CL):=dI 48
 sleep 255
 refine kT h λl ds dh nds ks kh _hi=>?_
 refine rX _hi λgs gh _hj=>?_
 refine fJ _hj λ_r1 ne D sz Dh _hk=>?_
 refine cL _hk λszs q=>?_
 sleep 32;exists _,(ae (551 (dW DZ13 hr ((dJ (um (K:=K) rfl) rfl B.Jm boot_list 349)<*>((dJ mq rfl B.J4 mw 210)<*>((dJ mq rfl B.J4 mw 372)<*>aj))))) (ae (bv (aD (Ag (Nat.lt_trans (Nat.add_lt_add_left (by decide:1<64) _) hr.units)) (lj (own:= "_law_row") (ys:= []) (js:= []) rfl 186 (cp 119) 504) (lj (own:= "_law_need") (ys:= []) (js:= []) rfl 186 (cp 95) 504) 162) 170 aO) (ae (550 (tK rfl B.J3 (119<*>349)) (oU rfl (cM (iT 4 sc) (cM 380 iz))) (ae (cf 6 sc (eC 187 114 253 478 252)) (ae (bv (PW.pt (fh (aD jp 325 af 162) (fO (dD (cW (dW DZ54 hr (325<*>((eQ 187 89 253 22)<*>(415<*>(253<*>aj)))))))))) 170 aO) (ar (bv (PW.pt (iZ (aD jq 325 af 162) (iy (cW (dW DZ54 hr ((aB oV 325 af)<*>((eQ 187 89 253 22)<*>(415<*>(253<*>aj))))))))) 170 aO))))) 170)))
 try dsimp only[cxK]
 sleep 35;sleep 6
 have few:=ne.few;refine cut (λσ H'=>∃(t:Addr) (ts:KB),ax H H'/\H' t=some 146/\kR (yP H' gs gh) ts nds/\σ= [KJ l,KJ ds,KJ dh,KJ t,none,none,none]) 91 ?_
 ·refine (aR l _ (rfl,.inl (aQ.of ne.e),λl2 n2=>(aR ds ks (rfl,ag n2 _ _ _ D.e,λd2 nd2=>(aR dh kh (rfl,ag nd2 _ _ _ (ag n2 _ _ _ Dh.e),λh2 nh2=>?_))))))
  have s1:=ag n2 (.lst 366)
  have s2:=ag nd2 (.dK ks);have s3:=ag nh2 (.dK kh);exact (fV l2 d2 h2 nds ks kh (aR gs gh (rfl,ne.copy 520 (s3 _ _ (s2 _ _ ac)),D.cpy 520 (s3 _ _ ac),sz,Dh.cpy 520 ac,szs,λt H5 g5 nt (ts,et,rw')=>hN _ _ (aR t ts (((s1.trans s2).trans s3).trans g5,et,rw',rfl)))))
 rintro σ H1 ⟨t,ts,g1,et,rw',rfl⟩;have tl:=rw'.1;have ne1:=ne.same g1;have D1:=D.same g1;have Dh1:=Dh.same g1;have el:=ne1.e;refine cut (λσ H'=>ax H1 H'/\σ= [KJ l,KJ ds,KJ dh,KJ t,none,none,none]) 91 ?_
 ·have c1:∀(i:Nat) (r:Addr) (z:Str),ts[i]?=some r->(nds.map (·.s))[i]?=some z->∃w,H1 r=some (.tup 537):=λi r z h1 h2=>by
   rw[GJ] at h2;obtain ⟨n,hn,rfl⟩:=HB.mp h2;obtain ⟨tl',k,l',m',e1,_⟩:=(rw'.2 i r n h1 hn).ex;exact (_,e1)
  have c2:∀(i:Nat) (r:Addr) (z:Str),(nds.map (·.t))[i]?=some r->(nds.map (·.s))[i]?=some z->∃w,H1 r=some (.tup 537):=λi r z h1 h2=>by
   rw[GJ] at h1 h2;cases hn:nds[i]? with
   |none=>rw[hn] at h1;cases h1
   |some n=>
    rw[hn] at h1 h2;cases h1;cases h2;exact (_,(ne1.each n (G5 hn)).e)
  have em:366=(nds.map (·.t)).map V.ref:=by rw[He];rfl
  rw[em] at el;have stp:∀(us:KB),(∀(i:Nat) (r:Addr) (z:Str),us[i]?=some r->(nds.map (·.s))[i]?=some z->∃w,H1 r=some (.tup 537))->us.length=(nds.map (·.s)).length->∀v∈us.map V.ref,∃(r:Addr) (z:Str) (w:List V),v= .ref r/\H1 r=some (.tup 537):=λus hu ul v hv=>by
   obtain ⟨r,hr,rfl⟩:=G9.mp hv;obtain ⟨i,hi⟩:=GP.mp hr;have il:i<(nds.map (·.s)).length:=by rw[<-ul];exact (G3.mp hi).1
   obtain ⟨w,e⟩:=hu i r _ hi (G1 il);exact (cU r _ w (rfl,e))
  have l1:ts.length=(nds.map (·.s)).length:=by rw[G2,tl]
  have l2:(nds.map (·.t)).length=(nds.map (·.s)).length:=by rw[G2,G2]
  refine (t,rfl,(_,aQ.of et),lZ (xs:=ts.map V.ref) (Ai H1) (aQ.of et) 281 501 (λp1 ys1 H3 np1 hl1 ht1 g3 e3=>?_))
  ·obtain ⟨r,z,w,rfl,er⟩:=stp ts c1 l1 v hv;exact (aN r _ 0 216 (rfl,rfl,bU.of (g3 _ _ er),b9 (j:=0) rfl,hQ _ _ (cU r z w (rfl,er,rfl)) 351))
  rw[uc l1 c1 hl1 ht1] at e3;refine (l,rfl,(_,aQ.of (g3 _ _ el)),lZ (xs:=(nds.map (·.t)).map V.ref) (Ai H1) (aQ.of (g3 _ _ el)) (by rw[G2,G2];lia) (λv hv H4 g4 Q' hQ=>?_) (λp2 ys2 H4 np2 hl2 ht2 g4 e4=>?_))
  ·obtain ⟨r,z,w,rfl,er⟩:=stp _ c2 l2 v hv;exact (aN r _ 0 216 (rfl,rfl,bU.of (g4 _ _ (g3 _ _ er)),b9 (j:=0) rfl,hQ _ _ (cU r z w (rfl,er,rfl)) 351))
  rw[uc l2 c2 hl2 ht2] at e4;exact (cU p1 p2 _ (rfl,rfl,g4 _ _ e3,e4,(hN _ _ (g3.trans g4,rfl))))
 rintro σ H2 ⟨g2,rfl⟩;have et2:=g2 _ _ et;have el2:=g2 _ _ ne1.e;refine (aR t l (rfl,(_,aQ.of et2),(_,aQ.of el2),pO (xs:=ts.map V.ref) (ys:=nds.map λn=>V.ref n.t) (λj σ H'=>ax H2 H'/\∃o4 o5 o6:Option V,σ= [KJ l,KJ ds,KJ dh,KJ t,o4,o5,o6]) (.refl _,cU none none none rfl) (λj σ H' _ h=>(aQ.of (h.1 _ _ et2),aQ.of (h.1 _ _ el2))) ?_ ?_))
 ·rintro j x y σ H3 T hx hy ⟨g3,o4,o5,o6,rfl⟩ nT;obtain ⟨r,hr',rfl⟩:=jN hx;rw[GJ] at hy;obtain ⟨n,hn,rfl⟩:=HB.mp hy;have gT:=ag nT (.tup [.ref r,.ref n.t]);have g4:=(g2.trans g3).trans gT;have nd:=(ne1.each n (G5 hn)).same g4;obtain ⟨tl',k,l',m',er,_,ok⟩:=((rw'.2 j r n hr' hn).same g4).ex;have D4:=D1.same g4;have Dh4:=Dh1.same g4;have kn:=ok.nn;have kb:=ok.bd;sleep 142;generalize ay H3 T (.tup [.ref r,.ref n.t])=H4 at*;try dsimp only[aU,bc]
  refine (dh,rfl,.inl (_,.inl Dh4.e),aN n.t _ _ _ (rfl,rfl,bU.of nd.e,rfl,by show 2<=sizeLine;decide,λtz ntz=>?_))
  have g5:=ag ntz 222;obtain ⟨th,hv',eth,am⟩:=(Dh4.same g5).have n.s ac;exists _,cq.k (k:= .inr n.s) (g5 _ _ Dh4.e);rw[hv'];have nd5:=nd.same g5;have D5:=D4.same g5;have er5:=g5 _ _ er;generalize ay H4 tz 222=H5 at g5 nd5 D5 er5 eth⊢;obtain ⟨⟨p2,q2⟩,hg⟩:∃w,gs n.s=some w:=Option.ne_none_iff_exists'.mp (szs n (G5 hn));obtain ⟨ok2,t2,hv,et2⟩:=D5.yes _ _ _ hg;have F2:b7 K 150 H5 t2 p2 q2:=ok2.fr et2;have F0:b7 K 150 H5 th (aV gh n.s).1 (aV gh n.s).2:=am.fr eth;have yes:=ua ok hg F2.pos;have done:∃o4 o5 o6:Option V,[some 176,some (.ref ds),some (.ref dh),some 246,some (.ref r),some (.ref n.t),some (.ref th)]= [some 176,some (.ref ds),some (.ref dh),some 246,o4,o5,o6]:=(cU _ _ _ rfl);try dsimp only[aU,bc]
  refine cut (λσ H'=>H5=H'/\σ= [KJ l,KJ ds,KJ dh,KJ t,KJ r,KJ n.t,KJ th]) 91 ?_
  ·refine (aN r _ _ _ (rfl,rfl,bU.of er5,rfl,dF 42 (aN r _ _ _ (rfl,rfl,bU.of er5,rfl,aN n.t _ _ _ (rfl,rfl,bU.of nd5.e,rfl,aR ds (.ref t2) (rfl,523,aN n.t _ _ _ (rfl,rfl,bU.of nd5.e,rfl,jR k t2 th n.a p2 q2 469 468 n.p (n.q,(rfl,kb.mono 13,F2,F0,nd5.fr,(mB.i ?_))))))))))
   rw[decide_eq_true yes];exact dP (hN _ _ 239)
  sleep 141;have gE:ax H2 H5:=(g3.trans gT).trans g5;refine (aN r _ _ _ (rfl,rfl,bU.of er5,rfl,?_))
  by_cases k0:0<k
  ·refine dT k0 (aN r _ _ _ (rfl,rfl,bU.of er5,rfl,aN n.t _ _ _ (rfl,rfl,bU.of nd5.e,rfl,aR ds (.ref t2) (rfl,523,aN n.t _ _ _ (rfl,rfl,bU.of nd5.e,rfl,jR (k-1) t2 th n.a p2 q2 469 468 n.p (n.q,(rfl,(kb.sub (Bd.one.mono 13)).mono 13,F2,F0,nd5.fr,(mB.i ?_))))))))
   rw[decide_eq_false (wC ok hg k0)];exact dP (gE,done)
  ·exact dF k0 (gE,done)
 ·rintro σ H3 ⟨g3,o4,o5,o6,rfl⟩;exact q _ 203
theorem EU {dV:Value} (F:bu K "_law_none" "_law_none" AC dV f fd) (DZ43:543 bC 1 "_law_led_to" ["_law_pairs","_law_good"] [] jC) (DZ50:543 bC 4 "_law_barred" ["_law_larder","_law_told","_law_good"] [] jC):544 bC 5 f fd ["_law_larder","_law_told","_law_dishes_here","_law_good"] jC:=by
 have sc:aC ["_law_larder","_law_told","_law_dishes_here","_law_good","_law_goods","_law_recipe","_law_plates"] ["_law_larder","_law_told","_law_dishes_here","_law_good"] (au AC):=dI 48
 sleep 120
theorem EV {dV:Value} {hd:KH} (F:bu K "_law_none" "_law_none" CM dV f fd) (HZ44:∀hd,qJ hd P w K mg base 1 "_law_led_to" ["_law_pairs","_law_good"] (nj hd pY)) (HZ51:∀hd,qJ hd P w K mg base 4 "_law_barred" ["_law_larder","_law_told","_law_good"] (nj hd (jg K mt))):rZ hd P w K mg base 5 f fd ["_law_larder","_law_told","_law_dishes_here","_law_good"] (nj hd (mR K GT mt)):=by
 have sc:aC ["_law_larder","_law_told","_law_dishes_here","_law_good","_law_goods","_law_recipe","_law_plates"] ["_law_larder","_law_told","_law_dishes_here","_law_good"] (au CM):=dI 48
 sleep 11
 ·obtain ⟨_,_,_,_,_,_,_,_,_,_,_,_,_,_,_,_,_,rfl,_⟩:=h
  rfl
 sleep 165
 refine ix _hi λL ld z nm n F1 rows m g _hj=>?_
 refine kT _hj λbs ns ps es vw dd _hk=>?_
 refine jS _hk λDT _hl=>?_
 refine iY _hl λ_r1 da nmz et s7 n60 inz nf q=>?_
 sleep 132;exists _,(ae (554 136) (ae (iI 93 hr.hd (mG (K:=K) rfl 114) (vt (K:=K) rfl hr.hd 476) (ar (554 (aB sJ 161 (xH (hd:=hd) (own:= "_law_take") (ys:= []) (js:= []) hr.hd 186 (mG (K:=K) rfl (cA 198 rfl)) 504))))) (ae (bv (aD eM 119 161 74) 170 aO) (ar (aE (eK (iP hr.units0) (BH (uh (own:= "_law_name") (ys:= ["_law_larder","_law_told"]) (js:= [0,1]) hr.hd (xO (AO (AO xN)) (.cons rfl (.cons rfl .nil)) 13 rfl rfl rfl rfl rfl rfl rfl rfl) (mT (ig (j:=4) (HZ44 hd) hr 13 rfl (268<*>327))) (λC fp s H=>(dD (cW (ig (j:=4) (HZ51 hd) hr 13 rfl (89<*>(114<*>349)))))) 353)) 136 162))))))
 try dsimp only[cxK]
 sleep 35;sleep 6
 have few:=da.few;have nm12:=s7.d7.few.2.2;obtain ⟨d0,hd0,k0,hk0,ek0⟩:=inz;have zin:z∈nm:=by
  obtain ⟨_,_,kok,_⟩:=da.each d0 hd0;exact ek0▸kok.inn k0 hk0
 refine (by show 0<=sizeLine;decide,λlg nlg=>?_)
 have g1:=ag nlg 130;have e1:ay H lg 130 lg=some (.lst (([]:KA).map V.str)):=ac;generalize ay H lg 130=H1 at g1 e1⊢;try dsimp only[aU,bc]
 refine cut (λσ H'=>ax H H'/\∃(lg:Addr) (gs:KA) (o5 o6:Option V),H' lg=some (.lst 275)/\z∈gs/\σ= [KJ L.x,KJ L.t,KJ ld,some 216,KJ lg,o5,o6]) 91 ?_
 ·refine (ld,rfl,(_,aQ.of (g1 _ _ da.at_)),oF (xs:=dd.map λd=>V.ref d.t) (λi σ H'=>ax H H'/\∃(lg:Addr) (gs:KA) (o5 o6:Option V),H' lg=some (.lst 275)/\(∀(j:Nat) (d:mZ),j<i->dd[j]?=some d->∀k∈d.ks,k.1∈gs)/\gs.length<=12*i/\σ= [KJ L.x,KJ L.t,KJ ld,some 216,KJ lg,o5,o6]) (g1,aN lg [] none none (e1,λj d h=>absurd h (IU _),HC _,rfl)) (λi σ H' _ h=>(aQ.of (h.1 _ _ da.at_),cJ hok h.1)) ?_ ?_)
  ·clear e1 g1 nlg;intro i v σ H1 hv h_;refine cL h_ λg1 _hi=>?_
   refine dY _hi λlg gs o5 o6 _hj=>?_
   refine gp _hj λe1 pre gl _r1=>?_
   sleep 34;rw[GJ] at hv;cases hd:dd[i]? with
   |none=>rw[hd] at hv;cases hv
   |some d9=>
   rw[hd] at hv;cases hv;have il:i<dd.length:=(G3.mp hd).1;obtain ⟨et1,rc,kok,_⟩:=(da.same g1).each d9 (G5 hd);have kf:=kok.few nm12;obtain ⟨dr,lt,fs,er,ft,fp,⟨ts,el,tl,each⟩⟩:=rc.ex;refine (cJ hok g1,aR d9.t _ (rfl,bU.of et1,rfl,aR _ _ 345));try dsimp only[aU,bc]
   refine (aN d9.r _ dr _ (_,(rfl,er,B.IO,B.Iy,ft,lt,rfl,(_,aQ.of el),wG (xs:=ts.map V.ref) (Ai H1) (aQ.of el) 281 (cJ hok g1) 501 (λp1 ys1 H3 np1 hl1 ht1 g3 e3=>?_))))
   ·obtain ⟨r,hr',rfl⟩:=G9.mp hv;obtain ⟨j,hj⟩:=GP.mp hr';have jl:j<d9.ks.length:=by rw[<-tl];exact (G3.mp hj).1
    obtain ⟨am,w1,w2⟩:=each j r _ hj (G1 jl);exact (aN r _ 0 _ (rfl,rfl,bU.of (g3 _ _ w1),b9 (j:=0) rfl,hQ _ _ (cU r _ _ (rfl,w1,rfl)) 351))
   rw[uc (zs:=d9.ks.map 111) (by rw[G2,tl]) (λj r y h1 h2=>by
    rw[GJ] at h2;obtain ⟨k,hk,rfl⟩:=HB.mp h2;obtain ⟨am,w1,_⟩:=each j r k h1 hk;exact (_,w1)) hl1 ht1] at e3
   refine (aN lg p1 _ _ (rfl,rfl,g3 _ _ e1,e3,by rw[G2,G2,G2];lia,λp2 np2=>?_))
   have g4:=g3.trans (ag np2 (.lst (gs.map V.str++(d9.ks.map 111).map V.str)));refine (g1.trans g4,aN p2 (gs++d9.ks.map 111) _ _ (by rw[ac,GW],λj d hj hd' k hk=>?_,by rw[G8,G2];lia,rfl))
   by_cases c:j=i
   ·subst c;rw[hd] at hd';cases hd';exact GN _ (G9.mpr (k,hk,rfl))
   ·exact Hu _ (pre j d 42 hd' k hk)
  ·sleep 127
   refine dY _hi λlg gs o5 o6 _hj=>?_
   refine gp _hj λe2 pre gl _r1=>?_
   sleep 34;obtain ⟨j,hj⟩:=GP.mp hd0;exact hN _ _ (g2,aN lg gs o5 o6 (e2,ek0▸pre j d0 (by rw[G2];exact (G3.mp hj).1) hj k0 hk0,rfl))
 clear e1 g1 nlg lg H1;sleep 128
 refine dY _hi λlg gs o5 o6 _hj=>?_
 refine gW _hj λe1 zg _r1=>?_
 sleep 34;refine (aR lg _ (rfl,.inl (aQ.of e1),rfl,eZ gs,mB.i ?_));rw[show sG 216 275=true by rw[iE];exact decide_eq_true zg]
 refine dP ?_;have s71:=s7.same g1;have et1:=g1 _ _ et;have fw:=s7.d7.few;refine (549 (rfl,rfl,aQ.of et1,rfl,cJ hok g1,aN L.ds z (oC es) (yw es) (rfl,s71.d7.ee,GH es,by rw[zX];lia,λdk H2 kn g2 ndk e2 ndd kl mem=>(aR dk _ (rfl,e2,λo nfz=>?_)))))
 have g3:=dA g2 ndk (.frz o (.dK (bg kn 71)));have ef:ay H2 dk (.frz o (.dK (bg kn 71))) dk=some (.frz o (.dK (bg kn 71))):=ac;have th:ax H1 H2:=g2;refine nA (λ_=>false) ef 461 (cJ hok (g1.trans g3)) (λi k x hk H3 g4 R hR=>?_) (λp H3 g4 e4=>?_)
 ·obtain ⟨y,rfl,hy⟩:=Aa hk;have ly:=(mem y).mp (G5 hy);have yin:y∈nm:=by
   cases ly with
   |self=>exact zin
   |step l h=>
    obtain ⟨⟨a,b,t⟩,ht,e⟩:=G9.mp h;cases e;exact (s7.d7.inn _ _ _ ht).2.1
  have blk:Blk ps bs y:=Classical.byContradiction λc=>nf (y,ly,c)
  have g34:=g3.trans g4;exact (cJ hok (g1.trans g34),jR L y nm n F1 rows m g bs (aN ns ps es vw (rfl,g34 _ _ et1,s71.same g34,n60,nmz y yin,blk,λH4 g5=>(hR _ g5))))
 ·have fa:=g4 _ _ ef;have pd:p≠dk:=λw=>by rw[w,fa] at e4;cases e4
  refine (cU dk o _ (fa,nfz,by show 0<=sizeLine;decide,λle ne=>(cU p le _ (rfl,rfl,aQ.of (ag ne _ _ _ (by rw[ak pd];exact e4)),aQ.of ac,?_))))
  rw[List.filter_eq_nil_iff.mpr (λ_ _=>by decide)]
  refine q _ ((g1.trans ?_).trans (ag ne _));exact λb u hb=>by
   by_cases w:b=dk
   ·subst w;rw[hb] at ndk;cases ndk
   ·rw[ak w];exact (g3.trans g4) b u hb
theorem EW {dV:Value} (F:bu K "_law_right" "_law_right" CN dV f fd) (DZ53:543 bC 8 "_law_sums" ["_law_dishes_here","_law_larder","_law_told"] [] (rO K GT mt)) (DZ55:543 bC 7 "_law_bought" ["_law_needed","_law_sizes","_law_shelf"] [] vm) (XZ37:543 138 7 "needs_of" ["dishes","larder"] [] (jd K GT mt on)) (HZ57:∀hd,qJ hd P w K mg base 5 "_law_none" ["_law_larder","_law_told","_law_dishes_here","_law_good"] (nj hd (mR K GT mt))):544 bC 9 f fd ["_law_larder","_law_told","_law_dishes_here","_law_sizes","_law_shelf"] (oQ K GT mt):=by
 have sc:aC ["_law_larder","_law_told","_law_dishes_here","_law_sizes","_law_shelf","_law_found","e"] ["_law_larder","_law_told","_law_dishes_here","_law_sizes","_law_shelf"] (au CN):=dI 48
 sleep 255
 refine ix h λL ld dz dh nm n F1 rows m _hi=>?_
 refine ix _hi λg bs ns ps es vw dd DT ks _hj=>?_
 refine si _hj λkh gs gh _hk=>?_
 refine iY _hk λ_r1 da nmz et s7 n60 tw Dz _hl=>?_
 refine gp _hl λsz Dh szs q=>?_
 sleep 132;exists _,(ae (xC rfl rfl (λpins E=>(ar (cf 5 sc (fQ XZ37 hr 13 rfl cG (114<*>349))))) (Br B.JM rfl B.JB sc.nd (i:=6) rfl rfl (λpins a=>(ar (aE (ig (j:=8) (HZ57 (some 134)) (hr.suite _) 13 rfl (95<*>(89<*>(114<*>((zr (K:=K) rfl 415 rfl)<*>aj)))))))) xD)) (ar (aE (lK (eK (BM 2 (Nat.lt_trans (Nat.add_lt_add_left (by decide:3<64) _) hr.units)) 198 (dW DZ53 hr (114<*>(95<*>210))) 162) (lJ (dW DZ55 hr (198<*>(119<*>(161<*>aj)))))))))
 try dsimp only[cxK]
 sleep 126;sleep 6
 have nm12:=s7.d7.few.2.2;obtain ⟨eb0,eb1⟩:=tY tw s7.d7.few.2.1;sleep 78
 refine (jR ld L.x L.dp L.ds L.db nm n F1 rows (jR m g bs ns ps es vw dd DT (rfl,da,nmz,s7,n60,tw,λl H1 allF g1 nl sr gk inn=>?_,λi j d k d' H1 hd hk pre prek nf g1 ed a na=>(aR on true (rfl,B.Jj,gG ?_)))))
 ·try dsimp only[aU,bc]
  refine (jR ld L nm n F1 rows m g bs (fV ns ps es vw dd DT (rfl,da.same g1,nmz,g1 _ _ et,s7.same g1,n60,tw,allF,λl2 H2 g2 sr2=>?_)))
  obtain ⟨xs,ys,w1,w2,w3⟩:=Aj (K:=K) (sr.same g2) sr2;obtain ⟨nds,ne,nin⟩:=Ak (sr.same g2) gk D0 bD inn nm12;exact (aN l l2 xs ys (rfl,rfl,w1,w2,w3,(fV l dz dh nds ks kh (aR gs gh (rfl,ne,Dz.same 381,sz,Dh.same 381,λn hn=>szs _ (nin n hn),λH3 g3=>q _ 203)))))
 ·have k4:=ag na (xB a 465 (some d'));have g4:=g1.trans k4;refine (fV a _ d' _ _ _ (rfl,ac,k4 _ _ ed,(B.JO.gg,B.JE.dct,B.JA),rfl,(λv e=>by cases e;exact (aN a _ _ _ (rfl,ac))),jR L ld k.1 nm n F1 rows m g (fV bs ns ps es vw dd (DT,(rfl,da.same g4,nmz,g4 _ _ et,s7.same g4,n60,(d,G5 hd,k,G5 hk,rfl),nf,λH5 g5=>q _ (g4.trans g5))))))
theorem EX {dV:Value} (F:bu K "law" "law" qb dV f fd) (DZ27:545 bC 1 JD ["self"] [] (oB mt)) (DZ37:543 bC 7 "needs_of" ["dishes","larder"] [] (jh K mt)) (DZ38:545 bC 1 JC ["self","name","plates","takes","steps","links"] [] (ve GT)) (DZ39:543 bC 1 "_law_cell_at" ["_law_script","_law_k"] [] (xq K)) (DZ40:543 bC 1 "_law_names" ["_law_number","_law_many"] [] rD) (DZ45:543 bC 3 "_law_ratio" ["_law_cell"] [] iL) (DZ46:543 bC 4 "_law_deed" ["_law_larder","_law_told","_law_names_here","_law_cell"] [] (rM K mt)) (DZ47:543 bC 4 "_law_takes" ["_law_script","_law_names_here","_law_turn"] [] (oO K)) (DZ48:543 bC 2 "_law_dishes" ["_law_script","_law_recipes"] [] (mO K GT)) (DZ58:543 bC 9 "_law_right" ["_law_larder","_law_told","_law_dishes_here","_law_sizes","_law_shelf"] [] (oQ K GT mt)):544 bC 10 f fd ["_law_script"] (uE K):=by
 have sc:aC ["_law_script","_law_head","_law_names_here","_law_larder","_law_told","_law_cell","_law_recipes","_law_turn","_law_plates","_law_dishes_here","_law_sizes","_law_shelf","_law_k"] ["_law_script"] (au qb):=dI 48
 sleep 255
 obtain ⟨a,ns,rfl,hS,h63,q⟩:=h;exists _,(ae (cf 1 sc (aB bw (dW DZ39 hr (95<*>316)) (aB ze af af))) (ae (555 (dW DZ40 hr ((dW DZ39 hr (95<*>316))<*>((aB cx af (aB bw 89 af))<*>aj)))) (ae (551 (Bz B.JS DZ27 hr 13 rfl B.J1)) (ae (554 (@bz _ _ _ _ (qt<*>(qt<*>(b8<*>aj))))) (ae (550 406 380 (ar (bG (dW DZ46 hr (119<*>(161<*>(114<*>512))))))) (ae (cf 6 sc 136) (ae (550 (fZ rfl B.Jn 316) (iT 7 sc) (ae (cf 8 sc (aB cx af (aB bw (aB bA (aB bA 89 af) (aB cx af (aB aW af (pv 7)))) af))) (ar (bG (546 415 ((By B.JR DZ38 hr 13 rfl B.JX ((av aS (@bz _ _ _ _ (ff<*>(ff<*>aj))) (pv 7) 22)<*>((pv 8)<*>((dW DZ47 hr (95<*>(114<*>((pv 7)<*>aj))))<*>(136<*>(136<*>aj))))))<*>aj)))))) (ae (cf 9 sc (dW DZ48 hr (95<*>(415<*>aj)))) (ae (cf 10 sc b8) (ae (cf 11 sc b8) (ae (550 (fZ rfl B.Jn (145<*>aj)) (iT 12 sc) (ae (cH 187 (pv 10) (av aS 114 (pv 12) 22) (dW DZ45 hr ((aB bA 89 (aB cx (pv 12) af))<*>aj)) rfl) (ar (bv (aD gY (aB bw (aB cx 89 (aB aW (pv 12) (pv 12))) af) af 162) (ar (cH 187 (pv 11) (av aS 114 (pv 12) 22) (dW DZ45 hr ((aB cx (aB bA 89 (aB cx (aB aW af (pv 12)) af)) (pv 12))<*>aj)) rfl)) aO)))) (ae (bv (dD (cW 368)) 170 aO) (ar (aE (lK (eK (iP hr.units0) (dW DZ37 hr (136<*>327)) 136 162) (lJ 368))))))))))))))))
 try dsimp only[cxK]
 refine FX ?_;intro D' r12 r11 r10 r9 r8 r7 r6 r5 r4 r3 r2 r1;sleep 6
 refine gQ (λNq=>∀hd:Int,0<=hd->hd<1000000000000->Nq [some 134,some 294,none,none,none,none,none,none,none,none,none,none,none] H) 91 ?_
 ·refine (cU a ns 0 (rfl,hS,by decide,λv=>((by decide,by decide),(by show (10:Int)^12≠0;decide),hN _ (GO _ 13) (HD _ 13))))
 intro hd h0 h12;refine gQ (λNq=>∀(ln:Addr) (zs:KA) (H':Hp),ax H H'->H' ln=some 202->2<=zs.length->zs.length<=12->(∀z∈zs,Nm z)->zs.Nodup->Nq [some 134,some 294,some 466,none,none,none,none,none,none,none,none,none,none] H') 91 ?_
 ·have m0:=GO hd (show (0:Int)<11 by decide)
  have m1:=HD hd (show (0:Int)<11 by decide)
  exact (cU a ns 1 (rfl,hS,by decide,λc=>(292,aR c _ (rfl,by lia,by lia,λl H1 zs g1 e1 zl nz nd=>hN l zs H1 g1 e1 42 42 nz nd))))
 intro ln zs H1 g1 en z2 z12 nz ndz;replace hS:=g1.seq hS;clear g1;refine gQ (λNq=>∀(x:Addr) (FA:KB) (H':Hp),LB mt FA H' x [] 0 (λ_ _=>none) [] []->H' ln=some 202->aQ K H' a 164->Nq [some 134,some 294,some 466,some 328,none,none,none,none,none,none,none,none,none] H') 91 ?_
 ·intro x dx nx ndx ne;refine (aR x dx (rfl,ac,λH2 FA k2 f0 lbA=>(rfl,?_)))
  have g2:ax H1 H2:=λb o e=>k2 b o (λz=>by rw[z,nx] at e;cases e) (by rw[ak (λz=>by rw[z,nx] at e;cases e),ak (λz=>by rw[z,ndx] at e;cases e)];exact e)
  exact hN x FA H2 lbA (g2 _ _ en) (g2.seq hS)
 clear hS en H1;intro x FA H2 lbA en hS;refine gQ (λNq=>∀(L:Ld) (F1:KB) (H':Hp),yQ K mt H' zs 0 L F1->H' ln=some 202->aQ K H' a 164->Nq [some 134,some 294,some 466,some 515,some 516,none,none,none,none,none,none,none,none] H') 91 ?_
 ·intro dp n1 ds n2 db n3;have fdb:db∉FA:=lbA.free (by
   cases w:H2 db with
   |none=>rfl
   |some o=>rw[ag n2 _ _ _ (ag n1 _ _ _ w)] at n3;cases n3)
  have g3:=((ag n1 487).trans (ag n2 487)).trans (ag n3 83);have e1:=(ag n3 83) _ _ ((ag n2 487) dp _ ac);have e2:=(ag n3 83) ds _ ac;have e3:ay (ay (ay H2 dp 487) ds 487) db 83 db=some (.dK []):=ac;have dn:dp≠ds:=λz=>by rw[<-z,ac] at n2;cases n2
  generalize ay (ay (ay H2 dp 487) ds 487) db 83=H3 at g3 e1 e2 e3⊢;refine (by show 3<=sizeLine;decide,λt nt=>?_)
  have g4:=ag nt (.lst [.ref dp,.ref ds,.ref db]);have g34:=g3.trans g4;exact hN (x,t,dp,ds,db) FA _ (ac,fV _ _ _ _ _ _ (aR _ _ (S7.start (lbA.same g34) (g4 _ _ e1) (g4 _ _ e2) (g4 _ _ e3) fdb dn z12,λa b (t,z)=>nomatch z))) (g34 _ _ en) (g34.seq hS)
 clear hS en lbA H2;intro L F1 H1 l46 en hS;refine gQ (λNq=>∀(F2:KB) (o5:Option V) (n:Nat) (H':Hp),n<=60->yQ K mt H' zs n L F2->H' ln=some 202->aQ K H' a 164->Nq [some 134,some 294,some 466,some 515,some 516,o5,none,none,none,none,none,none,none] H') 91 ?_
 ·refine (ν,ν,aR a _ (rfl,hS,λls nls=>505))
  have cl:=DR ns;have ci:∀v∈jt 164 (some 2) (some 62),∃c:Int,v= .int c:=λv hv=>by
   sleep 88
  generalize jt 164 (some 2) (some 62)=cells at cl ci;have g4:=ag nls 317;refine cX (xs:=cells) (λi σ H'=>H' ls=some 317/\H' ln=some 202/\aQ K H' a 164/\∃(F2:KB) (o5:Option V),yQ K mt H' zs i L F2/\σ= [KJ a,some 294,KJ ln,KJ L.x,KJ L.t,o5,none,none,none,none,none,none,none]) (ac,g4 _ _ en,g4.seq hS,aR F1 none (l46.same g4,rfl)) 475 ?_ ?_
  ·rintro i v σ H4 hv ⟨el,en4,hS4,F2,o5,l4,rfl⟩;have il:=(G3.mp hv).1;obtain ⟨c,rfl⟩:=ci v (G5 hv);exact (fV L ln c zs i F2 (rfl,l4,by lia,en4,z2,nz,λH5 F5 k5 l5=>(l4.kd k5 _ _ 70 70 el,l4.kd k5 _ _ 70 70 en4,(l4.kd k5).seq hS4,aR F5 _ (l5,rfl))))
  ·rintro σ H4 ⟨el,en4,hS4,F2,o5,l4,rfl⟩;exact hN F2 o5 _ H4 cl l4 en4 hS4
 clear l46 en hS F1 H1;intro F1 o5 n H0 n60 l46 en hS;try dsimp only[aU,bc]
 refine (by show 0<=sizeLine;decide,λlr nlr=>?_)
 try dsimp only[aU,bc]
 refine gQ (λNq=>∀(rcs:List Rc) (o7 o8:Option V) (H':Hp),ax H0 H'->FT GT H' lr zs rcs->Nq [some 134,some 294,some 466,some 515,some 516,o5,some (.ref lr),o7,o8,none,none,none,none] H') 91 ?_
 ·refine (2,rfl,by decide,by decide,f8 (λk σ H'=>ax H0 H'/\∃(rcs:List Rc) (o7 o8:Option V),H' lr=some (.lst (rcs.map λr=>V.ref r.r))/\rcs.length=k/\(∀r∈rcs,ud GT lr H' r.r r.pl r.ks/\tX zs r.ks/\1<=r.pl/\r.pl<=1000)/\σ= [KJ a,some 294,KJ ln,KJ L.x,KJ L.t,o5,KJ lr,o7,o8,none,none,none,none]) (ag nlr _,cU [] none none (ac,rfl,λr hr=>(nomatch hr),rfl)) ?_ ?_)
  ·intro k σ H2 hk h_;refine cL h_ λg2 _hi=>?_
   refine si _hi λrcs o7 o8 _hj=>?_
   refine gp _hj λer rl each _r1=>?_
   sleep 34;have k2:k<2:=hk;try dsimp only[aU,bc]
   refine cut (λσ H'=>H2=H'/\∃pl:Int,1<=pl/\pl<=1000/\σ= [KJ a,some 294,KJ ln,KJ L.x,KJ L.t,o5,KJ lr,some (.int 533),some (.int pl),none,none,none,none]) 91 ?_
   ·have bk:Bd 4 (0+(k:Int)):=by unfold Bd;show _<16;lia
    have b10:Bd 10 999:=by unfold Bd;decide
    have w0:=GO ((hd.fdiv 11).fdiv (1+999*533)) (show (0:Int)<1000 by decide)
    have w1:=HD ((hd.fdiv 11).fdiv (1+999*533)) (show (0:Int)<1000 by decide)
    exact (201,b10.ok bk,(by lia,GZ 42),(by show (1000:Int)≠0;decide),hN _ _ (rfl,_,by lia,by lia,rfl))
   rintro σ _ ⟨rfl,pl,p1,p2,rfl⟩;try dsimp only[aU,bc]
   obtain ⟨nm0,az⟩:∃v,iR [V.str (Str.ofString "soup"),V.str (Str.ofString "stew")] (0+(k:Int))=some v:=by
    rcases (show k=0∨k=1 by lia) with rfl|rfl
    ·exact ⟨ν⟩
    ·exact ⟨ν⟩
   refine (Or.inl (rfl,_,aQ.of er),by show 2<=sizeLine;decide,λl0 n0=>(aN l0 _ _ _ (rfl,rfl,aQ.of ac,az,aN a ln ns zs (_,(rfl,(g2.trans (ag n0 _)).seq hS,(g2.trans (ag n0 _)) _ _ en,z2,z12,λlt ts ks H4 g4 nlt elt tk ko=>?_)))))
   have k4:=(ag n0 (.lst [.str "soup",.str "stew"])).trans g4;refine (by show 0<=sizeLine;decide,λl1 n1=>(by show 0<=sizeLine;decide,λl2 n2'=>?_))
   have h1:=ag n1 130;have h2:=ag n2' 130;have el1:ay (ay H4 l1 130) l2 130 l1=some (.lst []):=h2 _ _ ac;have el2:ay (ay H4 l1 130) l2 130 l2=some (.lst []):=ac;have h12:=h1.trans h2;have elt':=h12 _ _ elt;have k5:=k4.trans h12;replace tk:=tk.mono (λ_ _ e=>h12 _ _ e)
   generalize ay (ay H4 l1 130) l2 130=H5 at el1 el2 elt' k5 tk⊢;intro x dx nx ndx ne;have g6:ax H5 (ay (ay H5 dx (.own x)) x (.ins GT dx [])):=λb o e=>by
    rw[ak (λw=>by rw[w,nx] at e;cases e),ak (λw=>by rw[w,ndx] at e;cases e)]
    exact e
   refine (jR x dx lt l1 l2 _ _ _ _ (_,(rfl,ac,g6 _ _ elt',g6 _ _ el1,g6 _ _ el2,λla fs H6 kx nla ela ex f1 f2=>(rfl,?_))))
   have g7:ax H5 H6:=λb o e=>kx b o (λw=>by rw[w,nx] at e;cases e) (g6 _ _ e)
   have k27:=k5.trans g7;have er6:=k27 _ _ er;have nal:la≠lr:=λw=>by rw[w,g6 _ _ (k5 _ _ er)] at nla;cases nla
   have tk6:=tk.mono (λ_ _ e=>g7 _ _ e)
   have keep:∀b o,b≠lr->H6 b=some o->ay H6 lr (.lst (rcs.map (λr=>V.ref r.r)++ [.ref x])) b=some o:=λb o n e=>by
    rw[ak n];exact e
   refine (cU lr _ _ (rfl,rfl,er6,by rw[G2];lia,dA (g2.trans k27) nlr _,cU (rcs++ [(x,pl,ks)]) _ _ (by rw[ac,GW];rfl,by rw[G8,GV,rl],λr hr=>?_,rfl)))
   rcases GU.mp hr with w|w
   ·obtain ⟨q1,q2⟩:=each r w;exact ((q1.kx er (λb o _ e=>k27 _ _ e)).kx er6 keep,q2)
   ·rw[GK] at w;subst w;have:ud GT lr H6 x pl ks:=(dx,la,fs,ex,f1,f2,(ts,ela,tk6.len,tk6.each),nal);exact (this.kx er6 keep,ko,p1,p2)
  ·sleep 127
   refine si _hi λrcs o7 o8 _hj=>?_
   refine gp _hj λer rl each _r1=>?_
   sleep 34;exact hN rcs o7 o8 H2 g2 (er,λr hr=>((each r hr).1.to,(each r hr).2),rl)
 intro rcs o7 o8 H1 g1 rc;replace l46:=l46.same g1;replace en:=g1 _ _ en;replace hS:=g1.seq hS;clear g1;refine gQ (λNq=>∀(ld:Addr) (dd:List mZ) (H':Hp),ax H1 H'->p8 GT H' ld zs (CW rcs) dd->Nq [some 134,some 294,some 466,some 515,some 516,o5,some (.ref lr),o7,o8,some 514,none,none,none] H') (λN hN=>(aN a lr ns zs (rcs,(rfl,hS,rc,z12,λld dd H' g _ db=>hN ld dd H' g db)))) ?_
 intro ld dd H2 g2 db;replace l46:=l46.same g2;replace en:=g2 _ _ en;clear hS rc g2;intro dz ndz';try dsimp only[aU,bc]
 intro dh ndh;try dsimp only[aU,bc]
 have zdh:dz≠dh:=λw=>by rw[<-w,ac] at ndh;cases ndh
 have g3:=(ag ndz' 83).trans (ag ndh 83);have ez:ay (ay H2 dz 83) dh 83 dz=some (.dK []):=ag ndh 83 _ _ ac;have eh:ay (ay H2 dz 83) dh 83 dh=some (.dK []):=ac;have nh:H2 dh=none:=by
  cases w:H2 dh with
  |none=>rfl
  |some o=>rw[ag ndz' _ _ _ w] at ndh;cases ndh
 generalize ay (ay H2 dz 83) dh 83=H3 at g3 ez eh⊢;have lz:(zs.map V.str).length=zs.length:=G2 _;refine gQ (λNq=>∀(ks kh:List 103) (gs gh:jb) (o12:Option V) (H':Hp),ax H2 H'->DA H' dz ks gs->m9 gs->DA H' dh kh gh->(∀z∈zs,gs z≠none)->Nq [some 134,some 294,some 466,some 515,some 516,o5,some (.ref lr),o7,o8,some 514,some (.ref dz),some (.ref dh),o12] H') 91 ?_
 ·refine (aR ln _ (rfl,.inl (aQ.of (g3 _ _ en)),ν,by lia,by lia,f8 (λk σ H'=>ax H2 H'/\∃(ks kh:List 103) (gs gh:jb) (o12:Option V),DA H' dz ks gs/\m9 gs/\DA H' dh kh gh/\ks.length<=k/\kh.length<=k/\(∀(i:Nat) (z:Str),i<k->zs[i]?=some z->gs z≠none)/\σ= [KJ a,some 294,KJ ln,KJ L.x,KJ L.t,o5,KJ lr,o7,o8,KJ ld,KJ dz,KJ dh,o12]) (g3,aN [] [] _ _ (none,(DA.nil ez,λx p q e=>(nomatch e),DA.nil eh,G4 _,G4 _,λi z h=>absurd h (IU _),rfl))) ?_ ?_))
  ·intro k σ H4 hk h_;sleep 164
   refine dY _hi λks kh gs gh _hj=>?_
   refine jS _hj λo12 _hk=>?_
   refine fJ _hk λDz sz Dh kz kh' _hl=>?_
   refine cL _hl λall _r1=>?_
   sleep 219;have kl:k<zs.length:=by lia
   have hz:=G1 kl;generalize zs[k]=z at hz;have at1:iR (zs.map V.str) 533=some (.str z):=by rw[show 0+(k:Int)=(k:Int) by lia];exact b9 (gM hz)
   try dsimp only[aU,bc]
   refine gQ (λNq=>∀(ks kh:List 103) (gs:jb) (H':Hp),ax H2 H'->DA H' dz ks gs->m9 gs->DA H' dh kh gh->ks.length<=k+1->kh.length<=k->(∀(i:Nat) (z:Str),i<k+1->zs[i]?=some z->gs z≠none)->Nq [some 134,some 294,some 466,some 515,some 516,o5,some (.ref lr),o7,o8,some 514,some (.ref dz),some (.ref dh),some (.int 533)] H') 91 ?_
   ·refine ((by lia,GZ 42),ν,λp q' p0 lo _ _ f t H5 g5 et=>(aN ln _ _ _ (rfl,rfl,aQ.of (g5 _ _ (g4 _ _ en)),at1,aR dz _ (rfl,fj.k (k:= .inr z) (Dz.same g5).e 42,?_))))
    exact hN _ kh _ _ (dA (g4.trans g5) ndz' _) ((Dz.same g5).put (AY p0 lo f) et 42) (sz.put p0) ((Dh.same g5).upd zdh (λxs e=>by rw[(Dz.same g5).e] at e;cases e) _) (HN oM 42) kh' (λi z' hi hz'=>Al λne=>by
     by_cases c:i=k
     ·subst c;rw[hz] at hz';cases hz';exact absurd rfl ne
     ·exact all i z' 42 hz')
   clear Dz sz Dh kz all ks gs g4 H4;intro ks gs' gs H4 g4 Dz sz Dh kz kh' all;have bk:Bd 4 (0+(k:Int)):=by unfold Bd;show _<16;lia
   have b2:Bd 4 2:=by unfold Bd;decide
   refine (bk.ok bk,445,rfl,Bj 454 454)
   ·refine (b2.ok bk,(by lia,GZ 42),ν,λp q' p0 lo _ _ f t H5 g5 et=>(aN ln _ _ _ (rfl,rfl,aQ.of (g5 _ _ (g4 _ _ en)),at1,aR dh _ (rfl,fj.k (k:= .inr z) (Dh.same g5).e 42,?_))))
    exact (dA (g4.trans g5) nh _,aN ks _ gs _ (_,((Dz.same g5).upd (λw=>zdh w.symm) (λxs e=>by rw[(Dh.same g5).e] at e;cases e) _,sz,(Dh.same g5).put (AY p0 lo f) et 42,kz,HN oM 42,all,rfl)))
   ·exact (g4,aN ks _ gs _ (_,(Dz,sz,Dh,kz,by lia,all,rfl)))
  ·intro σ H4 h_;sleep 164
   refine dY _hi λks kh gs gh _hj=>?_
   refine jS _hj λo12 _hk=>?_
   refine fJ _hk λDz sz Dh kz kh' _hl=>?_
   refine cL _hl λall _r1=>?_
   sleep 219;exact hN ks kh gs gh o12 H4 g4 Dz sz Dh (λz hz=>by
    obtain ⟨i,hi⟩:=GP.mp hz;exact all i z (by have:=(G3.mp hi).1;lia) hi)
 intro ks kh gs gh o12 H4 g4 Dz sz Dh szs;replace l46:=l46.same g4;replace db:=db.same g4;clear g4 g3 ez eh;refine cL l46 λet _hi=>?_
 refine kT _hi λrows m g bs ns' ps _hj=>?_
 refine rX _hj λes vw _hk=>?_
 refine cL _hk λs7 tw=>?_
 refine gQ (λNq=>∀H',ax H4 H'->Nq [some 134,some 294,some 466,some 515,some 516,o5,some (.ref lr),o7,o8,some 514,some (.ref dz),some (.ref dh),o12] H') (λN hN=>(jR L ld dz dh zs n F1 rows m (jR g bs ns' ps es vw dd _ ks (cU kh gs gh (rfl,db,nz,et,s7,n60,tw,Dz,sz,Dh,szs,λH' g5=>(hN H' g5)))))) ?_
 intro H5 g5;replace et:=g5 _ _ et;replace s7:=s7.same g5;replace db:=db.same g5;replace Dz:=Dz.same g5;replace Dh:=Dh.same g5;clear g5;try dsimp only[aU,bc]
 refine (by show 0<=sizeLine;decide,λle ne=>(jR le L.x L.dp L.ds L.db zs n F1 rows (fV m g bs ns' ps es (vw,(rfl,ac,nz,s7.same (ag ne _),n60,tw,λl H6 g6 el=>(by show 0<=sizeLine;decide,λle2 ne2=>(cU l le2 _ (rfl,rfl,aQ.of (ag ne2 _ _ _ el),aQ.of ac,mB.i (gG ?_)))))))))
 have g7:=((ag ne 130).trans g6).trans (ag ne2 130);exact (jR L ld dz dh zs n F1 rows m (jR g bs ns' ps es vw dd _ ks (cU kh gs gh (rfl,db.same g7,nz,g7 _ _ et,s7.same g7,n60,tw,Dz.same g7,sz,Dh.same g7,szs,λH' _=>q _))))
universe z0
theorem CO {l:PySem.W.OpenLaw} {w:World} {K:G0} {h:Heap} {mg:Kt} {fa g8 g9 e2 dz gA gB gC gD gE e3 d0 e4 d1 e5 c5 c9 cI cN e6 e7 cO e8 e9 eE eF eH eL cP eM eN eO eP eR cS eS eT eX fb da fe d3 Iu mt Id Iw Ix Ja on GT Iv JD Jo Ju Jt Jh Js Jl Jr JC Ji Jw Jv:Addr} (X:K.In h) (G:h.Ns mainGlobals mg) (hfa:mg "law" =some (.ref fa))
  {a3 a4 bw bx b0 b1 dQ dp:KG} {a5 b2 b3 dV:Kz} {a6 a7 a8 a9 h8 aA b4 b5 b8 bA a1 bB bD bF bL bP a2 bQ ea dr dt dv cy dx:Value}
  {bl:Tok}
  {am:Tok}
  {aq:Tok}
  {g5:Addr} {fg:Value} {fi:KG} {fk:Nat} {fl:Kz} {d4:Tok}
  {eb:Addr} {ec:Value} {ed:KG} {ee:Nat} {ef:Kz}
  {eg:Addr} {eh:Value} {ei:KG} {ej:Nat} {ek:Kz}
  {el:Addr} {em:Value} {en:KG} {eo:Nat} {ep:Kz}
  (g6:dR K g8 "is_whole" FY .none)
  (gI:dR K g9 "divisor" FZ .none)
  (gK:GR K mainGlobals "fraction" =some (some (.ref e2)))
  (gN:FnAt K e2 "fraction" "fraction" Fa (.ref g5))
  (d5:dR K dz "is_fraction" uo .none)
  (gS:dR K gA "plus" F4 .none)
  (gT:dR K gB "minus" F6 .none)
  (gU:dR K gC "product" F7 .none)
  (gV:dR K gD "quotient" F8 .none)
  (gY:dR K gE "is_less" F9 .none)
  (fm:dR K e3 "round_up" Cb .none)
  (fp:GR K mainGlobals "packs_for" =some (some (.ref d0)))
  (fq:FnAt K d0 "packs_for" "packs_for" Ar (.ref eb))
  (fr:dR K e4 "packs_of_need" Cc .none)
  (fs:GR K mainGlobals "bought_of" =some (some (.ref d1)))
  (ft:FnAt K d1 "bought_of" "bought_of" As (.ref el))
  (fu:dR K e5 "factor_of" Cd .none)
  (eq:GR K mainGlobals "is_name" =some (some (.ref c5)))
  (fv:FnAt K c5 "is_name" "is_name" At .none)
  (er:GR K mainGlobals "names_ahead" =some (some (.ref c9)))
  (fw:FnAt K c9 "names_ahead" "names_ahead" Au .none)
  (es:GR K mainGlobals "chain_to" =some (some (.ref cI)))
  (fx:FnAt K cI "chain_to" "chain_to" Av .none)
  (et:GR K mainGlobals "chain_down" =some (some (.ref cN)))
  (fy:FnAt K cN "chain_down" "chain_down" Aw .none)
  (f0:dR K e6 "all_inside" Ci .none)
  (f1:dR K e7 "ways_out" Cj .none)
  (ev:GR K mainGlobals "refuse_no_names" =some (some (.ref cO)))
  (f2:FnAt K cO "refuse_no_names" "refuse_no_names" Ax .none)
  (f3:dR K e8 "chosen" Cs .none)
  (f4:dR K e9 "needs_of" Ct .none)
  (f5:dR K eE "_law_cell_at" Cv .none)
  (f6:dR K eF "_law_names" Cw .none)
  (f7:dR K eH "_law_divisor_of" Cy .none)
  (fB:dR K eL "_law_lowest" Cz .none)
  (ew:GR K mainGlobals "_law_led_to" =some (some (.ref cP)))
  (fC:FnAt K cP "_law_led_to" "_law_led_to" AA .none)
  (fI:dR K eM "_law_ratio" CB .none)
  (fK:dR K eN "_law_deed" CC .none)
  (fW:dR K eO "_law_takes" CD .none)
  (ga:dR K eP "_law_dishes" CF .none)
  (gd:dR K eR "_law_free" CG .none)
  (ex:GR K mainGlobals "_law_barred" =some (some (.ref cS)))
  (ge:FnAt K cS "_law_barred" "_law_barred" AB .none)
  (gf:dR K eS "_law_along" CI .none)
  (gg:dR K eT "_law_sums" CJ .none)
  (gh:dR K eX "_law_enough" CK .none)
  (gi:dR K fb "_law_bought" CL .none)
  (ey:GR K mainGlobals "_law_none" =some (some (.ref da)))
  (gk:FnAt K da "_law_none" "_law_none" AC .none)
  (gl:dR K fe "_law_right" CN .none)
  (gm:GR K mainGlobals "law" =some (some (.ref d3)))
  (go:K.lookup d3=some ⟨ea,dQ,.func (Hq "law" "law" (dB qb) (cD qb) (au qb) .none dr dt dv dp cy dx),dV⟩) (gr:IG K cy "law" =true) (gs:Hk K (.ref d3)=true)
  (bm:GR K mainGlobals "LETTERS" =some (some (.str "abcdefghijklmnopqrstuvwxyz" bl)))
  (an:GR K mainGlobals "MOST_LETTERS" =some (some (.int 12 am)))
  (aw:GR K mainGlobals "MOST_NAMES" =some (some (.int 80 aq)))
  (d6:GR K mainGlobals "abs" =some none)
  (db:GR K mainGlobals "bool" =some none)
  (dc:GR K mainGlobals "dict" =some none)
  (d7:GR K mainGlobals "int" =some none)
  (az:GR K mainGlobals "isinstance" =some none)
  (d8:GR K mainGlobals "len" =some none)
  (dd:GR K mainGlobals "list" =some none)
  (d9:GR K mainGlobals "max" =some none)
  (cz:GR K mainGlobals "range" =some none)
  (bc:GR K mainGlobals "reversed" =some none)
  (bT:GR K mainGlobals "sorted" =some none)
  (dE:GR K mainGlobals "str" =some none)
  (c0:GR K mainGlobals "tuple" =some none)
  (dK:GR K mainGlobals "zip" =some none)
  (bV:GR K mainGlobals "InRing" =some (some 467))
  (ca:GR K mainGlobals "Larder" =some (some (.ref mt)))
  (cb:GR K mainGlobals "NoName" =some (some (.ref Id)))
  (bd:GR K mainGlobals "NoNumber" =some (some (.ref Iw)))
  (cc:GR K mainGlobals "NoPack" =some (some (.ref Ix)))
  (bn:GR K mainGlobals "NoStand" =some (some (.ref Ja)))
  (aF:GR K mainGlobals "NoStandIn" =some (some 465))
  (cd:GR K mainGlobals "Recipe" =some (some (.ref GT)))
  (a0:GR K mainGlobals "StoveError" =some (some (.ref Iv)))
  (gt:rW K mt JD "__init__" "Larder.__init__" Cl .none)
  (gv:rW K mt Jo "learn" "Larder.learn" Cm .none)
  (gx:rW K mt Ju "part" "Larder.part" Cn .none)
  (gy:rW K mt Jt "held" "Larder.held" Co .none)
  (atZ31:HG K (.ref mt) "barred" =some (some (.ref Jh)))
  (g0:FnAt K Jh "barred" "Larder.barred" Ay .none)
  (g1:rW K mt Js "bar" "Larder.bar" Cq .none)
  (atZ34:HG K (.ref mt) "stand" =some (some (.ref Jl)))
  (g2:FnAt K Jl "stand" "Larder.stand" Az (.ref eg))
  (g3:rW K mt Jr "stand_in" "Larder.stand_in" Cr .none)
  (g4:rW K GT JC "__init__" "Recipe.__init__" Cu .none)
  (g7:K.lookup g5=some ⟨fg,fi,.seq #[.int 1 d4] fk,fl⟩)
  (ez:K.lookup eb=some ⟨ec,ed,.seq #[.none] ee,ef⟩)
  (e0:K.lookup eg=some ⟨eh,ei,.seq #[.none] ej,ek⟩)
  (e1:K.lookup el=some ⟨em,en,.seq #[.none] eo,ep⟩)
  (ch:IQ K Id wK "ValueError.__new__" =true)
  (ci:XI K Id)
  (bo:IQ K Ja wK "ValueError.__new__" =true)
  (bp:XI K Ja)
  (be:IQ K Iw wK "ValueError.__new__" =true)
  (bf:XI K Iw)
  (cj:XT K Iu)
  (aO:XT K on)
  (h7:IZ K 465 465=some true)
  (ab:IZ K 467 467=some true)
  (aS:XA K on Iv)
  (aW:HG K 465 "good" =some none)
  (ck:XA K Iu Iv)
  (cl:HG K 467 "ring" =some none)
  (cm:XA K Ix Iv)
  (cn:HG K (.ref Ix) "good" =some none)
  (aZ:XI K on)
  (co:XI K Iu)
  (cr:XI K Ix)
  (bq:rY K mt)
  (br:Mk K mt JD)
  (de:gz K mt "part" Ju)
  (dg:gz K mt "stand" Jl)
  (dh:gz K mt "bar" Js)
  (di:gz K mt "held" Jt)
  (dk:gz K mt "barred" Jh)
  (dl:gz K mt "stand_in" Jr)
  (dn:gz K mt "learn" Jo)
  (bs:rY K GT)
  (bt:Mk K GT JC)
  (ad:bJ K mt "parts")
  (ia:bJ K mt "stands")
  (ao:bJ K mt "bars")
  (ah:bJ K mt "names")
  (ap:bJ K GT "name")
  (wr:bJ K GT "plates")
  (ai:bJ K GT "takes")
  (aj:bJ K GT "steps")
  (al:bJ K GT "links")
  (ba:CT K on Ji)
  (bi:K.lookup Ji=some ⟨a6,a3,.func (Hq "__init__" "NoStandIn.__init__" (dB dO) (cD dO) (au dO) .none a7 a8 a9 a4 h8 aA),a5⟩) (bb:IG K h8 "NoStandIn.__init__" =true) (bk:Hk K (.ref Ji)=true)
  (cs:CT K Iu Jw)
  (c1:K.lookup Jw=some ⟨b4,bw,.func (Hq "__init__" "InRing.__init__" (dB gq) (cD gq) (au gq) .none b5 b8 bA bx a1 bB),b2⟩) (ct:IG K a1 "InRing.__init__" =true) (c2:Hk K (.ref Jw)=true)
  (cw:CT K Ix Jv)
  (c3:K.lookup Jv=some ⟨bD,b0,.func (Hq "__init__" "NoPack.__init__" (dB gu) (cD gu) (au gu) .none bF bL bP b1 a2 bQ),b3⟩) (cx:IG K a2 "NoPack.__init__" =true) (c4:Hk K (.ref Jv)=true)
  :∃fd:FuncData,(∀(s:Shared) (v:Value),BindsTo s fd ⟨[v],[]⟩ [("_law_script",v)])/\∀base:Heap,K.In base->base.Ns mainGlobals mg->bh l.prog w K mg base bC 10 fa fd ["_law_script"] (uE K):=by
 have e:=hfa.symm.trans (GY X G gm);cases e;have B:Bn K mg Iu mt Id Iw Ix Ja on GT Iv JD Jo Ju Jt Jh Js Jl Jr JC:=⟨Exists.intro _<|GY X G bm,Exists.intro _<|GY X G an,Exists.intro _<|GY X G aw,HW X G d6,HW X G db,HW X G dc,HW X G d7,HW X G az,HW X G d8,HW X G dd,HW X G d9,HW X G cz,HW X G bc,HW X G bT,HW X G dE,HW X G c0,HW X G dK,GY X G bV,GY X G ca,GY X G cb,GY X G bd,GY X G cc,GY X G bn,GY X G aF,GY X G cd,GY X G a0,ch,ci,bo,bp,be,bf,cj,aO,h7,ab,aS,aW,ck,cl,cm,cn,aZ,co,cr,bq,br,de,dg,dh,di,dk,dl,dn,bs,bt,ad,ia,ao,ah,ap,wr,ai,aj,al⟩;refine ix gN λ_ _ _ _ _ _ _ _ _ _hi=>?_
 refine gW _hi λlZ3 cZ3 kZ3=>?_
 refine ix fq λ_ _ _ _ _ _ _ _ _ _hi=>?_
 refine gW _hi λlZ11 cZ11 kZ11=>?_
 refine ix ft λ_ _ _ _ _ _ _ _ _ _hi=>?_
 refine gW _hi λlZ13 cZ13 kZ13=>?_
 refine ix fv λ_ _ _ _ _ _ _ _ _ _hi=>?_
 refine gW _hi λlZ15 cZ15 kZ15=>?_
 refine ix fw λ_ _ _ _ _ _ _ _ _ _hi=>?_
 refine gW _hi λlZ17 cZ17 kZ17=>?_
 refine ix fx λ_ _ _ _ _ _ _ _ _ _hi=>?_
 refine gW _hi λlZ19 cZ19 kZ19=>?_
 refine ix fy λ_ _ _ _ _ _ _ _ _ _hi=>?_
 refine gW _hi λlZ21 cZ21 kZ21=>?_
 refine ix f2 λ_ _ _ _ _ _ _ _ _ _hi=>?_
 refine gW _hi λlZ25 cZ25 kZ25=>?_
 refine ix fC λ_ _ _ _ _ _ _ _ _ _hi=>?_
 refine gW _hi λlZ43 cZ43 kZ43=>?_
 refine ix ge λ_ _ _ _ _ _ _ _ _ _hi=>?_
 refine gW _hi λlZ50 cZ50 kZ50=>?_
 refine ix gk λ_ _ _ _ _ _ _ _ _ _hi=>?_
 refine gW _hi λlZ56 cZ56 kZ56=>?_
 refine ix g0 λ_ _ _ _ _ _ _ _ _ _hi=>?_
 refine gW _hi λlZ31 cZ31 kZ31=>?_
 refine ix g2 λ_ _ _ _ _ _ _ _ _ _hi=>?_
 refine gW _hi λlZ34 cZ34 kZ34=>?_
 have FZ3:=bI (st:=Fa) lZ3 cZ3 kZ3;have FZ11:=bI (st:=Ar) lZ11 cZ11 kZ11;have FZ13:=bI (st:=As) lZ13 cZ13 kZ13;have FZ15:=bI (st:=At) lZ15 cZ15 kZ15;have FZ16:=bI (st:=Ce) lZ15 cZ15 kZ15;have FZ17:=bI (st:=Au) lZ17 cZ17 kZ17;have FZ18:=bI (st:=Cf) lZ17 cZ17 kZ17;have FZ19:=bI (st:=Av) lZ19 cZ19 kZ19;have FZ20:=bI (st:=Cg) lZ19 cZ19 kZ19;have FZ21:=bI (st:=Aw) lZ21 cZ21 kZ21;have FZ22:=bI (st:=Ch) lZ21 cZ21 kZ21;have FZ25:=bI (st:=Ax) lZ25 cZ25 kZ25;have FZ26:=bI (st:=Ck) lZ25 cZ25 kZ25;have FZ31:=bI (st:=Ay) lZ31 cZ31 kZ31;have FZ32:=bI (st:=Cp) lZ31 cZ31 kZ31;have FZ34:=bI (st:=Az) lZ34 cZ34 kZ34;have FZ43:=bI (st:=AA) lZ43 cZ43 kZ43;have FZ44:=bI (st:=CA) lZ43 cZ43 kZ43;have FZ50:=bI (st:=AB) lZ50 cZ50 kZ50;have FZ51:=bI (st:=CH) lZ50 cZ50 kZ50;have FZ56:=bI (st:=AC) lZ56 cZ56 kZ56;have FZ57:=bI (st:=CM) lZ56 cZ56 kZ56;have Flaw:=bI (st:=qb) go gr gs;have F_NoStandIn:=bI (st:=dO) bi bb bk;have F_InRing:=bI (st:=gq) c1 ct c2;have F_NoPack:=bI (st:=gu) c3 cx c4;refine (Hq "law" "law" (dB qb) (cD qb) (au qb) .none dr dt dv dp cy dx,?bind,λbase _ _=>?ok)
 case bind=>exact λs v=> .of_eq rfl
 case ok=>
  have z9:Bx l.prog w base:=⟨⟩;have I_NoStandIn:Bw l.prog w K mg base 1 on ["self","good"] (fR on "good"):=⟨Ji,_,qc B F_NoStandIn,ba,F_NoStandIn.binds0 (ps:= ["self","good"]) λ_ _ _ _ _ _ us hl=>match us,hl with| [_,_],_=>rfl⟩
  have I_InRing:Bw l.prog w K mg base 1 Iu ["self","ring"] (fR Iu "ring"):=⟨Jw,_,wI B F_InRing,cs,F_InRing.binds0 (ps:= ["self","ring"]) λ_ _ _ _ _ _ us hl=>match us,hl with| [_,_],_=>rfl⟩
  have I_NoPack:Bw l.prog w K mg base 1 Ix ["self","good"] (fR Ix "good"):=⟨Jv,_,wJ B F_NoPack,cw,F_NoPack.binds0 (ps:= ["self","good"]) λ_ _ _ _ _ _ us hl=>match us,hl with| [_,_],_=>rfl⟩
  have DZ0:=jn z9 X G g6 204 λF=>Ga B F
  have DZ1:=jn z9 X G g6 204 λF=>Gb B F
  have DZ2:=jn z9 X G gI 75 λF=>Gc B F
  have XZ3:Dx l.prog w K mg base 444 2 "fraction" ["top","bottom"] [.int 1] (lW Iw):=⟨e2,_,Gd B FZ3 DZ0 DZ2,GY X G gK,kZ3,FZ3.binds (ps:= ["top","bottom"]) (ds:= []) g7 rfl λ_ _ _ _ _ _ us hl=>match us,hl with| [_,_],_=>⟨_,rfl,rfl⟩,⟨[.int 1 d4],FZ3.binds (ps:= ["top","bottom"]) (ds:= [.int 1 d4]) g7 rfl λ_ _ _ _ _ _ us hl=>match us,hl with| [_],_=>⟨_,rfl,rfl⟩| [],h=>absurd h (by simp)|_::_::_,h=>absurd h (by simp),.cons ⟨_,rfl⟩ .nil⟩⟩
  have DZ3:Dx l.prog w K mg base bC 2 "fraction" ["top","bottom"] [.int 1] qC:=XZ3.calm Bu;have Dis_Z3:=jn z9 X G d5 204 λF=>Ge B F DZ1 DZ2
  have DZ5:=jn z9 X G gS 75 λF=>Gf B F DZ3
  have DZ6:=jn z9 X G gT 75 λF=>Gg B F DZ3
  have DZ7:=jn z9 X G gU 75 λF=>Gh B F DZ3
  have XZ8:=jn z9 X G gV 75 λF=>Gi B F XZ3
  have DZ8:Dx l.prog w K mg base bC 3 "quotient" ["one","other"] [] (sS K):=XZ8.calm xJ;have DZ9:=jn z9 X G gY 75 λF=>Gj B F
  have DZ10:=jn z9 X G fm 204 λF=>D8 B F
  have XZ11:Dx l.prog w K mg base 444 4 "packs_for" ["need","size","have"] [.non] (km K Iw):=⟨d0,_,D9 B FZ11 DZ3 DZ5 DZ6 DZ7 DZ8 DZ10,GY X G fp,kZ11,FZ11.binds (ps:= ["need","size","have"]) (ds:= []) ez rfl λ_ _ _ _ _ _ us hl=>match us,hl with| [_,_,_],_=>⟨_,rfl,rfl⟩,⟨[.none],FZ11.binds (ps:= ["need","size","have"]) (ds:= [.none]) ez rfl λ_ _ _ _ _ _ us hl=>match us,hl with| [_,_],_=>⟨_,rfl,rfl⟩| [],h=>absurd h (by simp)| [_],h=>absurd h (by simp)|_::_::_::_,h=>absurd h (by simp),.cons rfl .nil⟩⟩
  have DZ11:Dx l.prog w K mg base bC 4 "packs_for" ["need","size","have"] [.non] (mP K):=XZ11.calm (t8 K);have XZ12:=jn z9 X G fr 174 λF=>Ea B F DZ6 DZ9 DZ11 I_NoPack
  have DZ12:Dx l.prog w K mg base bC 5 "packs_of_need" ["need","sizes","have"] [] jf:=XZ12.calm (λ_ _ _ _ h=>h)
  have XZ13:Dx l.prog w K mg base 444 6 "bought_of" ["needed","sizes","shelf"] [.non] gP:=⟨d1,_,Eb B FZ13 XZ3 XZ12,GY X G fs,kZ13,FZ13.binds (ps:= ["needed","sizes","shelf"]) (ds:= []) e1 rfl λ_ _ _ _ _ _ us hl=>match us,hl with| [_,_,_],_=>⟨_,rfl,rfl⟩,⟨[.none],FZ13.binds (ps:= ["needed","sizes","shelf"]) (ds:= [.none]) e1 rfl λ_ _ _ _ _ _ us hl=>match us,hl with| [_,_],_=>⟨_,rfl,rfl⟩| [],h=>absurd h (by simp)| [_],h=>absurd h (by simp)|_::_::_::_,h=>absurd h (by simp),.cons rfl .nil⟩⟩
  have DZ13:Dx l.prog w K mg base bC 6 "bought_of" ["needed","sizes","shelf"] [.non] gP:=XZ13.calm (λ_ _ _ _ h=>h)
  have DZ14:=jn z9 X G fu 75 λF=>Ec B F DZ3
  have bZ15:=FZ15.binds0 (ps:= ["thing"]) λ_ _ _ _ _ _=>fT (λ_=>rfl)
  have DZ15:Dx l.prog w K mg base bC 1 "is_name" ["thing"] [] (l7 K):=(c5,_,Ed B FZ15,GY X G eq,kZ15,bZ15,([],bZ15,.nil));have bZ16:=FZ16.binds0 (ps:= ["thing"]) λ_ _ _ _ _ _=>fT (λ_=>rfl)
  have HZ16:∀hd,qJ hd l.prog w K mg base 1 "is_name" ["thing"] (pV hd):=λhd=>(c5,_,Ee B FZ16,GY X G eq,kZ15,bZ16)
  have bZ17:=FZ17.binds0 (ps:= ["parts","good"]) λ_ _ _ _ _ _=>bX 22
  have DZ17:Dx l.prog w K mg base bC 1 "names_ahead" ["parts","good"] [] gL:=(c9,_,Ef B FZ17,GY X G er,kZ17,bZ17,([],bZ17,.nil));have bZ18:=FZ18.binds0 (ps:= ["parts","good"]) λ_ _ _ _ _ _=>bX 22
  have HZ18:∀hd,qJ hd l.prog w K mg base 1 "names_ahead" ["parts","good"] (nj hd gL):=λhd=>(c9,_,Eg B FZ18,GY X G er,kZ17,bZ18)
  have bZ19:=FZ19.binds0 (ps:= ["ahead","goal"]) λ_ _ _ _ _ _=>bX 22
  have DZ19:Dx l.prog w K mg base bC 1 "chain_to" ["ahead","goal"] [] oH:=(cI,_,Eh B FZ19,GY X G es,kZ19,bZ19,([],bZ19,.nil));have bZ20:=FZ20.binds0 (ps:= ["ahead","goal"]) λ_ _ _ _ _ _=>bX 22
  have HZ20:∀hd,qJ hd l.prog w K mg base 1 "chain_to" ["ahead","goal"] (nj hd oH):=λhd=>(cI,_,Ei B FZ20,GY X G es,kZ19,bZ20)
  have bZ21:=FZ21.binds0 (ps:= ["parts","good","goals"]) λ_ _ _ _ _ _=>fU (λ_ _ _=>rfl)
  have DZ21:Dx l.prog w K mg base bC 2 "chain_down" ["parts","good","goals"] [] dG:=(cN,_,Ej B FZ21 DZ17 DZ19,GY X G et,kZ21,bZ21,([],bZ21,.nil));have bZ22:=FZ22.binds0 (ps:= ["parts","good","goals"]) λ_ _ _ _ _ _=>fU (λ_ _ _=>rfl)
  have HZ22:∀hd,qJ hd l.prog w K mg base 2 "chain_down" ["parts","good","goals"] (nj hd dG):=λhd=>(cN,_,Ek B FZ22 HZ18 HZ20,GY X G et,kZ21,bZ22)
  have DZ23:=jn z9 X G f0 75 λF=>El B F DZ17
  have DZ24:=jn z9 X G f1 75 λF=>Em B F DZ3 DZ7
  have bZ25:=FZ25.binds0 (ps:= ["things"]) λ_ _ _ _ _ _=>fT (λ_=>rfl)
  have XZ25:Dx l.prog w K mg base 444 2 "refuse_no_names" ["things"] [] (gJ K Id):=(cO,_,En B FZ25 DZ15,GY X G ev,kZ25,bZ25,([],bZ25,.nil));have DZ25:Dx l.prog w K mg base bC 2 "refuse_no_names" ["things"] [] AR:=XZ25.calm (λ_ _ _ _=>BG)
  have bZ26:=FZ26.binds0 (ps:= ["things"]) λ_ _ _ _ _ _=>fT (λ_=>rfl)
  have HZ26:∀hd,qJ hd l.prog w K mg base 2 "refuse_no_names" ["things"] (tR hd):=λhd=>(cO,_,Eo B FZ26 HZ16,GY X G ev,kZ25,bZ26)
  have DZ27:=B8 z9 gt 204 λF=>Ep B F
  have DZ28:=B8 z9 gv 75 λF=>Er B F
  have XZ29:=B8 z9 gx 174 λF=>Es B F DZ21 DZ28 XZ25 I_InRing
  have DZ29:jm l.prog w K mg base bC 3 Ju ["self","good","other"] [] jC:=XZ29.calm (λ_ _ _ _ h=>h.elim)
  have XZ30:=B8 z9 gy 75 λF=>Et B F DZ23 XZ25
  have DZ30:jm l.prog w K mg base bC 3 Jt ["self","good"] [] (mJ mt):=XZ30.calm yu;have bZ31:=FZ31.binds0 (ps:= ["self","good"]) λ_ _ _ _ _ _=>bX 22
  have XZ31:jm l.prog w K mg base 444 3 Jh ["self","good"] [] (iJ K mt Id):=(_,Eu B FZ31 DZ21 XZ25,bZ31,([],bZ31,.nil));have DZ31:jm l.prog w K mg base bC 3 Jh ["self","good"] [] (dH mt):=XZ31.calm tU;have bZ32:=FZ32.binds0 (ps:= ["self","good"]) λ_ _ _ _ _ _=>bX 22
  have HZ32:∀hd,BR hd l.prog w K mg base 3 Jh ["self","good"] (nj hd (dH mt)):=λhd=>(_,Ev B FZ32 HZ22 HZ26,bZ32)
  have XZ33:=B8 z9 g1 75 λF=>Ew B F DZ28 XZ25
  have DZ33:jm l.prog w K mg base bC 3 Js ["self","good"] [] (tS mt):=XZ33.calm zU;have XZ34:jm l.prog w K mg base 444 3 Jl ["self","good","other","ratio"] [.non] (mE K mt Id Ja):=⟨_,Ex B FZ34 Dis_Z3 DZ28 XZ3 XZ25,FZ34.binds (ps:= ["self","good","other","ratio"]) (ds:= []) e0 rfl λ_ _ _ _ _ _ us hl=>match us,hl with| [_,_,_,_],_=>⟨_,rfl,rfl⟩,⟨[.none],FZ34.binds (ps:= ["self","good","other","ratio"]) (ds:= [.none]) e0 rfl λ_ _ _ _ _ _ us hl=>match us,hl with| [_,_,_],_=>⟨_,rfl,rfl⟩| [],h=>absurd h (by simp)| [_],h=>absurd h (by simp)| [_,_],h=>absurd h (by simp)|_::_::_::_::_,h=>absurd h (by simp),.cons rfl .nil⟩⟩
  have DZ34:jm l.prog w K mg base bC 3 Jl ["self","good","other","ratio"] [.non] (mH mt):=XZ34.calm wv;have XZ35:=B8 z9 g3 75 λF=>Ey B F DZ24 XZ25 XZ31 I_NoStandIn
  have DZ35:jm l.prog w K mg base bC 5 Jr ["self","good"] [] (AW K mt):=XZ35.calm B1;have XZ36:=jn z9 X G f3 75 λF=>Ez B F XZ35
  have DZ36:Dx l.prog w K mg base bC 6 "chosen" ["recipe","larder"] [] (kg K GT mt):=XZ36.calm tW;have XZ37:=jn z9 X G f4 75 λF=>EA B F DZ5 DZ7 DZ14 XZ3 XZ36
  have DZ37:Dx l.prog w K mg base bC 7 "needs_of" ["dishes","larder"] [] (jh K mt):=XZ37.calm (rP K GT mt on);have DZ38:=B8 z9 g4 (λ_ _ _ _ _ _=>B7 λ_ _ _ _ _ _=>rfl) λF=>EB B F
  have DZ39:=jn z9 X G f5 75 λF=>EC B F
  have DZ40:=jn z9 X G f6 75 λF=>ED B F
  have DZ41:=jn z9 X G f7 75 λF=>EE B F
  have DZ42:=jn z9 X G fB 75 λF=>EF B F DZ41
  have bZ43:=FZ43.binds0 (ps:= ["_law_pairs","_law_good"]) λ_ _ _ _ _ _=>bX 22
  have DZ43:Dx l.prog w K mg base bC 1 "_law_led_to" ["_law_pairs","_law_good"] [] jC:=(cP,_,EG B FZ43,GY X G ew,kZ43,bZ43,([],bZ43,.nil));have bZ44:=FZ44.binds0 (ps:= ["_law_pairs","_law_good"]) λ_ _ _ _ _ _=>bX 22
  have HZ44:∀hd,qJ hd l.prog w K mg base 1 "_law_led_to" ["_law_pairs","_law_good"] (nj hd pY):=λhd=>(cP,_,EH B FZ44,GY X G ew,kZ43,bZ44)
  have DZ45:=jn z9 X G fI 204 λF=>EI B F DZ42
  have DZ46:=jn z9 X G fK 374 λF=>EJ B F DZ33 DZ34 DZ45 XZ29
  have DZ47:=jn z9 X G fW 174 λF=>EK B F DZ45
  have DZ48:=jn z9 X G ga 75 λF=>EL B F
  have DZ49:=jn z9 X G gd 174 λF=>EM B F DZ30 DZ31
  have bZ50:=FZ50.binds0 (ps:= ["_law_larder","_law_told","_law_good"]) λ_ _ _ _ _ _=>fU (λ_ _ _=>rfl)
  have DZ50:Dx l.prog w K mg base bC 4 "_law_barred" ["_law_larder","_law_told","_law_good"] [] jC:=(cS,_,EN B FZ50 DZ31,GY X G ex,kZ50,bZ50,([],bZ50,.nil));have bZ51:=FZ51.binds0 (ps:= ["_law_larder","_law_told","_law_good"]) λ_ _ _ _ _ _=>fU (λ_ _ _=>rfl)
  have HZ51:∀hd,qJ hd l.prog w K mg base 4 "_law_barred" ["_law_larder","_law_told","_law_good"] (nj hd (jg K mt)):=λhd=>(cS,_,EO B FZ51 HZ32,GY X G ex,kZ50,bZ51)
  have DZ52:=jn z9 X G gf 374 λF=>EQ B F DZ49
  have DZ53:=jn z9 X G gg 174 λF=>ER B F DZ36 DZ42 DZ52
  have DZ54:=jn z9 X G gh 374 λF=>ES B F
  have DZ55:=jn z9 X G gi 174 λF=>ET B F DZ13 DZ54
  have bZ56:=FZ56.binds0 (ps:= ["_law_larder","_law_told","_law_dishes_here","_law_good"]) λ_ _ _ _ _ _=>mC (λ_ _ _ _=>rfl)
  have DZ56:Dx l.prog w K mg base bC 5 "_law_none" ["_law_larder","_law_told","_law_dishes_here","_law_good"] [] jC:=(da,_,EU B FZ56 DZ43 DZ50,GY X G ey,kZ56,bZ56,([],bZ56,.nil));have bZ57:=FZ57.binds0 (ps:= ["_law_larder","_law_told","_law_dishes_here","_law_good"]) λ_ _ _ _ _ _=>mC (λ_ _ _ _=>rfl)
  have HZ57:∀hd,qJ hd l.prog w K mg base 5 "_law_none" ["_law_larder","_law_told","_law_dishes_here","_law_good"] (nj hd (mR K GT mt)):=λhd=>(da,_,EV B FZ57 HZ44 HZ51,GY X G ey,kZ56,bZ57)
  have DZ58:=jn z9 X G gl (λ_ _ _ _ _ _=>BN λ_ _ _ _ _=>rfl) λF=>EW B F DZ53 DZ55 XZ37 HZ57
  exact EX B Flaw DZ27 DZ37 DZ38 DZ39 DZ40 DZ45 DZ46 DZ47 DZ48 DZ58
theorem walk {l:PySem.W.OpenLaw} {q:Program} {loose:KA} {XP:Kt->Heap->Prop} {YP:World->Heap->Prop} {d:DefRec} {K:Params->G0} (hn:l.most=some 63) (hdf:d.params.defaults= [])
  (hY:∀(w:World) (h:Heap),YP w h->(K w.params).In h)
  (F:∀(w:World) (mg:Kt) (fa:Addr) (h:Heap),(K w.params).In h->h.Ns mainGlobals mg->mg d.name=some (.ref fa)->
   ∃fd:FuncData,(∀(s:Shared) (u:Value),BindsTo s fd ⟨[u],[]⟩ [("_law_script",u)])/\∀base:Heap,(K w.params).In base->base.Ns mainGlobals mg->bh l.prog w (K w.params) mg base bC 10 fa fd ["_law_script"] (uE (K w.params))):
  PySem.W.WalkO q loose XP YP l.row.toRowW d [] (λf vs=>PySem.call f vs):=
 L2.zd (n:=63) (k:=10) (x:= "_law_script") (CX:=λ_=>bC) (sp:=λw=>uE (K w.params)) hn 13 hdf ⟨rfl,by decide,by decide⟩ hY F (λ_ _ a ns hl _ hS=>(aR a ns ⟨rfl,hS,hl,λ_=>rfl⟩)) λ_ _ _ _ _ z=>z
universe Lk46
end
open PySem PySem.W PyProof.Rows
set_option maxRecDepth 100000 in
set_option maxHeartbeats 0 in
theorem PySem.Challenge.cw_stovework_k46_whole_dish_bought_holds : PySem.Challenge.rw_stovework_k46_whole_dish_bought.Holds := by
 refine Lk46.hd ?_
 k_fill
 refine Lk46.walk (l:=PySem.Challenge.rw_stovework_k46_whole_dish_bought) rfl rfl (λw h Y=>PySem.W.kIn_of Y) ?F
 case F=>
  intro w mg fa h KX G hmg
  refine' Lk46.CO KX G hmg ?a ?b ?c ?d ?e ?f ?g ?h ?i ?j ?k ?l ?m ?n ?o ?p ?q ?r ?s ?t ?u ?v ?w ?x ?y ?z ?A ?B ?C ?D ?E ?F ?G ?H ?I ?J ?K ?L ?M ?N ?O ?P ?Q ?R ?S ?T ?U ?V ?W ?X ?Y ?Z ?aa ?ab ?ac ?ad ?ae ?af ?ag ?ah ?ai ?aj ?ak ?al ?am ?an ?ao ?ap ?aq ?ar ?au ?av ?aw ?ax ?ay ?az ?aA ?aB ?aC ?aD ?aE ?aF ?aG ?aH ?aI ?aJ ?aK ?aL ?aM ?aN ?aO ?aP ?aQ ?aR ?aS ?aT ?aU ?aV ?aW ?aX ?aY ?aZ ?ba ?bb ?bc ?bd ?be ?bf ?bg ?bh ?bi ?bj ?bk ?bl ?bm ?bn ?bo ?bp ?bq ?br ?bs ?bt ?bu ?bv ?bw ?bx ?bz ?bA ?bB ?bC ?bD ?bE ?bF ?bG ?bH ?bI ?bJ ?bK ?bL ?bM ?bN ?bO ?bP ?bQ ?bR ?bS ?bT
  case a|b=>exact ⟨by k_is,_,_,_,_,_,_,_,_,_,by k_is,by k_is,by k_is⟩
  case c=>k_is
  case d=>exact ⟨_,_,_,_,_,_,_,_,_,by k_is,by k_is,by k_is⟩
  case e|f|g|h|i|j|k=>exact ⟨by k_is,_,_,_,_,_,_,_,_,_,by k_is,by k_is,by k_is⟩
  case l=>k_is
  case m=>exact ⟨_,_,_,_,_,_,_,_,_,by k_is,by k_is,by k_is⟩
  case n=>exact ⟨by k_is,_,_,_,_,_,_,_,_,_,by k_is,by k_is,by k_is⟩
  case o=>k_is
  case p=>exact ⟨_,_,_,_,_,_,_,_,_,by k_is,by k_is,by k_is⟩
  case q=>exact ⟨by k_is,_,_,_,_,_,_,_,_,_,by k_is,by k_is,by k_is⟩
  case r=>k_is
  case s=>exact ⟨_,_,_,_,_,_,_,_,_,by k_is,by k_is,by k_is⟩
  case t=>k_is
  case u=>exact ⟨_,_,_,_,_,_,_,_,_,by k_is,by k_is,by k_is⟩
  case v=>k_is
  case w=>exact ⟨_,_,_,_,_,_,_,_,_,by k_is,by k_is,by k_is⟩
  case x=>k_is
  case y=>exact ⟨_,_,_,_,_,_,_,_,_,by k_is,by k_is,by k_is⟩
  case z|A=>exact ⟨by k_is,_,_,_,_,_,_,_,_,_,by k_is,by k_is,by k_is⟩
  case B=>k_is
  case C=>exact ⟨_,_,_,_,_,_,_,_,_,by k_is,by k_is,by k_is⟩
  case D|E|F|G|H|I=>exact ⟨by k_is,_,_,_,_,_,_,_,_,_,by k_is,by k_is,by k_is⟩
  case J=>k_is
  case K=>exact ⟨_,_,_,_,_,_,_,_,_,by k_is,by k_is,by k_is⟩
  case L|M|N|O|P=>exact ⟨by k_is,_,_,_,_,_,_,_,_,_,by k_is,by k_is,by k_is⟩
  case Q=>k_is
  case R=>exact ⟨_,_,_,_,_,_,_,_,_,by k_is,by k_is,by k_is⟩
  case S|T|U|V=>exact ⟨by k_is,_,_,_,_,_,_,_,_,_,by k_is,by k_is,by k_is⟩
  case W=>k_is
  case X=>exact ⟨_,_,_,_,_,_,_,_,_,by k_is,by k_is,by k_is⟩
  case Y=>exact ⟨by k_is,_,_,_,_,_,_,_,_,_,by k_is,by k_is,by k_is⟩
  case Z|aa|ab|ac|ad|ae|af|ag|ah|ai|aj|ak|al|am|an|ao|ap|aq|ar|au|av|aw|ax|ay|az|aA|aB|aC|aD|aE=>k_is
  case aF|aG|aH|aI=>exact ⟨by k_is,_,_,_,_,_,_,_,_,_,by k_is,by k_is,by k_is⟩
  case aJ=>k_is
  case aK=>exact ⟨_,_,_,_,_,_,_,_,_,by k_is,by k_is,by k_is⟩
  case aL=>exact ⟨by k_is,_,_,_,_,_,_,_,_,_,by k_is,by k_is,by k_is⟩
  case aM=>k_is
  case aN=>exact ⟨_,_,_,_,_,_,_,_,_,by k_is,by k_is,by k_is⟩
  case aO|aP=>exact ⟨by k_is,_,_,_,_,_,_,_,_,_,by k_is,by k_is,by k_is⟩
  case aQ|aR|aS|aT=>k_is
  case aU=>kernel_rfl
  case aV=>exact ⟨⟨by k_is,by k_is,by k_is⟩,by kernel_rfl,by k_is,by k_is,by k_is,by k_is⟩
  case aW=>kernel_rfl
  case aX=>exact ⟨⟨by k_is,by k_is,by k_is⟩,by kernel_rfl,by k_is,by k_is,by k_is,by k_is⟩
  case aY=>kernel_rfl
  case aZ=>exact ⟨⟨by k_is,by k_is,by k_is⟩,by kernel_rfl,by k_is,by k_is,by k_is,by k_is⟩
  case ba|bb=>exact ⟨by k_is,by kernel_rfl,by k_is⟩
  case bc|bd=>k_is
  case be=>exact ⟨by k_is,by kernel_rfl,by kernel_rfl,by k_is⟩
  case bf=>k_is
  case bg=>exact ⟨by k_is,by kernel_rfl,by kernel_rfl,by k_is⟩
  case bh=>k_is
  case bi=>exact ⟨by k_is,by kernel_rfl,by kernel_rfl,by k_is⟩
  case bj=>k_is
  case bk|bl|bm=>exact ⟨⟨by k_is,by k_is,by k_is⟩,by kernel_rfl,by k_is,by k_is,by k_is,by k_is⟩
  case bn|bo=>exact ⟨by k_is,by k_is,by k_is,by k_is⟩
  case bp|bq|br|bs|bt|bu|bv=>exact ⟨by k_is,by k_is,by k_is⟩
  case bw|bx=>exact ⟨by k_is,by k_is,by k_is,by k_is⟩
  case bz|bA|bB|bC|bD|bE|bF|bG|bH=>(unfold L2.bJ;k_is)
  case bI=>exact ⟨⟨_,_,_,_,_,_,_,_,_,_,_,_,_,_,_,_,by k_is,by kernel_rfl,by k_is,by kernel_rfl⟩,by k_is,by k_is⟩
  case bJ|bK|bL=>k_is
  case bM=>exact ⟨⟨_,_,_,_,_,_,_,_,_,_,_,_,_,_,_,_,by k_is,by kernel_rfl,by k_is,by kernel_rfl⟩,by k_is,by k_is⟩
  case bN|bO|bP=>k_is
  case bQ=>exact ⟨⟨_,_,_,_,_,_,_,_,_,_,_,_,_,_,_,_,by k_is,by kernel_rfl,by k_is,by kernel_rfl⟩,by k_is,by k_is⟩
  case bR|bS|bT=>k_is
