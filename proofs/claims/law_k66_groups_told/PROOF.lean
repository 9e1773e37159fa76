import PyProof.Rows.All
import Wide.All
import OpenK.AllK
import Wide.FinOn
import Lean
import PyProof.EqAt
import PyProof.EqKinds
import PyProof.TupleCall
import KE.KUnpack
import KE.KTab
import KE.LcSums
import KE.KSortTup
import KE.KDictAny
import PyProof.WalkInts
import PyProof.MinMaxWalk
import PyProof.P3In
import KE.KxIndex
import KE.KTryMore
import PyProof.NsDelKeeps
import KE.KIsNot
import KE.KIsAll
import PyProof.ExcArgsOwn
import PyProof.ExcAttrAll.ValueError
import PyProof.StrBlockH
import KE.KIntText
import PyProof.StrBlockL
import PyProof.StrLawsIn
import PyProof.StrLawsOcc
import PyProof.StrLawsChain
import PyProof.StrReplace2
import PyProof.StrCalls2
import PyProof.Rows.StrSplitAre
import KE.KDictSum
import PySem.Challenge.RW_hangrings_k66_groups_told
set_option bootstrap.genMatcherCode false
set_option linter.all false
set_option maxRecDepth 100000
set_option Elab.async false
set_option maxHeartbeats 4000000
set_option exponentiation.threshold 200000
section
set_option maxHeartbeats 0
namespace TopT
open PySem PySem.W
noncomputable def topRunT (tb:String->Option Builtin) (p:Program) (w:World) (n₀:Nat) (ann:Option Value):Nat->SharedT->Thread->Option SharedT
  | 0,_,_=>none
  | n + 1, s, t => match through t with
    | true=>some s
    | false=>match stepOk n₀ ann t with
      | false=>none
      | true=>match stepT (denote tb) p w s t with
        | some (s',t')=>topRunT tb p w n₀ ann n s' t'
        | none=>none
theorem topRun_of {tb:String->Option Builtin} {p:Program} {w:World} {n₀:Nat} {ann:Option Value}:∀ {n:Nat} {s s':SharedT} {t:Thread},topRunT tb p w n₀ ann n s t=some s'->topRun tb p w n₀ ann n s.abs t=some s'.abs
  | 0,_,_,_,h=>by cases h
  | n + 1, s, s', t, h => by
    unfold topRunT at h
    unfold topRun
    cases he:through t with
    | true=>rw [he] at h;cases h;rfl
    | false =>
      rw [he] at h
      cases hk:stepOk n₀ ann t with
      | false=>rw [hk] at h;cases h
      | true =>
        rw [hk] at h
        cases hs:stepT (denote tb) p w s t with
        | none=>rw [hs] at h;cases h
        | some r=>obtain ⟨s₂,t₂⟩:=r;rw [hs] at h;rw [stepT_spec hs];exact topRun_of h
noncomputable def ofL:BT->Nat->List Obj->BT
  | t,_,[]=>t
  | t,n,o :: l=>ofL (t.ins n o) (n + 1) l
noncomputable def bt (P:Params):BT:=ofL .nil 0 (boot_heap P).objs.toList
theorem bt_abs (P:Params):absHeap (bt P) 11 {}=boot_heap P:=by kernel_rfl
theorem size0 (P:Params):((boot_heap P).isNs mainGlobals,(boot_heap P).objs.size,(boot_heap P).nsMap mainGlobals "__annotations__")=(true,11,some (.ref 6)):=by kernel_rfl
noncomputable def goes (p:Program) (M:Nat) (T:BT) (w:World) (os:OsState):Option SharedT:=topRunT treeTable p w 11 (some (.ref 6)) M ⟨T,11,{}, #[],{},181,os⟩ (topStub p)
theorem leftT {p q:Program} {loose:List Str} {Xt:Shared->Bool} {α:Type} {Yf:Shared->α} {Ya:World->α} {N:Nat} (M:Nat)
    {R:BT->World->OsState->Option SharedT} (hR:goes p M=R) (e:opening p=plainProg p.main.scope.names) (f:∀ s,fenceModules? p s=some s) (hN:Nat.ble 600 N=true) (le:Nat.ble M N=true)
    (A:∀ w os,(R (bt w.params) w os).map (fun s=>staticsOk (importedModules p.main.body) (boot_heap w.params) s.abs.heap && namesBound p s.abs.heap && gensDone s.abs && laidKept (boot_heap w.params) s.abs.heap)=some true)
    (B:∀ w os,(R (bt w.params) w os).map (fun s=>openSeen q loose (importedModules p.main.body) Xt true s.abs)=some (openGood q loose))
    (C:∀ w os,(R (bt w.params) w os).map (fun s=>Yf s.abs)=some (Ya w)):LeftO p q loose Xt Yf Ya N:=fun w=>by
  subst hR
  obtain ⟨⟨h,gs,d,k,os⟩,e,e'⟩:=Option.map_eq_some_iff.mp (boot_open e hN f w)
  obtain ⟨rfl,rfl,rfl,rfl⟩:h=boot_heap w.params/\gs = #[]/\d=boot_drawn/\k=boot_toks:=by simpa using e'
  obtain ⟨z1,z2,z3⟩:_/\_/\_:=by simpa only [Prod.mk.injEq] using size0 w.params
  obtain ⟨s,hs,l1⟩:=Option.map_eq_some_iff.mp (A w os)
  have b:=B w os;rw [hs] at b
  have c:=C w os;rw [hs] at c
  have r:=topRun_mono (N - M) _ _ _ _ (topRun_of hs)
  rw [show M + (N - M)=N by have:=Nat.le_of_ble_eq_true le;omega] at r
  have r':topRun treeTable p w 11 (some (.ref 6)) N ⟨boot_heap w.params, #[],boot_drawn,boot_toks,os⟩ (topStub p)=some s.abs:=by
    rw [<- bt_abs];exact r
  have t:topFrom treeTable p w N ⟨boot_heap w.params, #[],boot_drawn,boot_toks,os⟩=some s.abs:=by
    unfold topFrom
    dsimp only
    rw [z1,z2,z3,r']
    show (match staticsOk (importedModules p.main.body) (boot_heap w.params) s.abs.heap && namesBound p s.abs.heap && gensDone s.abs && laidKept (boot_heap w.params) s.abs.heap with | true=>_ | false=>_)=_
    rw [l1]
  unfold openEnds
  rw [e]
  show (topFrom treeTable p w N _).map _=_
  rw [t]
  exact congrArg some (Prod.ext (Option.some.inj b) (Option.some.inj c))
theorem byR (row:String) {P:World->OsState->Prop} (hf:∀ (w:World) os,P (w.withFollow row false) os) (ht:∀ (w:World) os,P (w.withFollow row true) os):∀ w os,P w os:=fun w os=>byRow2 row (P:=fun w=>P w os) (fun w=>hf w os) (fun w=>ht w os) w
theorem comb {A B C R:Prop} (f:A->B->C->R) (h:A/\B) (c:C):R:=f h.1 h.2 c
noncomputable abbrev oneOf {P:World->OsState->Prop} {B R:Prop} (_:(∀ w os,P w os)/\B->R) (w:World) (os:OsState):Prop:=P w os
end TopT
end
section
namespace L2
open PySem PySem.Spec PyProof.Rows
noncomputable abbrev Key:=Sum Int Str
noncomputable def keyIs:Key->Value->Bool
  | .inl k,v=>Value.isInt k v
  | .inr x,v=>Value.isStrOf x v
noncomputable def keyH (w:World):Key->Int
  | .inl k=>hashInt k
  | .inr x=>hashStr w x
theorem keyIs_shape:∀ {k:Key} {v:Value},keyIs k v=true->(∃ i t,k=Sum.inl i/\v=Value.int i t)\/(∃ x t,k=Sum.inr x/\v=Value.str x t)
  | .inl i,v,h=>by
    obtain ⟨t,e⟩:=Value.isInt_shape (k:=i) (v:=v) h
    exact .inl ⟨i,t,rfl,e⟩
  | .inr x,v,h=>by
    obtain ⟨t,e⟩:=Value.isStrOf_shape (x:=x) (v:=v) h
    exact .inr ⟨x,t,rfl,e⟩
theorem keyIs_int (i:Int) (t:Tok):keyIs (.inl i) (.int i t)=true:=by simp [keyIs,Value.isInt]
theorem keyIs_str (x:Str) (t:Tok):keyIs (.inr x) (.str x t)=true:=by simp [keyIs,Value.isStrOf]
theorem key_ll (a b:Int):decide ((Sum.inl a:Key)=Sum.inl b)=(a == b):=by
  by_cases e:a=b
  . subst e;simp
  . have h:¬ (Sum.inl a:Key)=Sum.inl b:=fun q=>e (Sum.inl.inj q)
    rw [decide_eq_false h]
    exact (beq_eq_false_iff_ne.mpr e).symm
theorem key_rr (a b:Str):decide ((Sum.inr a:Key)=Sum.inr b)=decide (a=b):=by
  by_cases e:a=b
  . subst e;simp
  . have h:¬ (Sum.inr a:Key)=Sum.inr b:=fun q=>e (Sum.inr.inj q)
    rw [decide_eq_false h,decide_eq_false e]
theorem key_lr (a:Int) (b:Str):decide ((Sum.inl a:Key)=Sum.inr b)=false:=decide_eq_false (fun q=>nomatch q)
theorem key_rl (a:Str) (b:Int):decide ((Sum.inr a:Key)=Sum.inl b)=false:=decide_eq_false (fun q=>nomatch q)
noncomputable def mixKind (prog:Program) (w:World):PySem.KeyKind prog w Key where
  is:=keyIs
  hash:=keyH w
  inj := fun v a b ha hb => by
    rcases keyIs_shape ha with ⟨i,t,rfl,rfl⟩ | ⟨x,t,rfl,rfl⟩
    . rcases keyIs_shape hb with ⟨j,u,rfl,e⟩ | ⟨y,u,rfl,e⟩
      . injection e with e1 _;rw [e1]
      . exact nomatch e
    . rcases keyIs_shape hb with ⟨j,u,rfl,e⟩ | ⟨y,u,rfl,e⟩
      . exact nomatch e
      . injection e with e1 _;rw [e1]
  byValue:=fun k v h=>by
    rcases keyIs_shape h with ⟨i,t,rfl,rfl⟩ | ⟨x,t,rfl,rfl⟩ <;> rfl
  pyHash:=fun hv h=>by
    rcases keyIs_shape hv with ⟨i,t,rfl,rfl⟩ | ⟨x,t,rfl,rfl⟩
    . exact wpAny_pyHash_int h
    . exact wpAny_pyHash_str h
  eqBool:=fun hu hv h=>by
    rcases keyIs_shape hu with ⟨i,t,rfl,rfl⟩ | ⟨x,t,rfl,rfl⟩
    . rcases keyIs_shape hv with ⟨j,u,rfl,rfl⟩ | ⟨y,u,rfl,rfl⟩
      . rw [key_ll] at h;exact wpAny_eqBool_int h
      . rw [key_lr] at h;exact SeqAt.EqAt.int_str i t y u _ _ _ _ h
    . rcases keyIs_shape hv with ⟨j,u,rfl,rfl⟩ | ⟨y,u,rfl,rfl⟩
      . rw [key_rl] at h;exact SeqAt.EqAt.str_int x t j u _ _ _ _ h
      . rw [key_rr] at h;exact wpAny_eqBool_str h
  «strs» := fun k x t v h=>by
    rcases keyIs_shape h with ⟨i,u,rfl,e⟩ | ⟨y,u,rfl,e⟩
    . exact nomatch e
    . injection e with e1 _
      subst e1
      cases v <;> rfl
theorem mixKind_int (prog:Program) (w:World) (i:Int) (t:Tok):(mixKind prog w).is (.inl i) (.int i t)=true:=keyIs_int i t
theorem mixKind_str (prog:Program) (w:World) (x:Str) (t:Tok):(mixKind prog w).is (.inr x) (.str x t)=true:=keyIs_str x t
end L2
namespace L2
open PySem PySem.Spec PyProof.Rows
inductive V where
  | non | bl (b:Bool) | int (i:Int) | str (x:Str) | byt (b:Array UInt8) | flt (b:UInt64) | ref (a:Addr) | ty (n:String)
  deriving DecidableEq
noncomputable def RelV:V->Value->Prop
  | .non,u=>u=Value.none
  | .bl b,u=>u=Value.bool b
  | .int i,u=>∃ t,u=Value.int i t
  | .str x,u=>∃ t,u=Value.str x t
  | .byt b,u=>∃ t,u=Value.bytes b t
  | .flt b,u=>∃ t,u=Value.float b t
  | .ref a,u=>u=Value.ref a
  | .ty n,u=>u=Value.type n
noncomputable abbrev Vals:List V->List Value->Prop:=Paired RelV
theorem Vals.length {xs:List V} {us:List Value} (r:Vals xs us):xs.length=us.length:=Paired.length r
theorem Vals.get:∀ {xs:List V} {us:List Value} {i:Nat} {x:V},Vals xs us->xs[i]?=some x->∃ u,us[i]?=some u/\RelV x u
  | _,_,_,_,.nil,e=>by simp at e
  | _,_,0,_,.cons r _,e=>by simp at e;subst e;exact ⟨_,rfl,r⟩
  | _,_,i + 1,x,.cons _ t,e=>by
    obtain ⟨u,h1,h2⟩:=Vals.get (i:=i) (x:=x) t (by simpa using e)
    exact ⟨u,by simpa using h1,h2⟩
theorem Vals.set {x:V} {u:Value} (r:RelV x u):∀ {xs:List V} {us:List Value} (i:Nat),Vals xs us->Vals (xs.set i x) (us.set i u)
  | _,_,_,.nil=>.nil
  | _,_,0,.cons _ t=>.cons r t
  | _,_,i + 1,.cons q t=>.cons q (Vals.set r i t)
theorem Vals.append:∀ {xs ys:List V} {us ws:List Value},Vals xs us->Vals ys ws->Vals (xs ++ ys) (us ++ ws)
  | _,_,_,_,.nil,s=>s
  | _,_,_,_,.cons r t,s=>.cons r (Vals.append t s)
theorem Vals.take:∀ {xs:List V} {us:List Value} (n:Nat),Vals xs us->Vals (xs.take n) (us.take n)
  | _,_,0,_=>.nil
  | _,_,_ + 1,.nil=>.nil
  | _,_,n + 1,.cons r t=>.cons r (Vals.take n t)
theorem Vals.drop:∀ {xs:List V} {us:List Value} (n:Nat),Vals xs us->Vals (xs.drop n) (us.drop n)
  | _,_,0,r=>r
  | _,_,_ + 1,.nil=>.nil
  | _,_,n + 1,.cons _ t=>Vals.drop n t
noncomputable def RelO:Option V->Option Value->Prop
  | some v,some u=>RelV v u
  | none,none=>True
  | _,_=>False
noncomputable def KV {κ:Type}:List (κ × V)->List (κ × Value)->Prop:=Paired fun (p:κ × V) (q:κ × Value)=>p.1=q.1/\RelV p.2 q.2
noncomputable def kV:Key->V
  | .inl i=>.int i
  | .inr x=>.str x
inductive HO where
  | lst (xs:List V)
  | tup (xs:List V)
  | dK (kvs:List (Key × V)) | dT (kvs:List (List Key × V))
  | set (S:Int->Bool) (n:Nat)
  | ins (C dx:Addr) (fs:List (Str × V))
  | own (x:Addr)
  | xd (fs:List (Str × V))
  | met (f x:Addr)
  | rng (lo hi:Int)
  | frz (o:Obj) (u:HO)
  | tbl (ps:Array Value)
  | ext (φ:Heap->Prop)
noncomputable abbrev Hp:=Addr->Option HO
noncomputable def upd (H:Hp) (a:Addr) (o:HO):Hp:=fun b=>if b=a then some o else H b
theorem upd_same {H:Hp} {a:Addr} {o:HO}:upd H a o a=some o:=by unfold upd;rw [if_pos rfl]
theorem upd_ne {H:Hp} {a b:Addr} {o:HO} (h:b ≠ a):upd H a o b=H b:=by unfold upd;rw [if_neg h]
theorem ne_of {H:Hp} {a b:Addr} {o u:HO} (h:H a=some o) (h':H b=some u) (d:o ≠ u):a ≠ b:=by
  intro e;subst e;rw [h] at h';exact d (Option.some.inj h')
theorem ne_of_none {H:Hp} {a b:Addr} {o:HO} (h:H a=some o) (h':H b=none):a ≠ b:=by
  intro e;subst e;rw [h] at h';cases h'
section
variable (P:Program) (w:World)
noncomputable def ObjOk (H:Hp) (h:Heap) (a:Addr):HO->Prop
  | .lst xs=>xs.length<=sizeLine/\∃ (its:List Value) (n:Nat),Vals xs its/\h.get? a=some { cls:=.type "list",data:=.seq its.toArray n }
  | .tup xs=>xs.length<=sizeLine/\∃ its:List Value,Vals xs its/\IsTup h a its.toArray
  | .dK kvs=>kvs.length<=sizeLine/\(a == sysModules)=false/\∃ vs,KV kvs vs/\h.DictOf (mixKind P w) a vs
  | .dT kvs=>kvs.length<=sizeLine/\(a == sysModules)=false/\∃ xs:List (List Key × Addr × Value),
      Paired (fun (p:List Key × V) (q:List Key × Addr × Value)=>p.1=q.1/\H q.2.1=some (.tup (p.1.map kV))/\RelV p.2 q.2.2) kvs xs /\
      ∃ o es ep,h.get? a=some o/\o.ExactDict/\o.data = .dict es ep/\es.toList=xs.map (entryOfKey (tupleKind (mixKind P w)))/\(xs.map (·.1)).Nodup
  | .set S n=>h.SetOf (intKind P w) a S n
  | .ins C dx fs=>H dx=some (.own a)/\fs.length<=1000/\dx ≠ a/\h.get? a=some (PySem.W.instObj C dx) /\
      ∃ mA,h.Ns1 dx mA/\(∀ f,RelO (fs.lookup f) (mA f))/\PySem.Within mA (fs.map (·.1))
  | .own _=>∃ o,h.get? a=some o
  | .xd fs=>∃ mA,h.Ns1 a mA/\∀ f,RelO (fs.lookup f) (mA f)
  | .rng lo hi=>∃ t u v,h.get? a=some { cls:=.type "range",data:=.fields #[.int lo t,.int hi u,.int 1 v] }
  | .frz o u=>h.get? a=some o/\ObjOk H h a u
  | .tbl ps=>h.get? a=some { cls:=.none,data:=.fields ps }
  | .met f x=>h.get? a=some (PySem.W.methodObj (.ref f) (.ref x))
  | .ext φ=>φ h/\(∃ o,h.get? a=some o)/\∀ h1 h2:Heap,φ h1->(∀ o,h1.get? a=some o->h2.get? a=some o)->φ h2
noncomputable def HOk (H:Hp) (h:Heap):Prop:=∀ a o,H a=some o->ObjOk P w H h a o
end
section
variable {P:Program} {w:World} {H H':Hp} {h h':Heap} {a:Addr} {o:HO}
theorem ObjOk.lt (x:ObjOk P w H h a o):a < h.objs.size:=by
  cases o with
  | lst xs=>obtain ⟨_,_,_,_,e⟩:=x;exact Heap.lt_size e
  | tup xs=>obtain ⟨_,_,_,p⟩:=x;exact p.lt
  | dK kvs=>obtain ⟨_,_,_,_,o,_,_,e,_⟩:=x;exact Heap.lt_size e
  | dT kvs=>obtain ⟨_,_,_,_,o,_,_,e,_⟩:=x;exact Heap.lt_size e
  | set S n=>obtain ⟨o,_,_,_,e,_⟩:=x;exact Heap.lt_size e
  | ins C dx fs=>obtain ⟨_,_,_,e,_⟩:=x;exact Heap.lt_size e
  | own y=>obtain ⟨_,e⟩:=x;exact Heap.lt_size e
  | xd fs=>obtain ⟨_,⟨_,_,_,e,_⟩,_⟩:=x;exact Heap.lt_size e
  | rng lo hi=>obtain ⟨_,_,_,e⟩:=x;exact Heap.lt_size e
  | frz ob u=>obtain ⟨e,_⟩:=x;exact Heap.lt_size e
  | tbl ps=>exact Heap.lt_size (show h.get? a=some _ from x)
  | met f y=>exact Heap.lt_size (show h.get? a=some _ from x)
  | ext φ=>obtain ⟨_,⟨_,e⟩,_⟩:=x;exact Heap.lt_size e
theorem Paired.mapP {α β:Type} {F G:α->β->Prop}:∀ {l₁:List α} {l₂:List β},Paired F l₁ l₂->(∀ a b,F a b->G a b)->Paired G l₁ l₂
  | _,_,.nil,_=>.nil
  | _,_,.cons r t,f=>.cons (f _ _ r) (Paired.mapP t f)
theorem ObjOk.stay (x:ObjOk P w H h a o) (k:∀ b u,(b=a\/H b=some (.own a))->h.get? b=some u->h'.get? b=some u)
    (ho:∀ b,H b=some (.own a)->H' b=some (.own a)) (ht:∀ b xs,H b=some (.tup xs)->H' b=some (.tup xs)):ObjOk P w H' h' a o:=by
  induction o with
  | lst xs=>obtain ⟨z,its,n,r,e⟩:=x;exact ⟨z,its,n,r,k _ _ (.inl rfl) e⟩
  | tup xs=>obtain ⟨z,its,r,ob,e,c⟩:=x;exact ⟨z,its,r,ob,k _ _ (.inl rfl) e,c⟩
  | dK kvs=>obtain ⟨z,y,vs,r,ob,es,ep,e,c⟩:=x;exact ⟨z,y,vs,r,ob,es,ep,k _ _ (.inl rfl) e,c⟩
  | dT kvs =>
    obtain ⟨z,y,xs,r,ob,es,ep,e,c⟩:=x
    exact ⟨z,y,xs,Paired.mapP r fun p q z=>⟨z.1,ht _ _ z.2.1,z.2.2⟩,ob,es,ep,k _ _ (.inl rfl) e,c⟩
  | set S n=>obtain ⟨ob,es,ep,t,e,c⟩:=x;exact ⟨ob,es,ep,t,k _ _ (.inl rfl) e,c⟩
  | ins C dx fs =>
    obtain ⟨d,z,ne,e,mA,⟨od,es,ep,e2,c⟩,r⟩:=x
    exact ⟨ho _ d,z,ne,k _ _ (.inl rfl) e,mA,⟨od,es,ep,k _ _ (.inr d) e2,c⟩,r⟩
  | own y=>obtain ⟨ob,e⟩:=x;exact ⟨ob,k _ _ (.inl rfl) e⟩
  | xd fs=>obtain ⟨mA,⟨od,es,ep,e,c⟩,r⟩:=x;exact ⟨mA,⟨od,es,ep,k _ _ (.inl rfl) e,c⟩,r⟩
  | rng lo hi=>obtain ⟨t,u,v,e⟩:=x;exact ⟨t,u,v,k _ _ (.inl rfl) e⟩
  | frz ob u ih=>obtain ⟨e,q⟩:=x;exact ⟨k _ _ (.inl rfl) e,ih q⟩
  | tbl ps =>
    have e:h.get? a=some { cls:=.none,data:=.fields ps }:=x
    show h'.get? a=some { cls:=.none,data:=.fields ps }
    exact k a _ (.inl rfl) e
  | met f y =>
    have e:h.get? a=some (PySem.W.methodObj (.ref f) (.ref y)):=x
    show h'.get? a=some (PySem.W.methodObj (.ref f) (.ref y))
    exact k a _ (.inl rfl) e
  | ext φ=>obtain ⟨p,⟨o,e⟩,st⟩:=x;exact ⟨st _ _ p fun o q=>k _ _ (.inl rfl) q,⟨o,k _ _ (.inl rfl) e⟩,st⟩
theorem HOk.lt (x:HOk P w H h) (e:H a=some o):a < h.objs.size:=(x a o e).lt
theorem HOk.fresh (x:HOk P w H h) (e:h.objs.size<=a):H a=none:=by
  cases q:H a with
  | none=>rfl
  | some u=>exact absurd (Nat.lt_of_lt_of_le (x.lt q) e) (Nat.lt_irrefl _)
theorem HOk.kept (x:HOk P w H h) (k:∀ b u,h.get? b=some u->h'.get? b=some u):HOk P w H h':=fun a o e =>
  (x a o e).stay (fun b u _ q=>k b u q) (fun _ q=>q) fun _ _ q=>q
theorem HOk.laid (x:HOk P w H h) (k:∀ b u,h.get? b=some u->h'.get? b=some u) (hp:h.objs.size<=a) (new:ObjOk P w (upd H a o) h' a o):HOk P w (upd H a o) h':=fun b u e=>by
  have hn:=x.fresh hp
  by_cases hb:b=a
  . subst hb;rw [upd_same] at e;cases e;exact new
  . rw [upd_ne hb] at e
    exact (x b u e).stay (fun c v _ q=>k c v q) (fun c q=>by rw [upd_ne (ne_of_none q hn)];exact q) fun c xs q=>by rw [upd_ne (ne_of_none q hn)];exact q
end
noncomputable def Rd (H:Hp) (a:Addr) (u:HO):Prop:=H a=some u\/∃ o,H a=some (.frz o u)
theorem Rd.ok {P:Program} {w:World} {H:Hp} {h:Heap} {a:Addr} {u:HO} (r:Rd H a u) (x:HOk P w H h):ObjOk P w H h a u:=by
  rcases r with r | ⟨o,r⟩
  . exact x a u r
  . obtain ⟨_,q⟩:=x a _ r
    exact q
noncomputable def Mut:Option HO->Prop
  | some (.lst _)=>True
  | some (.dK _)=>True
  | some (.dT _)=>True
  | some (.set _ _)=>True
  | some (.ins _ _ _)=>True
  | some (.ext _)=>True
  | _=>False
section
variable {P:Program} {w:World} {H:Hp} {h h':Heap} {x e:Addr} {o':HO}
theorem HOk.write (ok:HOk P w H h) (mu:Mut (H x)) (he:e=x\/H e=some (.own x)) (k:∀ b u,b ≠ e->h.get? b=some u->h'.get? b=some u) (heo:∃ u,h'.get? e=some u)
    (new:ObjOk P w (upd H x o') h' x o'):HOk P w (upd H x o') h':=fun b u q=>by
  have nown:∀ c y,H c=some (.own y)->c ≠ x:=fun c y r z=>by subst z;rw [r] at mu;exact mu
  have ntup:∀ c xs,H c=some (.tup xs)->c ≠ x:=fun c xs r z=>by subst z;rw [r] at mu;exact mu
  by_cases hb:b=x
  . subst hb;rw [upd_same] at q;cases q;exact new
  . rw [upd_ne hb] at q
    by_cases hbe:b=e
    . have q':H b=some (.own x):=by
        rcases he with z | z
        . exact absurd (hbe.trans z) hb
        . rw [hbe];exact z
      rw [q] at q';cases q'
      obtain ⟨v,hv⟩:=heo
      exact ⟨v,by rw [hbe];exact hv⟩
    . refine (ok b u q).stay (fun c v hc r=>k c v ?_ r) (fun c r=>by rw [upd_ne (nown c b r)];exact r) fun c xs r=>by rw [upd_ne (ntup c xs r)];exact r
      rcases hc with rfl | hc
      . exact hbe
      . rintro rfl
        rcases he with z | z
        . exact nown c b hc z
        . rw [hc] at z;cases z;exact hb rfl
end
structure Un (fs ex:List Addr) (H H':Hp) (h h':Heap):Prop where
  keep:∀ b o,h.get? b=some o->H b=none->b ∉ fs->b ∉ ex->h'.get? b=some o
  slot:∀ b o,h.get? b=some o->H b=none->b ∈ fs->b ∉ ex->∃ sl,h'.get? b=some { o with slots:=sl }
  free:∀ b o,h.get? b=some o->H b=none->b ∉ ex->H' b=none
  there:∀ b o,h.get? b=some o->b ∉ ex->∃ o',h'.get? b=some o'
  tups:∀ b xs,H b=some (.tup xs)->H' b=some (.tup xs)
  frzs:∀ b o u,H b=some (.frz o u)->H' b=some (.frz o u)
  tbls:∀ b ps,H b=some (.tbl ps)->∃ more,H' b=some (.tbl (ps ++ more))
section
variable {fs ex:List Addr} {H H1 H2:Hp} {h h1 h2 h':Heap} {a x e:Addr} {o:HO}
theorem Un.any (u:Un fs ex H H1 h h1) {b:Addr} {ob:Obj} (q:h.get? b=some ob) (n:H b=none) (hx:b ∉ ex):∃ sl,h1.get? b=some { ob with slots:=sl }:=by
  by_cases hb:b ∈ fs
  . exact u.slot b ob q n hb hx
  . exact ⟨ob.slots,u.keep b ob q n hb hx⟩
theorem Un.kept (k:∀ b u,h.get? b=some u->h'.get? b=some u):Un fs ex H H h h' :=
  ⟨fun b ob q _ _ _=>k b ob q,fun b ob q _ _ _=>⟨ob.slots,k b ob q⟩,fun _ _ _ n _=>n,fun b ob q _=>⟨ob,k b ob q⟩,fun _ _ q=>q,fun _ _ _ q=>q,fun _ ps q=>⟨#[],by rw [q];simp⟩⟩
theorem Un.refl:Un fs ex H H h h:=Un.kept fun _ _ q=>q
theorem Un.laid (k:∀ b u,h.get? b=some u->h'.get? b=some u) (hp:h.objs.size<=a) (hn:H a=none):Un fs ex H (upd H a o) h h' where
  keep:=fun b u q _ _ _=>k b u q
  slot:=fun b u q _ _ _=>⟨u.slots,k b u q⟩
  free:=fun b u q n _=>by rw [upd_ne (Nat.ne_of_lt (Nat.lt_of_lt_of_le (Heap.lt_size q) hp))];exact n
  there:=fun b u q _=>⟨u,k b u q⟩
  tups:=fun b xs q=>by rw [upd_ne (ne_of_none q hn)];exact q
  frzs:=fun b u xs q=>by rw [upd_ne (ne_of_none q hn)];exact q
  tbls:=fun b ps q=>⟨#[],by rw [upd_ne (ne_of_none q hn),q];simp⟩
theorem Un.write (mu:Mut (H x)) (he:e=x\/H e=some (.own x)) (k:∀ b u,b ≠ e->h.get? b=some u->h'.get? b=some u) (heo:∃ u,h'.get? e=some u):Un fs ex H (upd H x o) h h':=by
  have hx:∀ b,H b=none->b ≠ x:=fun b n z=>by subst z;rw [n] at mu;exact mu
  have hb:∀ b,H b=none->b ≠ e:=fun b n z=>by
    subst z
    rcases he with r | r
    . exact hx b n r
    . rw [n] at r;cases r
  have hm:∀ b u,H b=some u->¬ Mut (some u)->b ≠ x:=fun b u q nm z=>by subst z;rw [q] at mu;exact nm mu
  refine ⟨fun b u q n _ _=>k b u (hb b n) q,fun b u q n _ _=>⟨u.slots,k b u (hb b n) q⟩,fun b u q n _=>by rw [upd_ne (hx b n)];exact n,fun b u q _=>?_,
    fun b xs q=>by rw [upd_ne (hm b _ q fun z=>z)];exact q,fun b u xs q=>by rw [upd_ne (hm b _ q fun z=>z)];exact q,fun b ps q=>⟨#[],by rw [upd_ne (hm b _ q fun z=>z),q];simp⟩⟩
  by_cases hbe:b=e
  . subst hbe;exact heo
  . exact ⟨u,k b u hbe q⟩
end
noncomputable def trk (h:Heap) (H:Hp):List Addr:=(List.range h.objs.size).filter fun a=>(H a).isSome
noncomputable def hidT (h:Heap) (H:Hp):Heap:=PySem.W.hideAll h (trk h H)
theorem hidT_size (h:Heap) (H:Hp):(hidT h H).objs.size=h.objs.size:=PySem.W.hideAll_size _ _
theorem hidT_get {h:Heap} {H:Hp} {b:Addr} {o:Obj} (e:h.get? b=some o) (n:H b=none):(hidT h H).get? b=some o :=
  PySem.W.hideAll_get _ e fun hm=>by
    have q:(H b).isSome=true:=(List.mem_filter.mp hm).2
    rw [n] at q;simp at q
theorem of_hidT {h:Heap} {H:Hp} {b:Addr} {o:Obj} (e:(hidT h H).get? b=some o):h.get? b=some o/\H b=none:=by
  have e':h.get? b=some o:=PySem.W.of_hideAll (trk h H) e
  refine ⟨e',?_⟩
  cases q:H b with
  | none=>rfl
  | some x =>
    have hm:b ∈ trk h H:=List.mem_filter.mpr ⟨List.mem_range.mpr (Heap.lt_size e'),by simp [q]⟩
    have z:(hidT h H).get? b=none:=PySem.W.hideAll_none (trk h H) hm
    rw [z] at e;cases e
noncomputable def allNews (g h:Heap) (L:Addr):List (Addr × Obj):=(List.range h.objs.size).filterMap fun a=>if a=L\/(g.get? a).isSome=true then none else (h.get? a).map fun o=>(a,o)
noncomputable def rest (g h:Heap) (L d:Addr):List (Addr × Obj):=(allNews g h L).filter fun p=>decide (p.1 ≠ d)
end L2
namespace L2
open PySem PySem.Spec PyProof.Rows
structure Mod (K:PySem.W.Frag) (mg:Str->Option Value) (base:Heap):Prop where
  kin:K.In base
  glob:base.Ns mainGlobals mg
  blt:∃ mb,base.Ns builtinsNs mb/\∀ x:Str,x ≠ "__name__" -> mb x=bootBuiltins x
  nolimit:base.NoLimit
structure Cx where
  prog:Program
  w:World
  K:PySem.W.Frag
  mg:Str->Option Value
  base:Heap
  A:Around
  N:List Str
  s₀:Shared
  H₀:Hp
  env:Env
  outer:List Env
  stack:List Env
  ex:List Addr
  fn:Str->Bool
  calm:Bool
  pn:List (Addr × Obj)
  xe:Value->Shared->Prop
noncomputable def frs (l:List Env):List Addr:=l.filterMap (·.frame)
noncomputable abbrev Cx.fs (X:Cx):List Addr:=frs X.outer
noncomputable def Vis (sc:Scope) (x:Str):Prop:=sc.names.lookup x=some .local\/sc.names.lookup x=some .cell\/sc.names.lookup x=some .free
noncomputable def Loc (sc:Scope) (x:Str):Prop:=sc.names.lookup x=some .local\/sc.names.lookup x=some .cell
noncomputable def Look (env:Env) (h:Heap) (m:Str->Option Value) (x:Str) (u:Value):Prop :=
  (env.kindOf x=some .local/\m x=some u)\/((env.kindOf x=some .cell\/env.kindOf x=some .free)/\∃ c,env.cells.lookup x=some c/\h.IsCell c (some u))
structure Cx.Ok (X:Cx):Prop where
  mod:Mod X.K X.mg X.base
  kind:X.env.scope.kind = .function
  glob:X.env.globals=mainGlobals
  blt:X.env.builtins=builtinsNs
  above:X.s₀.heap.objs.size<=X.env.locals
  inj:∀ x y c,X.env.cells.lookup x=some c->X.env.cells.lookup y=some c->x=y
  has:∀ x,(X.env.kindOf x=some .cell\/X.env.kindOf x=some .free)->∃ c,X.env.cells.lookup x=some c
  cab:∀ x c,X.fn x=true->X.env.cells.lookup x=some c->X.s₀.heap.objs.size<=c
  hd:X.calm=true->X.A.handled=none
  frames:X.A.frames=some X.stack
  stk:X.stack=X.outer\/(X.stack=X.env :: X.outer/\X.env.frame=some X.env.locals)
  exf:∀ b ∈ X.ex,b ≠ X.env.locals/\∀ x c,X.env.cells.lookup x=some c->c ≠ b
  bs:∀ b o,X.base.get? b=some o->X.s₀.heap.get? b=some o/\X.H₀ b=none
  bsz:X.base.objs.size<=X.s₀.heap.objs.size
  noex:∀ b o,X.base.get? b=some o->b ∉ X.ex
  exfs:∀ b ∈ X.ex,b ∉ X.fs
  funs:X.s₀.heap.FunFrames X.base X.outer
  frf:∀ b ∈ X.fs,X.H₀ b=none
structure Inv (X:Cx) (pins:List (Addr × Obj)) (σ:List (Option V)) (H:Hp) (s:Shared):Prop where
  ok:X.Ok
  os:s.os=X.s₀.os
  bare:AllBare s.gens
  base:Un X.fs X.ex X.H₀ H X.s₀.heap s.heap
  loc:∃ m,s.heap.Ns X.env.locals m/\∀ (i:Nat) (x:Str) (v:V),X.N[i]?=some x->σ[i]?=some (some v)->Vis X.env.scope x->∃ u,RelV v u/\Look X.env s.heap m x u
  cell:∀ x c,X.env.cells.lookup x=some c->∃ v,s.heap.IsCell c v
  free:H X.env.locals=none
  freeC:∀ x c,X.env.cells.lookup x=some c->H c=none
  pin:∀ p ∈ X.pn ++ pins,s.heap.get? p.1=some p.2/\H p.1=none/\p.1 ≠ X.env.locals/\p.1 ∉ X.fs/\∀ v,p.2.data ≠ .cell v
  hok:HOk X.prog X.w H s.heap
  len:σ.length=X.N.length
section
variable {X:Cx} {pins:List (Addr × Obj)} {σ:List (Option V)} {H H':Hp} {s:Shared} {h':Heap}
theorem Cx.Ok.nofr (ok:X.Ok) {b:Addr} {o:Obj} (e:X.base.get? b=some o):b ∉ X.fs:=fun hb=>by
  have:=(ok.funs.mem hb).1
  rw [e] at this;cases this
theorem Inv.bs (I:Inv X pins σ H s):∀ b o,X.base.get? b=some o->s.heap.get? b=some o/\H b=none:=fun b o e =>
  ⟨I.base.keep b o (I.ok.bs b o e).1 (I.ok.bs b o e).2 (I.ok.nofr e) (I.ok.noex b o e),I.base.free b o (I.ok.bs b o e).1 (I.ok.bs b o e).2 (I.ok.noex b o e)⟩
theorem Inv.bk (I:Inv X pins σ H s):∀ b o,X.base.get? b=some o->s.heap.get? b=some o:=fun b o e=>(I.bs b o e).1
theorem Inv.mod (I:Inv X pins σ H s):Mod X.K X.mg X.base:=I.ok.mod
theorem Inv.kIn (I:Inv X pins σ H s):X.K.In s.heap:=I.ok.mod.kin.keeps I.bk
theorem Inv.fr (I:Inv X pins σ H s):∃ m,Fr X.base X.env.locals s.heap m :=
  let ⟨m,hn,_⟩:=I.loc
  ⟨m,hn,I.bk,Nat.le_trans I.ok.bsz I.ok.above⟩
theorem Inv.lt (I:Inv X pins σ H s):X.env.locals < s.heap.objs.size:=let ⟨_,hn,_⟩:=I.loc;hn.lt
theorem Inv.sz (I:Inv X pins σ H s):X.s₀.heap.objs.size<=s.heap.objs.size:=Nat.le_trans I.ok.above (Nat.le_of_lt I.lt)
theorem Inv.nofs (I:Inv X pins σ H s) {a:Addr} (h:s.heap.objs.size<=a):a ∉ X.fs:=fun hb=>by
  obtain ⟨_,o,ho,_⟩:=I.ok.funs.mem hb
  exact absurd (Nat.lt_of_lt_of_le (Heap.lt_size ho) (Nat.le_trans I.sz h)) (Nat.lt_irrefl _)
theorem Inv.cne (I:Inv X pins σ H s):∀ x c,X.env.cells.lookup x=some c->c ≠ X.env.locals:=fun x c e z=>by
  obtain ⟨v,o,ho,hd⟩:=I.cell x c e
  obtain ⟨m,⟨o',es,ep,ho',hd',_⟩,_⟩:=I.loc
  rw [z,ho'] at ho;cases ho;rw [hd'] at hd;cases hd
theorem Inv.funs (I:Inv X pins σ H s):s.heap.FunFrames X.base X.outer:=by
  have all:∀ (l:List Env),(∀ b ∈ frs l,b ∈ X.fs)->X.s₀.heap.FunFrames X.base l->s.heap.FunFrames X.base l:=by
    intro l
    induction l with
    | nil=>intro _ _;trivial
    | cons env r ih =>
      intro hs hl
      obtain ⟨hk,⟨L,o,hf,hn,ho,hd⟩,hr⟩:=hl
      have hL:L ∈ X.fs:=hs L (by unfold frs;rw [List.filterMap_cons,hf];exact List.mem_cons_self)
      obtain ⟨sl,e⟩:=I.base.slot L o ho (I.ok.frf L hL) hL fun z=>I.ok.exfs L z hL
      exact ⟨hk,⟨L,_,hf,hn,e,hd⟩,ih (fun b hb=>hs b (by unfold frs;rw [List.filterMap_cons,hf];exact List.mem_cons_of_mem _ hb)) hr⟩
  exact all X.outer (fun _ hb=>hb) I.ok.funs
theorem Inv.stack (I:Inv X pins σ H s):s.heap.FunFrames X.base X.stack:=by
  rcases I.ok.stk with e | ⟨e,hf⟩
  . rw [e];exact I.funs
  . rw [e]
    obtain ⟨m,hn,_⟩:=I.loc
    refine .cons (by rw [I.ok.kind];decide) hf hn ?_ I.funs
    exact Heap.get?_none_of_le (Nat.le_trans I.ok.bsz I.ok.above)
theorem Inv.stkSub (I:Inv X pins σ H s):∀ b ∈ frs X.stack,b ∈ X.env.locals :: X.fs:=fun b hb=>by
  rcases I.ok.stk with e | ⟨e,hf⟩
  . rw [e] at hb;exact List.mem_cons_of_mem _ hb
  . rw [e] at hb
    unfold frs at hb
    rw [List.filterMap_cons,hf] at hb
    exact hb
theorem Inv.stkFree (I:Inv X pins σ H s):∀ b ∈ frs X.stack,H b=none:=fun b hb=>by
  rcases List.mem_cons.mp (I.stkSub b hb) with e | hb
  . rw [e];exact I.free
  . obtain ⟨_,o,ho,_⟩:=I.ok.funs.mem hb
    exact I.base.free b o ho (I.ok.frf b hb) fun z=>I.ok.exfs b z hb
theorem Inv.step {g':Array GenState} {t':Nat} {d':Drawn} {ch:List Addr} (I:Inv X pins σ H s)
    (hch:∀ b ∈ ch,(b ∈ X.ex\/X.s₀.heap.objs.size<=b)/\b ≠ X.env.locals/\(∀ x c,X.env.cells.lookup x=some c->c ≠ b)/\∀ p ∈ X.pn ++ pins,p.1 ≠ b)
    (keep:∀ b o,b ≠ X.env.locals->b ∉ X.fs->b ∉ ch->s.heap.get? b=some o->H b=none->h'.get? b=some o)
    (slot:∀ b o,b ≠ X.env.locals->b ∈ X.fs->b ∉ ch->s.heap.get? b=some o->H b=none->∃ sl,h'.get? b=some { o with slots:=sl }) (free:∀ b o,b ∉ ch->s.heap.get? b=some o->H b=none->H' b=none)
    (there:∀ b o,b ∉ ch->s.heap.get? b=some o->∃ o',h'.get? b=some o')
    (tups:∀ b xs,H b=some (.tup xs)->H' b=some (.tup xs)) (frzs:∀ b o u,H b=some (.frz o u)->H' b=some (.frz o u)) (tbls:∀ b ps,H b=some (.tbl ps)->∃ more,H' b=some (.tbl (ps ++ more)))
    (ns:∀ m,s.heap.Ns X.env.locals m->h'.Ns X.env.locals m) (hok:HOk X.prog X.w H' h') (hg:AllBare g') :
    Inv X pins σ H' { s with heap:=h',gens:=g',drawn:=d',toks:=t' }:=by
  have neL:∀ b o,X.s₀.heap.get? b=some o->b ≠ X.env.locals:=fun b o e=>Nat.ne_of_lt (Nat.lt_of_lt_of_le (Heap.lt_size e) I.ok.above)
  have neC:∀ b o,X.s₀.heap.get? b=some o->b ∉ X.ex->b ∉ ch:=fun b o e hx hb=>by
    rcases (hch b hb).1 with z | z
    . exact hx z
    . exact absurd (Nat.lt_of_lt_of_le (Heap.lt_size e) z) (Nat.lt_irrefl _)
  have cellK:∀ x c,X.env.cells.lookup x=some c->∀ v,s.heap.IsCell c v->h'.IsCell c v:=fun x c e v ⟨o,ho,hd⟩=>by
    have nch:c ∉ ch:=fun z=>(hch c z).2.2.1 x c e rfl
    by_cases hc:c ∈ X.fs
    . obtain ⟨sl,q⟩:=slot c o (I.cne x c e) hc nch ho (I.freeC x c e)
      exact ⟨_,q,hd⟩
    . exact ⟨o,keep c o (I.cne x c e) hc nch ho (I.freeC x c e),hd⟩
  refine ⟨I.ok,I.os,hg,⟨fun b o e n hb hx=>?_,fun b o e n hb hx=>?_,fun b o e n hx=>?_,fun b o e hx=>?_,fun b xs e=>tups b xs (I.base.tups b xs e),fun b o xs e=>frzs b o xs (I.base.frzs b o xs e),fun b ps e=>?_⟩,?_,fun x c e=>?_,?_,fun x c e=>?_,fun p hp=>?_,hok,I.len⟩
  . exact keep b o (neL b o e) hb (neC b o e hx) (I.base.keep b o e n hb hx) (I.base.free b o e n hx)
  . obtain ⟨sl,e1⟩:=I.base.slot b o e n hb hx
    obtain ⟨sl',e2⟩:=slot b _ (neL b o e) hb (neC b o e hx) e1 (I.base.free b o e n hx)
    exact ⟨sl',e2⟩
  . obtain ⟨o',e1⟩:=I.base.there b o e hx
    exact free b o' (neC b o e hx) e1 (I.base.free b o e n hx)
  . obtain ⟨o',e1⟩:=I.base.there b o e hx
    exact there b o' (neC b o e hx) e1
  . obtain ⟨m1,e1⟩:=I.base.tbls b ps e
    obtain ⟨m2,e2⟩:=tbls b _ e1
    exact ⟨m1 ++ m2,by rw [e2,Array.append_assoc]⟩
  . obtain ⟨m,hn,hl⟩:=I.loc
    refine ⟨m,ns m hn,fun i x v e1 e2 e3=>?_⟩
    obtain ⟨u,r,l⟩:=hl i x v e1 e2 e3
    refine ⟨u,r,?_⟩
    rcases l with l | ⟨k,c,e,z⟩
    . exact .inl l
    . exact .inr ⟨k,c,e,cellK x c e _ z⟩
  . obtain ⟨v,z⟩:=I.cell x c e
    exact ⟨v,cellK x c e v z⟩
  . obtain ⟨m,⟨o,_,_,ho,_⟩,_⟩:=I.loc
    exact free _ o (fun z=>(hch _ z).2.1 rfl) ho I.free
  . obtain ⟨v,o,ho,hd⟩:=I.cell x c e
    exact free c o (fun z=>(hch c z).2.2.1 x c e rfl) ho (I.freeC x c e)
  . obtain ⟨e,n,ne,nf,d⟩:=I.pin p hp
    have nch:p.1 ∉ ch:=fun z=>(hch p.1 z).2.2.2 p hp rfl
    exact ⟨keep p.1 p.2 ne nf nch e n,free p.1 p.2 nch e n,ne,nf,d⟩
theorem Inv.un {t':Nat} (I:Inv X pins σ H s) (u:Un X.fs [] H H' s.heap h') (hok:HOk X.prog X.w H' h'):Inv X pins σ H' { s with heap:=h',toks:=t' }:=by
  obtain ⟨m,⟨o,es,ep,ho,r⟩,_⟩:=id I.loc
  obtain ⟨sl,hL⟩:=u.any ho I.free (by simp)
  exact I.step (g':=s.gens) (d':=s.drawn) (ch:=[]) (fun _ z=>nomatch z) (fun b o _ hb _ e n=>u.keep b o e n hb (by simp)) (fun b o _ hb _ e n=>u.slot b o e n hb (by simp)) (fun b o _ e n=>u.free b o e n (by simp)) (fun b o _ e=>u.there b o e (by simp)) u.tups u.frzs u.tbls (fun m' hm=>by
    obtain ⟨o',es',ep',ho',r'⟩:=hm
    rw [ho] at ho';cases ho'
    exact ⟨_,es',ep',hL,r'⟩) hok I.bare
theorem Inv.call {g':Array GenState} {t':Nat} {d':Drawn} {ch:List Addr} (I:Inv X pins σ H s) (u:Un (frs X.stack) ch H H' s.heap h') (hok:HOk X.prog X.w H' h') (hg:AllBare g')
    (hch:∀ b ∈ ch,(b ∈ X.ex\/X.s₀.heap.objs.size<=b)/\b ≠ X.env.locals/\(∀ x c,X.env.cells.lookup x=some c->c ≠ b)/\∀ p ∈ X.pn ++ pins,p.1 ≠ b) :
    Inv X pins σ H' { s with heap:=h',gens:=g',drawn:=d',toks:=t' }:=by
  obtain ⟨m,⟨o,es,ep,ho,r⟩,_⟩:=id I.loc
  obtain ⟨sl,hL⟩:=u.any ho I.free fun z=>(hch _ z).2.1 rfl
  exact I.step (ch:=ch) hch (fun b o hL hb hc e n=>u.keep b o e n (fun z=>(List.mem_cons.mp (I.stkSub b z)).elim hL hb) hc) (fun b o _ _ hc e n=>u.any e n hc) (fun b o hc e n=>u.free b o e n hc) (fun b o hc e=>u.there b o e hc) u.tups u.frzs u.tbls (fun m' hm=>by
    obtain ⟨o',es',ep',ho',r'⟩:=hm
    rw [ho] at ho';cases ho'
    exact ⟨_,es',ep',hL,r'⟩) hok hg
theorem Inv.turned {t':Nat} {it:Addr} (I:Inv X pins σ H s) (k:∀ b o,b ≠ it->s.heap.get? b=some o->h'.get? b=some o) (hn:H it=none) (hL:it ≠ X.env.locals)
    (h1:it ∈ X.ex\/X.s₀.heap.objs.size<=it) (h2:∀ x c,X.env.cells.lookup x=some c->c ≠ it) (h3:∀ p ∈ X.pn ++ pins,p.1 ≠ it):Inv X pins σ H { s with heap:=h',toks:=t' }:=by
  have nit:∀ b u,H b=some u->b ≠ it:=fun b u e z=>by rw [z,hn] at e;cases e
  refine I.step (g':=s.gens) (d':=s.drawn) (ch:=[it]) (fun b hb=>?_) (fun b o _ _ hc e _=>k b o (fun z=>hc (by simp [z])) e) (fun b o _ _ hc e _=>⟨o.slots,k b o (fun z=>hc (by simp [z])) e⟩) (fun _ _ _ _ n=>n)
    (fun b o hc e=>⟨o,k b o (fun z=>hc (by simp [z])) e⟩) (fun _ _ e=>e) (fun _ _ _ e=>e) (fun b ps e=>⟨#[],by rw [e];simp⟩) (fun m hm=>?_) (fun b u e=>?_) I.bare
  . have e:b=it:=by simpa using hb
    subst e
    exact ⟨h1,hL,h2,h3⟩
  . obtain ⟨o,es,ep,ho,r⟩:=hm
    exact ⟨o,es,ep,k _ o (Ne.symm hL) ho,r⟩
  . refine (I.hok b u e).stay (fun c v hc q=>k c v ?_ q) (fun _ q=>q) fun _ _ q=>q
    rcases hc with z | z
    . rw [z];exact nit b u e
    . exact nit c _ z
theorem Inv.tok (I:Inv X pins σ H s) (t:Nat):Inv X pins σ H { s with toks:=t }:=I.un (h':=s.heap) (t':=t) Un.refl I.hok
theorem Inv.kept {t':Nat} (I:Inv X pins σ H s) (k:∀ b u,s.heap.get? b=some u->h'.get? b=some u):Inv X pins σ H { s with heap:=h',toks:=t' }:=I.un (Un.kept k) (I.hok.kept k)
theorem Inv.laid {a:Addr} {o:HO} {t':Nat} (I:Inv X pins σ H s) (k:∀ b u,s.heap.get? b=some u->h'.get? b=some u) (hp:s.heap.objs.size<=a) (new:ObjOk X.prog X.w (upd H a o) h' a o) :
    Inv X pins σ (upd H a o) { s with heap:=h',toks:=t' }:=I.un (Un.laid k hp (I.hok.fresh hp)) (I.hok.laid k hp new)
theorem Inv.write {x e:Addr} {o:HO} {t':Nat} (I:Inv X pins σ H s) (mu:Mut (H x)) (he:e=x\/H e=some (.own x)) (k:∀ b u,b ≠ e->s.heap.get? b=some u->h'.get? b=some u) (heo:∃ u,h'.get? e=some u)
    (new:ObjOk X.prog X.w (upd H x o) h' x o):Inv X pins σ (upd H x o) { s with heap:=h',toks:=t' }:=I.un (Un.write mu he k heo) (I.hok.write mu he k heo new)
theorem Inv.pins_of {pins':List (Addr × Obj)} (I:Inv X pins σ H s) (h:∀ p ∈ pins',s.heap.get? p.1=some p.2/\H p.1=none/\p.1 ≠ X.env.locals/\p.1 ∉ X.fs/\∀ v,p.2.data ≠ .cell v):Inv X pins' σ H s :=
  ⟨I.ok,I.os,I.bare,I.base,I.loc,I.cell,I.free,I.freeC,fun p hp=>(List.mem_append.mp hp).elim (fun z=>I.pin p (List.mem_append_left _ z)) (h p),I.hok,I.len⟩
theorem nodup_ix {N:List Str} (hN:N.Nodup) {i j:Nat} {x:Str} (a:N[i]?=some x) (b:N[j]?=some x):i=j:=by
  obtain ⟨h1,e1⟩:=List.getElem?_eq_some_iff.mp a
  obtain ⟨h2,e2⟩:=List.getElem?_eq_some_iff.mp b
  exact (List.getElem_inj hN).mp (e1.trans e2.symm)
theorem store_ok2 {M:Model} {A:Around} {E:Value->Shared->Prop} {i:Nat} {x:Str} {v:V} {u:Value} {Q:Unit->Shared->Prop} (I:Inv X pins σ H s) (hN:X.N.Nodup) (hi:X.N[i]?=some x) (hx:Loc X.env.scope x) (r:RelV v u)
    (h:∀ s',Inv X pins (σ.set i (some v)) H s'->(∃ a,Heap.SameBut a s.heap s'.heap/\(a=X.env.locals\/X.env.cells.lookup x=some a))->Q () s') (hf:X.fn x=true\/X.env.scope.names.lookup x=some .local:=by first | exact .inl rfl | exact .inr rfl | assumption):wpAny M A (storeName X.env x u) Q E s:=by
  obtain ⟨m,hn,hl⟩:=id I.loc
  have hcls:(X.env.scope.kind == .class || (X.env.scope.kind == .module && X.env.locals != X.env.globals))=false:=by rw [I.ok.kind];rfl
  have hiσ:i < σ.length:=by rw [I.len];exact (List.getElem?_eq_some_iff.mp hi).1
  have cne:=I.cne
  have tracked:∀ {a:Addr} {h':Heap},(∃ o,s.heap.get? a=some o/\H a=none)->Heap.SameBut a s.heap h'->HOk X.prog X.w H h':=fun {a h'} ha hs b ob e=>by
    obtain ⟨_,_,hfree⟩:=ha
    refine (I.hok b ob e).stay (fun c w' hc q=>(hs.2 c ?_).trans q) (fun _ q=>q) fun _ _ q=>q
    rintro rfl
    rcases hc with rfl | hc
    . rw [hfree] at e;cases e
    . rw [hfree] at hc;cases hc
  rcases hx with hk | hk
  . refine wpAny_storeName_local hk hn (fun h' hn' hs=>?_) hcls
    obtain ⟨oL,_,_,hoL,_⟩:=id hn
    refine h _ ⟨I.ok,I.os,I.bare,⟨fun b o e n hb hx=>?_,fun b o e n hb hx=>?_,I.base.free,fun b o e hx=>?_,I.base.tups,I.base.frzs,I.base.tbls⟩,⟨_,hn',fun j y v' e1 e2 e3=>?_⟩,fun y c e=>?_,I.free,I.freeC,fun p hp=>?_,tracked ⟨oL,hoL,I.free⟩ hs,by simpa using I.len⟩ ⟨_,hs,.inl rfl⟩
    . exact (hs.2 b (Nat.ne_of_lt (Nat.lt_of_lt_of_le (Heap.lt_size e) I.ok.above))).trans (I.base.keep b o e n hb hx)
    . obtain ⟨sl,e1⟩:=I.base.slot b o e n hb hx
      exact ⟨sl,(hs.2 b (Nat.ne_of_lt (Nat.lt_of_lt_of_le (Heap.lt_size e) I.ok.above))).trans e1⟩
    . obtain ⟨o',e1⟩:=I.base.there b o e hx
      exact ⟨o',(hs.2 b (Nat.ne_of_lt (Nat.lt_of_lt_of_le (Heap.lt_size e) I.ok.above))).trans e1⟩
    . by_cases hj:j=i
      . subst hj
        rw [hi] at e1;cases e1
        rw [List.getElem?_set_self hiσ] at e2
        cases e2
        exact ⟨u,r,.inl ⟨hk,by simp⟩⟩
      . rw [List.getElem?_set_ne (Ne.symm hj)] at e2
        obtain ⟨u',r',q⟩:=hl j y v' e1 e2 e3
        refine ⟨u',r',?_⟩
        rcases q with ⟨k,e⟩ | ⟨k,c,e,z⟩
        . refine .inl ⟨k,?_⟩
          have:y ≠ x:=fun e=>hj (nodup_ix hN e1 (e ▸ hi))
          simp [this,e]
        . exact .inr ⟨k,c,e,z.sameBut hs (cne y c e)⟩
    . obtain ⟨w',z⟩:=I.cell y c e
      exact ⟨w',z.sameBut hs (cne y c e)⟩
    . obtain ⟨e,n,ne,nf,d⟩:=I.pin p hp
      exact ⟨(hs.2 p.1 ne).trans e,n,ne,nf,d⟩
  . have hfn:X.fn x=true:=by
      rcases hf with z | z
      . exact z
      . rw [z] at hk;cases hk
    obtain ⟨c,hc⟩:=I.ok.has x (.inl hk)
    obtain ⟨w',z⟩:=I.cell x c hc
    refine wpAny_storeName_cell I.ok.kind hk hc z (fun h' hc' hs=>?_)
    obtain ⟨oc,hoc,hocd⟩:=id z
    refine h { s with heap:=h' } ⟨I.ok,I.os,I.bare,⟨fun b o e n hb hx=>?_,fun b o e n hb hx=>?_,I.base.free,fun b o e hx=>?_,I.base.tups,I.base.frzs,I.base.tbls⟩,⟨m,hn.sameBut hs (Ne.symm (cne x c hc)),fun j y v' e1 e2 e3=>?_⟩,fun y c' e=>?_,I.free,I.freeC,fun p hp=>?_,tracked ⟨oc,hoc,I.freeC x c hc⟩ hs,by simpa using I.len⟩ ⟨c,hs,.inr hc⟩
    . exact (hs.2 b (Nat.ne_of_lt (Nat.lt_of_lt_of_le (Heap.lt_size e) (I.ok.cab x c hfn hc)))).trans (I.base.keep b o e n hb hx)
    . obtain ⟨sl,e1⟩:=I.base.slot b o e n hb hx
      exact ⟨sl,(hs.2 b (Nat.ne_of_lt (Nat.lt_of_lt_of_le (Heap.lt_size e) (I.ok.cab x c hfn hc)))).trans e1⟩
    . obtain ⟨o',e1⟩:=I.base.there b o e hx
      exact ⟨o',(hs.2 b (Nat.ne_of_lt (Nat.lt_of_lt_of_le (Heap.lt_size e) (I.ok.cab x c hfn hc)))).trans e1⟩
    . by_cases hj:j=i
      . subst hj
        rw [hi] at e1;cases e1
        rw [List.getElem?_set_self hiσ] at e2
        cases e2
        exact ⟨u,r,.inr ⟨.inl hk,c,hc,hc'⟩⟩
      . rw [List.getElem?_set_ne (Ne.symm hj)] at e2
        obtain ⟨u',r',q⟩:=hl j y v' e1 e2 e3
        refine ⟨u',r',?_⟩
        rcases q with q | ⟨k,c',e,z'⟩
        . exact .inl q
        . refine .inr ⟨k,c',e,z'.sameBut hs ?_⟩
          rintro rfl
          exact hj (nodup_ix hN e1 (I.ok.inj _ _ _ e hc ▸ hi))
    . by_cases hcc:c'=c
      . subst hcc;exact ⟨_,hc'⟩
      . obtain ⟨w2,z2⟩:=I.cell y c' e
        exact ⟨w2,z2.sameBut hs hcc⟩
    . obtain ⟨e,n,ne,nf,d⟩:=I.pin p hp
      refine ⟨(hs.2 p.1 ?_).trans e,n,ne,nf,d⟩
      intro q
      rw [q,hoc] at e
      have q':oc=p.2:=Option.some.inj e
      exact d w' (by rw [<- q'];exact hocd)
theorem store_ok {M:Model} {A:Around} {E:Value->Shared->Prop} {i:Nat} {x:Str} {v:V} {u:Value} {Q:Unit->Shared->Prop} (I:Inv X pins σ H s) (hN:X.N.Nodup) (hi:X.N[i]?=some x) (hx:Loc X.env.scope x) (r:RelV v u)
    (h:∀ s',Inv X pins (σ.set i (some v)) H s'->Q () s') (hf:X.fn x=true\/X.env.scope.names.lookup x=some .local:=by first | exact .inl rfl | exact .inr rfl | assumption):wpAny M A (storeName X.env x u) Q E s :=
  store_ok2 I hN hi hx r (fun s' I' _=>h s' I') hf
theorem Inv.call' {s':Shared} {ch:List Addr} (I:Inv X pins σ H s) (ho:s'.os=s.os) (u:Un (frs X.stack) ch H H' s.heap s'.heap) (hok:HOk X.prog X.w H' s'.heap) (hg:AllBare s'.gens)
    (hch:∀ b ∈ ch,(b ∈ X.ex\/X.s₀.heap.objs.size<=b)/\b ≠ X.env.locals/\(∀ x c,X.env.cells.lookup x=some c->c ≠ b)/\∀ p ∈ X.pn ++ pins,p.1 ≠ b):Inv X pins σ H' s':=by
  obtain ⟨h',g',d',t',o'⟩:=s'
  have e:o'=s.os:=ho
  subst e
  exact I.call (g':=g') (t':=t') (d':=d') u hok hg hch
end
noncomputable abbrev XK:=Value->Option Addr->Hp->Prop
noncomputable abbrev St:=List (Option V)
noncomputable abbrev VK:=V->Hp->Prop
noncomputable abbrev TE:=St->Hp->VK->Prop
noncomputable abbrev TT:=St->Hp->(Bool->Hp->Prop)->Prop
noncomputable abbrev TA:=St->Hp->(List V->Hp->Prop)->Prop
structure Ends where
  nx:St->Hp->Prop
  rt:VK
  bk:St->Hp->Prop:=fun _ _=>False
  ct:St->Hp->Prop:=fun _ _=>False
noncomputable abbrev TS:=Ends->St->Hp->Prop
noncomputable def EP (X:Cx) (pins:List (Addr × Obj)) (σ:St) (Q:VK) (u:Value) (s':Shared):Prop:=∃ v H',Inv X pins σ H' s'/\RelV v u/\Q v H'
noncomputable def TP (X:Cx) (pins:List (Addr × Obj)) (σ:St) (Q:Bool->Hp->Prop) (b:Bool) (s':Shared):Prop:=∃ H',Inv X pins σ H' s'/\Q b H'
noncomputable def AP (X:Cx) (pins:List (Addr × Obj)) (σ:St) (Q:List V->Hp->Prop) (us:List Value) (s':Shared):Prop:=∃ vs H',Inv X pins σ H' s'/\Vals vs us/\Q vs H'
noncomputable def SP (X:Cx) (pins:List (Addr × Obj)) (D:Ends) (f:Flow) (s':Shared):Prop :=
  match f with
  | .next=>∃ σ' H',Inv X pins σ' H' s'/\D.nx σ' H'
  | .brk=>∃ σ' H',Inv X pins σ' H' s'/\D.bk σ' H'
  | .cont=>∃ σ' H',Inv X pins σ' H' s'/\D.ct σ' H'
  | .ret u=>∃ v σ' H',Inv X pins σ' H' s'/\RelV v u/\D.rt v H'
noncomputable def PE (X:Cx) (e:Expr) (t:TE):Prop :=
  ∀ (pins:List (Addr × Obj)) (s:Shared) (σ:St) (H:Hp) (Q:VK),Inv X pins σ H s->t σ H Q->wpAny (model X.prog X.w) X.A (eval e X.env) (EP X pins σ Q) X.xe s
noncomputable def PT (X:Cx) (e:Expr) (t:TT):Prop :=
  ∀ (pins:List (Addr × Obj)) (s:Shared) (σ:St) (H:Hp) (Q:Bool->Hp->Prop),Inv X pins σ H s->t σ H Q->wpAny (model X.prog X.w) X.A (isTrue e X.env (eval e X.env)) (TP X pins σ Q) X.xe s
noncomputable def PW (X:Cx) (e:Expr) (t:TT):Prop :=
  ∀ (whole:Sem Value) (pins:List (Addr × Obj)) (s:Shared) (σ:St) (H:Hp) (Q:Bool->Hp->Prop),Inv X pins σ H s->t σ H Q->wpAny (model X.prog X.w) X.A (isTrue e X.env whole) (TP X pins σ Q) X.xe s
theorem PW.pt {X:Cx} {e:Expr} {t:TT} (h:PW X e t):PT X e t:=h _
noncomputable def PA (X:Cx) (es:List Expr) (t:TA):Prop :=
  ∀ (pos:Pos) (pins:List (Addr × Obj)) (s:Shared) (σ:St) (H:Hp) (Q:List V->Hp->Prop),Inv X pins σ H s->t σ H Q->wpAny (model X.prog X.w) X.A (spliced (backTo pos (starEach es X.env))) (AP X pins σ Q) X.xe s
noncomputable def PS (X:Cx) (st:Stmt) (t:TS):Prop :=
  ∀ (pins:List (Addr × Obj)) (s:Shared) (σ:St) (H:Hp) (D:Ends),Inv X pins σ H s->t D σ H->wpAny (model X.prog X.w) X.A (exec st X.env) (SP X pins D) X.xe s
noncomputable def PSs (X:Cx) (st:List Stmt) (t:TS):Prop :=
  ∀ (pins:List (Addr × Obj)) (s:Shared) (σ:St) (H:Hp) (D:Ends),Inv X pins σ H s->t D σ H->wpAny (model X.prog X.w) X.A (execs st X.env) (SP X pins D) X.xe s
theorem thn {α:Type} {t:Sem α} {Q Q':α->Shared->Prop} {M:Model} {A:Around} {E:Value->Shared->Prop} {s:Shared} (h:wpAny M A t Q E s) (hQ:∀ a s,Q a s->Q' a s):wpAny M A t Q' E s:=wpAny_mono h hQ fun _ _ x=>x
end L2
namespace L2
open PySem PySem.Spec PyProof.Rows
section
variable {X:Cx}
theorem bin {a b:Expr} {ta tb:TE} (ha:PE X a ta) (hb:PE X b tb) {pins:List (Addr × Obj)} {s:Shared} {σ:St} {H:Hp} {R:V->V->Hp->Prop} (I:Inv X pins σ H s) (h:ta σ H fun x H1=>tb σ H1 fun y H2=>R x y H2)
    {α:Type} {Q:α->Shared->Prop} {f:Value->Value->Sem α}
    (hf:∀ v u s2 x y H2,Inv X pins σ H2 s2->RelV x v->RelV y u->R x y H2->wpAny (model X.prog X.w) X.A (f v u) Q X.xe s2) :
    wpAny (model X.prog X.w) X.A (eval a X.env) (fun v s₁=>wpAny (model X.prog X.w) X.A (eval b X.env) (fun u s₂=>wpAny (model X.prog X.w) X.A (f v u) Q X.xe s₂) X.xe s₁) X.xe s:=by
  refine thn (ha pins s σ H _ I h) fun v s1 ⟨x,H1,I1,r1,q1⟩=>?_
  refine thn (hb pins s1 σ H1 _ I1 q1) fun u s2 ⟨y,H2,I2,r2,q2⟩=>?_
  exact hf v u s2 x y H2 I2 r1 r2 q2
noncomputable def tVar (i:Nat):TE:=fun σ H Q=>∃ v,σ[i]?=some (some v)/\Q v H
noncomputable def tC (v:V):TE:=fun _ H Q=>Q v H
theorem pe_var {i:Nat} {x:Str} {pos:Pos} (hN:X.N[i]?=some x) (hv:Vis X.env.scope x) (hd:(x == ("__debug__" : Str))=false:=by decide) (hcd:(x == ("__classdict__" : Str))=false:=by decide):PE X (.Name x pos) (tVar i):=by
  intro pins s σ H Q I h
  obtain ⟨v,e,h⟩:=h
  obtain ⟨m,hn,hl⟩:=I.loc
  obtain ⟨u,r,l⟩:=hl i x v hN e hv
  have fin:EP X pins σ Q u s:=⟨v,H,I,r,h⟩
  rcases l with ⟨hk,hm⟩ | ⟨hk,c,hc,hcell⟩
  . exact wpAny_Name (wpAny_loadName_local I.ok.kind hk hn hm fin) hd
  . rcases hk with hk | hk
    . exact wpAny_Name (wpAny_loadName_cell I.ok.kind hk hc hcell fin) hd
    . exact wpAny_Name (wpAny_loadName_free I.ok.kind hk hc hcell fin hcd) hd
theorem pe_int {i j pos}:PE X (.Constant (.int i) j pos) (tC (.int i)):=fun _ _ _ H _ I h=>wpAny_Constant_int ⟨.int i,H,I.tok _,⟨_,rfl⟩,h⟩
theorem pe_bl {b j pos}:PE X (.Constant (.bool b) j pos) (tC (.bl b)):=fun _ _ _ H _ I h=>Constant_bool ⟨.bl b,H,I,rfl,h⟩
theorem pe_non {j pos}:PE X (.Constant .none j pos) (tC .non):=fun _ _ _ H _ I h=>Constant_none ⟨.non,H,I,rfl,h⟩
theorem pe_str {x j pos}:PE X (.Constant (.str x) j pos) (tC (.str x)):=fun _ _ _ H _ I h=>Calls.Constant_str ⟨.str x,H,I.tok _,⟨_,rfl⟩,h⟩
noncomputable def Gl (X:Cx) (x:Str):Prop:=X.env.kindOf x=some .globalImplicit
theorem ld_glob {E:Value->Shared->Prop} {pins:List (Addr × Obj)} {s:Shared} {σ:St} {H:Hp} {x:Str} {u:Value} {pos:Pos} {Q:Value->Shared->Prop} (I:Inv X pins σ H s) (hg:Gl X x) (hm:X.mg x=some u) (h:Q u s)
    (hd:(x == ("__debug__" : Str))=false:=by decide):wpAny (model X.prog X.w) X.A (eval (.Name x pos) X.env) Q E s :=
  Calls.Name_function_global I.ok.kind hg (Calls.loadGlobal_global (by rw [I.ok.glob];exact I.mod.glob.keeps I.bk) hm h) hd
theorem ld_blt {E:Value->Shared->Prop} {pins:List (Addr × Obj)} {s:Shared} {σ:St} {H:Hp} {x:Str} {u:Value} {pos:Pos} {Q:Value->Shared->Prop} (I:Inv X pins σ H s) (hg:Gl X x) (hm:X.mg x=none) (hv:bootBuiltins x=some u) (h:Q u s)
    (hn:x ≠ "__name__" := by decide) (hd:(x == ("__debug__" : Str))=false:=by decide):wpAny (model X.prog X.w) X.A (eval (.Name x pos) X.env) Q E s:=by
  obtain ⟨mb,h1,h2⟩:=I.mod.blt
  exact Calls.Name_function_global I.ok.kind hg (Calls.loadGlobal_builtin (by rw [I.ok.glob];exact I.mod.glob.keeps I.bk) hm (by rw [I.ok.blt];exact h1.keeps I.bk) ((h2 x hn).trans hv) h) hd
theorem pe_glob {x:Str} {v:V} {u:Value} {pos:Pos} (hg:Gl X x) (hm:X.mg x=some u) (r:RelV v u) (hd:(x == ("__debug__" : Str))=false:=by decide):PE X (.Name x pos) (tC v) :=
  fun _ _ _ H _ I h=>ld_glob I hg hm ⟨v,H,I,r,h⟩ hd
theorem pe_bltn {x:Str} {v:V} {u:Value} {pos:Pos} (hg:Gl X x) (hm:X.mg x=none) (hv:bootBuiltins x=some u) (r:RelV v u) (hn:x ≠ "__name__" := by decide) (hd:(x == ("__debug__" : Str))=false:=by decide):PE X (.Name x pos) (tC v) :=
  fun _ _ _ H _ I h=>ld_blt I hg hm hv ⟨v,H,I,r,h⟩ hn hd
variable {a b:Expr} {ta tb:TE} {pos:Pos}
noncomputable def PC (X:Cx) (op:CmpOp) (a b:Expr) (t:TE):Prop :=
  ∀ (pins:List (Addr × Obj)) (s:Shared) (σ:St) (H:Hp) (Q:VK),Inv X pins σ H s->t σ H Q ->
    wpAny (model X.prog X.w) X.A (eval a X.env) (fun v s₁=>wpAny (model X.prog X.w) X.A (eval b X.env) (fun u s₂=>wpAny (model X.prog X.w) X.A (compareOp op v u) (EP X pins σ Q) X.xe s₂) X.xe s₁) X.xe s
noncomputable def tB (t:TE):TT:=fun σ H Q=>t σ H fun x H1=>∃ c,x = .bl c/\Q c H1
theorem pt_cmp {op:CmpOp} {t:TE} (h:PC X op a b t) (h1:behindInMarks op b=false:=by first | exact nobehind _ (by decide) (by decide) | rfl):PT X (.Compare a [op] [b] pos) (tB t):=by
  intro pins s σ H Q I hw
  refine wpAny_isTrue_Compare1 (thn (h pins s σ H _ I hw) fun v s1 h1=>thn h1 fun u s2 h2=>thn h2 fun c s3 ⟨x,H1,I1,r1,q1⟩=>?_) h1
  obtain ⟨d,rfl,q⟩:=q1
  cases r1
  exact wpAny_truthy_bool ⟨H1,I1,q⟩
theorem pt_val {e:Expr} {t:TE} (h:PE X e t) (he:∀ whole,isTrue e X.env whole=(do let v <- whole;standAt e.pos;holding [v] (truthy v)):=by intro _;rfl):PT X e (tB t):=by
  intro pins s σ H Q I hw
  refine isTrue_plain (thn (h pins s σ H _ I hw) fun v s1 ⟨x,H1,I1,r1,q1⟩=>?_) (he _)
  obtain ⟨d,rfl,q⟩:=q1
  cases r1
  exact wpAny_truthy_bool ⟨H1,I1,q⟩
variable {tA tB':TT} {rest:List Expr}
noncomputable def tAnd (t u:TT):TT:=fun σ H Q=>t σ H fun c H1=>if c=true then u σ H1 Q else Q false H1
noncomputable def tOr (t u:TT):TT:=fun σ H Q=>t σ H fun c H1=>if c=true then Q true H1 else u σ H1 Q
noncomputable def tNot (t:TT):TT:=fun σ H Q=>t σ H fun c H1=>Q (!c) H1
theorem pw_and1 (ha:PT X a tA):PW X (.BoolOp .And [a] pos) tA:=by
  intro wh pins s σ H Q I h
  refine isTrue_and (thn (ha pins s σ H Q I h) fun c s1 e=>?_)
  cases c with
  | true=>exact isTrue_and_nil e
  | false=>exact e
theorem pw_or1 (ha:PT X a tA):PW X (.BoolOp .Or [a] pos) tA:=by
  intro wh pins s σ H Q I h
  refine isTrue_or (thn (ha pins s σ H Q I h) fun c s1 e=>?_)
  cases c with
  | false=>exact isTrue_or_nil e
  | true=>exact e
theorem pw_and (ha:PT X a tA) (hb:PW X (.BoolOp .And (b :: rest) pos) tB'):PW X (.BoolOp .And (a :: b :: rest) pos) (tAnd tA tB'):=by
  intro wh pins s σ H Q I h
  refine isTrue_and (thn (ha pins s σ H _ I h) fun c s1 ⟨H1,I1,q1⟩=>?_)
  cases c with
  | true=>exact hb wh pins s1 σ H1 Q I1 q1
  | false=>exact ⟨H1,I1,q1⟩
theorem pw_or (ha:PT X a tA) (hb:PW X (.BoolOp .Or (b :: rest) pos) tB'):PW X (.BoolOp .Or (a :: b :: rest) pos) (tOr tA tB'):=by
  intro wh pins s σ H Q I h
  refine isTrue_or (thn (ha pins s σ H _ I h) fun c s1 ⟨H1,I1,q1⟩=>?_)
  cases c with
  | true=>exact ⟨H1,I1,q1⟩
  | false=>exact hb wh pins s1 σ H1 Q I1 q1
theorem pt_not (ha:PT X a tA):PT X (.UnaryOp .Not a pos) (tNot tA):=by
  intro pins s σ H Q I h
  exact isTrue_not (ha pins s σ H (fun c H1=>Q (!c) H1) I h)
end
end L2
namespace L2
open PySem PySem.Spec PyProof.Rows
noncomputable def SqL (K:PySem.W.Frag) (H:Hp) (a:Addr) (xs:List V):Prop :=
  Rd H a (.lst xs) \/
    ∃ (o:Obj) (its:Array Value) (n:Nat),K.lookup a=some o/\o.cls = .type "list" /\ o.dict=none/\o.data = .seq its n/\its.size<=sizeLine/\Vals xs its.toList
noncomputable def SqT (K:PySem.W.Frag) (H:Hp) (a:Addr) (xs:List V):Prop :=
  Rd H a (.tup xs) \/
    ∃ (o:Obj) (its:Array Value) (n:Nat),K.lookup a=some o/\o.cls = .type "tuple" /\ o.data = .seq its n/\its.size<=sizeLine/\Vals xs its.toList
noncomputable def absV:Value->Option V
  | .none=>some .non
  | .bool b=>some (.bl b)
  | .int i _=>some (.int i)
  | .str x _=>some (.str x)
  | .bytes b _=>some (.byt b)
  | .float b _=>some (.flt b)
  | .ref a=>some (.ref a)
  | .type n=>some (.ty n)
  | _=>none
theorem RelV.abs {x:V} {u:Value} (r:RelV x u):absV u=some x:=by
  cases x with
  | non=>cases r;rfl
  | bl _=>cases r;rfl
  | int _=>obtain ⟨t,rfl⟩:=r;rfl
  | str _=>obtain ⟨t,rfl⟩:=r;rfl
  | byt _=>obtain ⟨t,rfl⟩:=r;rfl
  | flt _=>obtain ⟨t,rfl⟩:=r;rfl
  | ref _=>cases r;rfl
  | ty _=>cases r;rfl
theorem RelV.inj {x y:V} {u:Value} (r:RelV x u) (q:RelV y u):x=y:=Option.some.inj (r.abs.symm.trans q.abs)
theorem Vals.inj:∀ {xs ys:List V} {us:List Value},Vals xs us->Vals ys us->xs=ys
  | _,_,_,.nil,.nil=>rfl
  | _,_,_,.cons r t,.cons r' t'=>by rw [r.inj r',Vals.inj t t']
section
variable {X:Cx} {pins:List (Addr × Obj)} {σ:St} {H:Hp} {s:Shared} {a:Addr} {xs ys:List V}
theorem SqL.of {K:PySem.W.Frag} (h:H a=some (.lst xs)):SqL K H a xs:=.inl (.inl h)
theorem SqT.of {K:PySem.W.Frag} (h:H a=some (.tup xs)):SqT K H a xs:=.inl (.inl h)
theorem Inv.list (I:Inv X pins σ H s) (h:SqL X.K H a xs):∃ its:List Value,Vals xs its/\PlainL s.heap a its.toArray/\xs.length<=sizeLine:=by
  rcases h with h | ⟨o,its,n,hk,hc,hd,hs,hz,r⟩
  . obtain ⟨z,its,n,r,e⟩:=h.ok I.hok
    exact ⟨its,r,⟨_,n,e,rfl,rfl,rfl⟩,z⟩
  . refine ⟨its.toList,r,⟨o,n,I.kIn a o hk,hc,hd,by simpa using hs⟩,?_⟩
    have e:=r.length
    simp only [Array.length_toList] at e
    omega
theorem Inv.tuple (I:Inv X pins σ H s) (h:SqT X.K H a xs):∃ its:List Value,Vals xs its/\IsTup s.heap a its.toArray/\xs.length<=sizeLine:=by
  rcases h with h | ⟨o,its,n,hk,hc,hs,hz,r⟩
  . obtain ⟨z,its,r,p⟩:=h.ok I.hok
    exact ⟨its,r,p,z⟩
  . refine ⟨its.toList,r,⟨o,I.kIn a o hk,hc,n,by simpa using hs⟩,?_⟩
    have e:=r.length
    simp only [Array.length_toList] at e
    omega
theorem Inv.list_inj (I:Inv X pins σ H s) (h:SqL X.K H a xs) (h':SqL X.K H a ys):xs=ys:=by
  obtain ⟨its,r,⟨o,n,e,_,_,d⟩,_⟩:=I.list h
  obtain ⟨its',r',⟨o',n',e',_,_,d'⟩,_⟩:=I.list h'
  rw [e] at e';cases e'
  rw [d] at d'
  injection d' with d1 _
  have:its=its':=by simpa using congrArg Array.toList d1
  subst this
  exact r.inj r'
theorem Inv.tuple_inj (I:Inv X pins σ H s) (h:SqT X.K H a xs) (h':SqT X.K H a ys):xs=ys:=by
  obtain ⟨its,r,⟨o,e,_,n,d⟩,_⟩:=I.tuple h
  obtain ⟨its',r',⟨o',e',_,n',d'⟩,_⟩:=I.tuple h'
  rw [e] at e';cases e'
  rw [d] at d'
  injection d' with d1 _
  have:its=its':=by simpa using congrArg Array.toList d1
  subst this
  exact r.inj r'
end
noncomputable abbrev Cx.wish (X:Cx) (E:Value->Shared->Prop):Cx:={ X with xe:=E }
noncomputable abbrev Cx.nox (X:Cx):Cx:=X.wish fun _ _=>False
theorem Cx.Ok.wish {X:Cx} (ok:X.Ok) (E:Value->Shared->Prop):(X.wish E).Ok :=
  ⟨ok.mod,ok.kind,ok.glob,ok.blt,ok.above,ok.inj,ok.has,ok.cab,ok.hd,ok.frames,ok.stk,ok.exf,ok.bs,ok.bsz,ok.noex,ok.exfs,ok.funs,ok.frf⟩
theorem Cx.Ok.unwish {X:Cx} {E:Value->Shared->Prop} (ok:(X.wish E).Ok):X.Ok :=
  ⟨ok.mod,ok.kind,ok.glob,ok.blt,ok.above,ok.inj,ok.has,ok.cab,ok.hd,ok.frames,ok.stk,ok.exf,ok.bs,ok.bsz,ok.noex,ok.exfs,ok.funs,ok.frf⟩
section
variable {X:Cx} {pins:List (Addr × Obj)} {σ:St} {H:Hp} {s:Shared} {E:Value->Shared->Prop}
theorem Inv.wish (I:Inv X pins σ H s) (E:Value->Shared->Prop):Inv (X.wish E) pins σ H s:=⟨I.ok.wish E,I.os,I.bare,I.base,I.loc,I.cell,I.free,I.freeC,I.pin,I.hok,I.len⟩
theorem Inv.unwish (I:Inv (X.wish E) pins σ H s):Inv X pins σ H s:=⟨I.ok.unwish,I.os,I.bare,I.base,I.loc,I.cell,I.free,I.freeC,I.pin,I.hok,I.len⟩
theorem SP.unwish {D:Ends} {f:Flow} {s':Shared} (h:SP (X.wish E) pins D f s'):SP X pins D f s':=by
  cases f with
  | next=>obtain ⟨σ',H',I,q⟩:=h;exact ⟨σ',H',I.unwish,q⟩
  | brk=>obtain ⟨σ',H',I,q⟩:=h;exact ⟨σ',H',I.unwish,q⟩
  | cont=>obtain ⟨σ',H',I,q⟩:=h;exact ⟨σ',H',I.unwish,q⟩
  | ret u=>obtain ⟨v,σ',H',I,r,q⟩:=h;exact ⟨v,σ',H',I.unwish,r,q⟩
theorem PSs.nox {st:List Stmt} {t:TS} (h:PSs X.nox st t):PSs X st t:=fun pins s σ H D I hw =>
  wpAny_mono (h pins s σ H D (I.wish _) hw) (fun _ _ q=>q.unwish) fun _ _ z=>False.elim z
end
section
variable {X:Cx} {st:Stmt} {rest:List Stmt} {t u:TS} {e:Expr} {te:TE} {pos:Pos}
noncomputable def tNext:TS:=fun D σ H=>D.nx σ H
noncomputable def tSeq (t u:TS):TS:=fun D σ H=>t { D with nx:=u D } σ H
theorem pss_nil:PSs X [] tNext:=fun _ _ σ H _ I h=>wpAny_execs_nil ⟨σ,H,I,h⟩
theorem pss_cons (h1:PS X st t) (h2:PSs X rest u):PSs X (st :: rest) (tSeq t u):=by
  intro pins s σ H D I h
  refine wpAny_execs_cons (thn (h1 pins s σ H { D with nx:=u D } I h) fun f s1 q=>?_)
  cases f with
  | next =>
    obtain ⟨σ',H',I',q⟩:=q
    exact h2 pins s1 σ' H' D I' q
  | ret v=>exact q
  | brk=>exact q
  | cont=>exact q
theorem pss_one (h1:PS X st t):PSs X [st] t:=by
  intro pins s σ H D I h
  refine wpAny_execs_cons (thn (h1 pins s σ H D I h) fun f s1 q=>?_)
  cases f with
  | next=>exact wpAny_execs_nil q
  | ret v=>exact q
  | brk=>exact q
  | cont=>exact q
theorem Inv.quiet {pins:List (Addr × Obj)} {σ:St} {H:Hp} {s:Shared} (I:Inv X pins σ H s):interactive X.env=false:=by simp [interactive,I.ok.kind]
noncomputable def tDrop (te:TE):TS:=fun D σ H=>te σ H fun _ H1=>D.nx σ H1
theorem ps_expr (he:PE X e te) (hs:swapsWith e none pos.line X.env=pure false:=by rfl):PS X (.Expr e pos) (tDrop te):=by
  intro pins s σ H D I h
  exact wpAny_Expr_any (thn (he pins s σ H _ I h) fun v s1 ⟨x,H1,I1,r1,q1⟩=>⟨σ,H1,I1,q1⟩) I.quiet hs
noncomputable def tRet (te:TE):TS:=fun D σ H=>te σ H D.rt
theorem ps_ret (he:PE X e te):PS X (.Return (some e) pos) (tRet te):=by
  intro pins s σ H D I h
  exact wpAny_Return_some (thn (he pins s σ H _ I h) fun v s1 ⟨x,H1,I1,r1,q1⟩=>⟨x,σ,H1,I1,r1,q1⟩)
noncomputable def tIfS (c:TT) (t u:TS):TS:=fun D σ H=>c σ H fun b H1=>if b=true then t D σ H1 else u D σ H1
theorem ps_if {c:Expr} {a b:List Stmt} {tc:TT} (hc:PT X c tc) (ha:PSs X a t) (hb:PSs X b u):PS X (.If c a b pos) (tIfS tc t u):=by
  intro pins s σ H D I h
  refine wpAny_If (thn (hc pins s σ H _ I h) fun d s1 ⟨H1,I1,q1⟩=>?_)
  cases d with
  | true=>exact ha pins s1 σ H1 D I1 q1
  | false=>exact hb pins s1 σ H1 D I1 q1
noncomputable def tNever:TS:=fun _ _ _=>False
theorem ps_never:PS X st tNever:=fun _ _ _ _ _ _ h=>h.elim
end
noncomputable abbrev TG:=V->St->Hp->(St->Hp->Prop)->Prop
noncomputable abbrev TGs:=List V->St->Hp->(St->Hp->Prop)->Prop
noncomputable def PG (X:Cx) (target:Expr) (t:TG):Prop :=
  ∀ (pins:List (Addr × Obj)) (s:Shared) (σ:St) (H:Hp) (v:V) (u:Value) (Q:St->Hp->Prop),Inv X pins σ H s->RelV v u->t v σ H Q ->
    wpAny (model X.prog X.w) X.A (assign target X.env u) (fun _ s'=>∃ σ' H',Inv X pins σ' H' s'/\Q σ' H') X.xe s
noncomputable def PGs (X:Cx) (ts:List Expr) (t:TGs):Prop :=
  ∀ (pins:List (Addr × Obj)) (s:Shared) (σ:St) (H:Hp) (vs:List V) (us:List Value) (Q:St->Hp->Prop),Inv X pins σ H s->Vals vs us->t vs σ H Q ->
    wpAny (model X.prog X.w) X.A (assignInOrder ((assignEach ts X.env).map (·.2)) us) (fun _ s'=>∃ σ' H',Inv X pins σ' H' s'/\Q σ' H') X.xe s
noncomputable abbrev TSet:=V->V->V->Hp->(Hp->Prop)->Prop
noncomputable def PSet (X:Cx) (t:TSet):Prop :=
  ∀ (pins:List (Addr × Obj)) (s:Shared) (σ:St) (H:Hp) (o i v:V) (ov iv u:Value) (Q:Hp->Prop),Inv X pins σ H s->RelV o ov->RelV i iv->RelV v u->t o i v H Q ->
    wpAny (model X.prog X.w) X.A (setItem ov iv u) (fun _ s'=>∃ H',Inv X pins σ H' s'/\Q H') X.xe s
section
variable {X:Cx} {pos:Pos}
noncomputable def gName (i:Nat):TG:=fun v σ H Q=>Q (σ.set i (some v)) H
theorem pg_name {i:Nat} {x:Str} (hN:X.N.Nodup) (hi:X.N[i]?=some x) (hx:Loc X.env.scope x) (hf:X.fn x=true\/X.env.scope.names.lookup x=some .local:=by first | exact .inl rfl | exact .inr rfl | assumption):PG X (.Name x pos) (gName i):=by
  intro pins s σ H v u Q I r h
  exact wpAny_assign_Name (store_ok I hN hi hx r (fun s' I'=>⟨_,H,I',h⟩) hf)
noncomputable def gNil:TGs:=fun vs σ H Q=>vs=[]/\Q σ H
noncomputable def gCons (t:TG) (u:TGs):TGs:=fun vs σ H Q=>∃ v r,vs=v :: r/\t v σ H fun σ' H'=>u r σ' H' Q
theorem pgs_nil:PGs X [] gNil:=by
  intro pins s σ H vs us Q I r h
  obtain ⟨e,h⟩:=h
  subst e
  cases r
  exact assignInOrder_nil ⟨σ,H,I,h⟩
theorem pgs_cons {e:Expr} {es:List Expr} {t:TG} {u:TGs} (h1:PG X e t) (h2:PGs X es u)
    (hs:(assignEach (e :: es) X.env).map (·.2)=assign e X.env :: (assignEach es X.env).map (·.2):=by rfl):PGs X (e :: es) (gCons t u):=by
  intro pins s σ H vs us Q I r h
  obtain ⟨v,vr,e1,h⟩:=h
  subst e1
  cases r with
  | cons r rr =>
    rw [hs]
    refine assignInOrder_cons (thn (h1 pins s σ H _ _ _ I r h) fun _ s1 ⟨σ1,H1,I1,q1⟩=>?_)
    exact h2 pins s1 σ1 H1 _ _ Q I1 rr q1
noncomputable def gTup (K:PySem.W.Frag) (n:Nat) (t:TGs):TG:=fun v σ H Q=>∃ a xs,v = .ref a/\SqT K H a xs/\xs.length=n/\t xs σ H Q
theorem pg_tup {es:List Expr} {k:Nat} {t:TGs} {n:Nat} (hc:X.calm=true) (h:PGs X es t)
    (hn:(assignEach es X.env).length=n:=by rfl) (hst:(assignEach es X.env).findIdx? (·.1)=none:=by rfl):PG X (.Tuple es k pos) (gTup X.K n t):=by
  intro pins s σ H v u Q I r hw
  obtain ⟨a,xs,e1,hq,hl,hw⟩:=hw
  subst e1
  cases r
  obtain ⟨its,rv,ht,hz⟩:=I.tuple hq
  refine assign_Tuple_tuple (I.ok.hd hc) ht (by simp [hn, <- hl,rv.length]) hst fun h' hx=>?_
  have I1:Inv X pins σ H { s with heap:=h' }:=I.kept (t':=s.toks) fun b o e=>hx b o (Nat.ne_of_lt (Heap.lt_size e)) e
  exact h pins _ σ H xs _ Q I1 (by simpa using rv) hw
noncomputable def gSub (to ti:TE) (t:TSet):TG:=fun v σ H Q=>to σ H fun o H1=>ti σ H1 fun i H2=>t o i v H2 fun H3=>Q σ H3
theorem pg_sub {o i:Expr} {to ti:TE} {t:TSet} (ho:PE X o to) (hi:PE X i ti) (hs:PSet X t)
    (ha:∀ v,assign (.Subscript o i pos) X.env v=(do
      let ov <- holding [v] (eval o X.env)
      let iv <- holding [v,ov] (eval i X.env)
      standAt pos
      holding [v,ov,iv] (setItem ov iv v)
      release [v,ov,iv] []):=by intro _;rfl):PG X (.Subscript o i pos) (gSub to ti t):=by
  intro pins s σ H v u Q I r h
  rw [ha]
  refine wpAny_bind (wpAny_holding (thn (ho pins s σ H _ I h) fun ov s1 ⟨x,H1,I1,r1,q1⟩=>?_))
  refine wpAny_bind (wpAny_holding (thn (hi pins s1 σ H1 _ I1 q1) fun iv s2 ⟨y,H2,I2,r2,q2⟩=>?_))
  refine wpAny_bind (wpAny_standAt (wpAny_bind (wpAny_holding (thn (hs pins s2 σ H2 x y v ov iv u _ I2 r1 r2 r q2) fun _ s3 ⟨H3,I3,q3⟩=>?_))))
  exact wpAny_release ⟨σ,H3,I3,q3⟩
noncomputable def tAsg (te:TE) (g:TG):TS:=fun D σ H=>te σ H fun x H1=>g x σ H1 D.nx
theorem ps_asg {tg e:Expr} {te:TE} {g:TG} (he:PE X e te) (hg:PG X tg g) (hs:swapsWithSole [tg] e pos.line X.env=pure false:=by rfl) (hw:swappedStores [tg] e X.env=pure none:=by rfl)
    (h1:(assignEach [tg] X.env).map (·.2)=[assign tg X.env]:=by rfl):PS X (.Assign [tg] e pos) (tAsg te g):=by
  intro pins s σ H D I h
  refine wpAny_Assign_stores (thn (he pins s σ H _ I h) fun v s1 ⟨x,H1,I1,r1,q1⟩=>?_) hs hw
  rw [h1]
  exact thn (hg pins s1 σ H1 x v _ I1 r1 q1) fun _ s2 q=>q
theorem ps_set {i:Nat} {x:Str} {e:Expr} {te:TE} {pos':Pos} (hN:X.N.Nodup) (hi:X.N[i]?=some x) (hx:Loc X.env.scope x) (he:PE X e te) (hs:swapsWith e (some (.Name x pos')) pos.line X.env=pure false:=by rfl) (hf:X.fn x=true\/X.env.scope.names.lookup x=some .local:=by first | exact .inl rfl | exact .inr rfl | assumption) :
    PS X (.Assign [.Name x pos'] e pos) (tAsg te (gName i)):=by
  intro pins s σ H D I h
  refine wpAny_Assign_Name (thn (he pins s σ H _ I h) fun v s1 ⟨y,H1,I1,r1,q1⟩=>?_) hs
  exact store_ok I1 hN hi hx r1 (fun s2 I2=>⟨_,H1,I2,q1⟩) hf
noncomputable def tPar (i j:Nat) (ta:TA):TS:=fun D σ H=>ta σ H fun vs H1=>∃ v w,vs=[v,w]/\D.nx ((σ.set i (some v)).set j (some w)) H1
theorem ps_par {i j:Nat} {x y:Str} {a b:Expr} {ta:TA} {px py pt:Pos} {kt k2 pt2} (hc:X.calm=true) (hN:X.N.Nodup) (hi:X.N[i]?=some x) (hj:X.N[j]?=some y) (hij:i ≠ j)
    (hx:X.env.scope.names.lookup x=some .local) (hy:X.env.scope.names.lookup y=some .local) (ha:PA X [a,b] ta)
    (hw:swappedStores [.Tuple [.Name x px,.Name y py] kt pt] (.Tuple [a,b] k2 pt2) X.env=pure (some [x,y]))
    (hs:swapsWithSole [.Tuple [.Name x px,.Name y py] kt pt] (.Tuple [a,b] k2 pt2) pos.line X.env=pure false:=by rfl) :
    PS X (.Assign [.Tuple [.Name x px,.Name y py] kt pt] (.Tuple [a,b] k2 pt2) pos) (tPar i j ta):=by
  intro pins s σ H D I h
  rw [exec_Assign_arm]
  refine wpAny_bind (wpAny_standAt ?_)
  rw [hs]
  refine wpAny_bind (wpAny_pure ?_)
  rw [if_neg (by decide)]
  refine wpAny_bind (Tuple_ (thn (ha _ pins s σ H _ I h) fun us s1 ⟨vs,H1,I1,r1,q1⟩=>?_))
  obtain ⟨v,w,e1,q1⟩:=q1
  subst e1
  obtain ⟨u1,u2,rfl,rv,rw'⟩:∃ u1 u2,us=[u1,u2]/\RelV v u1/\RelV w u2:=by
    cases r1 with
    | cons p q =>
      cases q with
      | cons p' q' =>
        cases q'
        exact ⟨_,_,rfl,p,p'⟩
  refine wpAny_newObj_type ?_ (by show 2<=sizeLine;decide)
  have I2:Inv X pins σ H1 { s1 with heap:=s1.heap.push { cls:=.type "tuple",data:=.seq [u1,u2].toArray } }:=I1.kept (t':=s1.toks) fun b o e=>Heap.get?_push_of_some _ e
  rw [hw]
  refine wpAny_bind (wpAny_pure ?_)
  show wpAny (model X.prog X.w) X.A (do rule "assign.swapped-stores";let items <- unpackItems (.ref s1.heap.objs.size) 2 none;assignInOrder [fun v=>bindName X.env y v,fun v=>bindName X.env x v] items.reverse;pure Flow.next) _ _ _
  refine wpAny_bind (wpAny_rule (wpAny_bind (unpackItems_tuple (items := #[u1,u2]) (I.ok.hd hc) (IsTup.new s1.heap _) fun h' hx'=>?_)))
  have I3:=I2.kept (h':=h') (t':=s1.toks) fun b o e=>hx' b o (Nat.ne_of_lt (Heap.lt_size e)) e
  show wpAny _ _ (assignInOrder [fun v=>bindName X.env y v,fun v=>bindName X.env x v] [u2,u1] >>= fun _=>pure Flow.next) _ _ _
  refine wpAny_bind (assignInOrder_cons (wpAny_bindName (store_ok I3 hN hj (.inl hy) rw' (fun s2 I4=>?_) (.inr hy))))
  refine assignInOrder_cons (wpAny_bindName (store_ok I4 hN hi (.inl hx) rv (fun s3 I5=>assignInOrder_nil (wpAny_pure ?_)) (.inr hx)))
  rw [List.set_comm _ _ (Ne.symm hij)] at I5
  exact ⟨_,H1,I5,q1⟩
end
section
variable {X:Cx} {pos:Pos}
noncomputable def tWhile (c:TT) (tb:TS):TS:=fun D σ H=>∃ W:Nat->St->Hp->Prop,(∃ m,W m σ H)/\∀ m σ H,W m σ H ->
  c σ H fun b H1=>if b=true then ∃ N:St->Hp->Prop,(∀ σ' H',N σ' H'->∃ m',m' < m/\W m' σ' H')/\tb { D with nx:=N,ct:=N,bk:=D.nx } σ H1 else D.nx σ H1
theorem ps_while {c:Expr} {body:List Stmt} {tc:TT} {tb:TS} (hp:PassesOwn (model X.prog X.w) X.A X.env X.xe) (hc:PT X c tc) (hb:PSs X body tb):PS X (.While c body [] pos) (tWhile tc tb):=by
  intro pins s σ H D I h
  obtain ⟨W,⟨m0,w0⟩,turn⟩:=h
  refine wpAny_While (codeAny_whileLoop (fun n s'=>∃ σ' H',Inv X pins σ' H' s'/\W n σ' H') ?_ m0 ⟨σ,H,I,w0⟩)
  rintro n s1 ⟨σ1,H1,I1,w1⟩
  refine wpAny_passesOwn hp (thn (hc pins s1 σ1 H1 _ I1 (turn n σ1 H1 w1)) fun b s2 ⟨H2,I2,q2⟩=>?_)
  cases b with
  | true =>
    obtain ⟨N,hN,q2⟩:=q2
    rw [if_pos rfl]
    refine wpAny_passesOwn hp (thn (hb pins s2 σ1 H2 _ I2 q2) fun f s3 q3=>?_)
    cases f with
    | next =>
      obtain ⟨σ3,H3,I3,n3⟩:=q3
      obtain ⟨m',hm,w3⟩:=hN σ3 H3 n3
      exact ⟨m',hm,σ3,H3,I3,w3⟩
    | cont =>
      obtain ⟨σ3,H3,I3,n3⟩:=q3
      obtain ⟨m',hm,w3⟩:=hN σ3 H3 n3
      exact ⟨m',hm,σ3,H3,I3,w3⟩
    | brk=>exact q3
    | ret v=>exact q3
  | false =>
    rw [if_neg Bool.false_ne_true]
    exact wpAny_execs_nil ⟨σ1,H2,I2,q2⟩
end
structure It where
  go:Nat->Hp->Prop
  yld:Nat->Hp->V->Hp->Prop
  stop:Nat->Hp->Prop
noncomputable def FpOk (X:Cx) (pins:List (Addr × Obj)) (H:Hp) (b:Addr):Prop :=
  H b=none/\b ≠ X.env.locals/\b ∉ X.fs/\(b ∈ X.ex\/X.s₀.heap.objs.size<=b)/\(∀ x c,X.env.cells.lookup x=some c->c ≠ b)/\∀ p ∈ X.pn ++ pins,p.1 ≠ b
theorem Inv.fpOk {X:Cx} {pins:List (Addr × Obj)} {σ:St} {H H':Hp} {s:Shared} {b:Addr} (I:Inv X pins σ H s) (hb:s.heap.objs.size<=b) (hn:H' b=none):FpOk X pins H' b:=by
  refine ⟨hn,Nat.ne_of_gt (Nat.lt_of_lt_of_le I.lt hb),I.nofs hb,.inr (Nat.le_trans I.sz hb),fun x c e z=>?_,fun p hp z=>?_⟩
  . obtain ⟨v,q⟩:=I.cell x c e
    exact absurd (Nat.lt_of_lt_of_le q.lt (by rw [z];exact hb)) (Nat.lt_irrefl _)
  . exact absurd (Nat.lt_of_lt_of_le (Heap.lt_size (I.pin p hp).1) (by rw [z];exact hb)) (Nat.lt_irrefl _)
structure Turn (P:Program) (w:World) (K:PySem.W.Frag) (tg:Expr) (J:It) (fp:List Addr) (it:Addr) (tn:Nat->Heap->Prop):Prop where
  mem:it ∈ fp
  obj:∀ i h,tn i h->∀ b ∈ fp,∃ o,h.get? b=some o/\∀ v,o.data ≠ .cell v
  keep:∀ i h h',tn i h->(∀ b ∈ fp,∀ o,h.get? b=some o->h'.get? b=some o)->tn i h'
  item:∀ (X:Cx),X.prog=P->X.w=w->X.K=K->X.calm=true->∀ (i:Nat) (pins:List (Addr × Obj)) (s:Shared) (σ:St) (H:Hp) (E:Value->Shared->Prop),Inv X pins σ H s->(∀ b ∈ fp,FpOk X pins H b)->tn i s.heap->J.go i H ->
    wpAny (model P w) X.A (pyNext (.ref it)) (fun r s1=>∃ u,r=some u /\
      wpAny (model P w) X.A (letOwnedTupleGo tg (.ref it) u) (fun _ s2=>∃ x H',Inv X pins σ H' s2/\RelV x u/\J.yld i H x H'/\tn (i + 1) s2.heap/\∀ b ∈ fp,H' b=none) E s1) E s
  done:∀ (X:Cx),X.prog=P->X.w=w->X.K=K->X.calm=true->∀ (i:Nat) (pins:List (Addr × Obj)) (s:Shared) (σ:St) (H:Hp) (E:Value->Shared->Prop),Inv X pins σ H s->(∀ b ∈ fp,FpOk X pins H b)->tn i s.heap->J.stop i H ->
    wpAny (model P w) X.A (pyNext (.ref it)) (fun r s1=>r=none/\Inv X pins σ H s1) E s
  self:∀ (A:Around) (i:Nat) (s:Shared) (Q:Value->Shared->Prop) (E:Value->Shared->Prop),tn i s.heap->Q (.ref it) s->wpAny (model P w) A (pyIter (.ref it)) Q E s
noncomputable abbrev TI:=St->Hp->(It->Hp->Prop)->Prop
noncomputable def PIE (X:Cx) (pins:List (Addr × Obj)) (σ:St) (tg:Expr) (R:It->Hp->Prop) (itv:Value) (s2:Shared):Prop :=
  ∃ (it:Addr) (fp:List Addr) (tn:Nat->Heap->Prop) (J:It) (H':Hp),itv = .ref it/\Inv X pins σ H' s2/\Turn X.prog X.w X.K tg J fp it tn/\tn 0 s2.heap/\(∀ b ∈ fp,FpOk X pins H' b)/\R J H'
noncomputable def PI (X:Cx) (tg iter:Expr) (wi:TI):Prop :=
  ∀ (pins:List (Addr × Obj)) (s:Shared) (σ:St) (H:Hp) (R:It->Hp->Prop),Inv X pins σ H s->wi σ H R ->
    wpAny (model X.prog X.w) X.A (eval iter X.env) (fun v s1=>wpAny (model X.prog X.w) X.A (pyIter v) (PIE X pins σ tg R) X.xe s1) X.xe s
theorem go_of {M:Model} {A:Around} {E:Value->Shared->Prop} {s:Shared} {tg:Expr} {it:Addr} {u:Value} {o:Obj} {n:String} {vs:Array Value} {Q:Unit->Shared->Prop} (ho:s.heap.get? it=some o) (hc:o.cls = .type n) (hd:o.data = .fields vs)
    (hn:["enumerate","zip","dict_itemiterator","dict_reverseitemiterator","odict_iterator","itertools.zip_longest","itertools.pairwise"].contains n=false) (hQ:Q () s):wpAny M A (letOwnedTupleGo tg (.ref it) u) Q E s:=by
  unfold letOwnedTupleGo
  cases tg <;> first
    | exact wpAny_pure hQ
    | (cases u <;> first
        | exact wpAny_pure hQ
        | (refine wpAny_bind (wpAny_load ho ?_)
           rw [hc,hd]
           show wpAny M A (if (["enumerate","zip","dict_itemiterator","dict_reverseitemiterator","odict_iterator","itertools.zip_longest","itertools.pairwise"].contains n && vs[0]? == some (rawInt _))=true then _ else _) Q E s
           rw [if_neg (by intro h;rw [hn,Bool.false_and] at h;cases h)]
           exact wpAny_pure hQ))
noncomputable def Itl (K:PySem.W.Frag) (a:Addr):It :=
  ⟨fun i H=>∃ xs x,SqL K H a xs/\xs[i]?=some x,fun i H x H'=>H'=H/\∀ xs,SqL K H a xs->xs[i]?=some x,fun i H=>∃ xs,SqL K H a xs/\xs.length<=i⟩
noncomputable def Itt (K:PySem.W.Frag) (a:Addr):It :=
  ⟨fun i H=>∃ xs x,SqT K H a xs/\xs[i]?=some x,fun i H x H'=>H'=H/\∀ xs,SqT K H a xs->xs[i]?=some x,fun i H=>∃ xs,SqT K H a xs/\xs.length<=i⟩
noncomputable def Itr (lo:Int) (n:Nat):It:=⟨fun i _=>i < n,fun i H x H'=>H'=H/\x = .int (lo + i),fun i _=>n<=i⟩
theorem turn_list {P:Program} {w:World} {K:PySem.W.Frag} {tg:Expr} (a it:Addr):Turn P w K tg (Itl K a) [it] it (fun i h=>h.IsListIter it a i) where
  mem:=by simp
  obj:=fun i h st b hb=>by
    have e:b=it:=by simpa using hb
    subst e
    obtain ⟨o,e,c,d⟩:=st
    exact ⟨o,e,fun v z=>by rw [d] at z;cases z⟩
  keep:=fun i h h' st k=>st.at fun o e=>k it (by simp) o e
  item:=by
    intro X hP hw hK hc i pins s σ H E I hf st hg
    subst hP hw hK
    obtain ⟨xs,x,hq,hx⟩:=hg
    obtain ⟨its,rv,p,hz⟩:=I.list hq
    obtain ⟨u,hu,ru⟩:=rv.get hx
    obtain ⟨f0,f1,f2,f3,f4,f5⟩:=hf it (by simp)
    refine wpAny_pyNext_list_item st p.isList (x:=u) (by simpa using hu) fun h' st' sb=>?_
    have I1:Inv X pins σ H { s with heap:=h' }:=I.turned (t':=s.toks) (fun b o hb e=>(sb.2 b hb).trans e) f0 f1 f3 f4 f5
    obtain ⟨o,e,c,d⟩:=id st'
    exact ⟨u,rfl,go_of (s:={ s with heap:=h' }) e c d (by decide) ⟨x,H,I1,ru,⟨rfl,fun ys hy=>by rw [I.list_inj hy hq];exact hx⟩,st',fun b hb=>(hf b hb).1⟩⟩
  done:=by
    intro X hP hw hK hc i pins s σ H E I hf st hg
    subst hP hw hK
    obtain ⟨xs,hq,hx⟩:=hg
    obtain ⟨its,rv,p,hz⟩:=I.list hq
    obtain ⟨f0,f1,f2,f3,f4,f5⟩:=hf it (by simp)
    have hl:=rv.length
    exact wpAny_pyNext_list_end (I.ok.hd hc) st p.isList (by simp;omega) fun h' eb=>⟨rfl,I.turned (t':=s.toks) (fun b o hb e=>eb b o hb e) f0 f1 f3 f4 f5⟩
  self:=fun _ _ _ _ _ st h=>wpAny_pyIter_listiter st h
theorem turn_tuple {P:Program} {w:World} {K:PySem.W.Frag} {tg:Expr} (a it:Addr):Turn P w K tg (Itt K a) [it] it (fun i h=>h.IsTupleIter it a i) where
  mem:=by simp
  obj:=fun i h st b hb=>by
    have e:b=it:=by simpa using hb
    subst e
    obtain ⟨o,e,c,d⟩:=st
    exact ⟨o,e,fun v z=>by rw [d] at z;cases z⟩
  keep:=fun i h h' st k=>st.at fun o e=>k it (by simp) o e
  item:=by
    intro X hP hw hK hc i pins s σ H E I hf st hg
    subst hP hw hK
    obtain ⟨xs,x,hq,hx⟩:=hg
    obtain ⟨its,rv,p,hz⟩:=I.tuple hq
    obtain ⟨u,hu,ru⟩:=rv.get hx
    obtain ⟨f0,f1,f2,f3,f4,f5⟩:=hf it (by simp)
    refine wpAny_pyNext_tuple_item st (show s.heap.IsTuple a its.toArray from p) (x:=u) (by simpa using hu) fun h' st' sb=>?_
    have I1:Inv X pins σ H { s with heap:=h' }:=I.turned (t':=s.toks) (fun b o hb e=>(sb.2 b hb).trans e) f0 f1 f3 f4 f5
    obtain ⟨o,e,c,d⟩:=id st'
    exact ⟨u,rfl,go_of (s:={ s with heap:=h' }) e c d (by decide) ⟨x,H,I1,ru,⟨rfl,fun ys hy=>by rw [I.tuple_inj hy hq];exact hx⟩,st',fun b hb=>(hf b hb).1⟩⟩
  done:=by
    intro X hP hw hK hc i pins s σ H E I hf st hg
    subst hP hw hK
    obtain ⟨xs,hq,hx⟩:=hg
    obtain ⟨its,rv,p,hz⟩:=I.tuple hq
    obtain ⟨f0,f1,f2,f3,f4,f5⟩:=hf it (by simp)
    have hl:=rv.length
    exact wpAny_pyNext_tuple_end (I.ok.hd hc) st (show s.heap.IsTuple a its.toArray from p) (by simp;omega) fun h' eb=>⟨rfl,I.turned (t':=s.toks) (fun b o hb e=>eb b o hb e) f0 f1 f3 f4 f5⟩
  self:=fun _ _ _ _ _ st h=>wpAny_pyIter_tupleiter st h
theorem turn_range {P:Program} {w:World} {K:PySem.W.Frag} {tg:Expr} (it:Addr) (lo:Int) (n:Nat):Turn P w K tg (Itr lo n) [it] it (fun i h=>IsRangeIter h it (lo + (i:Nat) * 1) ((n:Int) - (i:Nat)) 1) where
  mem:=by simp
  obj := fun i h st b hb => by
    have e:b=it:=by simpa using hb
    subst e
    exact ⟨_,st,fun v z=>by
      have z':Data.fields _=Data.cell v:=z
      cases z'⟩
  keep:=fun i h h' st k=>k it (by simp) _ st
  item:=by
    intro X hP hw hK hc i pins s σ H E I hf st hg
    subst hP hw hK
    obtain ⟨f0,f1,f2,f3,f4,f5⟩:=hf it (by simp)
    have W:=Walks.range (prog:=X.prog) (w:=X.w) (I.ok.hd hc) it lo 1 n
    refine W.item i s _ _ hg st fun v h' tk hv st' kk=>?_
    obtain ⟨t,rfl⟩:=hv
    have I1:Inv X pins σ H { s with heap:=h',toks:=tk }:=I.turned (fun b o hb e=>kk b o (by simpa using hb) e) f0 f1 f3 f4 f5
    refine ⟨_,rfl,go_of (s:={ s with heap:=h',toks:=tk }) (n := "range_iterator") st' rfl rfl (by decide) ⟨.int (lo + i),H,I1,⟨t,?_⟩,⟨rfl,rfl⟩,st',fun b hb=>(hf b hb).1⟩⟩
    rw [Int.mul_one]
  done:=by
    intro X hP hw hK hc i pins s σ H E I hf st hg
    subst hP hw hK
    obtain ⟨f0,f1,f2,f3,f4,f5⟩:=hf it (by simp)
    exact wpAny_pyNext_range_end (I.ok.hd hc) st (by have:n<=i:=hg;omega) fun h' eb=>⟨rfl,I.turned (t':=s.toks) (fun b o hb e=>eb b o hb e) f0 f1 f3 f4 f5⟩
  self:=fun _ _ _ _ _ st h=>wpAny_pyIter_rangeiter st h
end L2
namespace L2
open PySem PySem.Spec PyProof.Rows
section
variable {X:Cx} {tg:Expr}
noncomputable def iList (K:PySem.W.Frag) (tl:TE):TI:=fun σ H R=>tl σ H fun x H1=>∃ a,x = .ref a/\(∃ xs,SqL K H1 a xs)/\R (Itl K a) H1
noncomputable def iTup (K:PySem.W.Frag) (tl:TE):TI:=fun σ H R=>tl σ H fun x H1=>∃ a,x = .ref a/\(∃ xs,SqT K H1 a xs)/\R (Itt K a) H1
theorem pi_list {l:Expr} {tl:TE} (hl:PE X l tl):PI X tg l (iList X.K tl):=by
  intro pins s σ H R I h
  refine thn (hl pins s σ H _ I h) fun v s1 ⟨x,H1,I1,r1,q1⟩=>?_
  obtain ⟨a,e,⟨xs,hq⟩,q⟩:=q1
  subst e
  cases r1
  obtain ⟨its,rv,p,hz⟩:=I1.list hq
  refine wpAny_pyIter_list p.isList ?_
  refine ⟨s1.heap.objs.size,[s1.heap.objs.size],_,_,H1,rfl,I1.kept (t':=s1.toks) fun b o e=>Heap.get?_push_of_some _ e,turn_list a _,⟨_,Heap.get?_push_size _ rfl,rfl,rfl⟩,fun b hb=>?_,q⟩
  have e:b=s1.heap.objs.size:=by simpa using hb
  subst e
  exact I1.fpOk (Nat.le_refl _) (I1.hok.fresh (Nat.le_refl _))
theorem pi_tup {l:Expr} {tl:TE} (hl:PE X l tl):PI X tg l (iTup X.K tl):=by
  intro pins s σ H R I h
  refine thn (hl pins s σ H _ I h) fun v s1 ⟨x,H1,I1,r1,q1⟩=>?_
  obtain ⟨a,e,⟨xs,hq⟩,q⟩:=q1
  subst e
  cases r1
  obtain ⟨its,rv,p,hz⟩:=I1.tuple hq
  refine wpAny_pyIter_tuple (show s1.heap.IsTuple a its.toArray from p) ?_
  refine ⟨s1.heap.objs.size,[s1.heap.objs.size],_,_,H1,rfl,I1.kept (t':=s1.toks) fun b o e=>Heap.get?_push_of_some _ e,turn_tuple a _,⟨_,Heap.get?_push_size _ rfl,rfl,rfl⟩,fun b hb=>?_,q⟩
  have e:b=s1.heap.objs.size:=by simpa using hb
  subst e
  exact I1.fpOk (Nat.le_refl _) (I1.hok.fresh (Nat.le_refl _))
theorem range_it {pins:List (Addr × Obj)} {σ:St} {H:Hp} {s:Shared} {R:It->Hp->Prop} {E:Value->Shared->Prop} {lo hi:Int} {t u v:Tok} {tk:Nat} (I:Inv X pins σ H s) (h1 : -(2 ^ 62)<=lo) (h2:lo < 2 ^ 62) (h3 : -(2 ^ 62)<=hi) (h4:hi < 2 ^ 62)
    (q:R (Itr lo (hi - lo).toNat) H):wpAny (model X.prog X.w) X.A (pyIter (.ref s.heap.objs.size)) (PIE X pins σ tg R) E { s with heap:=s.heap.push { cls:=.type "range",data:=.fields #[.int lo t,.int hi u,.int 1 v] },toks:=tk }:=by
  refine wpAny_pyIter_range (IsRange.new ..) (small_one h1 h2 h3 h4) ?_
  have I1:Inv X pins σ H { s with heap:=s.heap.push { cls:=.type "range",data:=.fields #[.int lo t,.int hi u,.int 1 v] },toks:=tk }:=I.kept fun b o e=>Heap.get?_push_of_some _ e
  refine ⟨(s.heap.push { cls:=.type "range",data:=.fields #[.int lo t,.int hi u,.int 1 v] }).objs.size,[(s.heap.push { cls:=.type "range",data:=.fields #[.int lo t,.int hi u,.int 1 v] }).objs.size],_,_,H,rfl,
    I1.kept (t':=tk) fun b o e=>Heap.get?_push_of_some _ e,turn_range _ lo (hi - lo).toNat,?_,fun b hb=>?_,q⟩
  . have e1:lo + ((0:Nat):Int) * 1=lo:=by simp
    have e2:(((hi - lo).toNat:Nat):Int) - ((0:Nat):Int)=Builtin.Range.rangeSize lo hi 1:=by rw [rangeSize_one];split <;> omega
    show IsRangeIter _ _ (lo + ((0:Nat):Int) * 1) ((((hi - lo).toNat:Nat):Int) - ((0:Nat):Int)) 1
    rw [e1,e2]
    exact Heap.get?_push_size _ rfl
  . have e:b=(s.heap.push { cls:=.type "range",data:=.fields #[.int lo t,.int hi u,.int 1 v] }).objs.size:=by simpa using hb
    subst e
    exact I1.fpOk (Nat.le_refl _) (I1.hok.fresh (Nat.le_refl _))
noncomputable def iRng1 (ta:TA):TI:=fun σ H R=>ta σ H fun vs H1=>∃ j:Int,vs=[.int j] /\ -(2 ^ 62)<=j/\j < 2 ^ 62/\R (Itr 0 j.toNat) H1
theorem pi_range1 {a:Expr} {ta:TA} {p pos:Pos} (hg:Gl X "range") (hm:X.mg "range" = none) (ha:PA X [a] ta) (hs:starEach [a] X.env=[(false,eval a X.env)]:=by rfl):PI X tg (.Call (.Name "range" p) [a] [] pos) (iRng1 ta):=by
  intro pins s σ H R I h
  refine Call_ (ld_blt I hg hm boot_range (PyProof.Rows.callWith_type1 (thn (ha pos pins s σ H _ I h) fun us s1 ⟨vs,H1,I1,r1,q1⟩=>?_) hs rfl))
  obtain ⟨j,e,q1,q2,q⟩:=q1
  subst e
  cases r1 with
  | cons r rr =>
    cases rr
    obtain ⟨t,rfl⟩:=r
    exact call_range_1 (range_it I1 (by omega) (by omega) q1 q2 (by simpa using q))
noncomputable def tFor (wi:TI) (g:TG) (tb:TS):TS:=fun D σ H=>wi σ H fun J H1=>∃ W:Nat->Nat->St->Hp->Prop,(∃ m,W 0 m σ H1)/\∀ i m σ H,W i m σ H ->
  (J.stop i H/\D.nx σ H)\/(J.go i H/\∃ N:St->Hp->Prop,(∀ σ' H',N σ' H'->∃ m',m' < m/\W (i + 1) m' σ' H')/\∀ x H',J.yld i H x H'->g x σ H' fun σ2 H2=>tb { D with nx:=N,ct:=N,bk:=D.nx } σ2 H2)
noncomputable def pinsAt (fp:List Addr) (h:Heap):List (Addr × Obj):=fp.filterMap fun b=>(h.get? b).map fun o=>(b,o)
theorem mem_pinsAt {fp:List Addr} {h:Heap} {b:Addr} {o:Obj} (hb:b ∈ fp) (e:h.get? b=some o):(b,o) ∈ pinsAt fp h:=List.mem_filterMap.mpr ⟨b,hb,by rw [e];rfl⟩
theorem of_pinsAt {fp:List Addr} {h:Heap} {p:Addr × Obj} (hp:p ∈ pinsAt fp h):p.1 ∈ fp/\h.get? p.1=some p.2:=by
  obtain ⟨b,hb,e⟩:=List.mem_filterMap.mp hp
  cases q:h.get? b with
  | none=>rw [q] at e;cases e
  | some o =>
    rw [q] at e
    have e':(b,o)=p:=Option.some.inj e
    subst e'
    exact ⟨hb,q⟩
theorem Inv.pinned {pins:List (Addr × Obj)} {σ:St} {H:Hp} {s:Shared} {fp:List Addr} (I:Inv X pins σ H s) (hf:∀ b ∈ fp,FpOk X pins H b) (ho:∀ b ∈ fp,∃ o,s.heap.get? b=some o/\∀ v,o.data ≠ .cell v):Inv X (pins ++ pinsAt fp s.heap) σ H s :=
  I.pins_of fun p hp=>(List.mem_append.mp hp).elim (fun z=>I.pin p (List.mem_append_right _ z)) fun z=>by
    obtain ⟨hb,e⟩:=of_pinsAt z
    obtain ⟨f0,f1,f2,_⟩:=hf p.1 hb
    obtain ⟨o,e',d⟩:=ho p.1 hb
    rw [e] at e';cases e'
    exact ⟨e,f0,f1,f2,d⟩
theorem Inv.unpinned {pins pl:List (Addr × Obj)} {σ:St} {H:Hp} {s:Shared} (I:Inv X (pins ++ pl) σ H s):Inv X pins σ H s:=I.pins_of fun p hp=>I.pin p (List.mem_append_right _ (List.mem_append_left _ hp))
theorem ps_for {iter:Expr} {body:List Stmt} {wi:TI} {g:TG} {tb:TS} {pos:Pos} (hp:PassesOwn (model X.prog X.w) X.A X.env X.xe) (hc:X.calm=true) (hi:PI X tg iter wi) (hg:PG X tg g) (hb:PSs X body tb)
    (hs:∀ x,foldedSetIterable iter X.env x=pure x:=by intro _;rfl):PS X (.For tg iter body [] pos) (tFor wi g tb):=by
  intro pins s σ H D I h
  refine wpAny_For (thn (hi pins s σ H _ I h) fun v s1 h1=>thn h1 fun itv s2 h2=>?_) hs
  obtain ⟨it,fp,tn,J,H2,e,I2,T,st2,f2,W,⟨m0,w0⟩,turn⟩:=h2
  subst e
  have stat:∀ {H':Hp},(∀ b ∈ fp,H' b=none)->∀ b ∈ fp,FpOk X pins H' b:=fun hn b hb=>⟨hn b hb,(f2 b hb).2⟩
  refine codeAny_forLoop_any (fun n s'=>∃ i σ' H',Inv X pins σ' H' s'/\tn i s'.heap/\(∀ b ∈ fp,H' b=none)/\W i n σ' H') ?_ m0 ⟨0,σ,H2,I2,st2,fun b hb=>(f2 b hb).1,w0⟩
  rintro n s3 ⟨i,σ3,H3,I3,st3,fr3,w3⟩
  rcases turn i n σ3 H3 w3 with ⟨stop,qn⟩ | ⟨go,N,hN,step⟩
  . refine wpAny_passesOwn hp (thn (T.done X rfl rfl rfl hc i pins s3 σ3 H3 X.xe I3 (stat fr3) st3 stop) fun r s4 ⟨hr,I4⟩=>?_)
    subst hr
    exact wpAny_execs_nil ⟨σ3,H3,I4,qn⟩
  . refine wpAny_passesOwn hp (thn (T.item X rfl rfl rfl hc i pins s3 σ3 H3 X.xe I3 (stat fr3) st3 go) fun r s4 ⟨u,hr,h4⟩=>?_)
    subst hr
    refine wpAny_passesOwn hp (thn h4 fun _ s5 ⟨x,H5,I5,r5,y5,st5,fr5⟩=>?_)
    have I5':=I5.pinned (stat fr5) (T.obj _ _ st5)
    refine wpAny_passesOwn hp (thn (hg _ s5 σ3 H5 x u _ I5' r5 (step x H5 y5)) fun _ s6 ⟨σ6,H6,I6,q6⟩=>?_)
    refine wpAny_passesOwn hp (thn (hb _ s6 σ6 H6 _ I6 q6) fun f s7 q7=>?_)
    have again:∀ {σ7:St} {H7:Hp},Inv X (pins ++ pinsAt fp s5.heap) σ7 H7 s7->N σ7 H7->∃ m,m < n/\∃ i σ' H',Inv X pins σ' H' s7/\tn i s7.heap/\(∀ b ∈ fp,H' b=none)/\W i m σ' H':=fun {σ7 H7} I7 n7=>by
      obtain ⟨m',hm,w7⟩:=hN σ7 H7 n7
      refine ⟨m',hm,i + 1,σ7,H7,I7.unpinned,T.keep _ _ _ st5 fun b hb o e=>(I7.pin (b,o) (List.mem_append_right _ (List.mem_append_right _ (mem_pinsAt hb e)))).1,fun b hb=>?_,w7⟩
      obtain ⟨o,e,d⟩:=T.obj _ _ st5 b hb
      exact (I7.pin (b,o) (List.mem_append_right _ (List.mem_append_right _ (mem_pinsAt hb e)))).2.1
    cases f with
    | next=>obtain ⟨σ7,H7,I7,n7⟩:=q7;exact again I7 n7
    | cont=>obtain ⟨σ7,H7,I7,n7⟩:=q7;exact again I7 n7
    | brk=>obtain ⟨σ7,H7,I7,q7⟩:=q7;exact ⟨σ7,H7,I7.unpinned,q7⟩
    | ret v=>obtain ⟨x7,σ7,H7,I7,r7,q7⟩:=q7;exact ⟨x7,σ7,H7,I7.unpinned,r7,q7⟩
end
theorem for_list {K:PySem.W.Frag} {a:Addr} {xs:List V} {g:TG} {tb:TS} {D:Ends} {σ:St} {H:Hp} (Pv:Nat->St->Hp->Prop) (h0:Pv 0 σ H) (hl:∀ i σ H,i<=xs.length->Pv i σ H->SqL K H a xs)
    (hs:∀ i x σ H,xs[i]?=some x->Pv i σ H->g x σ H fun σ2 H2=>tb { D with nx:=Pv (i + 1),ct:=Pv (i + 1),bk:=D.nx } σ2 H2) (hd:∀ σ H,Pv xs.length σ H->D.nx σ H) :
    ∃ W:Nat->Nat->St->Hp->Prop,(∃ m,W 0 m σ H)/\∀ i m σ H,W i m σ H ->
      ((Itl K a).stop i H/\D.nx σ H)\/((Itl K a).go i H/\∃ N:St->Hp->Prop,(∀ σ' H',N σ' H'->∃ m',m' < m/\W (i + 1) m' σ' H')/\∀ x H',(Itl K a).yld i H x H'->g x σ H' fun σ2 H2=>tb { D with nx:=N,ct:=N,bk:=D.nx } σ2 H2):=by
  refine ⟨fun i m σ H=>m=xs.length - i/\i<=xs.length/\Pv i σ H,⟨xs.length,by simp,Nat.zero_le _,h0⟩,?_⟩
  rintro i m σ H ⟨rfl,hi,p⟩
  have q:=hl i σ H hi p
  by_cases hlt:i < xs.length
  . refine .inr ⟨⟨xs,xs[i],q,by simp [hlt]⟩,Pv (i + 1),fun σ' H' p'=>⟨xs.length - (i + 1),by omega,rfl,hlt,p'⟩,fun x H' y=>?_⟩
    obtain ⟨e,y⟩:=y
    subst e
    exact hs i x σ _ (y xs q) p
  . have e:i=xs.length:=by omega
    subst e
    exact .inl ⟨⟨xs,q,Nat.le_refl _⟩,hd σ H p⟩
theorem for_tup {K:PySem.W.Frag} {a:Addr} {xs:List V} {g:TG} {tb:TS} {D:Ends} {σ:St} {H:Hp} (Pv:Nat->St->Hp->Prop) (h0:Pv 0 σ H) (hl:∀ i σ H,i<=xs.length->Pv i σ H->SqT K H a xs)
    (hs:∀ i x σ H,xs[i]?=some x->Pv i σ H->g x σ H fun σ2 H2=>tb { D with nx:=Pv (i + 1),ct:=Pv (i + 1),bk:=D.nx } σ2 H2) (hd:∀ σ H,Pv xs.length σ H->D.nx σ H) :
    ∃ W:Nat->Nat->St->Hp->Prop,(∃ m,W 0 m σ H)/\∀ i m σ H,W i m σ H ->
      ((Itt K a).stop i H/\D.nx σ H)\/((Itt K a).go i H/\∃ N:St->Hp->Prop,(∀ σ' H',N σ' H'->∃ m',m' < m/\W (i + 1) m' σ' H')/\∀ x H',(Itt K a).yld i H x H'->g x σ H' fun σ2 H2=>tb { D with nx:=N,ct:=N,bk:=D.nx } σ2 H2):=by
  refine ⟨fun i m σ H=>m=xs.length - i/\i<=xs.length/\Pv i σ H,⟨xs.length,by simp,Nat.zero_le _,h0⟩,?_⟩
  rintro i m σ H ⟨rfl,hi,p⟩
  have q:=hl i σ H hi p
  by_cases hlt:i < xs.length
  . refine .inr ⟨⟨xs,xs[i],q,by simp [hlt]⟩,Pv (i + 1),fun σ' H' p'=>⟨xs.length - (i + 1),by omega,rfl,hlt,p'⟩,fun x H' y=>?_⟩
    obtain ⟨e,y⟩:=y
    subst e
    exact hs i x σ _ (y xs q) p
  . have e:i=xs.length:=by omega
    subst e
    exact .inl ⟨⟨xs,q,Nat.le_refl _⟩,hd σ H p⟩
theorem while_by {c:TT} {tb:TS} {D:Ends} {σ:St} {H:Hp} (Pv:St->Hp->Prop) (μ:St->Hp->Nat) (h0:Pv σ H)
    (hs:∀ σ H,Pv σ H->c σ H fun b H1=>if b=true then tb { D with nx:=fun σ' H'=>Pv σ' H'/\μ σ' H' < μ σ H,ct:=fun σ' H'=>Pv σ' H'/\μ σ' H' < μ σ H,bk:=D.nx } σ H1 else D.nx σ H1)
    (mono:∀ σ H Q Q',(∀ b H1,Q b H1->Q' b H1)->c σ H Q->c σ H Q'):tWhile c tb D σ H:=by
  refine ⟨fun m σ H=>m=μ σ H/\Pv σ H,⟨_,rfl,h0⟩,?_⟩
  rintro m σ H ⟨rfl,p⟩
  refine mono σ H _ _ (fun b H1 q=>?_) (hs σ H p)
  cases b with
  | true=>exact ⟨_,fun σ' H' ⟨p',l⟩=>⟨_,l,rfl,p'⟩,q⟩
  | false=>exact q
end L2
namespace L2
open PySem PySem.Spec PyProof.Rows
noncomputable abbrev R2:=V->V->Hp->VK->Prop
noncomputable def OpR (X:Cx) (f:Value->Value->Sem Value) (r:R2):Prop :=
  ∀ (pins:List (Addr × Obj)) (s:Shared) (σ:St) (H:Hp) (x y:V) (v u:Value) (Q:VK),Inv X pins σ H s->RelV x v->RelV y u->r x y H Q ->
    wpAny (model X.prog X.w) X.A (f v u) (EP X pins σ Q) X.xe s
noncomputable def UnR (X:Cx) (f:Value->Sem Value) (r:V->Hp->VK->Prop):Prop :=
  ∀ (pins:List (Addr × Obj)) (s:Shared) (σ:St) (H:Hp) (x:V) (v:Value) (Q:VK),Inv X pins σ H s->RelV x v->r x H Q ->
    wpAny (model X.prog X.w) X.A (f v) (EP X pins σ Q) X.xe s
noncomputable def CallR (X:Cx) (f:Value) (r:List V->Hp->VK->Prop):Prop :=
  ∀ (pins:List (Addr × Obj)) (s:Shared) (σ:St) (H:Hp) (xs:List V) (us:List Value) (Q:VK),Inv X pins σ H s->Vals xs us->r xs H Q ->
    wpAny (model X.prog X.w) X.A (call f us) (EP X pins σ Q) X.xe s
noncomputable def tOp (r:R2) (ta tb:TE):TE:=fun σ H Q=>ta σ H fun x H1=>tb σ H1 fun y H2=>r x y H2 Q
noncomputable def tUn (r:V->Hp->VK->Prop) (ta:TE):TE:=fun σ H Q=>ta σ H fun x H1=>r x H1 Q
noncomputable def rI (C:Int->Int->Prop) (g:Int->Int->V):R2:=fun x y H Q=>∃ i j,x = .int i/\y = .int j/\C i j/\Q (g i j) H
noncomputable def rI0 (g:Int->Int->V):R2:=fun x y H Q=>∃ i j,x = .int i/\y = .int j/\Q (g i j) H
noncomputable def rU (g:Int->V):V->Hp->VK->Prop:=fun x H Q=>∃ i,x = .int i/\Q (g i) H
section
variable {X:Cx} {a b c:Expr} {ta tb tc:TE} {pos:Pos}
theorem binT (ha:PE X a ta) (hb:PE X b tb) {pins:List (Addr × Obj)} {s:Shared} {σ:St} {H:Hp} {R:V->V->Hp->Prop} (I:Inv X pins σ H s)
    (h:ta σ H fun x H1=>tb σ H1 fun y H2=>R x y H2) {Q:Value->Shared->Prop} {f:Value->Value->Sem Value}
    (hf:∀ v u s2 x y H2,Inv X pins σ H2 s2->RelV x v->RelV y u->R x y H2->wpAny (model X.prog X.w) X.A (f v u) Q X.xe s2) :
    wpAny (model X.prog X.w) X.A (eval a X.env) (fun v s₁=>wpAny (model X.prog X.w) X.A (eval b X.env) (fun u s₂=>wpAny (model X.prog X.w) X.A (f v u) Q X.xe s₂) X.xe s₁) X.xe s:=by
  refine thn (ha pins s σ H _ I h) fun v s1 ⟨x,H1,I1,r1,q1⟩=>?_
  refine thn (hb pins s1 σ H1 _ I1 q1) fun u s2 ⟨y,H2,I2,r2,q2⟩=>?_
  exact hf v u s2 x y H2 I2 r1 r2 q2
theorem pe_op {op:Operator} {r:R2} (ho:OpR X (binaryOp op) r) (ha:PE X a ta) (hb:PE X b tb):PE X (.BinOp a op b pos) (tOp r ta tb):=by
  intro pins s σ H Q I h
  exact wpAny_BinOp (binT ha hb I h fun v u s2 x y H2 I2 rx ry q=>ho pins s2 σ H2 x y v u Q I2 rx ry q)
theorem pe_un {op:UnaryOp} {r:V->Hp->VK->Prop} (ho:UnR X (unaryOp op) r) (ha:PE X a ta):PE X (.UnaryOp op a pos) (tUn r ta):=by
  intro pins s σ H Q I h
  exact UnaryOp_ (thn (ha pins s σ H _ I h) fun v s1 ⟨x,H1,I1,r1,q1⟩=>ho pins s1 σ H1 x v Q I1 r1 q1)
theorem opI {f:Value->Value->Sem Value} {C:Int->Int->Prop} {g:Int->Int->Int}
    (rule:∀ (i j:Int) (t u:Tok) (s:Shared) (Q:Value->Shared->Prop) (E:Value->Shared->Prop),C i j->Q (.int (g i j) s.toks) { s with toks:=s.toks + 1 }->wpAny (model X.prog X.w) X.A (f (.int i t) (.int j u)) Q E s) :
    OpR X f (rI C fun i j=>.int (g i j)):=by
  intro pins s σ H x y v u Q I rx ry h
  obtain ⟨i,j,rfl,rfl,hc,q⟩:=h
  obtain ⟨t,rfl⟩:=rx
  obtain ⟨t',rfl⟩:=ry
  exact rule i j t t' s _ _ hc ⟨.int (g i j),H,I.tok _,⟨_,rfl⟩,q⟩
theorem opI0 {f:Value->Value->Sem Value} {g:Int->Int->Int}
    (rule:∀ (i j:Int) (t u:Tok) (s:Shared) (Q:Value->Shared->Prop) (E:Value->Shared->Prop),Q (.int (g i j) s.toks) { s with toks:=s.toks + 1 }->wpAny (model X.prog X.w) X.A (f (.int i t) (.int j u)) Q E s) :
    OpR X f (rI0 fun i j=>.int (g i j)):=by
  intro pins s σ H x y v u Q I rx ry h
  obtain ⟨i,j,rfl,rfl,q⟩:=h
  obtain ⟨t,rfl⟩:=rx
  obtain ⟨t',rfl⟩:=ry
  exact rule i j t t' s _ _ ⟨.int (g i j),H,I.tok _,⟨_,rfl⟩,q⟩
theorem opB0 {f:Value->Value->Sem Value} {g:Int->Int->Bool}
    (rule:∀ (i j:Int) (t u:Tok) (s:Shared) (Q:Value->Shared->Prop) (E:Value->Shared->Prop),Q (.bool (g i j)) s->wpAny (model X.prog X.w) X.A (f (.int i t) (.int j u)) Q E s) :
    OpR X f (rI0 fun i j=>.bl (g i j)):=by
  intro pins s σ H x y v u Q I rx ry h
  obtain ⟨i,j,rfl,rfl,q⟩:=h
  obtain ⟨t,rfl⟩:=rx
  obtain ⟨t',rfl⟩:=ry
  exact rule i j t t' s _ _ ⟨.bl (g i j),H,I,rfl,q⟩
noncomputable def CPow (i j:Int):Prop:=0<=j/\j<=1000000/\i.natAbs < 2 ^ 64
noncomputable def CMul (i j:Int):Prop:=(-(2 ^ 64) < i/\i < 2 ^ 64)\/(-(2 ^ 64) < j/\j < 2 ^ 64)
theorem CMul.ok {i j:Int} (h:CMul i j):IntMulOk i j:=by
  rcases h with ⟨h1,h2⟩ | ⟨h1,h2⟩
  . exact .of_left (intBits_le_64 h1 h2)
  . exact .of_right (intBits_le_64 h1 h2)
theorem op_add:OpR X (binaryOp .Add) (rI0 fun i j=>.int (i + j)):=opI0 fun _ _ _ _ _ _ _ q=>add_int q
theorem op_sub:OpR X (binaryOp .Sub) (rI0 fun i j=>.int (i - j)):=opI0 fun _ _ _ _ _ _ _ q=>sub_int q
theorem op_mod:OpR X (binaryOp .Mod) (rI (fun _ j=>0 < j) fun i j=>.int (i % j)):=opI fun i j _ _ _ _ _ hc q=>by
  have h1:(0:Int) < j:=hc
  exact mod_int' (by omega) (by rw [Int.fmod_eq_emod_of_nonneg i (by omega)];exact q)
theorem op_pow:OpR X (binaryOp .Pow) (rI CPow fun i j=>.int (i ^ j.toNat)):=opI fun _ _ _ _ _ _ _ hc q=>pow_int_small hc.1 hc.2.1 hc.2.2 q
theorem unI {f:Value->Sem Value} {g:Int->Int}
    (rule:∀ (i:Int) (t:Tok) (s:Shared) (Q:Value->Shared->Prop) (E:Value->Shared->Prop),Q (.int (g i) s.toks) { s with toks:=s.toks + 1 }->wpAny (model X.prog X.w) X.A (f (.int i t)) Q E s) :
    UnR X f (rU fun i=>.int (g i)):=by
  intro pins s σ H x v Q I rx h
  obtain ⟨i,rfl,q⟩:=h
  obtain ⟨t,rfl⟩:=rx
  exact rule i t s _ _ ⟨.int (g i),H,I.tok _,⟨_,rfl⟩,q⟩
theorem un_neg:UnR X (unaryOp .USub) (rU fun i=>.int (-i)):=unI fun _ _ _ _ _ q=>neg_int q
end
noncomputable def scal:V->V->Bool
  | .non,.non=>true | .non,.int _=>true | .int _,.non=>true | .non,.bl _=>true | .bl _,.non=>true | .non,.str _=>true | .str _,.non=>true
  | .int _,.int _=>true | .bl _,.bl _=>true | .str _,.str _=>true | .byt _,.byt _=>true
  | .int _,.str _=>true | .str _,.int _=>true | .bl _,.str _=>true | .str _,.bl _=>true
  | _,_=>false
noncomputable def rEq:R2:=fun x y H Q=>scal x y=true/\Q (.bl (decide (x=y))) H
noncomputable def rNe:R2:=fun x y H Q=>scal x y=true/\Q (.bl (!decide (x=y))) H
theorem dec_int {i j:Int}:decide (V.int i=V.int j)=(i == j):=by
  rw [Bool.eq_iff_iff]
  simp
theorem dec_bl {i j:Bool}:decide (V.bl i=V.bl j)=(i == j):=by
  rw [Bool.eq_iff_iff]
  simp
theorem dec_str {i j:Str}:decide (V.str i=V.str j)=(i == j):=by
  rw [Bool.eq_iff_iff]
  simp
theorem dec_byt {i j:Array UInt8}:decide (V.byt i=V.byt j)=(i.toList == j.toList):=by
  rw [Bool.eq_iff_iff]
  cases i
  cases j
  simp
section
variable {X:Cx} {a b c:Expr} {ta tb tc:TE} {pos:Pos}
theorem fin_bl {pins:List (Addr × Obj)} {σ:St} {H:Hp} {s:Shared} {Q:VK} {k k':Bool} (I:Inv X pins σ H s) (q:Q (.bl k) H) (e:k=k'):EP X pins σ Q (.bool k') s:=by
  subst e
  exact ⟨.bl k,H,I,rfl,q⟩
theorem op_eq:OpR X (compareOp .Eq) rEq:=by
  intro pins s σ H x y v u Q I rx ry h
  obtain ⟨hs,q⟩:=h
  cases x with
  | non =>
    cases rx
    cases y with
    | non=>cases ry;exact PySem.EqNone.eq_none_none (fin_bl I q (by simp))
    | bl j=>cases ry;exact PySem.EqNone.eq_none_bool (fin_bl I q (by simp))
    | int j=>obtain ⟨t',rfl⟩:=ry;exact PySem.EqNone.eq_none_int (fin_bl I q (by simp))
    | str j=>obtain ⟨t',rfl⟩:=ry;exact PySem.EqNone.eq_none_str (fin_bl I q (by simp))
    | _=>exact absurd (show false=true from hs) Bool.false_ne_true
  | bl i =>
    cases rx
    cases y with
    | non=>cases ry;exact PySem.EqNone.eq_bool_none (fin_bl I q (by simp))
    | bl j=>cases ry;exact eq_bool (fin_bl I q dec_bl)
    | str j=>obtain ⟨t',rfl⟩:=ry;exact PySem.EqMixed.eq_bool_str (fin_bl I q (by simp))
    | _=>exact absurd (show false=true from hs) Bool.false_ne_true
  | int i =>
    obtain ⟨t,rfl⟩:=rx
    cases y with
    | non=>cases ry;exact PySem.EqNone.eq_int_none (fin_bl I q (by simp))
    | int j=>obtain ⟨t',rfl⟩:=ry;exact eq_int (fin_bl I q dec_int)
    | str j=>obtain ⟨t',rfl⟩:=ry;exact PySem.EqMixed.eq_int_str (fin_bl I q (by simp))
    | _=>exact absurd (show false=true from hs) Bool.false_ne_true
  | str i =>
    obtain ⟨t,rfl⟩:=rx
    cases y with
    | non=>cases ry;exact PySem.EqNone.eq_str_none (fin_bl I q (by simp))
    | bl j=>cases ry;exact PySem.EqMixed.eq_str_bool (fin_bl I q (by simp))
    | int j=>obtain ⟨t',rfl⟩:=ry;exact PySem.EqMixed.eq_str_int (fin_bl I q (by simp))
    | str j=>obtain ⟨t',rfl⟩:=ry;exact eq_str (fin_bl I q dec_str)
    | _=>exact absurd (show false=true from hs) Bool.false_ne_true
  | byt i =>
    obtain ⟨t,rfl⟩:=rx
    cases y with
    | byt j=>obtain ⟨t',rfl⟩:=ry;exact PySem.W.eq_bytes (fin_bl I q dec_byt)
    | _=>exact absurd (show false=true from hs) Bool.false_ne_true
  | _=>cases y <;> exact absurd (show false=true from hs) Bool.false_ne_true
theorem op_ne:OpR X (compareOp .NotEq) rNe:=by
  intro pins s σ H x y v u Q I rx ry h
  obtain ⟨hs,q⟩:=h
  cases x with
  | non =>
    cases rx
    cases y with
    | non=>cases ry;exact PySem.EqNone.ne_none_none (fin_bl I q (by simp))
    | bl j=>cases ry;exact PySem.EqNone.ne_none_bool (fin_bl I q (by simp))
    | int j=>obtain ⟨t',rfl⟩:=ry;exact PySem.EqNone.ne_none_int (fin_bl I q (by simp))
    | str j=>obtain ⟨t',rfl⟩:=ry;exact PySem.EqNone.ne_none_str (fin_bl I q (by simp))
    | _=>exact absurd (show false=true from hs) Bool.false_ne_true
  | bl i =>
    cases rx
    cases y with
    | non=>cases ry;exact PySem.EqNone.ne_bool_none (fin_bl I q (by simp))
    | bl j=>cases ry;exact ne_bool (fin_bl I q (congrArg not dec_bl))
    | str j=>obtain ⟨t',rfl⟩:=ry;exact PySem.EqMixed.ne_bool_str (fin_bl I q (by simp))
    | _=>exact absurd (show false=true from hs) Bool.false_ne_true
  | int i =>
    obtain ⟨t,rfl⟩:=rx
    cases y with
    | non=>cases ry;exact PySem.EqNone.ne_int_none (fin_bl I q (by simp))
    | int j=>obtain ⟨t',rfl⟩:=ry;exact ne_int (fin_bl I q (congrArg not dec_int))
    | str j=>obtain ⟨t',rfl⟩:=ry;exact PySem.EqMixed.ne_int_str (fin_bl I q (by simp))
    | _=>exact absurd (show false=true from hs) Bool.false_ne_true
  | str i =>
    obtain ⟨t,rfl⟩:=rx
    cases y with
    | non=>cases ry;exact PySem.EqNone.ne_str_none (fin_bl I q (by simp))
    | bl j=>cases ry;exact PySem.EqMixed.ne_str_bool (fin_bl I q (by simp))
    | int j=>obtain ⟨t',rfl⟩:=ry;exact PySem.EqMixed.ne_str_int (fin_bl I q (by simp))
    | str j=>obtain ⟨t',rfl⟩:=ry;exact ne_str (fin_bl I q (congrArg not dec_str))
    | _=>exact absurd (show false=true from hs) Bool.false_ne_true
  | byt i =>
    obtain ⟨t,rfl⟩:=rx
    cases y with
    | byt j=>obtain ⟨t',rfl⟩:=ry;exact PySem.W.ne_bytes (fin_bl I q (congrArg not dec_byt))
    | _=>exact absurd (show false=true from hs) Bool.false_ne_true
  | _=>cases y <;> exact absurd (show false=true from hs) Bool.false_ne_true
theorem op_lt:OpR X (compareOp .Lt) (rI0 fun i j=>.bl (decide (i < j))):=opB0 fun _ _ _ _ _ _ _ q=>lt_int q
theorem op_le:OpR X (compareOp .LtE) (rI0 fun i j=>.bl (decide (i<=j))):=opB0 fun _ _ _ _ _ _ _ q=>le_int q
theorem op_gt:OpR X (compareOp .Gt) (rI0 fun i j=>.bl (decide (j < i))):=opB0 fun _ _ _ _ _ _ _ q=>gt_int q
theorem op_isN:OpR X (compareOp .Is) (fun x y H Q=>y = .non/\Q (.bl (decide (x = .non))) H):=by
  intro pins s σ H x y v u Q I rx ry h
  obtain ⟨rfl,q⟩:=h
  cases ry
  refine is_none_gen (fin_bl I q ?_)
  cases x <;> first
    | (cases rx;rfl)
    | (obtain ⟨t,rfl⟩:=rx;rfl)
theorem nomark (b:Expr) {op:CmpOp} (h:op ≠ .In:=by decide) (h2:op ≠ .NotIn:=by decide):behindInMarks op b=false:=by
  have e1:(op == CmpOp.In)=false:=by cases op <;> first | rfl | exact absurd rfl h
  have e2:(op == CmpOp.NotIn)=false:=by cases op <;> first | rfl | exact absurd rfl h2
  cases b <;> simp [behindInMarks,e1,e2]
theorem pe_cmpR {op:CmpOp} {r:R2} (ho:OpR X (compareOp op) r) (ha:PE X a ta) (hb:PE X b tb) (hm:behindInMarks op b=false):PE X (.Compare a [op] [b] pos) (tOp r ta tb):=by
  intro pins s σ H Q I h
  exact wpAny_Compare1 (binT ha hb I h fun v u s2 x y H2 I2 rx ry q=>ho pins s2 σ H2 x y v u Q I2 rx ry q) hm
noncomputable def tTest (t:TE):TT:=fun σ H Q=>t σ H fun x H'=>∃ k,x = .bl k/\Q k H'
theorem pt_cmpR {op:CmpOp} {r:R2} (ho:OpR X (compareOp op) r) (ha:PE X a ta) (hb:PE X b tb) (hm:behindInMarks op b=false):PT X (.Compare a [op] [b] pos) (tTest (tOp r ta tb)):=by
  intro pins s σ H Q I h
  refine wpAny_isTrue_Compare1 (thn (ha pins s σ H _ I h) fun v s1 ⟨x,H1,I1,r1,q1⟩=>thn (hb pins s1 σ H1 _ I1 q1) fun u s2 ⟨y,H2,I2,r2,q2⟩ =>
    thn (ho pins s2 σ H2 x y v u _ I2 r1 r2 q2) fun c s3 ⟨z,H3,I3,r3,k,e,q3⟩=>?_) hm
  subst e
  cases r3
  exact wpAny_truthy_bool ⟨H3,I3,q3⟩
theorem line63:(sizeLine:Nat) < 2 ^ 63:=by rw [sizeLine_eq];decide
theorem vals1 {x:V} {us:List Value} (r:Vals [x] us):∃ u,us=[u]/\RelV x u:=by
  cases r with
  | cons r1 r2=>cases r2;exact ⟨_,rfl,r1⟩
theorem vals2 {x y:V} {us:List Value} (r:Vals [x,y] us):∃ u w',us=[u,w']/\RelV x u/\RelV y w':=by
  cases r with
  | cons r1 r2 =>
    cases r2 with
    | cons r3 r4=>cases r4;exact ⟨_,_,rfl,r1,r3⟩
theorem call_abs:CallR X (.builtin "abs") (fun xs H Q=>∃ i,xs=[.int i]/\Q (.int (if i < 0 then -i else i)) H):=by
  intro pins s σ H xs us Q I r h
  obtain ⟨i,rfl,q⟩:=h
  obtain ⟨u,rfl,t,rfl⟩:=vals1 r
  exact call_abs_int fun u tk=>⟨.int (if i < 0 then -i else i),H,I.tok _,⟨_,rfl⟩,q⟩
theorem call_max2 (hc:X.calm=true):CallR X (.builtin "max") (fun xs H Q=>∃ i j,xs=[.int i,.int j]/\Q (.int (if j > i then j else i)) H):=by
  intro pins s σ H xs us Q I r h
  obtain ⟨i,j,rfl,q⟩:=h
  obtain ⟨u,w',rfl,⟨t,rfl⟩,⟨t',rfl⟩⟩:=vals2 r
  refine max_two_ints (I.ok.hd hc) fun h' tk k=>⟨_,H,I.kept k,?_,q⟩
  by_cases hj:j > i
  . rw [if_pos hj,if_pos hj];exact ⟨_,rfl⟩
  . rw [if_neg hj,if_neg hj];exact ⟨_,rfl⟩
theorem call_int1:CallR X (.type "int") (fun xs H Q=>(∃ i,xs=[.int i]/\Q (.int i) H)\/∃ k,xs=[.bl k]/\Q (.int (if k then 1 else 0)) H):=by
  intro pins s σ H xs us Q I r h
  rcases h with ⟨i,rfl,q⟩ | ⟨k,rfl,q⟩
  . obtain ⟨u,rfl,t,rfl⟩:=vals1 r
    exact call_int_int ⟨.int i,H,I,⟨_,rfl⟩,q⟩
  . obtain ⟨u,rfl,r1⟩:=vals1 r
    cases r1
    exact call_int_bool ⟨.int (if k then 1 else 0),H,I.tok _,⟨_,rfl⟩,q⟩
end
end L2
namespace L2
open PySem PySem.Spec PyProof.Rows
structure ObjM (h:Heap) (x dx C:Addr) (mA:Str->Option Value):Prop where
  obj:h.get? x=some (PySem.W.instObj C dx)
  ns:h.Ns1 dx mA
  ne:dx ≠ x
theorem lookIn_ns {h:Heap} {dx:Addr} {mA:Str->Option Value} (n:h.Ns1 dx mA):∃ od,h.get? dx=some od/\∀ name,PySem.W.lookIn name od=some (mA name):=by
  obtain ⟨o,es,ep,ho,hd,hk,_,hm⟩:=n
  refine ⟨o,ho,fun name=>?_⟩
  have e:=hm name
  unfold nsFind findBy at e
  rw [<- Array.find?_toList] at e
  unfold PySem.W.lookIn
  rw [hd]
  dsimp only
  split
  . rename_i y q
    rw [q] at e
    exact congrArg some e
  . rename_i q
    rw [q] at e
    have a:es.toList.any (·.refKey)=false:=by
      rw [List.any_eq_false]
      intro y hy
      obtain ⟨z,t,hkey⟩:=hk y (Array.mem_toList_iff.mp hy)
      simp [DictEntry.refKey,hkey]
    have a':¬ es.toList.any (·.refKey)=true:=by rw [a];exact Bool.false_ne_true
    rw [if_neg a']
    exact congrArg some e
theorem ObjM.look {h:Heap} {x dx C:Addr} {mA:Str->Option Value} (I:ObjM h x dx C mA):∃ od,PySem.W.InstAt h x (PySem.W.instObj C dx) C (some od)/\∀ name,PySem.W.lookIn name od=some (mA name) :=
  let ⟨od,ho,hl⟩:=lookIn_ns I.ns
  ⟨od,⟨I.obj,rfl,rfl,ho⟩,hl⟩
section
variable {prog:Program} {w:World} {A:Around} {E:Value->Shared->Prop} {s:Shared} {K:PySem.W.Frag} {x dx C f:Addr} {mA:Str->Option Value} {name:Str} {v:Value}
end
section
variable {P:Program} {w:World} {H H':Hp} {h h':Heap} {a C dx:Addr} {fs:List (Str × V)}
theorem ins_get (hok:HOk P w H h) (e:H a=some (.ins C dx fs)):∃ mA,ObjM h a dx C mA/\(∀ f,RelO (fs.lookup f) (mA f))/\PySem.Within mA (fs.map (·.1))/\fs.length<=1000/\H dx=some (.own a):=by
  obtain ⟨d,z,ne,ob,mA,n,r,q⟩:=(show ObjOk P w H h a (.ins C dx fs) from hok a _ e)
  exact ⟨mA,⟨ob,n,ne⟩,r,q,z,d⟩
end
structure Cls (K:PySem.W.Frag) (C:Addr):Prop where
  pg:PySem.W.plainGet K C Str.empty=true
  hd:PySem.W.hasDictIn K C=true
  po:PySem.W.plainOver K C=true
  sa:PySem.W.findIn K (.ref C) "__setattr__" = some (some (.builtin "object.__setattr__"))
theorem Cls.get {K:PySem.W.Frag} {C:Addr} (c:Cls K C) (f:Str):PySem.W.plainGet K C f=true:=c.pg
structure Con (K:PySem.W.Frag) (C:Addr) (f:Str) (v:V) (u:Value):Prop where
  at_:PySem.W.findIn K (.ref C) f=some (some u)
  rel:RelV v u
  get:PySem.W.specialIn K u "__get__" = some none
  cp:PySem.W.copiedNames.contains f=false
section
variable {X:Cx} {pins:List (Addr × Obj)} {σ:St} {H:Hp} {s:Shared} {a C dx:Addr} {fs:List (Str × V)} {f:Str} {v:V} {A:Around} {E:Value->Shared->Prop}
end
section
variable {X:Cx} {o e value:Expr} {f:Str} {pos pos':Pos} {ta:TE}
end
section
variable {X:Cx} {pins:List (Addr × Obj)} {σ:St} {H:Hp} {s:Shared} {A:Around} {E:Value->Shared->Prop} {Q:Value->Shared->Prop} {c:Value} {b:Bool}
inductive TyOf (K:PySem.W.Frag) (H:Hp):V->Value->Prop where
  | non:TyOf K H .non (.type "NoneType")
  | bl (x:Bool):TyOf K H (.bl x) (.type "bool")
  | int (i:Int):TyOf K H (.int i) (.type "int")
  | str (x:Str):TyOf K H (.str x) (.type "str")
  | flt (x:UInt64):TyOf K H (.flt x) (.type "float")
  | lst {a:Addr} {xs:List V} (e:H a=some (.lst xs)):TyOf K H (.ref a) (.type "list")
  | frz {a:Addr} {o:Obj} {xs:List V} (e:H a=some (.frz o (.lst xs))):TyOf K H (.ref a) (.type "list")
  | tup {a:Addr} {xs:List V} (e:H a=some (.tup xs)):TyOf K H (.ref a) (.type "tuple")
  | dK {a:Addr} {kvs:List (Key × V)} (e:H a=some (.dK kvs)):TyOf K H (.ref a) (.type "dict")
  | dT {a:Addr} {kvs:List (List Key × V)} (e:H a=some (.dT kvs)):TyOf K H (.ref a) (.type "dict")
  | ins {a C dx:Addr} {fs:List (Str × V)} (e:H a=some (.ins C dx fs)) (cl:Cls K C) (ha:PySem.W.findIn K (.ref C) "__class__" = some (some (.builtin "object.__class__")))
      (hn:PySem.W.specialIn K (.builtin "object.__class__") "__get__" = some (some (.builtin "getset_descriptor.__get__"))) (htk:PySem.W.takesIn K (.builtin "object.__class__")=some true)
      (hm:PySem.W.mroIn K C (.type "object")=some true):TyOf K H (.ref a) (.ref C)
theorem isinst_ok {x:V} {u t:Value} (I:Inv X pins σ H s) (rx:RelV x u) (ty:TyOf X.K H x t) (e:PySem.W.kitOne X.K t c=some b) (h:∀ tk,Q (.bool b) { s with toks:=tk }) :
    wpAny (model X.prog X.w) A (call (.builtin "isinstance") [u,c]) Q E s:=by
  cases ty with
  | non=>cases (show u=Value.none from rx);exact PySem.W.kia_one PySem.W.kitx_none I.kIn True.intro e (fun z=>nomatch z) h
  | bl y=>cases (show u=Value.bool y from rx);exact PySem.W.kia_one PySem.W.kitx_bool I.kIn True.intro e (fun z=>nomatch z) h
  | int i=>obtain ⟨t,q⟩:=(show ∃ t,u=Value.int i t from rx);cases q;exact PySem.W.kia_one PySem.W.kitx_int I.kIn True.intro e (fun z=>nomatch z) h
  | str y=>obtain ⟨t,q⟩:=(show ∃ t,u=Value.str y t from rx);cases q;exact PySem.W.kia_one PySem.W.kitx_str I.kIn True.intro e (fun z=>nomatch z) h
  | flt y=>obtain ⟨t,q⟩:=(show ∃ t,u=Value.float y t from rx);cases q;exact PySem.W.kia_one PySem.W.kitx_float I.kIn True.intro e (fun z=>nomatch z) h
  | @lst a xs ea =>
    cases (show u=Value.ref a from rx)
    obtain ⟨_,_,n,_,h1⟩:=(show ObjOk X.prog X.w H s.heap a (.lst xs) from I.hok a _ ea)
    exact PySem.W.kia_one PySem.W.kitx_list I.kIn ⟨_,h1,rfl⟩ e (fun z=>nomatch z) h
  | @frz a ob xs ea =>
    cases (show u=Value.ref a from rx)
    obtain ⟨_,_,_,n,_,h1⟩:=(show ObjOk X.prog X.w H s.heap a (.frz ob (.lst xs)) from I.hok a _ ea)
    exact PySem.W.kia_one PySem.W.kitx_list I.kIn ⟨_,h1,rfl⟩ e (fun z=>nomatch z) h
  | @tup a xs ea =>
    cases (show u=Value.ref a from rx)
    obtain ⟨_,_,_,p⟩:=(show ObjOk X.prog X.w H s.heap a (.tup xs) from I.hok a _ ea)
    obtain ⟨o,h1,h2,_⟩:=p
    exact PySem.W.kia_one PySem.W.kitx_tuple I.kIn ⟨o,h1,h2⟩ e (fun z=>nomatch z) h
  | @dK a kvs ea =>
    cases (show u=Value.ref a from rx)
    obtain ⟨_,_,vs,_,p⟩:=(show ObjOk X.prog X.w H s.heap a (.dK kvs) from I.hok a _ ea)
    obtain ⟨o,es,ep,h1,h2,_⟩:=p
    exact PySem.W.kia_one PySem.W.kitx_dict I.kIn ⟨o,h1,h2.1⟩ e (fun z=>nomatch z) h
  | @dT a kvs ea =>
    cases (show u=Value.ref a from rx)
    obtain ⟨_,_,xs,_,o,es,ep,h1,h2,_⟩:=(show ObjOk X.prog X.w H s.heap a (.dT kvs) from I.hok a _ ea)
    exact PySem.W.kia_one PySem.W.kitx_dict I.kIn ⟨o,h1,h2.1⟩ e (fun z=>nomatch z) h
  | @ins a C dx fs ea cl ha hn htk hm =>
    cases (show u=Value.ref a from rx)
    obtain ⟨mA,O,_⟩:=ins_get I.hok ea
    obtain ⟨od,J,_⟩:=O.look
    exact PySem.W.kia_one (PySem.W.kitx_own (cl.get _) cl.hd ha hn htk hm) I.kIn J e (fun z=>nomatch z) h
end
end L2
namespace L2
open PySem PySem.Spec PyProof.Rows
structure Room (k:Nat) (A:Around):Prop where
  hd:A.handled=none
  dp:A.depth + 3 * k + 5 < recursionLimit
  un:A.units + 16 * k + 200 < cLine
theorem Room.mono {j k:Nat} {A:Around} (r:Room k A) (h:j<=k):Room j A:=⟨r.hd,by have:=r.dp;omega,by have:=r.un;omega⟩
theorem Room.deeper {k:Nat} {A:Around} (r:Room (k + 1) A) (env:Env):Room k (A.deeper env) :=
  ⟨r.hd,by have:=r.dp;show A.depth + 1 + 3 * k + 5 < _;omega,by have:=r.un;show A.units + 3 + 16 * k + 200 < _;omega⟩
theorem Room.depth {k:Nat} {A:Around} (r:Room k A):A.depth < recursionLimit:=by have:=r.dp;omega
theorem Room.units {k:Nat} {A:Around} (r:Room k A):A.units + 64 < cLine:=by have:=r.un;omega
theorem Room.units0 {k:Nat} {A:Around} (r:Room k A):A.units < cLine:=by have:=r.un;omega
noncomputable def tNil:TA:=fun _ H Q=>Q [] H
noncomputable def tCons (ta:TE) (tr:TA):TA:=fun σ H Q=>ta σ H fun x H1=>tr σ H1 fun xs H2=>Q (x :: xs) H2
section
variable {X:Cx} {e:Expr} {es:List Expr} {te:TE} {t:TA} {pos:Pos}
theorem pa_nil:PA X [] tNil:=fun _ _ _ _ H Q I h=>Calls.spliced_nil ⟨[],H,I,.nil,h⟩
theorem pa_cons (ha:PE X e te) (hr:PA X es t) (hs:starEach (e :: es) X.env=(false,eval e X.env) :: starEach es X.env:=by rfl):PA X (e :: es) (tCons te t):=by
  intro pos pins s σ H Q I h
  rw [hs]
  show wpAny _ _ (spliced ((false,eval e X.env) :: backTo pos (starEach es X.env))) _ _ s
  refine Calls.spliced_cons (thn (ha pins s σ H _ I h) fun u s1 ⟨x,H1,I1,r1,q1⟩=>?_)
  exact thn (hr pos pins s1 σ H1 _ I1 q1) fun us s2 ⟨xs,H2,I2,r2,q2⟩=>⟨x :: xs,H2,I2,.cons r1 r2,q2⟩
noncomputable def tTup (t:TA):TE:=fun σ H Q=>t σ H fun xs H1=>xs.length<=sizeLine/\∀ p,H1 p=none->Q (.ref p) (upd H1 p (.tup xs))
noncomputable def tLst (t:TA):TE:=fun σ H Q=>t σ H fun xs H1=>xs.length<=sizeLine/\∀ p,H1 p=none->Q (.ref p) (upd H1 p (.lst xs))
theorem pe_tup {x1} (h:PA X es t):PE X (.Tuple es x1 pos) (tTup t):=by
  intro pins s σ H Q I hq
  refine wpAny_Tuple_spliced (thn (h pos pins s σ H _ I hq) fun us s1 ⟨xs,H1,I1,r,z,q⟩=>⟨by rw [<- r.length];exact z,?_⟩)
  have hf:H1 s1.heap.objs.size=none:=I1.hok.fresh (Nat.le_refl _)
  refine ⟨.ref s1.heap.objs.size,upd H1 s1.heap.objs.size (.tup xs),I1.laid (t':=s1.toks) (fun b u e=>Heap.get?_push_of_some _ e) (Nat.le_refl _) ?_,rfl,q _ hf⟩
  exact ⟨z,us,r,⟨_,Heap.get?_push_size _ rfl,rfl,_,rfl⟩⟩
theorem pe_lst (h:PA X es t):PE X (.List es pos) (tLst t):=by
  intro pins s σ H Q I hq
  refine wpAny_List_spliced (thn (h pos pins s σ H _ I hq) fun us s1 ⟨xs,H1,I1,r,z,q⟩=>⟨by rw [<- r.length];exact z,?_⟩)
  have hf:H1 s1.heap.objs.size=none:=I1.hok.fresh (Nat.le_refl _)
  refine ⟨.ref s1.heap.objs.size,upd H1 s1.heap.objs.size (.lst xs),I1.laid (t':=s1.toks) (fun b u e=>Heap.get?_push_of_some _ e) (Nat.le_refl _) ?_,rfl,q _ hf⟩
  exact ⟨z,us,0,r,Heap.get?_push_size _ rfl⟩
end
noncomputable abbrev Sp:=List V->Hp->VK->XK->Prop
noncomputable abbrev CXT:=List Env->Hp->Shared->XK->Value->Shared->Prop
structure Env0 (P:Program) (w:World) (K:PySem.W.Frag) (mg:Str->Option Value) (base:Heap) (A:Around) (outer:List Env) (s:Shared) (H:Hp):Prop where
  frames:A.frames=some outer
  mod:Mod K mg base
  bs:∀ b o,base.get? b=some o->s.heap.get? b=some o/\H b=none
  bsz:base.objs.size<=s.heap.objs.size
  funs:s.heap.FunFrames base outer
  frf:∀ b ∈ frs outer,H b=none
  hok:HOk P w H s.heap
  bare:AllBare s.gens
noncomputable def CE (outer:List Env) (P:Program) (w:World) (H:Hp) (s:Shared) (Q:VK) (u:Value) (s':Shared):Prop :=
  ∃ v H',s'.os=s.os/\AllBare s'.gens/\Un (frs outer) [] H H' s.heap s'.heap/\HOk P w H' s'.heap/\RelV v u/\Q v H'
noncomputable def CR (CX:CXT) (outer:List Env) (P:Program) (w:World) (H:Hp) (s:Shared) (Q:VK) (E:XK) (r:Result) (s':Shared):Prop :=
  match r with
  | .ok (.ret u)=>CE outer P w H s Q u s'
  | .ok _=>False
  | .error e=>CX outer H s E e s'
structure FnOk (P:Program) (w:World) (K:PySem.W.Frag) (mg:Str->Option Value) (base:Heap) (CX:CXT) (k:Nat) (f:Addr) (fd:FuncData) (ps:List Str) (sp:Sp):Prop where
  len:∀ vs H Q E,sp vs H Q E->vs.length=ps.length
  run:∀ (A:Around) (outer:List Env) (s:Shared) (H:Hp) (args:Args) (us:List Value) (vs:List V) (Q:VK) (E:XK),Room k A->Env0 P w K mg base A outer s H->BindsTo s fd args (ps.zip us)->Vals vs us->sp vs H Q E ->
    codeAny (model P w) A (.call (.ref f) args) (CR CX outer P w H s Q E) s
section
variable {X:Cx} {pins:List (Addr × Obj)} {σ:St} {H:Hp} {s s':Shared}
theorem Inv.env0 (I:Inv X pins σ H s):Env0 X.prog X.w X.K X.mg X.base X.A X.stack s H :=
  ⟨I.ok.frames,I.ok.mod,I.bs,Nat.le_trans I.ok.bsz I.sz,I.stack,I.stkFree,I.hok,I.bare⟩
theorem Inv.after {Q:VK} {u:Value} (I:Inv X pins σ H s) (h:CE X.stack X.prog X.w H s Q u s'):EP X pins σ Q u s':=by
  obtain ⟨v,H',os,bare,un,hok,r,q⟩:=h
  obtain ⟨hh,g,d,t,os'⟩:=s'
  obtain rfl:os'=s.os:=os
  exact ⟨v,H',I.call (h':=hh) (g':=g) (d':=d) (t':=t) (ch:=[]) un hok bare (fun b z=>absurd z (by simp)),r,q⟩
end
noncomputable def tCall (sp:Sp) (dvs:List V) (E:XK) (t:TA):TE:=fun σ H Q=>t σ H fun vs H1=>sp (vs ++ dvs) H1 Q E
noncomputable def Binds (K:PySem.W.Frag) (fd:FuncData) (ps:List Str) (ds:List Value):Prop :=
  ∀ (s:Shared) (us:List Value),K.In s.heap->(us ++ ds).length=ps.length->BindsTo s fd ⟨us,[]⟩ (ps.zip (us ++ ds))
theorem Binds.all {K:PySem.W.Frag} {fd:FuncData} {ps:List Str} (h:∀ us:List Value,us.length=ps.length->bindArgs fd ⟨us,[]⟩=pure (ps.zip us)):Binds K fd ps []:=fun s us _ hl=>by
  rw [List.append_nil] at hl ⊢
  exact .of_eq (h us hl)
noncomputable def Passes (CX:CXT) (X:Cx) (E:XK):Prop:=∀ (pins:List (Addr × Obj)) (σ:St) (H:Hp) (s:Shared) (e:Value) (s':Shared),Inv X pins σ H s->CX X.stack H s E e s'->X.xe e s'
section
variable {X:Cx} {CX:CXT} {k:Nat} {f C:Addr} {fd:FuncData} {ps:List Str} {sp:Sp} {dvs:List V} {ds:List Value} {E:XK} {x m:Str} {p pos apos:Pos} {e o:Expr} {es:List Expr} {ta:TE} {t:TA}
theorem run_fn {pins:List (Addr × Obj)} {σ:St} {H:Hp} {s:Shared} {Q:VK} {us:List Value} {vs:List V} (F:FnOk X.prog X.w X.K X.mg X.base CX k f fd ps sp) (hr:Room k X.A) (hb:Binds X.K fd ps ds) (hd:Vals dvs ds) (hx:Passes CX X E)
    (I:Inv X pins σ H s) (r:Vals vs us) (h:sp (vs ++ dvs) H Q E):wpAny (model X.prog X.w) X.A (call (.ref f) us) (EP X pins σ Q) X.xe s:=by
  have r2:Vals (vs ++ dvs) (us ++ ds):=r.append hd
  have hl:(us ++ ds).length=ps.length:=by rw [<- r2.length];exact F.len _ _ _ _ h
  refine wpAny_call (codeAny_mono (F.run X.A X.stack s H ⟨us,[]⟩ (us ++ ds) (vs ++ dvs) Q E hr I.env0 (hb s us I.kIn hl) r2 h) fun r s' hq=>?_)
  cases r with
  | error e=>exact hx pins σ H s e s' I hq
  | ok fl =>
    cases fl with
    | ret u=>exact I.after hq
    | next=>exact False.elim hq
    | brk=>exact False.elim hq
    | cont=>exact False.elim hq
theorem pe_call (F:FnOk X.prog X.w X.K X.mg X.base CX k f fd ps sp) (hr:Room k X.A) (hg:Gl X x) (hm:X.mg x=some (.ref f)) (hk:PySem.W.keepIn X.K (.ref f)=true) (hb:Binds X.K fd ps ds) (hd:Vals dvs ds) (hx:Passes CX X E)
    (ha:PA X (e :: es) t) (hdb:(x == ("__debug__" : Str))=false:=by decide) (he:starEach (e :: es) X.env=(false,eval e X.env) :: starEach es X.env:=by rfl) (hpl:(backTo pos (starEach es X.env)).any (·.1)=false:=by rfl) :
    PE X (.Call (.Name x p) (e :: es) [] pos) (tCall sp dvs E t):=by
  intro pins s σ H Q I h
  refine wpAny_Call_Name_kw (ld_glob I hg hm ?_ hdb)
  refine PySem.W.callWith_K (h₀:=X.base) I.ok.mod.kin hk (thn (ha pos pins s σ H _ I h) fun us s1 ⟨vs,H1,I1,r,q⟩=>⟨I1.kIn,?_⟩) he hpl
  exact run_fn F hr hb hd hx I1 r q
end
section
variable {X:Cx} {CX:CXT} {k:Nat} {f C:Addr} {fd:FuncData} {ps:List Str} {sp:Sp} {E:XK} {x m:Str} {p pos apos:Pos} {e o:Expr} {es:List Expr} {te ta:TE} {t tk:TA} {nm:Option Str}
variable {g:List Value->List Value->List Value}
end
structure FnScope (N P:List Str) (sc:Scope):Prop where
  kind:sc.kind = .function
  co:sc.isCoroutine=false
  gen:sc.isGenerator=false
  nd:N.Nodup
  pre:N.take P.length=P
  par:∀ x ∈ P,sc.names.lookup x=some .local\/sc.names.lookup x=some .cell
  nofree:∀ y ∈ sc.names,y.2 ≠ .free
theorem bindL_out {kindOf:Str->Option NameKind} {x:Str}:∀ {binds:List (Str × Value)} {m:Str->Option Value},(∀ v,(x,v) ∉ binds)->bindL kindOf binds m x=m x
  | [],_,_=>rfl
  | (n,v) :: r,m,h=>by
    unfold bindL
    rw [bindL_out fun w hw=>h w (List.mem_cons_of_mem _ hw)]
    split
    . have:x ≠ n:=by rintro rfl;exact h v List.mem_cons_self
      simp [this]
    . rfl
theorem bindC_out {kindOf:Str->Option NameKind} {x:Str}:∀ {binds:List (Str × Value)} {m:Str->Option Value},(∀ v,(x,v) ∉ binds)->bindC kindOf binds m x=m x
  | [],_,_=>rfl
  | (n,v) :: r,m,h=>by
    unfold bindC
    rw [bindC_out fun w hw=>h w (List.mem_cons_of_mem _ hw)]
    split
    . rfl
    . have:x ≠ n:=by rintro rfl;exact h v List.mem_cons_self
      simp [this]
theorem bindL_get {kindOf:Str->Option NameKind} {x:Str} {v:Value}:∀ {P:List Str} {vs:List Value} {i:Nat} {m:Str->Option Value},P.Nodup->P[i]?=some x->vs[i]?=some v->kindOf x=some .local ->
    bindL kindOf (P.zip vs) m x=some v
  | [],_,_,_,_,h,_,_=>by simp at h
  | _ :: _,[],_,_,_,_,h,_=>by simp at h
  | p :: P,w :: vs,0,m,nd,h1,h2,hk=>by
    simp at h1 h2;subst h1;subst h2
    show bindL kindOf ((p,w) :: P.zip vs) m p=_
    unfold bindL
    rw [bindL_out fun v hv=>(List.nodup_cons.mp nd).1 (List.of_mem_zip hv).1,if_pos hk]
    simp
  | p :: P,w :: vs,i + 1,m,nd,h1,h2,hk=>by
    show bindL kindOf ((p,w) :: P.zip vs) m x=_
    unfold bindL
    exact bindL_get (i:=i) (List.nodup_cons.mp nd).2 (by simpa using h1) (by simpa using h2) hk
theorem bindC_get {kindOf:Str->Option NameKind} {x:Str} {v:Value}:∀ {P:List Str} {vs:List Value} {i:Nat} {m:Str->Option Value},P.Nodup->P[i]?=some x->vs[i]?=some v->kindOf x ≠ some .local ->
    bindC kindOf (P.zip vs) m x=some v
  | [],_,_,_,_,h,_,_=>by simp at h
  | _ :: _,[],_,_,_,_,h,_=>by simp at h
  | p :: P,w :: vs,0,m,nd,h1,h2,hk=>by
    simp at h1 h2;subst h1;subst h2
    show bindC kindOf ((p,w) :: P.zip vs) m p=_
    unfold bindC
    rw [bindC_out fun v hv=>(List.nodup_cons.mp nd).1 (List.of_mem_zip hv).1,if_neg hk]
    simp
  | p :: P,w :: vs,i + 1,m,nd,h1,h2,hk=>by
    show bindC kindOf ((p,w) :: P.zip vs) m x=_
    unfold bindC
    exact bindC_get (i:=i) (List.nodup_cons.mp nd).2 (by simpa using h1) (by simpa using h2) hk
noncomputable def start (N:List Str) (vs:List V):St:=vs.map some ++ List.replicate (N.length - vs.length) none
noncomputable def cxOf (CX:CXT) (P:Program) (w:World) (K:PySem.W.Frag) (mg:Str->Option Value) (base:Heap) (N:List Str) (qual:Str) (scope:Scope) (f:Addr) (cd:Value) (A:Around) (outer:List Env) (s:Shared) (H:Hp) (E:XK):Cx where
  prog:=P
  w:=w
  K:=K
  mg:=mg
  base:=base
  A:=A.deeper (envOfC qual scope s.heap.objs.size f cd)
  N:=N
  s₀:=s
  H₀:=H
  env:=envOfC qual scope s.heap.objs.size f cd
  outer:=outer
  stack:=envOfC qual scope s.heap.objs.size f cd :: outer
  ex:=[]
  calm:=true
  fn:=fun _=>true
  pn:=[]
  xe:=fun e s'=>wpAny (model P w) (A.deeper (envOfC qual scope s.heap.objs.size f cd)) (leaving (envOfC qual scope s.heap.objs.size f cd) e) (fun _ s''=>CX outer H s E e s'') (fun e' s''=>CX outer H s E e' s'') s'
theorem cell_has {sc:Scope} {n:Nat} {x:Str} (h:sc.names.lookup x=some .cell):∃ c,(cellsFrom n sc.names []).lookup x=some c:=by
  have q:=PySem.W.cellsFrom_some sc.names n [] (.inl h)
  exact Option.isSome_iff_exists.mp q
theorem inv_start {CX:CXT} {P:Program} {w:World} {K:PySem.W.Frag} {mg:Str->Option Value} {base:Heap} {N ps:List Str} {qual:Str} {scope:Scope} {f:Addr} {cd:Value} {A:Around} {outer:List Env} {s s1:Shared} {H:Hp} {E:XK} {us:List Value} {vs:List V}
    (S:FnScope N ps scope) (hd:A.handled=none) (e0:Env0 P w K mg base A outer s H) (hl:vs.length=ps.length) (r:Vals vs us)
    (x:InCallC s s.heap.objs.size (bindL (envOfC qual scope s.heap.objs.size f cd).kindOf (ps.zip us) fun _=>none) (cellsFrom (s.heap.objs.size + 1) scope.names []) (bindC (envOfC qual scope s.heap.objs.size f cd).kindOf (ps.zip us) fun _=>none) s1) :
    Inv (cxOf CX P w K mg base N qual scope f cd A outer s H E) [] (start N vs) H s1:=by
  have hpl:ps.length<=N.length:=by have:=congrArg List.length S.pre;rw [List.length_take] at this;omega
  obtain ⟨h1,tk,rfl,hk⟩:=x.done
  have noA:∀ b:Addr,b ∉ (cxOf CX P w K mg base N qual scope f cd A outer s H E).ex:=fun b z=>absurd (show b ∈ ([]:List Addr) from z) (by simp)
  refine ⟨⟨e0.mod,S.kind,rfl,rfl,Nat.le_refl _,fun y z c h1 h2=>?_,fun y hy=>?_,fun y c _ h=>?_,fun _=>hd,Around.frames_deeper e0.frames,.inr ⟨rfl,rfl⟩,fun b z=>absurd z (noA b),e0.bs,e0.bsz,fun b _ _=>noA b,fun b z=>absurd z (noA b),e0.funs,e0.frf⟩,
    rfl,e0.bare,Un.kept hk,⟨_,x.toInCall.ns,fun i y v h1 h2 h3=>?_⟩,fun y c h=>⟨_,x.cell y c h⟩,e0.hok.fresh (Nat.le_refl _),fun y c h=>?_,fun p hp=>absurd (show p ∈ ([]:List (Addr × Obj)) from hp) (by simp),e0.hok.kept hk,?_⟩
  . exact name_of_addr x.apart (PySem.mem_of_lookup h1) (PySem.mem_of_lookup h2)
  . have hy:scope.names.lookup y=some .cell\/scope.names.lookup y=some .free:=hy
    rcases hy with hy | hy
    . exact cell_has hy
    . exact absurd rfl (S.nofree _ (PySem.mem_of_lookup hy))
  . exact Nat.le_of_lt (x.above y c (PySem.mem_of_lookup h))
  . have hi:i < vs.length:=by
      unfold start at h2
      by_cases hi:i < vs.length
      . exact hi
      . rw [List.getElem?_append_right (by simpa using hi)] at h2
        rw [List.getElem?_replicate] at h2
        split at h2 <;> cases h2
    have ha:vs[i]?=some v:=by
      unfold start at h2
      rw [List.getElem?_append_left (by simpa using hi),List.getElem?_map] at h2
      cases e:vs[i]? with
      | none=>rw [e] at h2;cases h2
      | some a=>rw [e] at h2;cases h2;rfl
    obtain ⟨u,hu,rv⟩:=r.get ha
    have hp:ps[i]?=some y:=by
      rw [<- S.pre,List.getElem?_take_of_lt (by omega)];exact h1
    have ndP:ps.Nodup:=by rw [<- S.pre];exact S.nd.sublist (List.take_sublist _ _)
    refine ⟨u,rv,?_⟩
    rcases S.par y (List.mem_of_getElem? hp) with k | k
    . exact .inl ⟨k,bindL_get ndP hp hu k⟩
    . obtain ⟨c,e⟩:=cell_has (n:=s.heap.objs.size + 1) k
      refine .inr ⟨.inl k,c,e,?_⟩
      have q:=x.cell y c e
      rw [bindC_get ndP hp hu (by show scope.names.lookup y ≠ _;rw [k];decide)] at q
      exact q
  . exact e0.hok.fresh (Nat.le_of_lt (x.above y c (PySem.mem_of_lookup h)))
  . unfold start
    show _=N.length
    rw [List.length_append,List.length_map,List.length_replicate]
    omega
theorem fn_of {CX:CXT} {P:Program} {w:World} {K:PySem.W.Frag} {mg:Str->Option Value} {base:Heap} {k:Nat} {f:Addr} {name qual:Str} {params:Arguments} {body:List Stmt} {scope:Scope} {dV kV doc pm cdv ct oc:Value} {an od:Option Addr}
    {osl:Array (Option Value)} {N ps:List Str} {sp:Sp} (lk:K.lookup f=some ⟨oc,od,.func (PySem.W.fnOf name qual params body scope dV kV doc pm an cdv ct),osl⟩) (hcd:PySem.W.codeIn K cdv qual=true) (S:FnScope N ps scope)
    (len:∀ vs H Q E,sp vs H Q E->vs.length=ps.length)
    (hbody:∀ (A:Around) (outer:List Env) (s:Shared) (H:Hp) (vs:List V) (Q:VK) (E:XK),Room k (A.deeper (envOfC qual scope s.heap.objs.size f cdv))->sp vs H Q E ->
      ∃ t,PSs (cxOf CX P w K mg base N qual scope f cdv A outer s H E) body t/\t { nx:=fun _ H'=>Q .non H',rt:=Q } (start N vs) H) :
    FnOk P w K mg base CX (k + 1) f (PySem.W.fnOf name qual params body scope dV kV doc pm an cdv ct) ps sp:=by
  refine ⟨len,fun A outer s H args us vs Q E hr e0 hb r hsp=>?_⟩
  have hl:=len _ _ _ _ hsp
  have KX:K.In s.heap:=e0.mod.kin.keeps fun b o e=>(e0.bs b o e).1
  have lim:s.heap.NoLimit:=e0.mod.nolimit.keeps fun b o e=>(e0.bs b o e).1
  have hkind:∀ y ∈ ps.zip us,scope.names.lookup y.1=some .local\/(scope.names.lookup y.1=some .cell/\((cellsFrom (s.heap.objs.size + 1) scope.names []).lookup y.1).isSome=true):=fun ⟨n,v⟩ hy=>by
    rcases S.par n (List.of_mem_zip hy).1 with q | q
    . exact .inl q
    . exact .inr ⟨q,PySem.W.cellsFrom_some _ _ _ (.inl q)⟩
  refine codeAny_call_function hr.depth (KX _ _ lk) rfl S.co S.gen rfl (PySem.W.codeRec_of KX hcd) (hb _ _ _ _ ?_)
  refine wpAny_newFunctionEnv_cells S.kind hkind fun env he s1 x=>?_
  subst he
  refine ⟨lim.keeps x.toInCall.keep,codeAny_func ?_⟩
  obtain ⟨t,ht,hq⟩:=hbody A outer s H vs Q E (hr.deeper _) hsp
  have I:Inv (cxOf CX P w K mg base N qual scope f cdv A outer s H E) [] (start N vs) H s1:=inv_start S hr.hd e0 hl r x
  refine wpAny_mono (ht [] s1 (start N vs) H _ I hq) (fun fl s' hs=>?_) fun e s' hs=>hs
  have fin:∀ {σ':St} {H':Hp} {v:V} {u:Value},Inv (cxOf CX P w K mg base N qual scope f cdv A outer s H E) [] σ' H' s'->RelV v u->Q v H'->CE outer P w H s Q u s' :=
    fun {σ' H' v u} J rv q=>⟨v,H',J.os,J.bare,J.base,J.hok,rv,q⟩
  cases fl with
  | ret u =>
    obtain ⟨v,σ',H',J,rv,q⟩:=hs
    exact fin J rv q
  | next =>
    obtain ⟨σ',H',J,q⟩:=hs
    exact fin (v:=V.non) (u:=Value.none) J rfl q
  | brk =>
    obtain ⟨_,_,_,q⟩:=hs
    exact False.elim q
  | cont =>
    obtain ⟨_,_,_,q⟩:=hs
    exact False.elim q
end L2
namespace L2
open PySem PySem.Spec PyProof.Rows
section
variable {X:Cx} {x:Str} {p pos:Pos} {e:Expr} {es:List Expr} {t:TA} {id T:String} {r:List V->Hp->VK->Prop}
noncomputable def tCB (r:List V->Hp->VK->Prop) (t:TA):TE:=fun σ H Q=>t σ H fun vs H1=>r vs H1 Q
theorem pe_callB (hc:CallR X (.builtin id) r) (hg:Gl X x) (hm:X.mg x=none) (hv:bootBuiltins x=some (.builtin id)) (ha:PA X (e :: es) t) (hn:x ≠ "__name__" := by decide) (hdb:(x == ("__debug__" : Str))=false:=by decide)
    (he:starEach (e :: es) X.env=(false,eval e X.env) :: starEach es X.env:=by rfl) (hpl:(backTo pos (starEach es X.env)).any (·.1)=false:=by rfl):PE X (.Call (.Name x p) (e :: es) [] pos) (tCB r t):=by
  intro pins s σ H Q I h
  refine wpAny_Call_Name_kw (ld_blt I hg hm hv ?_ hn hdb)
  exact PyProof.Rows.callWith_builtin1 (thn (ha pos pins s σ H _ I h) fun us s1 ⟨vs,H1,I1,r1,q1⟩=>hc pins s1 σ H1 vs us Q I1 r1 q1) he hpl
theorem pe_callTy (hc:CallR X (.type T) r) (hg:Gl X x) (hm:X.mg x=none) (hv:bootBuiltins x=some (.type T)) (ha:PA X (e :: es) t) (hn:x ≠ "__name__" := by decide) (hdb:(x == ("__debug__" : Str))=false:=by decide)
    (he:starEach (e :: es) X.env=(false,eval e X.env) :: starEach es X.env:=by rfl) (hpl:(backTo pos (starEach es X.env)).any (·.1)=false:=by rfl):PE X (.Call (.Name x p) (e :: es) [] pos) (tCB r t):=by
  intro pins s σ H Q I h
  refine wpAny_Call_Name_kw (ld_blt I hg hm hv ?_ hn hdb)
  exact PyProof.Rows.callWith_type1 (thn (ha pos pins s σ H _ I h) fun us s1 ⟨vs,H1,I1,r1,q1⟩=>hc pins s1 σ H1 vs us Q I1 r1 q1) he hpl
end
end L2
namespace HT
open PySem PyProof.Rows
noncomputable def lexLt:List Int->List Int->Bool
  | [],[]=>false
  | [],_ :: _=>true
  | _ :: _,[]=>false
  | x :: xs,y :: ys=>if x=y then lexLt xs ys else decide (x < y)
theorem lexLt_cons (x y:Int) (xs ys:List Int):lexLt (x :: xs) (y :: ys)=if x=y then lexLt xs ys else decide (x < y):=rfl
theorem lexLt_nil_nil:lexLt [] []=false:=rfl
theorem lexLt_nil_cons (y:Int) (ys:List Int):lexLt [] (y :: ys)=true:=rfl
theorem lexLt_cons_nil (x:Int) (xs:List Int):lexLt (x :: xs) []=false:=rfl
theorem eqAt_int (A:Around) (s:Shared) (a:Int) (t:Tok) (c:Int) (u:Tok):∃ e,SeqAt.EqAt A s (.int a t) (.int c u) e/\(e=true ↔ a=c) :=
  ⟨(a == c),SeqAt.EqAt.int_int a t c u,by simp⟩
theorem rcLt_int (A:Around) (s:Shared) (a:Int) (t:Tok) (c:Int) (u:Tok) (prog:Program) (w:World) (E:Value->Shared->Prop) (Q:Value->Shared->Prop) (h:Q (.bool (decide (a < c))) s) :
    wpAny (model prog w) A (richCompare .Lt (.int a t) (.int c u)) Q E s :=
  (PyProof.Rows.lt_int h:wpAny (model prog w) A (compareOp .Lt (.int a t) (.int c u)) Q E s)
section
open PySem.SeqAt
open PySem.AutoSeq1 (wpAny_loadPart')
open PySem.MeetsSeq PySem.MeetsSeq2 PySem.MeetsSeq3
theorem tuple_lt_ints (l b:Addr) (items items2:Array Value) (n n2:Nat) (dd dd2:Option Addr) (sl sl2:Array (Option Value)) (ns ms:List Int) (hi:IntsAre items.toList ns) (hj:IntsAre items2.toList ms) :
    Meets (Builtin.«tuple.__lt__» ⟨[.ref l,.ref b],[]⟩)
      (fun _ R s=>s.heap.get? l=some { cls:=.type "tuple",dict:=dd,data:=.seq items n,slots:=sl }/\s.heap.get? b=some { cls:=.type "tuple",dict:=dd2,data:=.seq items2 n2,slots:=sl2 } /\
        R (.ok (.ret (.bool (lexLt ns ms)))) s) :=
  .of_wp fun prog w A R s h=>by
    obtain ⟨hp,g,d,tk,os⟩:=s;obtain ⟨hl,hb,h⟩:=h
    have f2:=AutoSeq1.sub_tuple_tuple
    have z1:items.size=ns.length:=by rw [<- hi.length];simp
    have z2:items2.size=ms.length:=by rw [<- hj.length];simp
    wp_walk using wpAny_loadPart' hl,wpAny_loadPart' hb,wpAny_forIn_list _ (fun rest b s'=>b.1=none/\s'=⟨hp,g,d,tk,os⟩/\∃ (vs ws:List Value) (ns' ms':List Int),rest=vs.zip ws /\
      IntsAre vs ns'/\IntsAre ws ms'/\ns'.length + items2.size=ms'.length + items.size/\R (.ok (.ret (.bool (lexLt ns' ms')))) ⟨hp,g,d,tk,os⟩) _
    case turn =>
      rintro ⟨y,x⟩ rest b s' ⟨hb',rfl,vs,ws,ns',ms',hz,hvi,hwi,hlen,hR⟩
      cases hvi with
      | nil=>rw [List.zip_nil_left] at hz;cases hz
      | cons a t hvi' =>
        cases hwi with
        | nil=>rw [List.zip_nil_right] at hz;cases hz
        | cons c u hwi' =>
          rw [List.zip_cons_cons] at hz
          injection hz with hyx hrest
          injection hyx with hy hx
          subst hy hx
          rw [lexLt_cons] at hR
          simp only [List.length_cons] at hlen
          obtain ⟨e,he,hiff⟩:=eqAt_int A.in1 ⟨hp,g,d,tk,os⟩ a t c u
          refine wpAny_bind (he prog w _ _ ?_)
          cases e with
          | true =>
            rw [if_pos (hiff.mp rfl)] at hR
            wp_walk
            exact ⟨rfl,rfl,_,_,_,_,hrest,hvi',hwi',by omega,hR⟩
          | false =>
            rw [if_neg (fun q=>absurd (hiff.mpr q) Bool.false_ne_true)] at hR
            have hri:=rcLt_int A.in1 ⟨hp,g,d,tk,os⟩ a t c u prog w
            wp_walk using hri
            exact ⟨_,rfl,by simpa using hR⟩
    case fin =>
      rintro ⟨b1,b2⟩ s' ⟨hb',rfl,vs,ws,ns',ms',hz,hvi,hwi,hlen,hR⟩
      simp only at hb'
      subst hb'
      have hv:lexLt ns' ms'=decide (items.size < items2.size):=by
        cases hvi with
        | nil =>
          cases hwi with
          | nil =>
            simp only [List.length_nil] at hlen
            rw [lexLt_nil_nil]
            exact (decide_eq_false (by omega)).symm
          | cons c u hw =>
            simp only [List.length_nil,List.length_cons] at hlen
            rw [lexLt_nil_cons]
            exact (decide_eq_true (by omega)).symm
        | cons a t hv =>
          cases hwi with
          | nil =>
            simp only [List.length_nil,List.length_cons] at hlen
            rw [lexLt_cons_nil]
            exact (decide_eq_false (by omega)).symm
          | cons c u hw =>
            rw [List.zip_cons_cons] at hz
            cases hz
      rw [hv] at hR
      wp_walk
      exact ⟨_,rfl,by simpa [Builtin.Tuple.tupleCompareSizes] using hR⟩
    case h =>
      exact ⟨rfl,rfl,items.toList,items2.toList,ns,ms,rfl,hi,hj,by omega,h⟩
end
section
variable {prog:Program} {w:World} {A:Around} {E:Value->Shared->Prop} {s:Shared}
theorem lt_tupInts {l b:Addr} {items items2:Array Value} {ns ms:List Int} {Q:Value->Shared->Prop} (hl:IsTup s.heap l items) (hb:IsTup s.heap b items2) (hi:IntsAre items.toList ns) (hj:IntsAre items2.toList ms)
    (hu:A.units < cLine) (h:Q (.bool (lexLt ns ms)) s):wpAny (model prog w) A (compareOp .Lt (.ref l) (.ref b)) Q E s:=by
  obtain ⟨⟨cls,dd,data,sl⟩,ho,hc,n,hd⟩:=id hl
  obtain ⟨⟨cls2,dd2,data2,sl2⟩,ho2,hc2,n2,hd2⟩:=id hb
  simp only at hc hd hc2 hd2
  subst hc hd hc2 hd2
  exact richCompare_meets_room (op:=.Lt) ⟨_,ho,rfl⟩ ⟨_,ho2,rfl⟩ PySem.F.slot_tuple_lt PySem.F.entry_tuple_lt (PySem.F.args_tuple_lt_2 _ _) (tuple_lt_ints l b items items2 n n2 dd dd2 sl sl2 ns ms hi hj)
    ⟨ho,ho2,show Value.bool (lexLt ns ms) ≠ Value.notImplemented/\Q (.bool (lexLt ns ms)) s from ⟨(fun x=>nomatch x),h⟩⟩ hu
theorem cat_tup {t b:Addr} {vs ws:List Value} {Q:Value->Shared->Prop} (ht:IsTup s.heap t vs.toArray) (hb:IsTup s.heap b ws.toArray) (hv:vs ≠ [])
    (h1:ws=[]->Q (.ref t) s) (h2:ws ≠ []->Q (.ref s.heap.objs.size) { s with heap:=s.heap.push { cls:=.type "tuple",data:=.seq (vs ++ ws).toArray } })
    (hsz:vs.length + ws.length<=sizeLine):wpAny (model prog w) A (binaryOp .Add (.ref t) (.ref b)) Q E s:=by
  obtain ⟨⟨cls,dd,data,sl⟩,ho,hc,n,hd⟩:=id ht
  obtain ⟨⟨cls2,dd2,data2,sl2⟩,ho2,hc2,n2,hd2⟩:=id hb
  simp only at hc hd hc2 hd2
  subst hc hd hc2 hd2
  have e:vs.toArray ++ ws.toArray=(vs ++ ws).toArray:=by simp
  by_cases hw:ws=[]
  . exact concat_meets ⟨_,ho,rfl⟩ ⟨_,ho2,rfl⟩ noFill_tuple_add seq_tuple_add PySem.F.slot_tuple_add PySem.F.entry_tuple_add (PySem.F.args_tuple_add_2 _ _)
      (tuple_addW1 t b vs.toArray ws.toArray n n2 dd dd2 sl sl2 (by simpa using hv) (by simp [hw])) ⟨ho,ho2,h1 hw⟩
  . refine concat_meets ⟨_,ho,rfl⟩ ⟨_,ho2,rfl⟩ noFill_tuple_add seq_tuple_add PySem.F.slot_tuple_add PySem.F.entry_tuple_add (PySem.F.args_tuple_add_2 _ _)
      (tuple_addW2 t b vs.toArray ws.toArray n n2 dd dd2 sl sl2 (by simpa using hv) (by simpa using hw) (by rw [List.size_toArray,List.size_toArray];exact hsz)) ⟨ho,ho2,?_⟩
    rw [e]
    exact h2 hw
noncomputable def sIx (n d:Nat):Option Int->Nat
  | none=>d
  | some v=>if v < 0 then (v + (n:Int)).toNat else min v.toNat n
end
end HT
namespace L2
open PySem PySem.Spec PyProof.Rows
noncomputable abbrev TO:=St->Hp->(Option Int->Hp->Prop)->Prop
theorem intsAre_of {ns:List Int}:∀ {us:List Value},Vals (ns.map V.int) us->IntsAre us ns:=by
  induction ns with
  | nil=>intro us r;rw [List.map_nil] at r;cases r;exact .nil
  | cons n ns ih =>
    intro us r
    rw [List.map_cons] at r
    cases r with
    | cons r1 r2 =>
      obtain ⟨t,e⟩:=r1
      subst e
      exact .cons n t (ih r2)
section
variable {X:Cx} {e:Expr} {te:TE} {lo hi:Option Expr} {tl:TO} {pos p2:Pos}
noncomputable def SlR (X:Cx) (r:V->Option Int->Option Int->Hp->VK->Prop):Prop :=
  ∀ (pins:List (Addr × Obj)) (s:Shared) (σ:St) (H:Hp) (x:V) (v vl vu:Value) (lo hi:Option Int) (sl:Addr) (Q:VK),Inv X pins σ H s->RelV x v->s.heap.IsSliceOf sl vl vu .none->IsPart vl lo->IsPart vu hi->r x lo hi H Q ->
    ∃ T id,typeLookup (.type T) "__getitem__" = pure (some (.builtin id))/\s.TypeIs v T/\wpAny (model X.prog X.w) X.A (getItem v (.ref sl)) (EP X pins σ Q) X.xe s
noncomputable def cutV (xs:List V) (lo hi:Option Int):List V:=(xs.drop (HT.sIx xs.length 0 lo)).take (HT.sIx xs.length xs.length hi - HT.sIx xs.length 0 lo)
theorem cutV_length (xs:List V) (lo hi:Option Int):(cutV xs lo hi).length<=xs.length:=by
  unfold cutV
  rw [List.length_take,List.length_drop]
  omega
noncomputable def rLtT (K:PySem.W.Frag):R2:=fun x y H Q=>∃ a b ns ms,x = .ref a/\y = .ref b/\SqT K H a (ns.map V.int)/\SqT K H b (ms.map V.int)/\Q (.bl (HT.lexLt ns ms)) H
theorem op_ltT (hu:X.A.units < cLine):OpR X (compareOp .Lt) (rLtT X.K):=by
  intro pins s σ H x y v u Q I rx ry h
  obtain ⟨a,b,ns,ms,rfl,rfl,ha,hb,q⟩:=h
  cases rx
  cases ry
  obtain ⟨its,r1,p1,_⟩:=I.tuple ha
  obtain ⟨its2,r2,p2,_⟩:=I.tuple hb
  have i1:IntsAre its.toArray.toList ns:=intsAre_of r1
  have i2:IntsAre its2.toArray.toList ms:=intsAre_of r2
  exact HT.lt_tupInts p1 p2 i1 i2 hu ⟨.bl (HT.lexLt ns ms),H,I,rfl,q⟩
noncomputable def rCatT (K:PySem.W.Frag):R2:=fun x y H Q=>∃ a b xs ys,x = .ref a/\y = .ref b/\SqT K H a xs/\SqT K H b ys/\xs ≠ []/\xs.length + ys.length<=sizeLine /\
  (ys=[]->Q (.ref a) H)/\(ys ≠ []->∀ p,H p=none->Q (.ref p) (upd H p (.tup (xs ++ ys))))
theorem Vals.nil_iff {xs:List V} {us:List Value} (r:Vals xs us):us=[] ↔ xs=[]:=by
  cases r with
  | nil=>simp
  | cons _ _=>simp
theorem op_catT:OpR X (binaryOp .Add) (rCatT X.K):=by
  intro pins s σ H x y v u Q I rx ry h
  obtain ⟨a,b,xs,ys,rfl,rfl,ha,hb,hx,hz,q1,q2⟩:=h
  cases rx
  cases ry
  obtain ⟨its,r1,p1,_⟩:=I.tuple ha
  obtain ⟨its2,r2,p2,_⟩:=I.tuple hb
  refine HT.cat_tup p1 p2 (fun z=>hx (r1.nil_iff.mp z)) (fun z=>⟨.ref a,H,I,rfl,q1 (r2.nil_iff.mp z)⟩) (fun z=>?_) (by rw [<- r1.length, <- r2.length];exact hz)
  refine ⟨.ref s.heap.objs.size,_,I.laid (t':=s.toks) (o:=.tup (xs ++ ys)) (fun b ob q=>Heap.get?_push_of_some _ q) (Nat.le_refl _) ?_,rfl,q2 (fun w=>z (r2.nil_iff.mpr w)) _ (I.hok.fresh (Nat.le_refl _))⟩
  exact ⟨by rw [List.length_append];exact hz,_,r1.append r2,IsTup.new _ _⟩
end
end L2
namespace L2
open PySem PySem.Spec PyProof.Rows
noncomputable def ixN (n:Nat) (i:Int):Option Nat:=if 0<=i then (if i < n then some i.toNat else none) else if -(n:Int)<=i then some (i + n).toNat else none
noncomputable def atI {α:Type} (xs:List α) (i:Int):Option α:=(ixN xs.length i).bind fun j=>xs[j]?
theorem ixN_seq {n:Nat} {i:Int} {j:Nat} (h:ixN n i=some j):seqIndex? i n=some j/\j < n /\ -(n:Int)<=i/\i < n:=by
  unfold ixN at h
  by_cases h0:0<=i
  . rw [if_pos h0] at h
    by_cases h1:i < n
    . rw [if_pos h1] at h
      have e:i.toNat=j:=Option.some.inj h
      exact ⟨by rw [seqIndex_of h0 h1,e],by omega,by omega,h1⟩
    . rw [if_neg h1] at h;cases h
  . rw [if_neg h0] at h
    by_cases h1 : -(n:Int)<=i
    . rw [if_pos h1] at h
      have e:(i + n).toNat=j:=Option.some.inj h
      exact ⟨by rw [seqIndex_neg (by omega) h1,e],by omega,h1,by omega⟩
    . rw [if_neg h1] at h;cases h
theorem atI_get {α:Type} {xs:List α} {i:Int} {v:α} (h:atI xs i=some v):∃ j,seqIndex? i xs.length=some j/\xs[j]?=some v/\j < xs.length /\ -(xs.length:Int)<=i/\i < xs.length:=by
  unfold atI at h
  cases e:ixN xs.length i with
  | none=>rw [e] at h;cases h
  | some j =>
    rw [e] at h
    obtain ⟨h1,h2,h3,h4⟩:=ixN_seq e
    exact ⟨j,h1,h,h2,h3,h4⟩
theorem atI_nat {α:Type} {xs:List α} {j:Nat} {v:α} (h:xs[j]?=some v):atI xs (j:Int)=some v:=by
  have hj:j < xs.length:=(List.getElem?_eq_some_iff.mp h).1
  have e:ixN xs.length (j:Int)=some j:=by
    unfold ixN
    rw [if_pos (by omega),if_pos (by omega)];simp
  unfold atI;rw [e];exact h
noncomputable def PlainIx (b:Expr):Prop:=∀ o i,subscripted b false o i=operate [o,i] (getItem o i)
noncomputable def IxR (X:Cx) (r:R2):Prop :=
  ∀ (value slice:Expr) (pins:List (Addr × Obj)) (s:Shared) (σ:St) (H:Hp) (x y:V) (v u:Value) (Q:VK),Inv X pins σ H s->RelV x v->RelV y u->r x y H Q ->
    subscripted slice false v u=operate [v,u] (getItem v u)->wpAny (model X.prog X.w) X.A (subscriptTail value slice v u) (EP X pins σ Q) X.xe s
noncomputable def MtR (X:Cx) (id:String) (r:V->List V->Hp->VK->Prop):Prop :=
  ∀ (pins:List (Addr × Obj)) (s:Shared) (σ:St) (H:Hp) (x:V) (xs:List V) (v:Value) (us:List Value) (Q:VK),Inv X pins σ H s->RelV x v->Vals xs us->r x xs H Q ->
    wpAny (model X.prog X.w) X.A (call (.builtin id) (v :: us)) (EP X pins σ Q) X.xe s
section
variable {X:Cx} {a b:Expr} {ta tb:TE} {pos:Pos}
theorem pe_ix {r:R2} (hr:IxR X r) (ha:PE X a ta) (hb:PE X b tb) (hs:PlainIx b):PE X (.Subscript a b pos) (tOp r ta tb):=by
  intro pins s σ H Q I h
  exact Subscript_ (binT ha hb I h fun v u s2 x y H2 I2 rx ry q=>hr a b pins s2 σ H2 x y v u Q I2 rx ry q (hs _ _))
noncomputable def rIxL (K:PySem.W.Frag):R2:=fun x y H Q=>∃ p xs i v,x = .ref p/\y = .int i/\SqL K H p xs/\atI xs i=some v/\Q v H
noncomputable def rIxT (K:PySem.W.Frag):R2:=fun x y H Q=>∃ p xs i v,x = .ref p/\y = .int i/\SqT K H p xs/\atI xs i=some v/\Q v H
theorem ix_list:IxR X (rIxL X.K):=by
  intro value slice pins s σ H x y v u Q I rx ry h hs
  obtain ⟨p,xs,i,z,rfl,rfl,hq,he,q⟩:=h
  cases rx
  obtain ⟨t,rfl⟩:=ry
  obtain ⟨its,r,pl,hz⟩:=I.list hq
  obtain ⟨j,h1,h2,h3,h4,h5⟩:=atI_get he
  obtain ⟨w,ew,rw'⟩:=r.get h2
  have hl:=r.length
  have hn:=line63
  have fin:EP X pins σ Q w s:=⟨z,H,I,rw',q⟩
  by_cases h0:0<=i
  . have hj:i.toNat=j:=by
      rw [seqIndex_of h0 h5] at h1
      exact Option.some.inj h1
    exact item_listR pl.isList h0 (by omega) (by rw [hj];simpa using ew) fin hs
  . have hj:(i + (its.toArray.size:Int)).toNat=j:=by
      rw [seqIndex_neg (by omega) h4] at h1
      rw [List.size_toArray, <- hl]
      exact Option.some.inj h1
    exact subscriptTail_builtinR (x:=w) pl.isList.typeIs slot_list_getitem.lookup
      (wpAny_getItem_list_neg (Q:=fun r s'=>r=w/\EP X pins σ Q r s') pl.isList (by omega) (by rw [List.size_toArray] <;> omega) (by omega) (by rw [hj];simpa using ew) ⟨rfl,fin⟩) hs
theorem ix_tup:IxR X (rIxT X.K):=by
  intro value slice pins s σ H x y v u Q I rx ry h hs
  obtain ⟨p,xs,i,z,rfl,rfl,hq,he,q⟩:=h
  cases rx
  obtain ⟨t,rfl⟩:=ry
  obtain ⟨its,r,pl,hz⟩:=I.tuple hq
  obtain ⟨j,h1,h2,h3,h4,h5⟩:=atI_get he
  obtain ⟨w,ew,rw'⟩:=r.get h2
  have hl:=r.length
  have hn:=line63
  have fin:EP X pins σ Q w s:=⟨z,H,I,rw',q⟩
  exact subscriptTail_builtinR (x:=w) pl.typeIs slot_tuple_getitem.lookup
    (getItem_tuple (j:=j) (Q:=fun r s'=>r=w/\EP X pins σ Q r s') pl (by omega) (by omega) (by rw [List.size_toArray, <- hl];exact h1) (by simpa using ew) ⟨rfl,fin⟩) hs
theorem mapSeq_set (its:List Value) (n j:Nat) (u:Value):Obj.mapSeq (·.setIfInBounds j u) { cls:=.type "list",data:=.seq its.toArray n }={ cls:=.type "list",data:=.seq (its.set j u).toArray n }:=by
  simp [Obj.mapSeq]
theorem Inv.lst {pins:List (Addr × Obj)} {σ:St} {H:Hp} {s:Shared} {p:Addr} {xs:List V} (I:Inv X pins σ H s) (h:H p=some (.lst xs)) :
    ∃ (its:List Value) (n:Nat),Vals xs its/\s.heap.get? p=some { cls:=.type "list",data:=.seq its.toArray n }/\xs.length<=sizeLine:=by
  obtain ⟨z,its,n,r,e⟩:=I.hok p _ h
  exact ⟨its,n,r,e,z⟩
theorem Inv.lstUpd {pins:List (Addr × Obj)} {σ:St} {H:Hp} {s:Shared} {p:Addr} {xs ys:List V} {its its':List Value} {n n':Nat} {f:Obj->Obj} (I:Inv X pins σ H s) (h:H p=some (.lst xs))
    (ho:s.heap.get? p=some { cls:=.type "list",data:=.seq its.toArray n }) (hf:f { cls:=.type "list",data:=.seq its.toArray n }={ cls:=.type "list",data:=.seq its'.toArray n' }) (r:Vals ys its') (hz:ys.length<=sizeLine) (t:Nat) :
    Inv X pins σ (upd H p (.lst ys)) { s with heap:=s.heap.update p f,toks:=t }:=by
  have e:(s.heap.update p f).get? p=some { cls:=.type "list",data:=.seq its'.toArray n' }:=by
    rw [Heap.get?_update_self f ho (by rw [hf] <;> rfl),hf]
  refine I.write (x:=p) (e:=p) (by rw [h];trivial) (.inl rfl) (fun b u hb q=>(Heap.get?_update_other _ _ (Ne.symm hb)).trans q) ⟨_,e⟩ ?_
  exact ⟨hz,its',n',r,e⟩
noncomputable def rSetL:V->V->V->Hp->(Hp->Prop)->Prop:=fun o i v H Q=>∃ p xs k j,o = .ref p/\i = .int k/\H p=some (.lst xs)/\ixN xs.length k=some j/\Q (upd H p (.lst (xs.set j v)))
theorem set_list:PSet X rSetL:=by
  intro pins s σ H o i v ov iv u Q I ro ri rv h
  obtain ⟨p,xs,k,j,rfl,rfl,hp,hj,q⟩:=h
  cases ro
  obtain ⟨t,rfl⟩:=ri
  obtain ⟨its,n,r,ho,hz⟩:=I.lst hp
  obtain ⟨h1,h2,h3,h4⟩:=ixN_seq hj
  have hl:=r.length
  have hn:=line63
  have I':Inv X pins σ (upd H p (.lst (xs.set j v))) { s with heap:=s.heap.update p (Obj.mapSeq (·.setIfInBounds j u)) } :=
    I.lstUpd hp ho (mapSeq_set its n j u) (r.set rv j) (by rw [List.length_set];exact hz) s.toks
  by_cases h0:0<=k
  . have hk:k.toNat=j:=by
      rw [seqIndex_of h0 h4] at h1
      exact Option.some.inj h1
    exact PySem.W.ki_setAt ho h0 (by omega) (by rw [List.size_toArray, <- hl];exact h4) (by rw [hk];exact ⟨_,I',q⟩)
  . have hk:(k + (its.toArray.size:Int)).toNat=j:=by
      rw [seqIndex_neg (by omega) h3] at h1
      rw [List.size_toArray, <- hl]
      exact Option.some.inj h1
    exact PySem.W.ki_setBack ho (by omega) (by rw [List.size_toArray, <- hl];exact h3) (by omega) (by rw [hk];exact ⟨_,I',q⟩)
theorem slice_bounds (lo hi:Option Int) (n:Nat):(sliceBounds lo hi none n).1=((HT.sIx n 0 lo:Nat):Int)/\(sliceBounds lo hi none n).2.1=((HT.sIx n n hi:Nat):Int)/\(sliceBounds lo hi none n).2.2=1:=by
  refine ⟨?_,?_,rfl⟩
  . cases lo with
    | none=>simp [sliceBounds,HT.sIx]
    | some i =>
      simp only [sliceBounds,HT.sIx,Option.getD_none,show (1:Int) > 0 by decide,if_true]
      by_cases h:i < 0
      . simp only [h,if_true] <;> omega
      . simp only [h,if_false] <;> omega
  . cases hi with
    | none=>simp [sliceBounds,HT.sIx]
    | some i =>
      simp only [sliceBounds,HT.sIx,Option.getD_none,show (1:Int) > 0 by decide,if_true]
      by_cases h:i < 0
      . simp only [h,if_true] <;> omega
      . simp only [h,if_false] <;> omega
theorem slicePick_cut (its:List Value) (lo hi:Option Int):slicePick its.toArray lo hi none=((its.drop (HT.sIx its.length 0 lo)).take (HT.sIx its.length its.length hi - HT.sIx its.length 0 lo)).toArray:=by
  obtain ⟨h1,h2,h3⟩:=slice_bounds lo hi its.toArray.size
  unfold slicePick
  rw [h1,h2,h3]
  simp only [sliceRange_one,pick_run,List.size_toArray] <;> rfl
noncomputable def rSlL (K:PySem.W.Frag):V->Option Int->Option Int->Hp->VK->Prop:=fun x lo hi H Q=>∃ a xs,x = .ref a/\SqL K H a xs/\∀ p,H p=none->Q (.ref p) (upd H p (.lst (cutV xs lo hi)))
theorem sl_list:SlR X (rSlL X.K):=by
  intro pins s σ H x v vl vu lo hi sl Q I rx hs pl pu h
  obtain ⟨a,xs,rfl,hx,q⟩:=h
  cases rx
  obtain ⟨its,r,ht,hz⟩:=I.list hx
  have hlen:=r.length
  refine ⟨"list",_,slot_list_getitem.lookup,ht.isList.typeIs,?_⟩
  refine wpAny_getItem_list_slice ht.isList hs pl pu .none (by simp) ?_ (by rw [List.size_toArray] <;> omega)
  rw [slicePick_cut, <- hlen]
  refine ⟨.ref s.heap.objs.size,_,I.laid (t':=s.toks) (o:=.lst (cutV xs lo hi)) (fun b ob q=>Heap.get?_push_of_some _ q) (Nat.le_refl _) ?_,rfl,q _ (I.hok.fresh (Nat.le_refl _))⟩
  exact ⟨Nat.le_trans (cutV_length xs lo hi) hz,_,0,(r.drop (HT.sIx xs.length 0 lo)).take (HT.sIx xs.length xs.length hi - HT.sIx xs.length 0 lo),Heap.get?_push_size _ rfl⟩
theorem call_len_seq:CallR X (.builtin "len") (fun xs H Q=>∃ p ys,xs=[.ref p]/\(SqL X.K H p ys\/SqT X.K H p ys)/\Q (.int ys.length) H):=by
  intro pins s σ H xs us Q I r h
  obtain ⟨p,ys,rfl,hq,q⟩:=h
  obtain ⟨u,rfl,rx⟩:=vals1 r
  cases rx
  have hn:=line63
  rcases hq with hq | hq
  . obtain ⟨its,r',pl,hz⟩:=I.list hq
    have hlen:=r'.length
    exact Calls.call_len_list pl.isList (by simp only [List.size_toArray] <;> omega) ⟨.int ys.length,H,I.tok _,⟨s.toks + 1,by rw [List.size_toArray,hlen]⟩,q⟩
  . obtain ⟨its,r',pl,hz⟩:=I.tuple hq
    have hlen:=r'.length
    exact len_tuple pl (by simp only [List.size_toArray] <;> omega) ⟨.int ys.length,H,I.tok _,⟨s.toks + 1,by rw [List.size_toArray,hlen]⟩,q⟩
theorem call_list_of:CallR X (.type "list") (fun xs H Q=>∃ p ys,xs=[.ref p]/\(SqL X.K H p ys\/SqT X.K H p ys)/\∀ l,H l=none->Q (.ref l) (upd H l (.lst ys))):=by
  intro pins s σ H xs us Q I r h
  obtain ⟨p,ys,rfl,hq,q⟩:=h
  obtain ⟨u,rfl,rx⟩:=vals1 r
  cases rx
  have fin:∀ (its:List Value),Vals ys its->ys.length<=sizeLine->∀ (h':Heap) (c':Nat),(∀ b o',s.heap.get? b=some o'->h'.get? b=some o') ->
      h'.get? s.heap.objs.size=some { cls:=.type "list",dict:=none,data:=.seq its.toArray c',slots := #[] }->EP X pins σ Q (.ref s.heap.objs.size) { s with heap:=h' }:=fun its r' hz h' c' kp e =>
    ⟨.ref s.heap.objs.size,_,I.laid (t':=s.toks) kp (Nat.le_refl _) (show ObjOk X.prog X.w _ h' _ (.lst ys) from ⟨hz,its,c',r',e⟩),rfl,q _ (I.hok.fresh (Nat.le_refl _))⟩
  rcases hq with hq | hq
  . obtain ⟨its,r',pl,hz⟩:=I.list hq
    have hlen:=r'.length
    obtain ⟨o,ho,hc,n,hd⟩:=pl.isList
    exact call_list_seq p (.inl rfl) ho hc hd (fun h' c' kp e=>fin its r' hz h' c' kp e) (by simp only [List.size_toArray] <;> omega)
  . obtain ⟨its,r',pl,hz⟩:=I.tuple hq
    have hlen:=r'.length
    obtain ⟨o,ho,hc,n,hd⟩:=pl
    exact call_list_seq p (.inr rfl) ho hc hd (fun h' c' kp e=>fin its r' hz h' c' kp e) (by simp only [List.size_toArray] <;> omega)
theorem call_tuple_of:CallR X (.type "tuple") (fun xs H Q=>∃ p ys,xs=[.ref p]/\((SqL X.K H p ys/\∀ l,H l=none->Q (.ref l) (upd H l (.tup ys)))\/(SqT X.K H p ys/\Q (.ref p) H))):=by
  intro pins s σ H xs us Q I r h
  obtain ⟨p,ys,rfl,h⟩:=h
  obtain ⟨u,rfl,rx⟩:=vals1 r
  cases rx
  rcases h with ⟨hq,q⟩ | ⟨hq,q⟩
  . obtain ⟨its,r',pl,hz⟩:=I.list hq
    have hlen:=r'.length
    refine call_tuple_list pl.isList (fun h' kp=>?_) (by simp only [List.size_toArray] <;> omega)
    have I1:Inv X pins σ H { s with heap:=h' }:=I.kept (t':=s.toks) kp
    have I2:Inv X pins σ (upd H h'.objs.size (.tup ys)) { s with heap:=h'.push { cls:=.type "tuple",data:=.seq its.toArray } } :=
      I1.laid (t':=s.toks) (fun b o e=>Heap.get?_push_of_some _ e) (Nat.le_refl _) (show ObjOk X.prog X.w _ _ _ (.tup ys) from ⟨hz,its,r',IsTup.new _ _⟩)
    exact ⟨.ref h'.objs.size,_,I2,rfl,q _ (I1.hok.fresh (Nat.le_refl _))⟩
  . obtain ⟨its,r',pl,hz⟩:=I.tuple hq
    exact call_tuple_same pl ⟨.ref p,H,I,rfl,q⟩
noncomputable def tyV (K:PySem.W.Frag) (T:String) (x:V) (H:Hp):Prop:=match x with
  | .str _=>T = "str"
  | .int _=>T = "int"
  | .ref p=>(T = "list" /\ ∃ xs,SqL K H p xs)\/(T = "tuple" /\ ∃ o,K.lookup p=some o/\o.cls = .type "tuple" /\ o.dict=none) \/
      (T = "dict" /\ ((∃ kvs,H p=some (.dK kvs))\/∃ kvs,H p=some (.dT kvs)))\/(T = "set" /\ ∃ S n,H p=some (.set S n))
  | _=>False
theorem tyV_is {pins:List (Addr × Obj)} {σ:St} {H:Hp} {s:Shared} {T:String} {x:V} {v:Value} (I:Inv X pins σ H s) (r:RelV x v) (ty:tyV X.K T x H) :
    s.TypeIs v T/\∀ a,v = .ref a->∃ ob,s.heap.get? a=some ob/\ob.dict=none:=by
  cases x with
  | str z =>
    obtain ⟨t,rfl⟩:=r
    cases (show T = "str" from ty)
    exact ⟨typeIs_str s z t,fun _ e=>nomatch e⟩
  | int i =>
    obtain ⟨t,rfl⟩:=r
    cases (show T = "int" from ty)
    exact ⟨typeIs_int s i t,fun _ e=>nomatch e⟩
  | ref p =>
    cases r
    rcases ty with ⟨rfl,xs,hq⟩ | ⟨rfl,o,hk,hc,hd⟩ | ⟨rfl,hk⟩ | ⟨rfl,S,n,hk⟩
    . obtain ⟨its,_,pl,_⟩:=I.list hq
      refine ⟨pl.isList.typeIs,fun a e=>?_⟩
      cases e
      obtain ⟨o,n,e,c,hd,_⟩:=pl
      exact ⟨o,e,hd⟩
    . refine ⟨⟨o,I.kIn p o hk,hc⟩,fun a e=>?_⟩
      cases e
      exact ⟨o,I.kIn _ o hk,hd⟩
    . have z:∃ o,s.heap.get? p=some o/\o.ExactDict:=by
        rcases hk with ⟨kvs,hk⟩ | ⟨kvs,hk⟩
        . obtain ⟨_,_,_,_,o,_,_,e,ex,_⟩:=I.hok p _ hk
          exact ⟨o,e,ex⟩
        . obtain ⟨_,_,_,_,o,_,_,e,ex,_⟩:=I.hok p _ hk
          exact ⟨o,e,ex⟩
      obtain ⟨o,e,ex⟩:=z
      refine ⟨⟨o,e,ex.1⟩,fun a e2=>?_⟩
      cases e2
      exact ⟨o,e,ex.2.1⟩
    . obtain ⟨o,_,_,_,e,ex,_⟩:=I.hok p _ hk
      refine ⟨⟨o,e,ex.1⟩,fun a e2=>?_⟩
      cases e2
      exact ⟨o,e,ex.2.1⟩
  | _=>exact False.elim ty
noncomputable def tBM (K:PySem.W.Frag) (T:String) (r:V->List V->Hp->VK->Prop) (to:TE) (t:TA):TE:=fun σ H Q=>to σ H fun x H1=>tyV K T x H1/\t σ H1 fun xs H2=>r x xs H2 Q
variable {o e:Expr} {es:List Expr} {to:TE} {t:TA} {name:Str} {apos cpos:Pos} {T id:String} {r:V->List V->Hp->VK->Prop}
theorem pe_bm (pa:PlainAttrs T) (slot:Slot T name id) (hty:typeOf (.builtin id)=pure (.type "method_descriptor")) (hm:MtR X id r) (ho:PE X o to) (ha:PA X (e :: es) t)
    (hbase:attributeBase o name X.env (eval o X.env)=eval o X.env:=by rfl)
    (hfew:((backTo cpos (starEach (e :: es) X.env)).all (fun x => !x.1) && (backToKw cpos (keywordEach [] X.env)).all (fun x=>x.1.isSome)
      && decide ((e :: es).length + ([]:List Keyword).length + (if ([]:List Keyword).isEmpty then 0 else 1) < 30))=true:=by rfl)
    (hline:(apos.endLine == cpos.line)=true:=by rfl) (hs:starEach (e :: es) X.env=(false,eval e X.env) :: starEach es X.env:=by rfl) (hplain:(backTo cpos (starEach es X.env)).any (·.1)=false:=by rfl) :
    PE X (.Call (.Attribute o name apos) (e :: es) [] cpos) (tBM X.K T r to t):=by
  intro pins s σ H Q I h
  refine wpAny_Call_method_late hbase hfew hline rfl (thn (ho pins s σ H _ I h) fun v s1 ⟨x,H1,I1,r1,ty,q1⟩=>?_)
  obtain ⟨h1,h2⟩:=tyV_is I1 r1 ty
  refine ⟨T,id,pa,slot,hty,h1,h2,?_⟩
  have hA:=ha cpos pins s1 σ H1 _ I1 q1
  rw [hs] at hA ⊢
  refine Calls.callWith_builtin (by show (false || (backTo cpos (starEach es X.env)).any (·.1))=false;rw [hplain] <;> rfl) (Calls.evalArgs_plain ?_)
  exact thn hA fun us s2 ⟨vs,H2,I2,r2,q2⟩=>hm pins s2 σ H2 x vs v us Q I2 r1 r2 q2
end
end L2
namespace L2
open PySem PySem.Spec PyProof.Rows
noncomputable def MtM (X:Cx) (id:String) (r:V->List V->Hp->VK->Prop):Prop :=
  ∀ (pins:List (Addr × Obj)) (s:Shared) (σ:St) (H:Hp) (x:V) (xs:List V) (v:Value) (us:List Value) (Q:VK),Inv X pins σ H s->RelV x v->Vals xs us->r x xs H Q ->
    wpAny (model X.prog X.w) X.A (call (.builtin id) (v :: us)) (EP X pins σ Q) X.xe s
theorem Vals.one:∀ {x:V} {us:List Value},Vals [x] us->∃ u,us=[u]/\RelV x u
  | _,_,.cons r .nil=>⟨_,rfl,r⟩
section
variable {X:Cx} {pins:List (Addr × Obj)} {σ:St} {H:Hp} {s:Shared} {l b:Addr} {xs ys:List V}
theorem Inv.lset {its its':List Value} {n:Nat} {f:Array Value->Array Value} {t':Nat} (I:Inv X pins σ H s) (hH:H l=some (.lst xs))
    (e:s.heap.get? l=some { cls:=.type "list",data:=.seq its.toArray n }) (hf:f its.toArray=its'.toArray) (hv:Vals ys its') (hz:ys.length<=sizeLine) :
    Inv X pins σ (upd H l (.lst ys)) { s with heap:=s.heap.update l (Obj.mapSeq f),toks:=t' }:=by
  have q:=PySem.IsL.update e f
  rw [hf] at q
  refine I.write (x:=l) (e:=l) (by rw [hH];exact trivial) (.inl rfl) (fun b' u hb hu=>(Heap.get?_update_other s.heap (Obj.mapSeq f) (Ne.symm hb)).trans hu) ⟨_,q⟩ ?_
  exact ⟨hz,its',_,hv,q⟩
theorem Inv.lnew {its:List Value} {t':Nat} (I:Inv X pins σ H s) (hv:Vals ys its) (hz:ys.length<=sizeLine) :
    Inv X pins σ (upd H s.heap.objs.size (.lst ys)) { s with heap:=s.heap.push { cls:=.type "list",data:=.seq its.toArray },toks:=t' } :=
  I.laid (fun _ _ q=>Heap.get?_push_of_some _ q) (Nat.le_refl _) ⟨hz,its,0,hv,Heap.get?_push_size _ rfl⟩
theorem Inv.fresh (I:Inv X pins σ H s):H s.heap.objs.size=none:=I.hok.fresh (Nat.le_refl _)
theorem Inv.lstM (I:Inv X pins σ H s) (hH:H l=some (.lst xs)):xs.length<=sizeLine/\∃ (its:List Value) (n:Nat),Vals xs its/\xs.length=its.length/\s.heap.get? l=some { cls:=.type "list",data:=.seq its.toArray n }:=by
  obtain ⟨z,its,n,r,e⟩:=I.hok l _ hH
  exact ⟨z,its,n,r,r.length,e⟩
end
section
variable {X:Cx}
noncomputable def rAppend:V->List V->Hp->VK->Prop:=fun x vs H Q=>∃ l xs y,x = .ref l/\vs=[y]/\H l=some (.lst xs)/\xs.length < sizeLine/\Q .non (upd H l (.lst (xs ++ [y])))
theorem mt_append:MtM X "list.append" rAppend:=by
  intro pins s σ H x vs v us Q I rx rv h
  obtain ⟨l,xs,y,rfl,rfl,hH,hz,q⟩:=h
  cases rx
  obtain ⟨u,rfl,ru⟩:=rv.one
  obtain ⟨z,its,n,r,hl,e⟩:=I.lstM hH
  refine call_meets F.slot_list_append ⟨_,e,rfl⟩ F.entry_list_append (F.args_list_append_2 _ _) (PySem.list_append l its.toArray n u (by rw [List.size_toArray];omega)) ⟨e,?_⟩
  refine ⟨.non,_,I.lset (its':=its ++ [u]) hH e (by simp) (r.append (.cons ru .nil)) ?_,rfl,q⟩
  rw [List.length_append,List.length_singleton]
  omega
end
section
variable {prog:Program} {w:World} {A:Around} {E:Value->Shared->Prop} {s:Shared}
end
section
variable {X:Cx}
end
end L2
namespace Att
open PySem PySem.W PySem.Calls PyProof.Rows
theorem ints_of_wellAll {P:Params} {h:Heap}:∀ (ns:List Int) (vs:List Value),WellAll P h vs (ns.map WData.int)->IntsAre vs ns:=by
  intro ns
  induction ns with
  | nil =>
    intro vs w
    rw [List.map_nil] at w
    cases w
    exact .nil
  | cons n ns ih =>
    intro vs w
    rw [List.map_cons] at w
    cases w with
    | cons a b =>
      cases a
      exact .cons _ _ (ih _ b)
theorem script_of {l:OpenLaw} {n:Nat} (hn:l.most=some n) {P:Params} {h:Heap} {args:List WData} {vals:List Value}
    (hpre:l.row.toRowW.claim.pre args=true) (hwl:WellAll P h vals args) :
    ∃ a vs ns,vals=[Value.ref a]/\args=[WData.list (ns.map WData.int)]/\h.get? a=some { cls:=.type "list",data:=.seq vs.toArray }/\IntsAre vs ns/\ns.length<=n:=by
  have hsh:WShape.hasAll [] args [.list .int]=true:=(pre_splitW hpre).1
  have hc:l.pre.holds [] { args:=args }=true:=(pre_splitW hpre).2
  obtain ⟨d,r,rfl,h1,h2⟩:=hasAllW_cons hsh
  obtain rfl:=hasAllW_nil h2
  obtain ⟨xs,rfl,h3⟩:=hasW_list h1
  obtain ⟨ns,rfl⟩:=items_int h3
  have hlen:ns.length<=n:=by
    unfold OpenLaw.pre at hc
    have h4:(WTm.not (.lt (.lit (.int (n:Int))) (.len (.arg 0)))).holds [] { args:=[.list (ns.map .int)] }=true:=by
      have h4:=(holds_andW hc).1
      rw [hn] at h4
      exact h4
    have h5:=condW_of h4 (w_not (w_lt w_lit (w_len_list (w_arg rfl))))
    rw [List.length_map] at h5
    refine Nat.le_of_not_lt fun q=>?_
    have q':(n:Int) < ((ns.length:Nat):Int):=by omega
    first
      | (rw [decide_eq_true q'] at h5;exact absurd h5 (by decide))
      | (simp at h5;omega)
  cases hwl with
  | cons w1 w2 =>
    cases w2
    cases w1 with
    | list ho hall=>exact ⟨_,_,ns,rfl,rfl,ho,ints_of_wellAll ns _ hall,hlen⟩
theorem post_true (l:OpenLaw) (args:List WData):l.row.toRowW.claim.post args (.bool true) args=true :=
  postW_of (r:=l.row.toRowW) (X:=(true == true))
    (show WShape.has [] (.bool true) .bool=true by first | rfl | decide | simp [WShape.has,WShape.arms,WShape.armsAll])
    (show (WTm.eq .res (.lit (.bool true))).value [] { args:=args,res:=some (.bool true),after:=args }=some (.bool (true == true)) from w_eq_bool (w_res rfl) w_lit) rfl
section
variable {prog:Program} {w:World} {A:Around} {E:Value->Shared->Prop} {s:Shared} {K:Frag}
end
end Att
namespace L2
open PySem PySem.Spec PyProof.Rows
theorem vals_ints:∀ {vs:List Value} {ns:List Int},IntsAre vs ns->Vals (ns.map V.int) vs
  | _,_,.nil=>.nil
  | _,_,.cons n t h=>.cons ⟨t,rfl⟩ (vals_ints h)
noncomputable def Only (H:Hp):Prop:=∀ b,H b=none\/∃ o xs,H b=some (.frz o (.lst xs))
theorem law_call {P:Program} {w:World} {K:PySem.W.Frag} {mg mb:Str->Option Value} {CX:CXT} {k:Nat} {fa a:Addr} {fd:FuncData} {x:Str} {sp:Sp} {s₁:Shared} {vs:List Value} {ns:List Int}
    (KX:K.In s₁.heap) (hns:s₁.heap.Ns mainGlobals mg) (hb:s₁.heap.Ns builtinsNs mb) (hbb:∀ x:Str,x ≠ "__name__" -> mb x=bootBuiltins x) (hlim:s₁.heap.NoLimit) (hg:s₁.gens = #[])
    (ha:s₁.heap.get? a=some { cls:=.type "list",data:=.seq vs.toArray }) (hi:IntsAre vs ns) (hl:ns.length<=sizeLine) (hr:Room k callerA)
    (F:∀ base:Heap,K.In base->base.Ns mainGlobals mg->FnOk P w K mg base CX k fa fd [x] sp) (hbind:∀ (s:Shared) (u:Value),BindsTo s fd ⟨[u],[]⟩ [(x,u)])
    (hsp:∀ H:Hp,Only H->SqL K H a (ns.map V.int)->sp [.ref a] H (fun v _=>v = .bl true) fun _ _ _=>False)
    (hCX:∀ H e s',CX [] H s₁ (fun _ _ _=>False) e s'->False) :
    codeAny (model P w) callerA (.call (.ref fa) ⟨[.ref a],[]⟩) (fun r s'=>r = .ok (.ret (.bool true))/\OldK s₁.heap s'.heap/\s'.os=s₁.os/\AllBare s'.gens) s₁:=by
  have rv:=vals_ints hi
  have lenV:=hi.length
  have core : ∀ H : Hp, Only H -> SqL K H a (ns.map V.int) -> HOk P w H s₁.heap -> (∀ b, H b ≠ none -> b = a) -> (H a ≠ none -> K.lookup a = none) ->
      codeAny (model P w) callerA (.call (.ref fa) ⟨[.ref a],[]⟩) (fun r s'=>r = .ok (.ret (.bool true))/\OldK s₁.heap s'.heap/\s'.os=s₁.os/\AllBare s'.gens) s₁:=by
    intro H hO hS hok hA hK
    have base_of:∀ {b:Addr} {o:Obj},s₁.heap.get? b=some o->H b=none->(hidT s₁.heap H).get? b=some o:=fun e n=>hidT_get e n
    have noA:∀ {b:Addr} {o:Obj} {es:Array DictEntry} {ep:Nat},s₁.heap.get? b=some o->o.data = .dict es ep->H b=none:=fun {b o es ep} e d=>by
      cases q:H b with
      | none=>rfl
      | some u =>
        have e':b=a:=hA b (by rw [q];simp)
        subst e'
        rw [ha] at e;cases e
        have d':Data.seq vs.toArray _=Data.dict es ep:=d
        cases d'
    have nsK:∀ {b:Addr} {m:Str->Option Value},s₁.heap.Ns b m->(hidT s₁.heap H).Ns b m:=fun {b m} ⟨o,es,ep,e,d,r⟩=>⟨o,es,ep,base_of e (noA e d),d,r⟩
    have hKb:K.In (hidT s₁.heap H):=fun b o e=>base_of (KX b o e) (by
      cases q:H b with
      | none=>rfl
      | some u =>
        have e':b=a:=hA b (by rw [q];simp)
        subst e'
        rw [hK (by rw [q];simp)] at e;cases e)
    have hM:Mod K mg (hidT s₁.heap H):=⟨hKb,nsK hns,⟨mb,nsK hb,hbb⟩,let ⟨mc,h1,h2⟩:=hlim;⟨mc,nsK h1,h2⟩⟩
    have e0:Env0 P w K mg (hidT s₁.heap H) callerA [] s₁ H:=⟨rfl,hM,fun b o e=>of_hidT e,Nat.le_of_eq (hidT_size _ _),trivial,fun b hb=>absurd (show b ∈ ([]:List Addr) from hb) (by simp),hok,.of_eq hg⟩
    refine codeAny_mono ((F _ hKb (nsK hns)).run callerA [] s₁ H ⟨[.ref a],[]⟩ [.ref a] [.ref a] _ _ hr e0 (hbind s₁ (.ref a)) (.cons rfl .nil) (hsp H hO hS)) fun r s' h=>?_
    cases r with
    | error e=>exact (hCX H e s' h).elim
    | ok fl =>
      cases fl with
      | next=>exact False.elim h
      | brk=>exact False.elim h
      | cont=>exact False.elim h
      | ret u =>
        obtain ⟨v,H',os,bare,un,hok',r',q⟩:=h
        have q':v = .bl true:=q
        subst q'
        obtain rfl:u=Value.bool true:=r'
        refine ⟨rfl,OldK.of_keep fun b o e=>?_,os,bare⟩
        cases q:H b with
        | none=>exact un.keep b o e q (by intro z;exact absurd (show b ∈ ([]:List Addr) from z) (by simp)) (by simp)
        | some u =>
          rcases hO b with z | ⟨ob,xs,z⟩
          . rw [q] at z;cases z
          . have z2:=un.frzs b ob _ z
            obtain ⟨e1,_⟩:=hok b _ z
            obtain ⟨e2,_⟩:=hok' b _ z2
            rw [e] at e1;cases e1
            exact e2
  cases hk:K.lookup a with
  | some o =>
    have e:=KX a o hk
    rw [ha] at e
    cases e
    refine core (fun _=>none) (fun _=>.inl rfl) (.inr ⟨_,vs.toArray,_,hk,rfl,rfl,rfl,by rw [List.size_toArray,lenV];exact hl,by simpa using rv⟩) (fun b u z=>by have z':(none:Option HO)=some u:=z;cases z') (fun b z=>absurd rfl z) fun z=>absurd rfl z
  | none =>
    refine core (fun b=>if b=a then some (.frz { cls:=.type "list",data:=.seq vs.toArray } (.lst (ns.map V.int))) else none) (fun b=>?_) (.inl (.inr ⟨{ cls:=.type "list",data:=.seq vs.toArray },if_pos rfl⟩)) (fun b u z=>?_) (fun b z=>?_) fun _=>hk
    . by_cases hb:b=a
      . exact .inr ⟨_,_,if_pos hb⟩
      . exact .inl (if_neg hb)
    . by_cases hb:b=a
      . have z':=(if_pos hb).symm.trans z
        cases z'
        subst hb
        exact ⟨ha,by rw [List.length_map];exact hl,vs,_,rv,ha⟩
      . have z':=(if_neg hb).symm.trans z
        cases z'
    . by_cases hb:b=a
      . exact hb
      . exact absurd (if_neg hb) z
end L2
namespace L2
open PySem PySem.Spec PyProof.Rows
end L2
namespace L2
open PySem PySem.Spec PyProof.Rows
noncomputable def defArgs (s:Stmt):Arguments:=match s with
  | .FunctionDef _ a _ _ _ _ _ _ _ _=>a
  | _=>{ posonlyargs:=[],args:=[],vararg:=none,kwonlyargs:=[],kw_defaults:=[],kwarg:=none,defaults:=[] }
noncomputable def defBody (s:Stmt):List Stmt:=match s with
  | .FunctionDef _ _ b _ _ _ _ _ _ _=>b
  | _=>[]
noncomputable def defScope (s:Stmt):Scope:=match s with
  | .FunctionDef _ _ _ _ _ _ sc _ _ _=>sc
  | _=>{ kind:=.function,names:=[],isGenerator:=false,isCoroutine:=false }
noncomputable abbrev CX0:CXT:=fun _ _ _ _ _ _=>False
noncomputable abbrev E0:XK:=fun _ _ _=>False
theorem pass0 {X:Cx}:Passes CX0 X E0:=fun _ _ _ _ _ _ _ h=>h.elim
structure Fun (K:PySem.W.Frag) (x qual:Str) (st:Stmt) (f:Addr) (fd:FuncData):Prop where
  ex:∃ (oc:Value) (od:Option Addr) (kV doc pm:Value) (an:Option Addr) (cdv ct:Value) (osl:Array (Option Value)),
    fd=PySem.W.fnOf x qual (defArgs st) (defBody st) (defScope st) .none kV doc pm an cdv ct/\K.lookup f=some ⟨oc,od,.func fd,osl⟩/\PySem.W.codeIn K cdv qual=true
  kp:PySem.W.keepIn K (.ref f)=true
section
variable {P:Program} {w:World} {K:PySem.W.Frag} {mg:Str->Option Value} {base:Heap}
theorem Fun.ok {x qual:Str} {st:Stmt} {f:Addr} {fd:FuncData} {N ps:List Str} {k:Nat} {sp:Sp} (F:Fun K x qual st f fd) (S:FnScope N ps (defScope st)) (len:∀ vs H Q E,sp vs H Q E->vs.length=ps.length)
    (hbody:∀ (cdv:Value) (A:Around) (outer:List Env) (s:Shared) (H:Hp) (vs:List V) (Q:VK) (E:XK),Room k (A.deeper (envOfC qual (defScope st) s.heap.objs.size f cdv))->sp vs H Q E ->
      ∃ t,PSs (cxOf CX0 P w K mg base N qual (defScope st) f cdv A outer s H E).nox (defBody st) t/\t { nx:=fun _ H'=>Q .non H',rt:=Q } (start N vs) H):FnOk P w K mg base CX0 (k + 1) f fd ps sp:=by
  obtain ⟨oc,od,kV,doc,pm,an,cdv,ct,osl,rfl,lk,hcd⟩:=F.ex
  refine fn_of lk hcd S len fun A outer s H vs Q E hr hsp=>?_
  obtain ⟨t,h,q⟩:=hbody cdv A outer s H vs Q E hr hsp
  exact ⟨t,h.nox,q⟩
theorem Fun.binds {x qual:Str} {st:Stmt} {f:Addr} {fd:FuncData} {ps:List Str} (F:Fun K x qual st f fd)
    (h:∀ (kV doc pm:Value) (an:Option Addr) (cdv ct:Value) (us:List Value),us.length=ps.length->bindArgs (PySem.W.fnOf x qual (defArgs st) (defBody st) (defScope st) .none kV doc pm an cdv ct) ⟨us,[]⟩=pure (ps.zip us)):Binds K fd ps []:=by
  obtain ⟨oc,od,kV,doc,pm,an,cdv,ct,osl,rfl,lk,hcd⟩:=F.ex
  exact .all (h kV doc pm an cdv ct)
theorem fun_mk {x qual:Str} {st:Stmt} {f:Addr} {oc:Value} {od an:Option Addr} {osl:Array (Option Value)} {kV doc pm cdv ct:Value} (l:K.lookup f=some ⟨oc,od,.func (PySem.W.fnOf x qual (defArgs st) (defBody st) (defScope st) .none kV doc pm an cdv ct),osl⟩)
    (c:PySem.W.codeIn K cdv qual=true) (k:PySem.W.keepIn K (.ref f)=true):Fun K x qual st f (PySem.W.fnOf x qual (defArgs st) (defBody st) (defScope st) .none kV doc pm an cdv ct):=⟨⟨oc,od,kV,doc,pm,an,cdv,ct,osl,rfl,l,c⟩,k⟩
end
theorem small1000 {n:Nat} (h:n<=1000):n < sizeLine:=Nat.lt_of_le_of_lt h (by decide)
section
variable {X:Cx}
end
theorem ite2 {c A B:Prop} [Decidable c] (h1:c->A) (h2:¬ c->B):if c then A else B:=by
  by_cases h:c
  . rw [if_pos h]
    exact h1 h
  . rw [if_neg h]
    exact h2 h
noncomputable def Same (H H':Hp):Prop:=∀ b o,H b=some o->H' b=some o
theorem Same.refl (H:Hp):Same H H:=fun _ _ h=>h
theorem Same.trans {H H1 H2:Hp} (a:Same H H1) (b:Same H1 H2):Same H H2:=fun c o h=>b c o (a c o h)
end L2
end
section
namespace L2
open PySem PySem.Spec PyProof.Rows
section
variable {κ:Type} [DecidableEq κ]
end
theorem kV_is {P:Program} {w:World} {k:Key} {u:Value} (r:RelV (kV k) u):(mixKind P w).is k u=true:=by
  cases k with
  | inl i=>obtain ⟨t,e⟩:=(show ∃ t,u=Value.int i t from r);subst e;exact mixKind_int P w i t
  | inr x=>obtain ⟨t,e⟩:=(show ∃ t,u=Value.str x t from r);subst e;exact mixKind_str P w x t
theorem items_are {P:Program} {w:World}:∀ {ks:List Key} {us:List Value},Vals (ks.map kV) us->ItemsAre (mixKind P w) ks us
  | [],_,r=>by rw [List.map_nil] at r;cases r;exact .nil
  | k :: ks,_,r=>by
    rw [List.map_cons] at r
    cases r with
    | cons h t=>exact .cons (kV_is h) (items_are t)
noncomputable abbrev KT (H:Hp):List (List Key × V)->List (List Key × Addr × Value)->Prop:=Paired fun p q=>p.1=q.1/\H q.2.1=some (.tup (p.1.map kV))/\RelV p.2 q.2.2
section
variable {P:Program} {w:World} {H:Hp} {h:Heap} {a:Addr}
theorem rd_of {u:HO} (ok:HOk P w H h) (e:Rd H a u):ObjOk P w H h a u:=e.ok ok
theorem key_of {ks:List Key} (ok:HOk P w H h) (e:H a=some (.tup (ks.map kV))):(tupleKind (mixKind P w)).is h ks a:=by
  obtain ⟨_,its,r,o,h1,h2,n,h3⟩:=(show ObjOk P w H h a (.tup (ks.map kV)) from ok a _ e)
  exact ⟨o,its.toArray,n,h1,h2,h3,by simpa using items_are r⟩
theorem dt_rd {kvs:List (List Key × V)} (ok:HOk P w H h) (e:Rd H a (.dT kvs)):kvs.length<=sizeLine/\(a == sysModules)=false /\
    ∃ xs,KT H kvs xs/\h.DictOfH (tupleKind (mixKind P w)) a xs:=by
  obtain ⟨z,y,xs,r,o,es,ep,h1,h2,h3,h4,h5⟩:=(show ObjOk P w H h a (.dT kvs) from rd_of ok e)
  refine ⟨z,y,xs,r,o,es,ep,h1,h2,h3,h4,fun x hx=>?_,h5⟩
  have all:∀ {l:List (List Key × V)} {m:List (List Key × Addr × Value)},KT H l m->∀ x ∈ m,(tupleKind (mixKind P w)).is h x.1 x.2.1:=by
    intro l m q
    induction q with
    | nil=>intro x hx;exact nomatch hx
    | @cons p q ps qs hq t ih =>
      intro x hx
      rcases List.mem_cons.mp hx with e | hx
      . subst e
        exact key_of ok (by rw [<- hq.1];exact hq.2.1)
      . exact ih x hx
  exact all r x hx
theorem dt_of {kvs:List (List Key × V)} (ok:HOk P w H h) (e:H a=some (.dT kvs)):kvs.length<=sizeLine/\(a == sysModules)=false /\
    ∃ xs,KT H kvs xs/\h.DictOfH (tupleKind (mixKind P w)) a xs:=dt_rd ok (.inl e)
end
section
variable {X:Cx} {pins:List (Addr × Obj)} {σ:St} {H:Hp} {s:Shared} {a:Addr} {y v:V} {u r:Value} {o:Option V} {A:Around} {E:Value->Shared->Prop}
theorem Inv.big (I:Inv X pins σ H s):sysModules < s.heap.objs.size:=by
  have h:mainGlobals < s.heap.objs.size:=(I.mod.glob.keeps I.bk).lt
  exact Nat.lt_trans (by decide) h
theorem d_write {h':Heap} {t':Nat} {ob:HO} (I:Inv X pins σ H s) (mu:Mut (H a)) (hs:Heap.SameBut a s.heap h') (he:∃ q,h'.get? a=some q) (new:ObjOk X.prog X.w (upd H a ob) h' a ob) :
    Inv X pins σ (upd H a ob) { s with heap:=h',toks:=t' } :=
  I.write (x:=a) (e:=a) mu (.inl rfl) (fun b q hb z=>(hs.2 b hb).trans z) he new
end
section
variable {X:Cx} {pins:List (Addr × Obj)} {σ:St} {H:Hp} {s:Shared} {a:Addr} {kvs:List (Key × V)} {k:Key} {u:Value} {A:Around} {E:Value->Shared->Prop}
end
noncomputable def NoSl (i:Expr):Prop:=∀ ov iv,subscripted i false ov iv=operate [ov,iv] (getItem ov iv)
theorem subD_of {prog:Program} {w:World} {A:Around} {E:Value->Shared->Prop} {s:Shared} {env:Env} {value slice:Expr} {pos:Pos} {T id:String} {Q:Value->Shared->Prop}
    (hl:typeLookup (.type T) "__getitem__" = pure (some (.builtin id))) (hs:NoSl slice)
    (h:wpAny (model prog w) A (eval value env) (fun o s₁=>wpAny (model prog w) A (eval slice env) (fun i s₂=>s₂.TypeIs o T/\wpAny (model prog w) A (getItem o i) Q E s₂) E s₁) E s) :
    wpAny (model prog w) A (eval (.Subscript value slice pos) env) Q E s:=by
  refine Subscript_ (wpAny_mono h (fun o s₁ h₁=>wpAny_mono h₁ (fun i s₂ h₂=>?_) fun _ _ x=>x) fun _ _ x=>x)
  obtain ⟨hT,h₂⟩:=h₂
  unfold subscriptTail
  refine wpAny_bind ?_
  rw [getitemInPython_of_ne hT.not_modules]
  refine wpAny_bind (wpAny_specialOf hT hl ?_)
  have fin:wpAny (model prog w) A (subscripted slice false o i) (fun r s₃=>wpAny (model prog w) A (letTemporaryGo value o r >>= fun _=>pure r) Q E s₃) E s₂:=by
    rw [hs o i]
    exact wpAny_operating (wpAny_mono h₂ (fun r s₃ h₃=>wpAny_bind (wpAny_letTemporaryGo (wpAny_pure h₃))) fun _ _ x=>x)
  first
    | exact wpAny_pure (wpAny_bind fin)
    | exact wpAny_bind (wpAny_pure (wpAny_bind fin))
    | exact wpAny_bind fin
section
variable {X:Cx} {o i e value:Expr} {pos:Pos} {tv:TE}
end
theorem dt_empty {P:Program} {w:World} {H:Hp} (h:Heap) (hb:sysModules < h.objs.size):ObjOk P w H (h.push { cls:=.type "dict",data:=.dict #[] }) h.objs.size (.dT []) :=
  ⟨Nat.zero_le _,beq_eq_false_iff_ne.mpr (Ne.symm (Nat.ne_of_lt hb)),[],.nil,_, #[],0,Heap.get?_push_size _ rfl,⟨rfl,rfl,rfl⟩,rfl,rfl,List.nodup_nil⟩
section
variable {X:Cx} {pos:Pos}
end
noncomputable def tPairs:List (TE × TE)->St->Hp->(List (V × V)->Hp->Prop)->Prop
  | [],_,H,Q=>Q [] H
  | (tk,tv) :: r,σ,H,Q=>tk σ H fun x H1=>tv σ H1 fun y H2=>tPairs r σ H2 fun ps H3=>Q ((x,y) :: ps) H3
noncomputable abbrev VV:List (V × V)->List (Value × Value)->Prop:=Paired fun p q=>RelV p.1 q.1/\RelV p.2 q.2
noncomputable def PPs (X:Cx) (pos:Pos) (keys:List (Option Expr)) (values:List Expr) (trs:List (TE × TE)):Prop :=
  ∀ (pins:List (Addr × Obj)) (s:Shared) (σ:St) (H:Hp) (Q:List (V × V)->Hp->Prop),Inv X pins σ H s->tPairs trs σ H Q ->
    wpAny (model X.prog X.w) X.A (evalPairs (pairTrees keys values X.env pos)) (fun vs s'=>∃ ps H',Inv X pins σ H' s'/\VV ps vs/\Q ps H') X.xe s
theorem pps_nil {X:Cx} {pos:Pos}:PPs X pos [] [] []:=fun pins s σ H Q I h=>pairTrees_nil_walk ⟨[],H,I,.nil,h⟩
theorem pps_cons {X:Cx} {pos:Pos} {k v:Expr} {ks:List (Option Expr)} {vs:List Expr} {tk tv:TE} {trs:List (TE × TE)} (hk:PE X k tk) (hv:PE X v tv) (hr:PPs X pos ks vs trs) :
    PPs X pos (some k :: ks) (v :: vs) ((tk,tv) :: trs):=fun pins s σ H Q I h =>
  pairTrees_cons_walk (thn (hk pins s σ H _ I h) fun u s1 ⟨x,H1,I1,rx,q1⟩=>thn (hv pins s1 σ H1 _ I1 q1) fun w2 s2 ⟨y,H2,I2,ry,q2⟩ =>
    thn (hr pins s2 σ H2 _ I2 q2) fun ws s3 ⟨ps,H3,I3,rel,q3⟩=>⟨(x,y) :: ps,H3,I3,.cons ⟨rx,ry⟩ rel,q3⟩)
structure M1 (X:Cx) (o:Expr) (m:Str) (apos:Pos) (e:Expr) (cpos:Pos):Prop where
  base:attributeBase o m X.env (eval o X.env)=eval o X.env
  few:((backTo cpos (starEach [e] X.env)).all (fun x => !x.1) && (backToKw cpos (keywordEach [] X.env)).all (fun x=>x.1.isSome)
    && decide (([e]:List Expr).length + ([]:List Keyword).length + (if ([]:List Keyword).isEmpty then 0 else 1) < 30))=true
  line:(apos.endLine == cpos.line)=true
  trees:backTo cpos (starEach [e] X.env)=[(false,eval e X.env)]
section
variable {X:Cx} {pins:List (Addr × Obj)} {σ:St} {H:Hp} {s:Shared} {a:Addr} {y:V} {u r:Value} {o:Option V} {A:Around} {E:Value->Shared->Prop}
end
section
variable {X:Cx} {o e:Expr} {apos cpos:Pos}
end
section
variable {X:Cx} {pins:List (Addr × Obj)} {σ:St} {H:Hp} {s:Shared} {a:Addr} {kvs:List (Key × V)} {A:Around} {E:Value->Shared->Prop}
end
section
variable {X:Cx} {pins:List (Addr × Obj)} {σ:St} {H:Hp} {s:Shared} {a:Addr} {y:V} {u:Value} {A:Around} {E:Value->Shared->Prop}
end
end L2
namespace L2
open PySem PySem.Spec PyProof.Rows
section
variable {X:Cx}
end
section
variable {κ:Type} [DecidableEq κ]
end
end L2
end
section
namespace L2
open PySem PySem.Spec PyProof.Rows
section
variable {prog:Program} {w:World} {A:Around} {R:Result->Shared->Prop} {s:Shared}
theorem compLoop_any {elt target iter:Expr} {ifs:List Expr} {scope:Scope} {pos:Pos} {it acc:Value} {env:Env} (I:Nat->Shared->Prop)
    (turn : ∀ n s, I n s -> wpAny (model prog w) A (pyNext it) (fun r s₁ => match r with
      | none=>R (.ok .next) s₁
      | some v=>wpAny (model prog w) A (letOwnedTupleGo target it v) (fun _ s₁=>wpAny (model prog w) A (assign target env v) (fun _ s₂ =>
          wpAny (model prog w) A (forIn ifs true fun c r=>if r=true then do let ok <- isTrue c env (eval c env);pure (ForInStep.yield ok) else pure (ForInStep.yield r)) (fun ok s₃ =>
            if ok=true then wpAny (model prog w) A (eval elt env) (fun x s₄ =>
              wpAny (model prog w) A (call (.builtin "list.append") [acc,x]) (fun _ s₅=>∃ m,m < n/\I m s₅) (fun _ _=>False) s₄) (fun _ _=>False) s₃
            else ∃ m,m < n/\I m s₃) (fun _ _=>False) s₂) (fun _ _=>False) s₁) (fun _ _=>False) s₁) (fun _ _=>False) s)
    (n:Nat) (h:I n s) :
    codeAny (model prog w) A (.compLoop (.ListComp elt [⟨target,iter,ifs,0⟩] scope pos) 0 it acc env) R s:=by
  refine codeAny_loop rfl I (fun n s hI=>?_) n h
  show wpAny _ A ((compTurn (.ListComp elt [⟨target,iter,ifs,0⟩] scope pos) 0 it acc env).onRaise (fun x=>do noteFrame x env;theTreesLotGoes x)) _ _ s
  refine wpAny_noted ?_
  rw [compTurn_list]
  refine wpAny_bind (wpAny_standAt (wpAny_bind (wpAny_mono (turn n s hI) (fun r s₁ h₁=>?_) fun _ _ h'=>h'.elim)))
  cases r with
  | none=>exact wpAny_pure h₁
  | some v =>
    refine wpAny_bind (wpAny_mono h₁ (fun _ s₁ h₁=>?_) fun _ _ h'=>h'.elim)
    refine wpAny_bind (wpAny_mono h₁ (fun _ s₂ h₂=>wpAny_bind (wpAny_mono h₂ (fun ok s₃ h₃=>?_) fun _ _ h'=>h'.elim)) fun _ _ h'=>h'.elim)
    cases ok with
    | false=>exact wpAny_pure ⟨rfl,h₃⟩
    | true =>
      exact wpAny_bind (wpAny_bind (wpAny_mono h₃ (fun x s₄ h₄=>wpAny_bind (wpAny_mono h₄ (fun _ s₅ h₅=>wpAny_pure (wpAny_pure ⟨rfl,h₅⟩)) fun _ _ h'=>h'.elim)) fun _ _ h'=>h'.elim))
end
noncomputable def clOf (cells:List (Str × Addr)):List (Str × NameKind)->List (Str × Addr)->List (Str × Addr)
  | [],acc=>acc
  | (n,k) :: r,acc=>clOf cells r (if k == .free then match cells.lookup n with | some c=>(n,c) :: acc | none=>acc else acc)
theorem closureFor_go {env:Env}:∀ (names:List (Str × NameKind)) (acc:List (Str × Addr)),(∀ y ∈ names,y.2 = .free->∃ c,env.cells.lookup y.1=some c) ->
    (forIn names acc (fun (x:Str × NameKind) (cs:List (Str × Addr))=>(if x.2 == .free then (do let a <- cellOf env x.1;pure (ForInStep.yield ((x.1,a) :: cs))) else pure (ForInStep.yield cs):Sem (ForInStep (List (Str × Addr))))))=pure (clOf env.cells names acc)
  | [],acc,_=>rfl
  | (n,k) :: r,acc,h=>by
    rw [List.forIn_cons]
    have hr:=fun a=>closureFor_go r a fun y hy=>h y (List.mem_cons_of_mem _ hy)
    by_cases hk:k = .free
    . subst hk
      obtain ⟨c,e⟩:=h (n,.free) List.mem_cons_self rfl
      have ec:cellOf env n=pure c:=by unfold cellOf;rw [e]
      simp only [beq_self_eq_true,if_true,ec,clOf,e]
      exact hr _
    . have hb:(k == NameKind.free)=false:=by simpa using hk
      simp only [hb,Bool.false_eq_true,if_false,clOf]
      exact hr _
theorem closureFor_eq {scope:Scope} {env:Env} (h:∀ y ∈ scope.names,y.2 = .free->∃ c,env.cells.lookup y.1=some c):closureFor scope env=pure (clOf env.cells scope.names []):=by
  have q:=closureFor_go (env:=env) scope.names [] h
  unfold closureFor
  show (forIn scope.names [] _ >>= fun cs=>pure cs)=_
  first
    | (rw [show (forIn scope.names [] _:Sem (List (Str × Addr)))=_ from q];rfl)
    | (erw [q];rfl)
end L2
end
section
namespace L2
open PySem PySem.Spec PyProof.Rows
noncomputable def maskS (y:Str):Str:=⟨#[0] ++ y.cps⟩
noncomputable def maskN (own N:List Str):List Str:=own ++ N.map fun y=>if own.contains y then maskS y else y
noncomputable def cxComp (X:Cx) (own:List Str) (scope:Scope) (C:Addr) (fp:List Addr) (s:Shared) (H:Hp):Cx :=
  { X with N:=maskN own X.N,s₀:=s,H₀:=H,env:=compEnvC scope (clOf X.env.cells scope.names []) C X.env,outer:=X.stack,stack:=X.stack,ex:=fp,fn:=fun x=>own.contains x,pn:=[],xe:=fun _ _=>False }
structure CompScope (own N:List Str) (sc scope:Scope):Prop where
  nd:(maskN own N).Nodup
  kind:scope.kind = .function
  nocell:∀ y ∈ scope.names,y.2 ≠ .cell
  loc:∀ y ∈ scope.names,y.2 = .local->scope.names.lookup y.1=some .local
  fr:∀ y ∈ scope.names,y.2 = .free->scope.names.lookup y.1=some .free
  up:∀ y ∈ scope.names,y.2 = .free->sc.names.lookup y.1=some .cell\/sc.names.lookup y.1=some .free
  ow:∀ x ∈ own,scope.names.lookup x=some .local
  mask:∀ x ∈ own,scope.names.lookup (maskS x)=none
  only:∀ y ∈ scope.names,y.2 = .local->y.1 ∈ own\/y.1 ∉ N
theorem lookup_mem {β:Type}:∀ {l:List (Str × β)} {x:Str} {k:β},l.lookup x=some k->(x,k) ∈ l
  | [],_,_,h=>by simp at h
  | (n,k') :: r,x,k,h=>by
    rw [List.lookup_cons] at h
    by_cases e:x=n
    . subst e;simp at h;subst h;exact List.mem_cons_self
    . have:(x == n)=false:=by simpa using e
      rw [this] at h
      exact List.mem_cons_of_mem _ (lookup_mem h)
theorem clOf_spec {cells:List (Str × Addr)}:∀ (names:List (Str × NameKind)) (acc:List (Str × Addr)) (x:Str) (c:Addr),(clOf cells names acc).lookup x=some c->(cells.lookup x=some c/\(x,NameKind.free) ∈ names)\/acc.lookup x=some c
  | [],acc,x,c,h=>.inr h
  | (n, k) :: r, acc, x, c, h => by
    rw [clOf] at h
    rcases clOf_spec r _ x c h with ⟨h1,h2⟩ | h1
    . exact .inl ⟨h1,List.mem_cons_of_mem _ h2⟩
    . by_cases hk:k = .free
      . subst hk
        simp only [beq_self_eq_true,if_true] at h1
        cases e:cells.lookup n with
        | none=>rw [e] at h1;exact .inr h1
        | some c' =>
          rw [e] at h1
          dsimp only at h1
          rw [List.lookup_cons] at h1
          by_cases ex:x=n
          . subst ex;simp at h1;subst h1;exact .inl ⟨e,List.mem_cons_self⟩
          . have:(x == n)=false:=by simpa using ex
            rw [this] at h1;exact .inr h1
      . have hb:(k == NameKind.free)=false:=by simpa using hk
        rw [hb] at h1;exact .inr h1
theorem clOf_acc {cells:List (Str × Addr)}:∀ (names:List (Str × NameKind)) (acc:List (Str × Addr)) (x:Str),(acc.lookup x).isSome=true->((clOf cells names acc).lookup x).isSome=true
  | [],acc,x,h=>h
  | (n, k) :: r, acc, x, h => by
    rw [clOf]
    refine clOf_acc r _ x ?_
    split
    . split
      . rw [List.lookup_cons];split
        . rfl
        . exact h
      . exact h
    . exact h
theorem clOf_has {cells:List (Str × Addr)}:∀ (names:List (Str × NameKind)) (acc:List (Str × Addr)) (x:Str) (c:Addr),(x,NameKind.free) ∈ names->cells.lookup x=some c->((clOf cells names acc).lookup x).isSome=true
  | (n,k) :: r,acc,x,c,hm,e=>by
    rw [clOf]
    rcases List.mem_cons.mp hm with z | z
    . cases z
      refine clOf_acc r _ _ ?_
      simp [e]
    . exact clOf_has r _ x c z e
section
variable {X:Cx} {own:List Str} {scope:Scope} {C:Addr} {fp:List Addr} {s:Shared} {H:Hp}
theorem relabel_lookup {env:Env}:∀ {names:List (Str × NameKind)} {x:Str} {k:NameKind},
    (names.map fun (n,k)=>if (k == NameKind.free && env.scope.kind == .function && env.kindOf n == some .cell) then (n,NameKind.cell) else (n,k)).lookup x=some k ->
    ∃ k',names.lookup x=some k'/\(k=k'\/(k = .cell/\k' = .free))
  | [],_,_,h=>by simp at h
  | (n, k0) :: r, x, k, h => by
    have ih:=@relabel_lookup env r x k
    rw [List.map_cons] at h
    by_cases ex:x=n
    . subst ex
      refine ⟨k0,by simp,?_⟩
      dsimp only at h
      split at h
      . rename_i hc
        simp at h
        have:k0 = .free:=by
          simp only [Bool.and_eq_true,beq_iff_eq] at hc
          exact hc.1.1
        exact .inr ⟨h.symm,this⟩
      . simp at h;exact .inl h.symm
    . have hb:(x == n)=false:=by simpa using ex
      have h2:(r.map fun (n,k)=>if (k == NameKind.free && env.scope.kind == .function && env.kindOf n == some .cell) then (n,NameKind.cell) else (n,k)).lookup x=some k:=by
        dsimp only at h
        split at h <;> (rw [List.lookup_cons,hb] at h;exact h)
      obtain ⟨k',e,q⟩:=ih h2
      exact ⟨k',by rw [List.lookup_cons,hb];exact e,q⟩
theorem relabel_local {env:Env} {x:Str}:(relabel scope env).names.lookup x=some .local->scope.names.lookup x=some .local:=fun h=>by
  obtain ⟨k',e,q⟩:=relabel_lookup (env:=env) h
  rcases q with q | ⟨q,_⟩
  . rw [e, <- q]
  . cases q
theorem relabel_cf {env:Env} {x:Str} (nc:∀ y ∈ scope.names,y.2 ≠ .cell):((relabel scope env).names.lookup x=some .cell\/(relabel scope env).names.lookup x=some .free)->scope.names.lookup x=some .free:=fun h=>by
  rcases h with h | h
  . obtain ⟨k',e,q⟩:=relabel_lookup (env:=env) h
    rcases q with q | ⟨_,q⟩
    . rw [<- q] at e;exact absurd rfl (nc _ (lookup_mem e))
    . rw [e,q]
  . obtain ⟨k',e,q⟩:=relabel_lookup (env:=env) h
    rcases q with q | ⟨q,_⟩
    . rw [e, <- q]
    . cases q
theorem cxComp_ok {pins:List (Addr × Obj)} {σ:St} (S:CompScope own X.N X.env.scope scope) (I:Inv X pins σ H s) (hC:s.heap.objs.size<=C) (hf:∀ b ∈ fp,FpOk X pins H b) (ho:∀ b ∈ fp,∃ o,s.heap.get? b=some o):(cxComp X own scope C fp s H).Ok:=by
  have cl:∀ x c,(clOf X.env.cells scope.names []).lookup x=some c->X.env.cells.lookup x=some c/\(x,NameKind.free) ∈ scope.names:=fun x c e=>by
    rcases clOf_spec _ _ _ _ e with q | q
    . exact q
    . simp at q
  refine ⟨I.ok.mod,S.kind,I.ok.glob,I.ok.blt,hC,fun x y c h1 h2=>I.ok.inj x y c (cl x c h1).1 (cl y c h2).1,fun x hx=>?_,fun x c h1 h2=>?_,I.ok.hd,I.ok.frames,.inl rfl,fun b hb=>⟨?_,fun x c e=>(hf b hb).2.2.2.2.1 x c (cl x c e).1⟩,I.bs,Nat.le_trans I.ok.bsz I.sz,fun b o e hb=>?_,fun b hb z=>?_,I.stack,I.stkFree⟩
  . have hx':((relabel scope X.env).names.lookup x=some .cell\/(relabel scope X.env).names.lookup x=some .free):=hx
    have q:=relabel_cf S.nocell hx'
    have m:=lookup_mem q
    obtain ⟨c,e⟩:=I.ok.has x (by rcases S.up _ m rfl with z | z;exact .inl z;exact .inr z)
    exact Option.isSome_iff_exists.mp (clOf_has scope.names [] x c m e)
  . have h1':own.contains x=true:=h1
    have m:=(cl x c h2).2
    have l:=S.ow x (by simpa using h1')
    rw [S.fr _ m rfl] at l;cases l
  . obtain ⟨o,e⟩:=ho b hb
    exact Nat.ne_of_lt (Nat.lt_of_lt_of_le (Heap.lt_size e) hC)
  . rcases (hf b hb).2.2.2.1 with z | z
    . exact I.ok.noex b o e z
    . exact absurd (Nat.lt_of_lt_of_le (Heap.lt_size e) (Nat.le_trans I.ok.bsz z)) (Nat.lt_irrefl _)
  . have z':b ∈ frs X.stack:=z
    rcases List.mem_cons.mp (I.stkSub b z') with q | q
    . exact (hf b hb).2.1 q
    . exact (hf b hb).2.2.1 q
theorem cxComp_inv {pins:List (Addr × Obj)} {σ:St} {h':Heap} {t':Nat} {m:Str->Option Value} {H':Hp} (S:CompScope own X.N X.env.scope scope) (I:Inv X pins σ H s) (hC:s.heap.objs.size<=C) (hf:∀ b ∈ fp,FpOk X pins H b) (ho:∀ b ∈ fp,∃ o,s.heap.get? b=some o)
    (hk:∀ b o,s.heap.get? b=some o->h'.get? b=some o) (hn:h'.Ns C m) (hU:Un (frs X.stack) fp H H' s.heap h') (hok:HOk X.prog X.w H' h') (hC0:H' C=none) (hle:∀ b,b < s.heap.objs.size->H' b=H b) :
    Inv (cxComp X own scope C fp s H) [] (List.replicate own.length none ++ σ) H' { s with heap:=h',toks:=t' }:=by
  have cl:∀ x c,(clOf X.env.cells scope.names []).lookup x=some c->X.env.cells.lookup x=some c/\(x,NameKind.free) ∈ scope.names:=fun x c e=>by
    rcases clOf_spec _ _ _ _ e with q | q
    . exact q
    . simp at q
  refine ⟨cxComp_ok S I hC hf ho,rfl,I.bare,hU,⟨m,hn,fun i x v h1 h2 h3=>?_⟩,fun x c e=>?_,hC0,fun x c e=>?_,fun p hp=>?_,hok,?_⟩
  . have h1':(maskN own X.N)[i]?=some x:=h1
    by_cases hi:i < own.length
    . rw [List.getElem?_append_left (by simpa using hi),List.getElem?_replicate] at h2
      split at h2 <;> cases h2
    . rw [List.getElem?_append_right (by simpa using hi),List.length_replicate] at h2
      unfold maskN at h1'
      rw [List.getElem?_append_right (by simpa using hi),List.getElem?_map] at h1'
      cases ey:X.N[i - own.length]? with
      | none=>rw [ey] at h1';cases h1'
      | some y =>
        rw [ey] at h1'
        have ex:(if own.contains y then maskS y else y)=x:=by simpa using h1'
        have h3':(relabel scope X.env).names.lookup x=some .local\/(relabel scope X.env).names.lookup x=some .cell\/(relabel scope X.env).names.lookup x=some .free:=h3
        by_cases hyo:own.contains y=true
        . rw [if_pos hyo] at ex
          subst ex
          have none:=S.mask y (by simpa using hyo)
          rcases h3' with z | z
          . rw [relabel_local z] at none;cases none
          . rw [relabel_cf S.nocell z] at none;cases none
        . rw [if_neg hyo] at ex
          subst ex
          rcases h3' with z | z
          . rcases S.only _ (lookup_mem (relabel_local z)) rfl with q | q
            . exact absurd (by simpa using q) hyo
            . exact absurd (List.mem_of_getElem? ey) q
          . have q:=relabel_cf S.nocell z
            have mm:=lookup_mem q
            have up:=S.up _ mm rfl
            obtain ⟨m0,_,hl⟩:=I.loc
            obtain ⟨u,r,l⟩:=hl _ y v ey h2 (.inr up)
            refine ⟨u,r,.inr ⟨z,?_⟩⟩
            rcases l with ⟨k,_⟩ | ⟨k,c,e,ic⟩
            . have k':X.env.scope.names.lookup y=some .local:=k
              rcases up with u1 | u1 <;> (rw [u1] at k';cases k')
            . obtain ⟨c',e'⟩:=Option.isSome_iff_exists.mp (clOf_has scope.names [] y c mm e)
              have e2:=(cl y c' e').1
              rw [e] at e2;cases e2
              obtain ⟨o,g1,g2⟩:=ic
              exact ⟨c,e',o,hk _ _ g1,g2⟩
  . obtain ⟨v,o,g1,g2⟩:=I.cell x c (cl x c e).1
    exact ⟨v,o,hk _ _ g1,g2⟩
  . obtain ⟨v,o,g1,g2⟩:=I.cell x c (cl x c e).1
    rw [hle c (Heap.lt_size g1)]
    exact I.freeC x c (cl x c e).1
  . exact absurd (show p ∈ ([]:List (Addr × Obj)) from hp) (by simp)
  . show (List.replicate own.length none ++ σ).length=(maskN own X.N).length
    unfold maskN
    rw [List.length_append,List.length_append,List.length_replicate,List.length_map,I.len]
theorem Inv.behind {pins:List (Addr × Obj)} {σ σ':St} {pins':List (Addr × Obj)} {H':Hp} {s':Shared} (I:Inv X pins σ H s) (hf:∀ b ∈ fp,FpOk X pins H b) (J:Inv (cxComp X own scope C fp s H) pins' σ' H' s'):Inv X pins σ H' s':=by
  refine I.call' J.os J.base J.hok J.bare fun b hb=>?_
  obtain ⟨h0,h1,h2,h3,h4,h5⟩:=hf b hb
  exact ⟨h3,h1,h4,h5⟩
end
end L2
end
section
namespace L2
open PySem PySem.Spec PyProof.Rows
noncomputable def PTs (Y:Cx) (ifs:List Expr) (t:TT):Prop :=
  ∀ (pins:List (Addr × Obj)) (s:Shared) (σ:St) (H:Hp) (Q:Bool->Hp->Prop),Inv Y pins σ H s->t σ H Q ->
    wpAny (model Y.prog Y.w) Y.A (forIn ifs true fun c r=>if r=true then do let ok <- isTrue c Y.env (eval c Y.env);pure (ForInStep.yield ok) else pure (ForInStep.yield r)) (TP Y pins σ Q) Y.xe s
noncomputable def tAll:TT:=fun _ H Q=>Q true H
theorem pts_nil {Y:Cx}:PTs Y [] tAll:=fun _ _ _ H _ I h=>wpAny_tests_nil ⟨H,I,h⟩
theorem pts_one {Y:Cx} {c:Expr} {t:TT} (h:PT Y c t):PTs Y [c] t:=fun pins s σ H Q I q=>wpAny_tests_one (h pins s σ H Q I q)
noncomputable def CompW (no:Nat) (J:It) (g:TG) (tt:TT) (te:TE) (σ:St) (H1:Hp) (Q:VK):Prop:=∀ D,H1 D=none ->
  ∃ W : Nat -> Nat -> St -> Hp -> Prop, (∃ m, W 0 m (List.replicate no none ++ σ) (upd H1 D (.lst []))) /\ ∀ i m σ' H', W i m σ' H' ->
    (J.stop i H'/\Q (.ref D) H')\/(J.go i H'/\∀ x H2,J.yld i H' x H2->g x σ' H2 fun σ3 H3=>tt σ3 H3 fun b H4 =>
      if b=true then te σ3 H4 fun v H5=>∃ xs,H5 D=some (.lst xs)/\xs.length < sizeLine/\∃ m',m' < m/\W (i + 1) m' σ3 (upd H5 D (.lst (xs ++ [v]))) else ∃ m',m' < m/\W (i + 1) m' σ3 H4)
noncomputable def tCompB (no:Nat) (wi:TI) (g:TG) (tt:TT) (te:TE):TE:=fun σ H Q=>wi σ H fun J H1=>CompW no J g tt te σ H1 Q
section
variable {X:Cx} {own:List Str} {scope:Scope} {elt tg iter:Expr} {ifs:List Expr} {pos:Pos} {wi:TI} {g:TG} {tt:TT} {te:TE}
theorem comp_block {pins:List (Addr × Obj)} {σ:St} {H:Hp} {s:Shared} {it:Addr} {fp:List Addr} {tn:Nat->Heap->Prop} {J:It} {Q:VK} {RR:Value->Addr->Result->Shared->Prop} {E:Value->Shared->Prop}
    (hc:X.calm=true) (S:CompScope own X.N X.env.scope scope)
    (hg:∀ C fp s H,PG (cxComp X own scope C fp s H) tg g) (ht:∀ C fp s H,PTs (cxComp X own scope C fp s H) ifs tt) (he:∀ C fp s H,PE (cxComp X own scope C fp s H) elt te)
    (I:Inv X pins σ H s) (T:Turn X.prog X.w X.K tg J fp it tn) (st:tn 0 s.heap) (hf:∀ b ∈ fp,FpOk X pins H b)
    (h:CompW own.length J g tt te σ H Q)
    (hRR:∀ D C s' H' m,Inv X pins σ H' s'->s'.heap.Ns C m->H' C=none->s.heap.objs.size<=C->Q (.ref D) H'->RR (.ref D) C (.ok .next) s') :
    wpAny (model X.prog X.w) X.A (newList []) (fun acc s₃=>wpAny (model X.prog X.w) X.A (newFunctionEnv scope X.env.globals (clOf X.env.cells scope.names []) [] X.env.qual none .none (some X.env)) (fun cenv s₄ =>
      codeAny (model X.prog X.w) X.A (.compStart (.ListComp elt [⟨tg,iter,ifs,0⟩] scope pos) 0 (.ref it) acc { cenv with scope:=relabel scope X.env }) (RR acc cenv.locals) s₄) E s₃) E s:=by
  refine wpAny_newObj_type (wpAny_newFunctionEnv S.nocell (by intro y hy;simp at hy) (fun h₁ hns₁ hsb₁=>?_) S.kind)
  dsimp only at hns₁ hsb₁ ⊢
  generalize hH2:s.heap.push { cls:=.type "list",dict:=none,data:=.seq ([]:List Value).toArray }=H2 at hns₁ hsb₁ ⊢
  have hC:H2.objs.size=s.heap.objs.size + 1:=by rw [<- hH2,Heap.size_push]
  have hDC:s.heap.objs.size ≠ H2.objs.size:=by rw [hC];exact Nat.ne_of_lt (Nat.lt_succ_self _)
  have hCle:s.heap.objs.size<=H2.objs.size:=by rw [hC];exact Nat.le_succ _
  have below:∀ b,b < s.heap.objs.size->b ≠ H2.objs.size:=fun b hb=>by rw [hC];exact Nat.ne_of_lt (Nat.lt_succ_of_lt hb)
  have old:∀ b o,s.heap.get? b=some o->h₁.get? b=some o:=fun b o e=>hsb₁.extBut b o (below b (Heap.lt_size e)) (Heap.get?_push_of_some _ (hH2 ▸ Heap.get?_push_of_some _ e))
  have hacc:h₁.get? s.heap.objs.size=some { cls:=.type "list",dict:=none,data:=.seq ([]:List Value).toArray }:=hsb₁.extBut _ _ hDC (Heap.get?_push_of_some _ (hH2 ▸ Heap.get?_push_size _ rfl))
  have ho:∀ b ∈ fp,∃ o,s.heap.get? b=some o:=fun b hb=>let ⟨o,e,_⟩:=T.obj _ _ st b hb;⟨o,e⟩
  have fresh:∀ a,s.heap.objs.size<=a->H a=none:=fun a ha=>I.hok.fresh ha
  generalize hD:s.heap.objs.size=D at *
  generalize hCC:H2.objs.size=C at *
  have I1:Inv (cxComp X own scope C fp s H) [] (List.replicate own.length none ++ σ) (upd H D (.lst [])) { s with heap:=h₁,toks:=s.toks + ([]:List (Str × Value)).length }:=by
    refine cxComp_inv S I (by rw [hD];exact hCle) hf ho old hns₁ (Un.laid old (by rw [hD];exact Nat.le_refl _) (fresh D (Nat.le_refl _))) (I.hok.laid old (by rw [hD];exact Nat.le_refl _) ?_) ?_ fun b hb=>?_
    . exact ⟨Nat.zero_le _,[],0,.nil,hacc⟩
    . rw [upd_ne (Ne.symm hDC)];exact fresh C hCle
    . rw [hD] at hb;rw [upd_ne (Nat.ne_of_lt hb)]
  obtain ⟨W,⟨m0,w0⟩,turn⟩:=h D (fresh D (Nat.le_refl _))
  have fpY:∀ {H':Hp},(∀ b ∈ fp,H' b=none)->∀ b ∈ fp,FpOk (cxComp X own scope C fp s H) [] H' b:=fun hn b hb=>by
    obtain ⟨q0,q1,q2,q3,q4,q5⟩:=hf b hb
    refine ⟨hn b hb,I1.ok.exf b hb |>.1,I1.ok.exfs b hb,.inl hb,I1.ok.exf b hb |>.2,fun p hp=>absurd (show p ∈ ([]:List (Addr × Obj)) from hp) (by simp)⟩
  have loop:codeAny (model X.prog X.w) X.A (.compLoop (.ListComp elt [⟨tg,iter,ifs,0⟩] scope pos) 0 (.ref it) (.ref D) (compEnvC scope (clOf X.env.cells scope.names []) C X.env)) (RR (.ref D) C) { s with heap:=h₁,toks:=s.toks + ([]:List (Str × Value)).length }:=by
    refine compLoop_any (fun n s'=>∃ i σ' H',Inv (cxComp X own scope C fp s H) [] σ' H' s'/\tn i s'.heap/\(∀ b ∈ fp,H' b=none)/\W i n σ' H') ?_ m0
      ⟨0,_,_,I1,T.keep _ _ _ st fun b _ o e=>old b o e,fun b hb=>?_,w0⟩
    . rintro n s3 ⟨i,σ3,H3,I3,st3,fr3,w3⟩
      rcases turn i n σ3 H3 w3 with ⟨stop,qn⟩ | ⟨go,step⟩
      . refine thn (T.done (cxComp X own scope C fp s H) rfl rfl rfl hc i [] s3 σ3 H3 _ I3 (fpY fr3) st3 stop) fun r s4 ⟨hr,I4⟩=>?_
        subst hr
        obtain ⟨m,hm,_⟩:=I4.loc
        exact hRR D C s4 H3 m (I.behind hf I4) hm I4.free hCle qn
      . refine thn (T.item (cxComp X own scope C fp s H) rfl rfl rfl hc i [] s3 σ3 H3 _ I3 (fpY fr3) st3 go) fun r s4 ⟨u,hr,h4⟩=>?_
        subst hr
        dsimp only
        refine thn h4 fun _ s5 ⟨x,H5,I5,r5,y5,st5,fr5⟩=>?_
        have I5':=I5.pinned (fpY fr5) (T.obj _ _ st5)
        refine thn (hg C fp s H _ s5 σ3 H5 x u _ I5' r5 (step x H5 y5)) fun _ s6 ⟨σ6,H6,I6,q6⟩=>?_
        refine thn (ht C fp s H _ s6 σ6 H6 _ I6 q6) fun b s7 ⟨H7,I7,q7⟩=>?_
        have again:∀ {s8:Shared} {σ7:St} {H7:Hp},Inv (cxComp X own scope C fp s H) ([] ++ pinsAt fp s5.heap) σ7 H7 s8->(∃ m',m' < n/\W (i + 1) m' σ7 H7)->∃ m,m < n/\∃ i σ' H',Inv (cxComp X own scope C fp s H) [] σ' H' s8/\tn i s8.heap/\(∀ b ∈ fp,H' b=none)/\W i m σ' H':=fun {s8 σ7 H7} I7 n7=>by
          obtain ⟨m',hm,w7⟩:=n7
          refine ⟨m',hm,i + 1,σ7,H7,I7.unpinned,T.keep _ _ _ st5 fun b hb o e=>(I7.pin (b,o) (List.mem_append_right _ (List.mem_append_right _ (mem_pinsAt hb e)))).1,fun b hb=>?_,w7⟩
          obtain ⟨o,e,d⟩:=T.obj _ _ st5 b hb
          exact (I7.pin (b,o) (List.mem_append_right _ (List.mem_append_right _ (mem_pinsAt hb e)))).2.1
        cases b with
        | false =>
          rw [if_neg (by simp)] at q7
          exact again I7 q7
        | true =>
          rw [if_pos rfl] at q7 ⊢
          refine thn (he C fp s H _ s7 σ6 H7 _ I7 q7) fun u8 s8 ⟨v,H8,I8,r8,xs,hx,hz,q8⟩=>?_
          refine thn (mt_append (X:=cxComp X own scope C fp s H) _ s8 σ6 H8 (.ref D) [v] (.ref D) [u8] (fun _ H9=>∃ m',m' < n/\W (i + 1) m' σ6 H9) I8 rfl (.cons r8 .nil) ⟨D,xs,v,rfl,rfl,hx,hz,q8⟩) fun _ s9 ⟨_,H9,I9,_,q9⟩=>?_
          exact again I9 q9
    . have lt:b < D:=by
        obtain ⟨o,e⟩:=ho b hb
        exact hD ▸ Heap.lt_size e
      rw [upd_ne (Nat.ne_of_lt lt)]
      exact (hf b hb).1
  exact codeAny_compStart_list loop (T.self _ 0 _ _ _ (T.keep _ _ _ st fun b _ o e=>old b o e) loop)
theorem comp_clos {pins:List (Addr × Obj)} {σ:St} {H:Hp} {s:Shared} (S:CompScope own X.N X.env.scope scope) (I:Inv X pins σ H s):closureFor scope X.env=pure (clOf X.env.cells scope.names []) :=
  closureFor_eq fun y hy hk=>I.ok.has y.1 (by rcases S.up y hy hk with z | z;exact .inl z;exact .inr z)
theorem Inv.letgo {pins:List (Addr × Obj)} {σ:St} {H':Hp} {s':Shared} {h':Heap} {C:Addr} {z:Nat} (I:Inv X pins σ H' s') (hC:H' C=none) (h0:X.s₀.heap.objs.size<=z) (hz:z<=C) (hL:X.env.locals < z) (hcl:∀ x c,X.env.cells.lookup x=some c->c < z) (hp:∀ p ∈ X.pn ++ pins,p.1 < z) (hs:Heap.SameBut C s'.heap h'):Inv X pins σ H' { s' with heap:=h' } :=
  I.turned (t':=s'.toks) (it:=C) (fun b o hb e=>hs.extBut b o hb e) hC (Nat.ne_of_gt (Nat.lt_of_lt_of_le hL hz)) (.inr (Nat.le_trans h0 hz)) (fun x c e=>Nat.ne_of_lt (Nat.lt_of_lt_of_le (hcl x c e) hz)) fun p hq=>Nat.ne_of_lt (Nat.lt_of_lt_of_le (hp p hq) hz)
theorem pe_comp {N0 P0:List Str} {sc:Scope} (S0:FnScope N0 P0 sc) (hc:X.calm=true) (S1:CompScope own N0 sc scope) (hi:PI X tg iter wi)
    (hg:∀ C fp s H,(maskN own N0).Nodup->PG (cxComp X own scope C fp s H) tg g) (ht:∀ C fp s H,PTs (cxComp X own scope C fp s H) ifs tt) (he:∀ C fp s H,PE (cxComp X own scope C fp s H) elt te)
    (hs:∀ x,foldedSetIterable iter X.env x=pure x:=by intro _;rfl) (hN0:X.N=N0:=by rfl) (hsc:X.env.scope=sc:=by rfl):PE X (.ListComp elt [⟨tg,iter,ifs,0⟩] scope pos) (tCompB own.length wi g tt te):=by
  intro pins s σ H Q I h
  subst hN0 hsc
  have S:=S1
  replace hg:=fun C fp s H=>hg C fp s H S1.nd
  rw [eval_ListComp]
  refine wpAny_comprehension_free (use:=none) rfl hs (comp_clos S I) S.kind S.loc (thn (hi pins s σ H _ I h) fun xv s₁ h₁=>thn h₁ fun itv s₂ h₂=>?_)
  obtain ⟨it,fp,tn,J,H2,rfl,I2,T,st2,f2,q2⟩:=h₂
  refine comp_block (Q:=Q) hc S hg ht he I2 T st2 f2 q2 ?_
  intro D C s' H' m I' hm hC hCle q
  refine ⟨m,hm,fun h' hs'=>⟨.ref D,H',?_,rfl,q⟩⟩
  exact I'.letgo hC I2.sz hCle I2.lt (fun x c e=>let ⟨v,z⟩:=I2.cell x c e;z.lt) (fun p hp=>Heap.lt_size (I2.pin p hp).1) hs'
end
end L2
end
section
namespace L2
open PySem PySem.Spec PyProof.Rows
open PySem.W (Dat kqdP kqdPs kqdOk)
section
variable {X:Cx}
theorem op_mulB:OpR X (binaryOp .Mult) (rI IntMulOk fun i j=>.int (i * j)):=opI fun _ _ _ _ _ _ _ hc q=>mul_int q hc
noncomputable def CDivB (i j:Int):Prop:=j ≠ 0/\j.natAbs.log2 < 9000
theorem op_fdivB:OpR X (binaryOp .FloorDiv) (rI CDivB fun i j=>.int (i.fdiv j)):=opI fun _ _ _ _ _ _ _ hc q=>floordiv_int hc.1 q (.inl (PyProof.noPylong_of_log2 hc.2))
end
noncomputable def IsX (C:Value) (e:Addr):Heap->Prop:=fun h=>∃ o,h.get? e=some o/\o.cls=C/\o.dict=none/\∃ fs,o.data = .fields fs
noncomputable def XN (K:PySem.W.Frag) (c:Array UInt8) (C:Value):Prop:=PySem.W.nsIn K mainGlobals ⟨c.map (·.toNat)⟩=some (some C)
noncomputable def XAt (K:PySem.W.Frag) (H:Hp) (a:Addr) (c:Array UInt8):Prop:=∃ ob C,H a=some (.frz ob (.ext (IsX C a)))/\XN K c C
mutual
inductive Is (K:PySem.W.Frag) (H:Hp):V->Dat->Prop
  | none:Is K H .non .none
  | bool (b:Bool):Is K H (.bl b) (.bool b)
  | int (i:Int):Is K H (.int i) (.int i)
  | str (x:Str):Is K H (.str x) (.str x)
  | tup {a:Addr} {xs:List V} {ds:List Dat}:SqT K H a xs->Iss K H xs ds->Is K H (.ref a) (.tuple ds)
  | lst {a:Addr} {xs:List V} {ds:List Dat}:SqL K H a xs->Iss K H xs ds->Is K H (.ref a) (.list ds)
  | exc {a:Addr} {c:Array UInt8}:XAt K H a c->Is K H (.ref a) (.bytes c)
inductive Iss (K:PySem.W.Frag) (H:Hp):List V->List Dat->Prop
  | nil:Iss K H [] []
  | cons {x:V} {d:Dat} {xs:List V} {ds:List Dat}:Is K H x d->Iss K H xs ds->Iss K H (x :: xs) (d :: ds)
end
theorem Same.tup {K:PySem.W.Frag} {H H':Hp} {a:Addr} {xs:List V} (e:Same H H') (h:SqT K H a xs):SqT K H' a xs:=by
  rcases h with (h | ⟨o,h⟩) | h
  . exact .inl (.inl (e _ _ h))
  . exact .inl (.inr ⟨o,e _ _ h⟩)
  . exact .inr h
theorem Same.new {H:Hp} {p:Addr} (h:H p=Option.none) (o:HO):Same H (upd H p o):=fun b u q=>by rw [upd_ne (ne_of_none q h)];exact q
section
variable {K:PySem.W.Frag} {H H':Hp}
end
section
variable {X:Cx} {pins:List (Addr × Obj)} {σ:St} {H:Hp} {s:Shared}
mutual
theorem Is.reads (I:Inv X pins σ H s):∀ {v:V} {d:Dat} {u:Value},Is X.K H v d->∀ n,kqdOk n d=true->RelV v u->∃ as,Reads s.heap u (kqdP d) as
  | _,_,_,.none,_,_,r=>by cases (show _=Value.none from r);exact ⟨_,.none⟩
  | _,_,_,.bool b,_,_,r=>by cases (show _=Value.bool b from r);exact ⟨_,.bool b⟩
  | _,_,_,.int i,_,_,r=>by obtain ⟨t,rfl⟩:=r;exact ⟨_,.int i t⟩
  | _,_,_,.str x,_,_,r=>by obtain ⟨t,rfl⟩:=r;exact ⟨_,.str x t⟩
  | _,_,_,.tup (a:=a) h q,0,ok,r=>by simp [kqdOk] at ok
  | _,_,_,.tup (a:=a) h q,n + 1,ok,r=>by
    cases (show _=Value.ref a from r)
    obtain ⟨its,rv,⟨o,e,c,n2,d⟩,_⟩:=I.tuple h
    obtain ⟨as,z⟩:=Iss.reads I q n (by rw [kqdOk] at ok;exact ok) rv
    rw [kqdP]
    exact ⟨as,.tuple e c d (by simpa using z)⟩
  | _,_,_,.lst (a:=a) h q,0,ok,r=>by simp [kqdOk] at ok
  | _,_,_,.lst (a:=a) h q,n + 1,ok,r=>by
    cases (show _=Value.ref a from r)
    obtain ⟨its,rv,⟨o,n2,e,c,_,d⟩,_⟩:=I.list h
    obtain ⟨as,z⟩:=Iss.reads I q n (by rw [kqdOk] at ok;exact ok) rv
    rw [kqdP]
    exact ⟨_,.list e c d (by simpa using z)⟩
  | _,_,_,.exc h,n,ok,r=>by cases n <;> simp [kqdOk] at ok
theorem Iss.reads (I:Inv X pins σ H s):∀ {v:List V} {d:List Dat} {u:List Value},Iss X.K H v d->∀ n,d.all (kqdOk n)=true->Vals v u->∃ as,ReadsAll s.heap u (kqdPs d) as
  | _,_,_,.nil,_,_,.nil=>⟨_,.nil⟩
  | _,_,_,.cons a r,n,ok,.cons b t=>by
    rw [List.all_cons,Bool.and_eq_true] at ok
    obtain ⟨as,p⟩:=Is.reads I a n ok.1 b
    obtain ⟨bs,q⟩:=Iss.reads I r n ok.2 t
    rw [kqdPs]
    exact ⟨_,.cons p q⟩
end
end
open Classical in
noncomputable def deq (d e:Dat):Bool:=decide (d=e)
open Classical in
theorem deq_self (d:Dat):deq d d=true:=decide_eq_true rfl
open Classical in
theorem deq_true {d e:Dat} (h:d=e):deq d e=true:=decide_eq_true h
open Classical in
theorem deq_ne {d e:Dat} (h:d ≠ e):deq d e=false:=decide_eq_false h
noncomputable def rEqD (K:PySem.W.Frag) (n:Bool):R2:=fun x y H Q=>∃ d e,Is K H x d/\Is K H y e/\kqdOk 9 d=true/\kqdOk 9 e=true/\Q (.bl (if n then !deq d e else deq d e)) H
theorem eqv_deq {d e:Dat} (h1:kqdOk 9 d=true) (h2:kqdOk 9 e=true):PyData.eqv (kqdP d) (kqdP e)=deq d e:=by
  have q:=PySem.W.kqd_eqv 9 d e 9 h1 h2
  by_cases z:d=e
  . rw [deq_true z];exact q.mpr z
  . rw [deq_ne z];exact Bool.eq_false_iff.mpr fun x=>z (q.mp x)
theorem shaped9 {d:Dat} (h:kqdOk 9 d=true):SeqAt.shaped (kqdP d)=true:=by
  have l:=PySem.W.kqd_lay 9 d h
  unfold SeqAt.shaped
  rw [l.1,Bool.true_and]
  exact decide_eq_true (Nat.le_trans l.2 (by decide))
section
variable {X:Cx}
theorem op_eqD (hu:X.A.units + 64 < cLine):OpR X (compareOp .Eq) (rEqD X.K false):=by
  intro pins s σ H x y v u Q I rx ry h
  obtain ⟨d,e,hd,he,o1,o2,q⟩:=h
  obtain ⟨as,ra⟩:=hd.reads I 9 o1 rx
  obtain ⟨bs,rb⟩:=he.reads I 9 o2 ry
  refine PyProof.Rows.eq_dataH ra rb (shaped9 o1) (shaped9 o2) hu ?_
  rw [eqv_deq o1 o2]
  exact ⟨.bl _,H,I,rfl,q⟩
theorem op_neD (hu:X.A.units + 64 < cLine):OpR X (compareOp .NotEq) (rEqD X.K true):=by
  intro pins s σ H x y v u Q I rx ry h
  obtain ⟨d,e,hd,he,o1,o2,q⟩:=h
  obtain ⟨as,ra⟩:=hd.reads I 9 o1 rx
  obtain ⟨bs,rb⟩:=he.reads I 9 o2 ry
  refine PyProof.Rows.ne_dataH ra rb (shaped9 o1) (shaped9 o2) hu ?_
  rw [eqv_deq o1 o2]
  exact ⟨.bl _,H,I,rfl,q⟩
theorem call_sumL (hc:X.calm=true):CallR X (.builtin "sum") (fun xs H Q=>∃ (a:Addr) (ns:List Int),xs=[.ref a]/\SqL X.K H a (ns.map V.int)/\Q (.int ns.sum) H):=by
  intro pins s σ H xs us Q I r h
  obtain ⟨a,ns,rfl,hl,q⟩:=h
  cases r with
  | cons r1 r2 =>
    cases r2
    cases (show _=Value.ref a from r1)
    obtain ⟨its,rv,pl,_⟩:=I.list hl
    obtain ⟨m,F⟩:=I.fr
    have hi:IntsAre its ns:=intsAre_of rv
    obtain ⟨xs,hxs⟩:=(IntsAre.allInts hi).items
    have e:numsOf its=ns:=hi.numsOf
    refine sum_intListG (xs:=xs) (I.ok.hd hc) (by rw [<- hxs];exact pl.isList) fun h' tk t' hk=>?_
    refine ⟨.int ns.sum,H,I.kept (t':=tk) hk,⟨t',?_⟩,q⟩
    have e2:numsOf its=(xs.map Prod.fst).toList:=by
      have:=nums_intItems (xs:=xs)
      rw [<- hxs] at this
      simpa using this
    rw [preSum_eq,List.take_of_length_le (by simp)]
    rw [<- e,e2,Array.toList_map]
end
end L2
end
section
namespace L2
open PySem PySem.Spec PyProof.Rows
section
variable {prog:Program} {w:World} {A:Around} {E:Value->Shared->Prop} {s:Shared}
theorem tupNext {it t:Addr} {i:Nat} {its:Array Value} {x:Value} {Q:Value->Shared->Prop} (hit:s.heap.IsTupleIter it t i) (ht:s.heap.IsTuple t its) (hx:its[i]?=some x)
    (k:∀ g,g.IsTupleIter it t (i + 1)->Heap.SameBut it s.heap g->Q x { s with heap:=g }):wpAny (model prog w) A (Builtin.SmallTypes.nextOf (.ref it)) Q E s:=by
  obtain ⟨o,g1,g2,g3⟩:=id hit
  obtain ⟨p,q1,_,n,q2⟩:=ht
  unfold Builtin.SmallTypes.nextOf
  refine wpAny_bind (wpAny_callSpecial?_slot (name:=Str.ofString "__next__") hit.typeIs F.slot_tuple_iterator_next (wpAny_call_entry F.slot_tuple_iterator_next hit.typeIs F.entry_tuple_iterator_next ?_ (F.args_tuple_iterator_next_1 _)))
  show wpAny _ _ (field (.ref it) 0 >>= _) _ _ s;refine wpAny_bind (wpAny_field g1 g3 (x:=.ref t) rfl ?_);show wpAny _ _ (if (Value.ref t == Value.none)=true then _ else _) _ _ s
  rw [if_neg (show ¬ ((Value.ref t == Value.none)=true) from Bool.false_ne_true)];show wpAny _ _ (field (.ref it) 1 >>= _) _ _ s;refine wpAny_bind (wpAny_field g1 g3 (x:=.int i 0) rfl ?_)
  show wpAny _ _ (seqItems? (.ref t) >>= _) _ _ s;refine wpAny_bind (wpAny_seqItems q1 q2 ?_);simp only [Int.toNat_natCast,hx]
  refine wpAny_bind (wpAny_setField g1 g3 (by simp) (wpAny_pure ⟨x,rfl,wpAny_pure (k _ ⟨_,Heap.get?_update_self _ g1 (Obj.isFreed_of_fields (Obj.data_mapFields g3 _)),(Obj.cls_mapFields ..).trans g2,?_⟩ (Heap.SameBut.update ..))⟩))
  rw [Obj.data_mapFields g3];simp [rawInt]
theorem tupEnd {it t:Addr} {i:Nat} {its:Array Value} {Q:Value->Shared->Prop} (hh:A.handled=none) (hit:s.heap.IsTupleIter it t i) (ht:s.heap.IsTuple t its) (hx:its[i]?=none)
    (k:∀ g e,Heap.ExtBut it s.heap g->(∃ o,g.get? e=some o/\o.cls = .type "StopIteration")->E (.ref e) { s with heap:=g }):wpAny (model prog w) A (Builtin.SmallTypes.nextOf (.ref it)) Q E s:=by
  obtain ⟨o,g1,g2,g3⟩:=id hit
  obtain ⟨p,q1,_,n,q2⟩:=ht
  unfold Builtin.SmallTypes.nextOf
  refine wpAny_bind (wpAny_callSpecial?_slot (name:=Str.ofString "__next__") hit.typeIs F.slot_tuple_iterator_next (wpAny_call_entry F.slot_tuple_iterator_next hit.typeIs F.entry_tuple_iterator_next ?_ (F.args_tuple_iterator_next_1 _)))
  show wpAny _ _ (field (.ref it) 0 >>= _) _ _ s;refine wpAny_bind (wpAny_field g1 g3 (x:=.ref t) rfl ?_);show wpAny _ _ (if (Value.ref t == Value.none)=true then _ else _) _ _ s
  rw [if_neg (show ¬ ((Value.ref t == Value.none)=true) from Bool.false_ne_true)];show wpAny _ _ (field (.ref it) 1 >>= _) _ _ s;refine wpAny_bind (wpAny_field g1 g3 (x:=.int i 0) rfl ?_)
  show wpAny _ _ (seqItems? (.ref t) >>= _) _ _ s;refine wpAny_bind (wpAny_seqItems q1 q2 ?_);simp only [Int.toNat_natCast,hx]
  refine wpAny_bind (wpAny_rule (wpAny_bind (wpAny_setField g1 g3 (by simp) ?_)));show wpAny _ _ (newExc (.type "StopIteration") [] >>= _) _ _ _
  refine wpAny_bind ?_;simp only [newExc,newTuple];refine wpAny_bind (wpAny_newObj_type ?_ (by size_fits))
  refine wpAny_bind (m:=firstArgMember _ _) (wpAny_of_eq (a:=Value.none) (by first | rfl | (simp only [firstArgMember];rfl)) ?_);refine wpAny_newObj_type ?_ (by size_fits)
  simp only [raiseNew];refine wpAny_bind (wpAny_handled ?_);first | rw [show A.in1.handled=none from hh] | rw [hh]
  refine wpAny_bind (wpAny_pure (wpAny_throw ?_));exact k _ _ (((Heap.SameBut.update ..).extBut.push _).push _) ⟨_,Heap.get?_push_size _ rfl,rfl⟩
structure ZipAt (h:Heap) (z a b i1 i2 l1 l2:Addr) (xs ys:Array Value) (k:Nat) (f:Value):Prop where
  z:IsZip h z a b f
  a:IsPair h a (.ref i1) (.ref i2)
  b:∃ u v,IsPair h b u v
  i1:h.IsTupleIter i1 l1 k
  i2:h.IsTupleIter i2 l2 k
  l1:h.IsTuple l1 xs
  l2:h.IsTuple l2 ys
theorem zipNext {z a b i1 i2 l1 l2:Addr} {k:Nat} {xs ys:Array Value} {x y:Value} {Q:Option Value->Shared->Prop} (D:ZipApart z a b i1 i2 l1 l2) (Z:ZipAt s.heap z a b i1 i2 l1 l2 xs ys k .none) (hx:xs[k]?=some x) (hy:ys[k]?=some y)
    (kq:∀ g,ZipAt g z a b i1 i2 l1 l2 xs ys (k + 1) (rawInt s.heap.objs.size)->IsPair g s.heap.objs.size x y->(∀ c o,c ≠ z->c ≠ b->c ≠ i1->c ≠ i2->s.heap.get? c=some o->g.get? c=some o)->Q (some (.ref s.heap.objs.size)) { s with heap:=g }) :
    wpAny (model prog w) A (pyNext (.ref z)) Q E s:=by
  obtain ⟨hz,ha,⟨u,v,hb⟩,h1,h2,t1,t2⟩:=Z
  have hT:s.TypeIs (.ref z) "zip" := ⟨_,hz,rfl⟩
  unfold pyNext
  refine wpAny_bind (wpAny_attempt (wpAny_callSpecial?_slot (name:=Str.ofString "__next__") hT F.slot_zip_next (wpAny_call_entry F.slot_zip_next hT F.entry_zip_next ?_ (F.args_zip_next_1 _))))
  show wpAny _ _ (field (.ref z) 2 >>= _) _ _ _;refine wpAny_bind (wpAny_field hz rfl (x:=.bool false) rfl ?_);show wpAny _ _ (field (.ref z) 3 >>= _) _ _ _
  refine wpAny_bind (wpAny_field hz rfl (x:=.ref a) rfl ?_);refine wpAny_bind (wpAny_seqItems ha rfl ?_);show wpAny _ _ (Builtin.SmallTypes.ownedTupleIsFree (.ref z) >>= _) _ _ _
  refine wpAny_bind ?_;unfold Builtin.SmallTypes.ownedTupleIsFree;refine wpAny_bind (wpAny_field hz rfl (x:=.none) rfl (wpAny_pure ?_))
  simp only [if_true];refine wpAny_bind (wpAny_rule ?_);refine wpAny_bind (wpAny_field hz rfl (x:=.ref b) rfl ?_)
  refine wpAny_bind (wpAny_setField_rec hz (by simp) fun g₁ e₁ s₁=>?_)
  replace e₁:IsZip g₁ z a b .ellipsis:=e₁
  refine wpAny_bind ?_;simp only [List.zipIdx_cons,List.zipIdx_nil,List.forIn_cons,List.forIn_nil]
  refine wpAny_bind (wpAny_bind (wpAny_onRaise ?_));show wpAny _ _ (Builtin.SmallTypes.nextOf (.ref i1) >>= _) _ _ _
  refine wpAny_bind (tupNext (h1.extBut s₁.extBut D.i1z) (t1.extBut s₁.extBut D.l1z) hx fun g₂ f₂ s₂=>wpAny_pure ?_)
  have b₂:IsPair g₂ b u v:=s₂.extBut _ _ D.TOi1 (s₁.extBut _ _ D.TOz hb)
  refine wpAny_bind (wpAny_seqItems b₂ rfl ?_);refine wpAny_bind (wpAny_updateSeq_pair b₂ fun g₃ b₃ s₃=>?_)
  replace b₃:IsPair g₃ b x v:=b₃
  refine wpAny_bind (wpAny_letGo (wpAny_pure ?_));refine wpAny_bind (wpAny_bind (wpAny_onRaise ?_));show wpAny _ _ (Builtin.SmallTypes.nextOf (.ref i2) >>= _) _ _ _
  refine wpAny_bind (tupNext (((h2.extBut s₁.extBut D.i2z).extBut s₂.extBut D.i12.symm).extBut s₃.extBut D.TOi2.symm) (((t2.extBut s₁.extBut D.l2z).extBut s₂.extBut D.l2i1).extBut s₃.extBut D.l2TO) hy fun g₄ f₄ s₄=>wpAny_pure ?_)
  have b₄:IsPair g₄ b x v:=s₄.extBut _ _ D.TOi2 b₃
  refine wpAny_bind (wpAny_seqItems b₄ rfl ?_);refine wpAny_bind (wpAny_updateSeq_pair b₄ fun g₅ b₅ s₅=>?_)
  replace b₅:IsPair g₅ b x y:=b₅
  refine wpAny_bind (wpAny_letGo (wpAny_pure (wpAny_pure ?_)));refine wpAny_bind (wpAny_seqItems b₅ rfl ?_);refine wpAny_bind (wpAny_newTuple ?_)
  have sz:g₅.objs.size=s.heap.objs.size:=by rw [s₅.1,s₄.1,s₃.1,s₂.1,s₁.1]
  have e₅:IsZip g₅ z a b .ellipsis:=s₅.extBut _ _ D.TOz.symm (s₄.extBut _ _ D.i2z.symm (s₃.extBut _ _ D.TOz.symm (s₂.extBut _ _ D.i1z.symm e₁)))
  have k₅:∀ c o,c ≠ z->c ≠ b->c ≠ i1->c ≠ i2->s.heap.get? c=some o->g₅.get? c=some o:=fun c o c1 c2 c3 c4 e=>s₅.extBut _ _ c2 (s₄.extBut _ _ c4 (s₃.extBut _ _ c2 (s₂.extBut _ _ c3 (s₁.extBut _ _ c1 e))))
  have m₁:g₅.IsTupleIter i1 l1 (k + 1):=((f₂.extBut s₃.extBut D.TOi1.symm).extBut s₄.extBut D.i12).extBut s₅.extBut D.TOi1.symm
  have m₂:g₅.IsTupleIter i2 l2 (k + 1):=f₄.extBut s₅.extBut D.TOi2.symm
  have lz:z < g₅.objs.size:=Heap.lt_size e₅
  show wpAny _ _ (Builtin.SmallTypes.ownedTupleHandOut (.ref z) (.ref g₅.objs.size) >>= _) _ _ _;refine wpAny_bind ?_;unfold Builtin.SmallTypes.ownedTupleHandOut
  have e₆:IsZip (g₅.push { cls:=.type "tuple",data:=.seq #[x,y] }) z a b .ellipsis:=Heap.get?_push_of_some _ e₅
  refine wpAny_bind (wpAny_setField_rec e₆ (by simp) fun g₇ e₇ s₇=>?_)
  replace e₇:IsZip g₇ z a b (rawInt g₅.objs.size):=e₇
  refine wpAny_setField_rec e₇ (by simp) fun g₈ e₈ s₈=>?_
  replace e₈:IsZip g₈ z a b (rawInt g₅.objs.size):=e₈
  have up:∀ c o,c ≠ z->g₅.get? c=some o->g₈.get? c=some o:=fun c o c1 e=>s₈.extBut _ _ c1 (s₇.extBut _ _ c1 (Heap.get?_push_of_some _ e))
  have p₈:IsPair g₈ g₅.objs.size x y:=s₈.extBut _ _ (Nat.ne_of_gt lz) (s₇.extBut _ _ (Nat.ne_of_gt lz) (Heap.get?_push_size _ rfl))
  rw [sz] at e₈ p₈
  refine wpAny_pure ⟨_,rfl,wpAny_pure ?_⟩
  show Q (some (.ref g₅.objs.size)) _;rw [sz]
  have all:∀ c o,c ≠ z->c ≠ b->c ≠ i1->c ≠ i2->s.heap.get? c=some o->g₈.get? c=some o:=fun c o c1 c2 c3 c4 e=>up c o c1 (k₅ c o c1 c2 c3 c4 e)
  exact kq g₈ ⟨e₈,all _ _ D.TIz D.TITO D.TIi1 D.TIi2 ha,⟨_,_,up _ _ D.TOz b₅⟩,m₁.at fun o e=>up _ o D.i1z e,m₂.at fun o e=>up _ o D.i2z e,t1.at fun o e=>all _ o D.l1z D.l1TO D.l1i1 D.l1i2 e,t2.at fun o e=>all _ o D.l2z D.l2TO D.l2i1 D.l2i2 e⟩ p₈ all
theorem zipEnd {z a b i1 i2 l1 l2:Addr} {k:Nat} {xs ys:Array Value} {Q:Option Value->Shared->Prop} (hh:A.handled=none) (D:ZipApart z a b i1 i2 l1 l2) (Z:ZipAt s.heap z a b i1 i2 l1 l2 xs ys k .none) (hx:xs[k]?=none)
    (kq:∀ g,(∀ c o,c ≠ z->c ≠ b->c ≠ i1->c ≠ i2->s.heap.get? c=some o->g.get? c=some o)->Q none { s with heap:=g }):wpAny (model prog w) A (pyNext (.ref z)) Q E s:=by
  obtain ⟨hz,ha,⟨u,v,hb⟩,h1,h2,t1,t2⟩:=Z
  have hT:s.TypeIs (.ref z) "zip" := ⟨_,hz,rfl⟩
  unfold pyNext
  refine wpAny_bind (wpAny_attempt (wpAny_callSpecial?_slot (name:=Str.ofString "__next__") hT F.slot_zip_next (wpAny_call_entry F.slot_zip_next hT F.entry_zip_next ?_ (F.args_zip_next_1 _))))
  show wpAny _ _ (field (.ref z) 2 >>= _) _ _ _;refine wpAny_bind (wpAny_field hz rfl (x:=.bool false) rfl ?_);show wpAny _ _ (field (.ref z) 3 >>= _) _ _ _
  refine wpAny_bind (wpAny_field hz rfl (x:=.ref a) rfl ?_);refine wpAny_bind (wpAny_seqItems ha rfl ?_);show wpAny _ _ (Builtin.SmallTypes.ownedTupleIsFree (.ref z) >>= _) _ _ _
  refine wpAny_bind ?_;unfold Builtin.SmallTypes.ownedTupleIsFree;refine wpAny_bind (wpAny_field hz rfl (x:=.none) rfl (wpAny_pure ?_))
  simp only [if_true];refine wpAny_bind (wpAny_rule ?_);refine wpAny_bind (wpAny_field hz rfl (x:=.ref b) rfl ?_)
  refine wpAny_bind (wpAny_setField_rec hz (by simp) fun g₁ e₁ s₁=>?_)
  replace e₁:IsZip g₁ z a b .ellipsis:=e₁
  refine wpAny_bind ?_;simp only [List.zipIdx_cons,List.zipIdx_nil,List.forIn_cons,List.forIn_nil]
  refine wpAny_bind (wpAny_bind (wpAny_onRaise ?_));show wpAny _ _ (Builtin.SmallTypes.nextOf (.ref i1) >>= _) _ _ _
  refine wpAny_bind (tupEnd hh (h1.extBut s₁.extBut D.i1z) (t1.extBut s₁.extBut D.l1z) hx fun g₂ e s₂ he=>?_)
  obtain ⟨oe,he1,he2⟩:=he
  have e₂:IsZip g₂ z a b .ellipsis:=s₂ _ _ D.i1z.symm e₁
  have hez:e ≠ z:=fun x=>by subst x;rw [e₂] at he1;cases he1;simp at he2
  refine wpAny_setField_rec e₂ (by simp) fun g₃ _ s₃=>?_
  refine wpAny_bind (wpAny_isInstance (T := "StopIteration") (b:=true) ⟨oe,s₃.extBut _ _ hez he1,he2⟩ isSubtype_stop ?_)
  exact wpAny_pure (kq _ fun c o c1 _ c3 _ x=>s₃.extBut _ _ c1 (s₂ _ _ c3 (s₁.extBut _ _ c1 x)))
noncomputable abbrev zh (h:Heap) (l:Addr):Heap:=h.push { cls:=.type "tuple_iterator",data:=.fields #[.ref l,.int 0 0] }
theorem zipNewMeets (l1 l2:Addr) (xs ys:Array Value) :
    Meets (Builtin.«zip.__new__» ⟨[.type "zip",.ref l1,.ref l2],[]⟩) (fun _ R s=>s.heap.IsTuple l1 xs/\s.heap.IsTuple l2 ys/\∀ g,g=(((zh (zh s.heap l1) l2).push { cls:=.type "tuple",data:=.seq #[.ref s.heap.objs.size,.ref (zh s.heap l1).objs.size] }).push { cls:=.type "tuple",data:=.seq #[.none,.none] }) ->
      R (.ok (.ret (.ref g.objs.size))) { s with heap:=g.push { cls:=.type "zip",data:=.fields #[.none,.bool false,.bool false,.ref (zh (zh s.heap l1) l2).objs.size,.ref ((zh (zh s.heap l1) l2).push { cls:=.type "tuple",data:=.seq #[.ref s.heap.objs.size,.ref (zh s.heap l1).objs.size] }).objs.size] } }) :=
  .of_wp fun prog w A R s h=>by
    obtain ⟨hp,g,d,tk,os⟩:=s;obtain ⟨q1,q2,h⟩:=h
    have hsub:=sub_zip
    have L1:Heap.IsTuple (Shared.heap ⟨hp,g,d,tk,os⟩) l1 xs:=q1
    have L2:Heap.IsTuple (Shared.heap ⟨zh hp l1,g,d,tk,os⟩) l2 ys:=q2.at fun o e=>Heap.get?_push_of_some _ e
    wp_walk using wpAny_pyIter_tuple L1,wpAny_pyIter_tuple L2
    exact ⟨_,rfl,h _ rfl⟩
theorem callZip {l1 l2:Addr} {xs ys:Array Value} {Q:Value->Shared->Prop} (h1:s.heap.IsTuple l1 xs) (h2:s.heap.IsTuple l2 ys)
    (k:∀ g,ZipAt g (s.heap.objs.size + 4) (s.heap.objs.size + 2) (s.heap.objs.size + 3) s.heap.objs.size (s.heap.objs.size + 1) l1 l2 xs ys 0 .none->(∀ c o,s.heap.get? c=some o->g.get? c=some o)->Q (.ref (s.heap.objs.size + 4)) { s with heap:=g }) :
    wpAny (model prog w) A (call (.type "zip") [.ref l1,.ref l2]) Q E s:=by
  refine callType_new F.called_zip (by decide) (F.typeCall_zip_2 _ _) (F.newCall_zip_2 _ _) (fun obj=>F.args_object_init_3 obj _ _) F.entry_zip_new (zipNewMeets l1 l2 xs ys) ⟨h1,h2,fun g hg=>?_⟩
  generalize e1:zh s.heap l1=a1 at *
  generalize e2:zh a1 l2=a2 at *
  generalize e3:a2.push { cls:=.type "tuple",data:=.seq #[.ref s.heap.objs.size,.ref a1.objs.size] }=a3 at *
  have n1:a1.objs.size=s.heap.objs.size + 1:=by rw [<- e1];exact Heap.size_push ..
  have n2:a2.objs.size=s.heap.objs.size + 2:=by rw [<- e2,Heap.size_push,n1]
  have n3:a3.objs.size=s.heap.objs.size + 3:=by rw [<- e3,Heap.size_push,n2]
  have n4:g.objs.size=s.heap.objs.size + 4:=by rw [hg,Heap.size_push,n3]
  have up1:∀ c o,s.heap.get? c=some o->a1.get? c=some o:=fun c o x=>e1 ▸ Heap.get?_push_of_some _ x
  have up2:∀ c o,a1.get? c=some o->a2.get? c=some o:=fun c o x=>e2 ▸ Heap.get?_push_of_some _ x
  have up3:∀ c o,a2.get? c=some o->a3.get? c=some o:=fun c o x=>e3 ▸ Heap.get?_push_of_some _ x
  have up4:∀ c o,a3.get? c=some o->g.get? c=some o:=fun c o x=>hg ▸ Heap.get?_push_of_some _ x
  have x1:a1.get? s.heap.objs.size=some { cls:=.type "tuple_iterator",data:=.fields #[.ref l1,.int 0 0] }:=e1 ▸ Heap.get?_push_size _ rfl
  have x2:a2.get? (s.heap.objs.size + 1)=some { cls:=.type "tuple_iterator",data:=.fields #[.ref l2,.int 0 0] }:=by rw [<- n1];exact e2 ▸ Heap.get?_push_size _ rfl
  have x3:a3.get? (s.heap.objs.size + 2)=some { cls:=.type "tuple",data:=.seq #[.ref s.heap.objs.size,.ref a1.objs.size] }:=by rw [<- n2];exact e3 ▸ Heap.get?_push_size _ rfl
  have x4:g.get? (s.heap.objs.size + 3)=some { cls:=.type "tuple",data:=.seq #[.none,.none] }:=by rw [<- n3];exact hg ▸ Heap.get?_push_size _ rfl
  have x5:(g.push { cls:=.type "zip",data:=.fields #[.none,.bool false,.bool false,.ref a2.objs.size,.ref a3.objs.size] }).get? (s.heap.objs.size + 4)=some { cls:=.type "zip",data:=.fields #[.none,.bool false,.bool false,.ref a2.objs.size,.ref a3.objs.size] }:=by rw [<- n4];exact Heap.get?_push_size _ rfl
  rw [n2,n3] at x5
  rw [n1] at x3
  show _/\_
  rw [n4,n2,n3]
  have all:∀ c o,s.heap.get? c=some o->(g.push { cls:=.type "zip",data:=.fields #[.none,.bool false,.bool false,.ref (s.heap.objs.size + 2),.ref (s.heap.objs.size + 3)] }).get? c=some o:=fun c o x=>Heap.get?_push_of_some _ (up4 _ _ (up3 _ _ (up2 _ _ (up1 _ _ x))))
  refine ⟨⟨_,x5,rfl⟩,k _ ⟨x5,Heap.get?_push_of_some _ (up4 _ _ x3),⟨_,_,Heap.get?_push_of_some _ x4⟩,⟨_,Heap.get?_push_of_some _ (up4 _ _ (up3 _ _ (up2 _ _ x1))),rfl,rfl⟩,⟨_,Heap.get?_push_of_some _ (up4 _ _ (up3 _ _ x2)),rfl,rfl⟩,h1.at fun o e=>all _ o e,h2.at fun o e=>all _ o e⟩ all⟩
end
end L2
end
section
namespace L2
open PySem PySem.Spec PyProof.Rows
noncomputable def Itz (K:PySem.W.Frag) (l1 l2:Addr):It :=
  ⟨fun i H=>∃ xs ys x y,SqT K H l1 xs/\SqT K H l2 ys/\xs[i]?=some x/\ys[i]?=some y,
   fun i H v H'=>∃ p,H p=none/\v = .ref p/\∀ xs ys x y,SqT K H l1 xs->SqT K H l2 ys->xs[i]?=some x->ys[i]?=some y->H'=upd H p (.tup [x,y]),
   fun i H=>∃ xs,SqT K H l1 xs/\xs.length<=i/\∃ ys,SqT K H l2 ys⟩
noncomputable def znt (z a b i1 i2 l1 l2:Addr) (i:Nat) (h:Heap):Prop:=IsZip h z a b .none/\IsPair h a (.ref i1) (.ref i2)/\(∃ u v,IsPair h b u v)/\h.IsTupleIter i1 l1 i/\h.IsTupleIter i2 l2 i
theorem turn_zip {P:Program} {w:World} {K:PySem.W.Frag} {elts:List Expr} {x1} {pos:Pos} {z a b i1 i2 l1 l2:Addr} (D:ZipApart z a b i1 i2 l1 l2):Turn P w K (.Tuple elts x1 pos) (Itz K l1 l2) [z,a,b,i1,i2] z (znt z a b i1 i2 l1 l2) where
  mem:=by simp
  obj:=fun i h st c hc=>by
    obtain ⟨h1,h2,⟨u,v,h3⟩,⟨o4,h4,_,d4⟩,⟨o5,h5,_,d5⟩⟩:=st
    simp only [List.mem_cons,List.mem_nil_iff,or_false] at hc
    rcases hc with rfl | rfl | rfl | rfl | rfl
    . exact ⟨_,h1,fun v z=>by cases z⟩
    . exact ⟨_,h2,fun v z=>by cases z⟩
    . exact ⟨_,h3,fun v z=>by cases z⟩
    . exact ⟨_,h4,fun v z=>by rw [d4] at z;cases z⟩
    . exact ⟨_,h5,fun v z=>by rw [d5] at z;cases z⟩
  keep:=fun i h h' st k=>by
    obtain ⟨h1,h2,⟨u,v,h3⟩,h4,h5⟩:=st
    exact ⟨k _ (by simp) _ h1,k _ (by simp) _ h2,⟨u,v,k _ (by simp) _ h3⟩,h4.at fun o e=>k _ (by simp) o e,h5.at fun o e=>k _ (by simp) o e⟩
  item := by
    intro X hP hw hK hc i pins s σ H E I hf st hg
    subst hP hw hK
    obtain ⟨xs,ys,x,y,q1,q2,hx,hy⟩:=hg
    obtain ⟨its,rv,p,hz⟩:=I.tuple q1
    obtain ⟨its',rv',p',hz'⟩:=I.tuple q2
    obtain ⟨u,hu,ru⟩:=rv.get hx
    obtain ⟨u',hu',ru'⟩:=rv'.get hy
    obtain ⟨h1,h2,h3,h4,h5⟩:=id st
    refine zipNext D ⟨h1,h2,h3,h4,h5,p,p'⟩ (x:=u) (y:=u') (by simpa using hu) (by simpa using hu') fun g Z pr all=>⟨_,rfl,?_⟩
    refine wpAny_letOwnedTupleGo_zip (s:={ s with heap:=g }) Z.z fun g2 e2 s2=>?_
    have hn:H s.heap.objs.size=none:=I.hok.fresh (Nat.le_refl _)
    have lt:∀ c ∈ [z,a,b,i1,i2],c < s.heap.objs.size:=fun c hc=>by
      have:=(hf c hc)
      obtain ⟨w1,w2,⟨_,_,w3⟩,⟨_,w4,_⟩,⟨_,w5,_⟩⟩:=st
      simp only [List.mem_cons,List.mem_nil_iff,or_false] at hc
      rcases hc with rfl | rfl | rfl | rfl | rfl
      . exact Heap.lt_size w1
      . exact Heap.lt_size w2
      . exact Heap.lt_size w3
      . exact Heap.lt_size w4
      . exact Heap.lt_size w5
    have kp:∀ c o,c ∉ [z,a,b,i1,i2]->s.heap.get? c=some o->g2.get? c=some o:=fun c o hc e=>by
      simp only [List.mem_cons,List.mem_nil_iff,or_false,not_or] at hc
      exact s2.extBut _ _ hc.1 (all c o hc.1 hc.2.2.1 hc.2.2.2.1 hc.2.2.2.2 e)
    have trk:∀ c u,H c=some u->c ∉ [z,a,b,i1,i2]:=fun c u e hc=>by rw [(hf c hc).1] at e;cases e
    have pr2:g2.get? s.heap.objs.size=some { cls:=.type "tuple",data:=.seq #[u,u'] }:=s2.extBut _ _ (Nat.ne_of_gt (lt z (by simp))) pr
    have I2:Inv X pins σ (upd H s.heap.objs.size (.tup [x,y])) { s with heap:=g2 }:=by
      refine I.step (g':=s.gens) (d':=s.drawn) (t':=s.toks) (ch:=[z,a,b,i1,i2]) (fun c hc=>?_) (fun c o _ _ hc e _=>kp c o hc e) (fun c o _ _ hc e _=>⟨o.slots,kp c o hc e⟩) (fun c o _ e n=>?_)
        (fun c o hc e=>⟨o,kp c o hc e⟩) (fun c vs e=>?_) (fun c o vs e=>?_) (fun c ps e=>⟨#[],?_⟩) (fun m hm=>?_) (fun c v e=>?_) I.bare
      . obtain ⟨f0,f1,f2,f3,f4,f5⟩:=hf c hc
        exact ⟨f3,f1,f4,f5⟩
      . rw [upd_ne (Nat.ne_of_lt (Heap.lt_size e))];exact n
      . rw [upd_ne (ne_of_none e hn)];exact e
      . rw [upd_ne (ne_of_none e hn)];exact e
      . rw [upd_ne (ne_of_none e hn),e];simp
      . obtain ⟨o,es,ep,ho,r⟩:=hm
        exact ⟨o,es,ep,kp _ o (fun hc=>(hf _ hc).2.1 rfl) ho,r⟩
      . by_cases hb:c=s.heap.objs.size
        . subst hb
          rw [upd_same] at e;cases e
          exact ⟨by show 2<=sizeLine;decide,[u,u'],.cons ru (.cons ru' .nil),⟨_,pr2,rfl,_,rfl⟩⟩
        . rw [upd_ne hb] at e
          refine (I.hok c v e).stay (fun d o hd q=>kp d o ?_ q) (fun d q=>by rw [upd_ne (ne_of_none q hn)];exact q) fun d ts q=>by rw [upd_ne (ne_of_none q hn)];exact q
          rcases hd with rfl | hd
          . exact trk _ _ e
          . exact trk _ _ hd
    refine ⟨.ref s.heap.objs.size,_,I2,rfl,⟨_,hn,rfl,fun xs' ys' x' y' a1 a2 a3 a4=>?_⟩,⟨e2,s2.extBut _ _ D.TIz Z.a,?_,Z.i1.extBut s2.extBut D.i1z,Z.i2.extBut s2.extBut D.i2z⟩,fun c hc=>?_⟩
    . rw [I.tuple_inj a1 q1,hx] at a3
      rw [I.tuple_inj a2 q2,hy] at a4
      cases a3;cases a4;rfl
    . obtain ⟨v1,v2,e3⟩:=Z.b
      exact ⟨v1,v2,s2.extBut _ _ D.TOz e3⟩
    . rw [upd_ne (Nat.ne_of_lt (lt c hc))];exact (hf c hc).1
  done:=by
    intro X hP hw hK hc i pins s σ H E I hf st hg
    subst hP hw hK
    obtain ⟨xs,q1,hx,ys,q2⟩:=hg
    obtain ⟨its,rv,p,hz⟩:=I.tuple q1
    obtain ⟨its',rv',p',hz'⟩:=I.tuple q2
    obtain ⟨h1,h2,h3,h4,h5⟩:=id st
    have hl:=rv.length
    refine zipEnd (I.ok.hd hc) D ⟨h1,h2,h3,h4,h5,p,p'⟩ (by simp;omega) fun g all=>⟨rfl,?_⟩
    have kp:∀ c o,c ∉ [z,a,b,i1,i2]->s.heap.get? c=some o->g.get? c=some o:=fun c o hc e=>by
      simp only [List.mem_cons,List.mem_nil_iff,or_false,not_or] at hc
      exact all c o hc.1 hc.2.2.1 hc.2.2.2.1 hc.2.2.2.2 e
    have trk:∀ c u,H c=some u->c ∉ [z,a,b,i1,i2]:=fun c u e hc=>by rw [(hf c hc).1] at e;cases e
    refine I.step (g':=s.gens) (d':=s.drawn) (t':=s.toks) (ch:=[z,a,b,i1,i2]) (fun c hc=>?_) (fun c o _ _ hc e _=>kp c o hc e) (fun c o _ _ hc e _=>⟨o.slots,kp c o hc e⟩) (fun c o _ e n=>n)
        (fun c o hc e=>⟨o,kp c o hc e⟩) (fun c vs e=>e) (fun c o vs e=>e) (fun c ps e=>⟨#[],by rw [e];simp⟩) (fun m hm=>?_) (fun c v e=>?_) I.bare
    . obtain ⟨f0,f1,f2,f3,f4,f5⟩:=hf c hc
      exact ⟨f3,f1,f4,f5⟩
    . obtain ⟨o,es,ep,ho,r⟩:=hm
      exact ⟨o,es,ep,kp _ o (fun hc=>(hf _ hc).2.1 rfl) ho,r⟩
    . refine (I.hok c v e).stay (fun d o hd q=>kp d o ?_ q) (fun d q=>q) fun d ts q=>q
      rcases hd with rfl | hd
      . exact trk _ _ e
      . exact trk _ _ hd
  self:=fun _ _ _ _ _ st h=>wpAny_pyIter_zip st.1 h
section
variable {X:Cx}
noncomputable def iZip (K:PySem.W.Frag) (ta:TA):TI:=fun σ H R=>ta σ H fun vs H1=>∃ l1 l2,vs=[.ref l1,.ref l2]/\(∃ xs,SqT K H1 l1 xs)/\(∃ ys,SqT K H1 l2 ys)/\R (Itz K l1 l2) H1
theorem pi_zip {a b : Expr} {ta : TA} {p pos pt : Pos} {elts : List Expr} {x1} (hg : Gl X "zip") (hm : X.mg "zip" = none) (ha : PA X [a, b] ta) (hs : starEach [a, b] X.env = [(false, eval a X.env), (false, eval b X.env)] := by rfl) (hs2 : starEach [b] X.env = [(false, eval b X.env)] := by rfl) :
    PI X (.Tuple elts x1 pt) (.Call (.Name "zip" p) [a,b] [] pos) (iZip X.K ta):=by
  intro pins s σ H R I h
  refine Call_ (ld_blt I hg hm boot_zip (PyProof.Rows.callWith_type1 (thn (ha pos pins s σ H _ I h) fun us s1 ⟨vs,H1,I1,r1,q1⟩=>?_) (by rw [hs,hs2]) (by rw [hs2];rfl)))
  obtain ⟨l1,l2,e,⟨xs,q1⟩,⟨ys,q2⟩,q⟩:=q1
  subst e
  cases r1 with
  | cons r rr =>
    cases rr with
    | cons r' rr =>
      cases rr
      cases (show _=Value.ref l1 from r)
      cases (show _=Value.ref l2 from r')
      obtain ⟨its,rv,p1,_⟩:=I1.tuple q1
      obtain ⟨its',rv',p2,_⟩:=I1.tuple q2
      have a1:l1 < s1.heap.objs.size:=by obtain ⟨_,e,_⟩:=p1;exact Heap.lt_size e
      have a2:l2 < s1.heap.objs.size:=by obtain ⟨_,e,_⟩:=p2;exact Heap.lt_size e
      refine callZip (show s1.heap.IsTuple l1 its.toArray from p1) (show s1.heap.IsTuple l2 its'.toArray from p2) fun g Z all=>?_
      refine wpAny_pyIter_zip (s:={ s1 with heap:=g }) Z.z ?_
      refine ⟨_,_,_,_,H1,rfl,I1.kept (t':=s1.toks) all,turn_zip (PyProof.Rows.zipApart_new a1 a2),⟨Z.z,Z.a,Z.b,Z.i1,Z.i2⟩,fun b hb=>?_,q⟩
      have ge:s1.heap.objs.size<=b:=by
        simp only [List.mem_cons,List.mem_nil_iff,or_false] at hb
        rcases hb with rfl | rfl | rfl | rfl | rfl
        . exact Nat.le_add_right _ 4
        . exact Nat.le_add_right _ 2
        . exact Nat.le_add_right _ 3
        . exact Nat.le_refl _
        . exact Nat.le_add_right _ 1
      exact I1.fpOk ge (I1.hok.fresh ge)
end
end L2
end
section
namespace L2
open PySem PySem.Spec PyProof.Rows
theorem weight_in:∀ (ns:List Int) (n:Int),n ∈ ns->PySem.W.WData.weight (.int n)<=PySem.W.WData.weightAll (ns.map PySem.W.WData.int)
  | m :: ns, n, h => by
    rw [List.map_cons,PySem.W.WData.weightAll]
    rcases List.mem_cons.mp h with rfl | h
    . omega
    . have:=weight_in ns n h
      omega
theorem walkB {l:PySem.W.OpenLaw} {n k:Nat} {q:Program} {loose:List Str} {XP:(Str->Option Value)->Heap->Prop} {YP:World->Heap->Prop} {d:DefRec} {K:Params->PySem.W.Frag} {sp:PySem.W.Frag->Sp} {x:Str}
    (hn:l.most=some n) (hn2:n<=sizeLine) (hdf:d.params.defaults=[]) (hr:Room k callerA) (hY:∀ (w:World) (h:Heap),YP w h->(K w.params).In h)
    (F:∀ (w:World) (mg:Str->Option Value) (fa:Addr) (h:Heap),(K w.params).In h->h.Ns mainGlobals mg->mg d.name=some (.ref fa) ->
      ∃ fd:FuncData,(∀ (s:Shared) (u:Value),BindsTo s fd ⟨[u],[]⟩ [(x,u)])/\∀ base:Heap,(K w.params).In base->base.Ns mainGlobals mg->FnOk l.prog w (K w.params) mg base CX0 k fa fd [x] (sp (K w.params)))
    (hsp:∀ (K:PySem.W.Frag) (H:Hp) (a:Addr) (ns:List Int),ns.length<=n->(∀ v ∈ ns,Builtin.Int.intBits v<=2 ^ 20)->SqL K H a (ns.map V.int)->sp K [.ref a] H (fun v _=>v = .bl true) fun _ _ _=>False) :
    PySem.W.WalkO q loose XP YP l.row.toRowW d [] (fun f vs=>PySem.call f vs):=by
  intro w s₀ s₁ mg mb G Y fa o pm cd doc dV kV ho hd hcd hD hmg hg args vals as hpre hlay hrd hwl hlo
  obtain rfl:dV = .none:=PySem.W.Dflts.none hD hdf
  obtain rfl:kV = .none:=PySem.W.Dflts.noKw hD
  obtain ⟨a,vs,ns,rfl,rfl,hobj,hints,hlen⟩:=Att.script_of hn hpre hwl
  have bits:∀ v ∈ ns,Builtin.Int.intBits v<=2 ^ 20:=fun v hv=>by
    have h1:PySem.W.WData.layable (.list (ns.map PySem.W.WData.int))=true:=by
      have h2:[PySem.W.WData.list (ns.map PySem.W.WData.int)].all PySem.W.WData.layable=true:=hlay
      simpa only [List.all_cons,List.all_nil,Bool.and_true] using h2
    have h3:=(PySem.W.layableW_iff.mp h1).2.2
    have h4:=weight_in ns v hv
    rw [PySem.W.WData.weight] at h3
    have h5:PySem.W.WData.weight (.int v)=Builtin.Int.intBits v:=by first | rfl | simp only [PySem.W.WData.weight,Builtin.Int.intBits]
    omega
  have KX:=hY w _ Y
  obtain ⟨fd,hb,hF⟩:=F w mg fa _ KX G.T.g hmg
  have call:=law_call KX G.T.g G.T.b G.T.builtins G.T.nolimit hg hobj hints (Nat.le_trans hlen hn2) hr hF hb (fun H hO hS=>hsp (K w.params) H a ns hlen bits hS) fun H e s' z=>z
  refine PySem.W.enter_call (codeAny_mono call fun r s' hq=>?_)
  obtain ⟨rfl,h2,h3,h4⟩:=hq
  exact ⟨.inl ⟨.bool true,.bool true,[],rfl,fun _=>rfl,.bool true,Att.post_true l _,fun _=>⟨List.Pairwise.nil,fun _ hm=>(nomatch hm)⟩⟩,h2,h3,h4⟩
end L2
end
section
namespace L2
open PySem PySem.Spec PyProof.Rows
open PySem.W (Dat kqdP kqdPs kqdOk)
noncomputable def Tm (H H':Hp):Prop:=∀ (K:PySem.W.Frag) (a:Addr) (xs:List V),SqT K H a xs->SqT K H' a xs
theorem Tm.refl (H:Hp):Tm H H:=fun _ _ _ h=>h
theorem Tm.trans {H H1 H2:Hp} (a:Tm H H1) (b:Tm H1 H2):Tm H H2:=fun K c o h=>b K c o (a K c o h)
theorem Same.tm {H H':Hp} (e:Same H H'):Tm H H':=fun _ _ _ h=>e.tup h
theorem Tm.lst {H:Hp} {D:Addr} {ys:List V} (h:H D=some (.lst ys)) (o:HO):Tm H (upd H D o):=fun K a xs q=>by
  rcases q with (q | ⟨ob,q⟩) | q
  . exact .inl (.inl (by rw [upd_ne (ne_of q h (fun z=>by cases z))];exact q))
  . exact .inl (.inr ⟨ob,by rw [upd_ne (ne_of q h (fun z=>by cases z))];exact q⟩)
  . exact .inr q
theorem Same.snoc {H H5:Hp} {D:Addr} {o:HO} (h:Same H H5) (hn:H D=Option.none):Same H (upd H5 D o):=fun b u e=>by rw [upd_ne (ne_of_none e hn)];exact h b u e
mutual
inductive Fz (K:PySem.W.Frag) (H:Hp):V->Dat->Prop
  | none:Fz K H .non .none
  | bool (b:Bool):Fz K H (.bl b) (.bool b)
  | int (i:Int):Fz K H (.int i) (.int i)
  | str (x:Str):Fz K H (.str x) (.str x)
  | tup {a:Addr} {xs:List V} {ds:List Dat}:SqT K H a xs->Fzs K H xs ds->Fz K H (.ref a) (.tuple ds)
inductive Fzs (K:PySem.W.Frag) (H:Hp):List V->List Dat->Prop
  | nil:Fzs K H [] []
  | cons {x:V} {d:Dat} {xs:List V} {ds:List Dat}:Fz K H x d->Fzs K H xs ds->Fzs K H (x :: xs) (d :: ds)
end
section
variable {K:PySem.W.Frag} {H H':Hp}
mutual
theorem Fz.tm (e:Tm H H'):∀ {v:V} {d:Dat},Fz K H v d->Fz K H' v d
  | _,_,.none=>.none
  | _,_,.bool b=>.bool b
  | _,_,.int i=>.int i
  | _,_,.str x=>.str x
  | _,_,.tup h r=>.tup (e _ _ _ h) (Fzs.tm e r)
theorem Fzs.tm (e:Tm H H'):∀ {v:List V} {d:List Dat},Fzs K H v d->Fzs K H' v d
  | _,_,.nil=>.nil
  | _,_,.cons h r=>.cons (Fz.tm e h) (Fzs.tm e r)
end
theorem Fzs.length:∀ {v:List V} {d:List Dat},Fzs K H v d->v.length=d.length
  | _,_,.nil=>rfl
  | _,_,.cons _ r=>by rw [List.length_cons,List.length_cons,Fzs.length r]
theorem Fzs.snoc:∀ {v:List V} {d:List Dat} {x:V} {e:Dat},Fzs K H v d->Fz K H x e->Fzs K H (v ++ [x]) (d ++ [e])
  | _,_,_,_,.nil,h=>.cons h .nil
  | _,_,_,_,.cons a r,h=>.cons a (Fzs.snoc r h)
theorem Fzs.ints_inv:∀ {vs:List V} {ns:List Int},Fzs K H vs (ns.map Dat.int)->vs=ns.map V.int
  | _,[],h=>by cases h;rfl
  | _,n :: ns,h=>by
    cases h with
    | cons a r =>
      cases a
      rw [Fzs.ints_inv r];rfl
end
section
variable {K:PySem.W.Frag} {te:TE} {σ:St} {H:Hp} {Q:VK}
theorem comp_by {J:It} {g:TG} {no n:Nat} (ds:List Dat) (hn:ds.length=n) (hz:n<=sizeLine) {Pσ:Nat->St->Prop} (h0:Pσ 0 (List.replicate no none ++ σ))
    (stop:∀ H',Same H H'->J.stop n H') (go:∀ i H',i < n->Same H H'->J.go i H')
    (turn:∀ i σ' H' d,ds[i]?=some d->Same H H'->Pσ i σ'->∀ x H2,J.yld i H' x H2->g x σ' H2 fun σ3 H3=>te σ3 H3 fun v H5=>Pσ (i + 1) σ3/\Same H' H5/\Fz K H5 v d)
    (mono:∀ x σ' H2 Q1 Q2,(∀ σ3 H3,Q1 σ3 H3->Q2 σ3 H3)->g x σ' H2 Q1->g x σ' H2 Q2) (monoE:∀ σ' H2 Q1 Q2,(∀ v H3,Q1 v H3->Q2 v H3)->te σ' H2 Q1->te σ' H2 Q2)
    (fin:∀ D H' ys,Same H H'->H' D=some (.lst ys)->H D=Option.none->Fzs K H' ys ds->Q (.ref D) H') :
    CompW no (J) g tAll te σ H Q:=by
  intro D hD
  refine ⟨fun i m σ' H'=>m=n - i/\i<=n/\Pσ i σ'/\Same H H'/\∃ ys,H' D=some (.lst ys)/\Fzs K H' ys (ds.take i),⟨n,by omega,Nat.zero_le _,h0,Same.new hD _,[],upd_same,.nil⟩,?_⟩
  rintro i m σ' H' ⟨rfl,hi,hp,hs,ys,hy,hf⟩
  by_cases hlt:i < n
  . refine .inr ⟨go i H' hlt hs,fun x H2 hy2=>?_⟩
    obtain ⟨d,hd⟩:∃ d,ds[i]?=some d:=⟨ds[i],by simp⟩
    refine mono _ _ _ _ _ (fun σ3 H3 h3=>?_) (turn i σ' H' d hd hs hp x H2 hy2)
    unfold tAll
    dsimp only
    rw [if_pos rfl]
    refine monoE _ _ _ _ (fun v H5 h5=>?_) h3
    obtain ⟨p5,s5,f5⟩:=h5
    have l:ys.length=i:=by rw [hf.length,List.length_take];omega
    refine ⟨ys,s5 _ _ hy,by omega,n - (i + 1),by omega,rfl,hlt,p5,(hs.trans s5).snoc hD,ys ++ [v],upd_same,?_⟩
    have tm:=Tm.lst (s5 _ _ hy) (.lst (ys ++ [v]))
    rw [List.take_add_one,hd]
    exact ((hf.tm s5.tm).tm tm).snoc (f5.tm tm)
  . have e:i=n:=by omega
    subst e
    refine .inl ⟨stop H' hs,fin D H' ys hs hy hD ?_⟩
    rw [<- hn,List.take_length] at hf
    exact hf
theorem gName_mono {i:Nat}:∀ x σ' H2 Q1 Q2,(∀ σ3 H3,Q1 σ3 H3->Q2 σ3 H3)->gName i x σ' H2 Q1->gName i x σ' H2 Q2:=fun _ _ _ _ _ h q=>h _ _ q
theorem comp_tup {a:Addr} {xs:List V} (ds:List Dat) (hS:SqT K H a xs) (hn:ds.length=xs.length) (hz:xs.length<=sizeLine)
    (turn:∀ (i:Nat) x H' d,xs[i]?=some x->ds[i]?=some d->Same H H'->te (some x :: σ) H' fun v H5=>Same H' H5/\Fz K H5 v d)
    (monoE:∀ σ' H2 Q1 Q2,(∀ v H3,Q1 v H3->Q2 v H3)->te σ' H2 Q1->te σ' H2 Q2)
    (fin:∀ D H' ys,Same H H'->H' D=some (.lst ys)->H D=Option.none->Fzs K H' ys ds->Q (.ref D) H') :
    CompW 1 (Itt K a) (gName 0) tAll te σ H Q:=by
  refine comp_by (J:=Itt K a) (K:=K) ds hn hz (Pσ:=fun _ σ'=>∃ o,σ'=o :: σ) ⟨none,rfl⟩ (fun H' s=>⟨xs,s.tup hS,Nat.le_refl _⟩) (fun i H' hi s=>⟨xs,xs[i],s.tup hS,by simp [hi]⟩) ?_ gName_mono monoE fin
  rintro i σ' H' d hd s ⟨o,rfl⟩ x H2 ⟨rfl,hy⟩
  have hx:=hy xs (s.tup hS)
  refine monoE _ _ _ _ (fun v H3 h=>?_) (turn i x H2 d hx hd s)
  exact ⟨⟨_,rfl⟩,h⟩
noncomputable def gPair (K:PySem.W.Frag):TG:=gTup K 2 (gCons (gName 0) (gCons (gName 1) gNil))
theorem comp_zip {l1 l2:Addr} {xs ys:List V} (ds:List Dat) (h1:SqT K H l1 xs) (h2:SqT K H l2 ys) (hl:ys.length=xs.length) (hn:ds.length=xs.length) (hz:xs.length<=sizeLine)
    (turn:∀ (i:Nat) x y H' d,xs[i]?=some x->ys[i]?=some y->ds[i]?=some d->Same H H'->te (some x :: some y :: σ) H' fun v H5=>Same H' H5/\Fz K H5 v d)
    (monoE:∀ σ' H2 Q1 Q2,(∀ v H3,Q1 v H3->Q2 v H3)->te σ' H2 Q1->te σ' H2 Q2)
    (fin:∀ D H' ys,Same H H'->H' D=some (.lst ys)->H D=Option.none->Fzs K H' ys ds->Q (.ref D) H') :
    CompW 2 (Itz K l1 l2) (gPair K) tAll te σ H Q:=by
  refine comp_by (J:=Itz K l1 l2) (K:=K) ds hn hz (Pσ:=fun _ σ'=>∃ o p,σ'=o :: p :: σ) ⟨none,none,rfl⟩ (fun H' s=>⟨xs,s.tup h1,Nat.le_refl _,ys,s.tup h2⟩) (fun i H' hi s=>⟨xs,ys,xs[i],ys[i],s.tup h1,s.tup h2,by simp [hi],by simp [hl,hi]⟩) ?_ ?_ monoE fin
  . rintro i σ' H' d hd s ⟨o,o',rfl⟩ x H2 ⟨p,hp,rfl,hy⟩
    have hi:i < xs.length:=by
      have:=(List.getElem?_eq_some_iff.mp hd).1
      omega
    have ex:xs[i]?=some xs[i]:=by simp [hi]
    have ey:ys[i]?=some (ys[i]'(by omega)):=by simp [hl,hi]
    have e2:=hy xs ys _ _ (s.tup h1) (s.tup h2) ex ey
    subst e2
    have s2:Same H' (upd H' p (.tup [xs[i],ys[i]'(by omega)])):=Same.new hp _
    refine ⟨p,_,rfl,SqT.of upd_same,rfl,_,_,rfl,_,_,rfl,rfl,?_⟩
    refine monoE _ _ _ _ (fun v H3 h=>?_) (turn i _ _ _ d ex ey hd (s.trans s2))
    exact ⟨⟨_,_,rfl⟩,s2.trans h.1,h.2⟩
  . rintro x σ' H2 Q1 Q2 hq ⟨a,vs,e1,e2,e3,v1,r1,e4,v2,r2,e5,e6,q⟩
    exact ⟨a,vs,e1,e2,e3,v1,r1,e4,v2,r2,e5,e6,hq _ _ q⟩
theorem pg_pair {X:Cx} {own:List Str} {scope:Scope} {C:Addr} {fp:List Addr} {s:Shared} {H:Hp} {x y:Str} {px py pos:Pos} {k:Nat} (hc:X.calm=true) (nd:(cxComp X own scope C fp s H).N.Nodup) (h0:(cxComp X own scope C fp s H).N[0]?=some x) (h1:(cxComp X own scope C fp s H).N[1]?=some y)
    (l0:(cxComp X own scope C fp s H).env.scope.names.lookup x=some .local) (l1:(cxComp X own scope C fp s H).env.scope.names.lookup y=some .local):PG (cxComp X own scope C fp s H) (.Tuple [.Name x px,.Name y py] k pos) (gPair X.K) :=
  pg_tup (X:=cxComp X own scope C fp s H) (n:=2) hc (pgs_cons (pg_name (i:=0) nd h0 (Or.inl l0) (Or.inr l0)) (pgs_cons (pg_name (i:=1) nd h1 (Or.inl l1) (Or.inr l1)) pgs_nil))
end
end L2
end
section
namespace L2
open PySem PySem.Spec PyProof.Rows
section
variable {X:Cx} {es:List Expr} {t:TA} {te:TE}
theorem pa_i {i:Int} {j:Nat} {p:Pos} (hr:PA X es t):PA X (.Constant (.int i) j p :: es) (tCons (tC (.int i)) t):=pa_cons pe_int hr rfl
theorem pa_n {x:Str} {p:Pos} (ha:PE X (.Name x p) te) (hr:PA X es t):PA X (.Name x p :: es) (tCons te t):=pa_cons ha hr rfl
theorem pa_b {a b:Expr} {op:Operator} {p:Pos} (ha:PE X (.BinOp a op b p) te) (hr:PA X es t):PA X (.BinOp a op b p :: es) (tCons te t):=pa_cons ha hr rfl
theorem pa_u {a:Expr} {op:UnaryOp} {p:Pos} (ha:PE X (.UnaryOp op a p) te) (hr:PA X es t):PA X (.UnaryOp op a p :: es) (tCons te t):=pa_cons ha hr rfl
theorem pa_s {a b:Expr} {p:Pos} (ha:PE X (.Subscript a b p) te) (hr:PA X es t):PA X (.Subscript a b p :: es) (tCons te t):=pa_cons ha hr rfl
theorem pa_c {f:Expr} {a:List Expr} {k:List Keyword} {p:Pos} (ha:PE X (.Call f a k p) te) (hr:PA X es t):PA X (.Call f a k p :: es) (tCons te t):=pa_cons ha hr rfl
theorem pa_t {a:List Expr} {p:Pos} {k:Nat} (ha:PE X (.Tuple a k p) te) (hr:PA X es t):PA X (.Tuple a k p :: es) (tCons te t):=pa_cons ha hr rfl
theorem pix_call {f:Expr} {a:List Expr} {k:List Keyword} {p:Pos}:PlainIx (.Call f a k p):=fun _ _=>rfl
theorem sw_sub {a b:Expr} {p:Pos} {t:Option Expr} {l:Nat} {env:Env}:swapsWith (.Subscript a b p) t l env=pure false:=rfl
end
end L2
end
section
namespace L2
open PySem PySem.Spec PyProof.Rows
open PySem.W (Dat)
section
end
theorem ixN_of {n:Nat} {d:Int} (h0:0<=d) (h1:d < (n:Int)):ixN n d=some d.toNat:=by
  unfold ixN
  rw [if_pos h0,if_pos h1]
theorem kqd_ints (ns:List Int) (n:Nat):(ns.map Dat.int).all (PySem.W.kqdOk n)=true:=by
  rw [List.all_map,List.all_eq_true]
  intro x _
  cases n <;> rfl
theorem kqd_tup {ns:List Int}:PySem.W.kqdOk 9 (.tuple (ns.map .int))=true:=kqd_ints ns 8
theorem map_int_inj {ns ms:List Int} (h:ns.map Dat.int=ms.map Dat.int):ns=ms:=by
  induction ns generalizing ms with
  | nil=>cases ms with
    | nil=>rfl
    | cons b r=>cases h
  | cons a r ih=>cases ms with
    | nil=>cases h
    | cons b r' =>
      rw [List.map_cons,List.map_cons] at h
      injection h with h1 h2
      injection h1 with h1
      rw [h1,ih h2]
theorem deq_tup {ns ms:List Int}:deq (.tuple (ns.map .int)) (.tuple (ms.map .int))=decide (ns=ms):=by
  by_cases h:ns=ms
  . subst h;rw [deq_self,decide_eq_true rfl]
  . rw [decide_eq_false h]
    exact deq_ne fun z=>h (map_int_inj (by injection z))
theorem pe_tyn {X:Cx} {x:Str} {T:String} {pos:Pos} (hg:Gl X x) (hm:X.mg x=none) (hv:bootBuiltins x=some (.type T)) (hn:x ≠ "__name__" := by decide) (hd:(x == ("__debug__" : Str))=false:=by decide):PE X (.Name x pos) (tC (.ty T)) :=
  pe_bltn (v:=.ty T) hg hm hv rfl hn hd
end L2
end
section
namespace L2
open PySem PySem.Spec PyProof.Rows
noncomputable def DefAt (K:PySem.W.Frag) (x:Str) (st:Stmt):Prop:=∃ (f:Addr) (oc:Value) (od:Option Addr) (kV dc pm:Value) (an:Option Addr) (cd ct:Value) (sl:Array (Option Value)),
  PySem.W.nsIn K mainGlobals x=some (some (.ref f))/\K.lookup f=some ⟨oc,od,.func (PySem.W.fnOf x x (defArgs st) (defBody st) (defScope st) .none kV dc pm an cd ct),sl⟩/\PySem.W.codeIn K cd x=true/\PySem.W.keepIn K (.ref f)=true
theorem DefAt.mk {K:PySem.W.Frag} {x:Str} {st:Stmt} {f:Addr} {oc:Value} {od:Option Addr} {kV dc pm:Value} {an:Option Addr} {cd ct:Value} {sl:Array (Option Value)} (a:PySem.W.nsIn K mainGlobals x=some (some (.ref f)))
    (l:K.lookup f=some ⟨oc,od,.func (PySem.W.fnOf x x (defArgs st) (defBody st) (defScope st) .none kV dc pm an cd ct),sl⟩) (c:PySem.W.codeIn K cd x=true) (k:PySem.W.keepIn K (.ref f)=true):DefAt K x st:=⟨f,oc,od,kV,dc,pm,an,cd,ct,sl,a,l,c,k⟩
theorem DefAt.get {K:PySem.W.Frag} {x:Str} {st:Stmt} {h:Heap} {mg:Str->Option Value} (d:DefAt K x st) (X:K.In h) (G:h.Ns mainGlobals mg):∃ (f:Addr) (fd:FuncData),Fun K x x st f fd/\mg x=some (.ref f)/\PySem.W.keepIn K (.ref f)=true:=by
  obtain ⟨f,oc,od,kV,dc,pm,an,cd,ct,sl,a,l,c,k⟩:=d
  exact ⟨f,_,fun_mk l c k,PySem.W.mg_of X G a,k⟩
theorem DefAt.law {K:PySem.W.Frag} {x y:Str} {st:Stmt} {h:Heap} {mg:Str->Option Value} {fa:Addr} (d:DefAt K x st) (X:K.In h) (G:h.Ns mainGlobals mg) (hfa:mg x=some (.ref fa))
    (hb:∀ (kV doc pm:Value) (an:Option Addr) (cdv ct:Value) (u:Value),bindArgs (PySem.W.fnOf x x (defArgs st) (defBody st) (defScope st) .none kV doc pm an cdv ct) ⟨[u],[]⟩=pure [(y,u)]):∃ (fd:FuncData),Fun K x x st fa fd/\∀ (s:Shared) (v:Value),BindsTo s fd ⟨[v],[]⟩ [(y,v)]:=by
  obtain ⟨f,oc,od,kV,dc,pm,an,cd,ct,sl,a,l,c,k⟩:=d
  have e:=hfa.symm.trans (PySem.W.mg_of X G a)
  cases e
  exact ⟨_,fun_mk l c k,fun s v=>.of_eq (hb kV dc pm an cd ct v)⟩
end L2
end
section
namespace L2
open PySem PySem.Spec PyProof.Rows
structure ZE (X:Cx) (e:Expr) (t:TE):Prop where out:PE X e t
structure ZT (X:Cx) (e:Expr) (t:TT):Prop where out:PT X e t
structure ZW (X:Cx) (e:Expr) (t:TT):Prop where out:PW X e t
structure ZA (X:Cx) (es:List Expr) (t:TA):Prop where out:PA X es t
structure ZS (X:Cx) (st:Stmt) (t:TS):Prop where out:PS X st t
structure ZSs (X:Cx) (st:List Stmt) (t:TS):Prop where out:PSs X st t
structure ZG (X:Cx) (e:Expr) (t:TG):Prop where out:PG X e t
structure ZGs (X:Cx) (es:List Expr) (t:TGs):Prop where out:PGs X es t
structure ZI (X:Cx) (tg iter:Expr) (wi:TI):Prop where out:PI X tg iter wi
structure ZTs (X:Cx) (es:List Expr) (t:TT):Prop where out:PTs X es t
section
variable {X:Cx} {a b c e tg:Expr} {es:List Expr} {te ta tb tc:TE} {t:TA} {pos p:Pos} {x:Str}
theorem zss_nil:ZSs X [] tNext:=⟨pss_nil⟩
theorem zss_cons {st:Stmt} {rest:List Stmt} {t u:TS} (h1:ZS X st t) (h2:ZSs X rest u):ZSs X (st :: rest) (tSeq t u):=⟨pss_cons h1.out h2.out⟩
theorem zss_one {st:Stmt} {t:TS} (h1:ZS X st t):ZSs X [st] t:=⟨pss_one h1.out⟩
theorem zs_set {i:Nat} {pos':Pos} (hN:X.N.Nodup) (hi:X.N[i]?=some x) (hx:Loc X.env.scope x) (he:ZE X e te) (hs:swapsWith e (some (.Name x pos')) pos.line X.env=pure false:=by rfl) (hf:X.fn x=true\/X.env.scope.names.lookup x=some .local:=by first | exact .inl rfl | exact .inr rfl | assumption) :
    ZS X (.Assign [.Name x pos'] e pos) (tAsg te (gName i)):=⟨ps_set hN hi hx he.out hs hf⟩
theorem zs_for {iter:Expr} {body:List Stmt} {wi:TI} {g:TG} {tb:TS} (hp:PassesOwn (model X.prog X.w) X.A X.env X.xe) (hc:X.calm=true) (hi:ZI X tg iter wi) (hg:ZG X tg g) (hb:ZSs X body tb)
    (hs:∀ x,foldedSetIterable iter X.env x=pure x:=by intro _;rfl):ZS X (.For tg iter body [] pos) (tFor wi g tb):=⟨ps_for hp hc hi.out hg.out hb.out hs⟩
theorem zs_while {body:List Stmt} {tc:TT} {tb:TS} (hp:PassesOwn (model X.prog X.w) X.A X.env X.xe) (hc:ZT X c tc) (hb:ZSs X body tb):ZS X (.While c body [] pos) (tWhile tc tb):=⟨ps_while hp hc.out hb.out⟩
theorem zs_if {l m:List Stmt} {tc:TT} {t u:TS} (hc:ZT X c tc) (ha:ZSs X l t) (hb:ZSs X m u):ZS X (.If c l m pos) (tIfS tc t u):=⟨ps_if hc.out ha.out hb.out⟩
theorem zs_ret (he:ZE X e te):ZS X (.Return (some e) pos) (tRet te):=⟨ps_ret he.out⟩
theorem zs_expr (he:ZE X e te) (hs:swapsWith e none pos.line X.env=pure false:=by rfl):ZS X (.Expr e pos) (tDrop te):=⟨ps_expr he.out hs⟩
theorem zs_asg {g:TG} (he:ZE X e te) (hg:ZG X tg g) (hs:swapsWithSole [tg] e pos.line X.env=pure false:=by rfl) (hw:swappedStores [tg] e X.env=pure none:=by rfl)
    (h1:(assignEach [tg] X.env).map (·.2)=[assign tg X.env]:=by rfl):ZS X (.Assign [tg] e pos) (tAsg te g):=⟨ps_asg he.out hg.out hs hw h1⟩
theorem zs_par {i j:Nat} {y:Str} {ta:TA} {px py pt:Pos} {kt k2 pt2} (hc:X.calm=true) (hN:X.N.Nodup) (hi:X.N[i]?=some x) (hj:X.N[j]?=some y) (hij:i ≠ j)
    (hx:X.env.scope.names.lookup x=some .local) (hy:X.env.scope.names.lookup y=some .local) (ha:ZA X [a,b] ta)
    (hw:swappedStores [.Tuple [.Name x px,.Name y py] kt pt] (.Tuple [a,b] k2 pt2) X.env=pure (some [x,y]))
    (hs:swapsWithSole [.Tuple [.Name x px,.Name y py] kt pt] (.Tuple [a,b] k2 pt2) pos.line X.env=pure false:=by rfl) :
    ZS X (.Assign [.Tuple [.Name x px,.Name y py] kt pt] (.Tuple [a,b] k2 pt2) pos) (tPar i j ta):=⟨ps_par hc hN hi hj hij hx hy ha.out hw hs⟩
theorem ze_int {i j}:ZE X (.Constant (.int i) j pos) (tC (.int i)):=⟨pe_int⟩
theorem ze_bl {b j}:ZE X (.Constant (.bool b) j pos) (tC (.bl b)):=⟨pe_bl⟩
theorem ze_non {j}:ZE X (.Constant .none j pos) (tC .non):=⟨pe_non⟩
theorem ze_str {x:Str} {j}:ZE X (.Constant (.str x) j pos) (tC (.str x)):=⟨pe_str⟩
theorem zv (i:Nat) (hN:X.N[i]?=some x:=by rfl) (hv:Vis X.env.scope x:=by first | exact Or.inl rfl | exact Or.inr (Or.inl rfl) | exact Or.inr (Or.inr rfl)) (hd:(x == ("__debug__" : Str))=false:=by decide)
    (hcd:(x == ("__classdict__" : Str))=false:=by decide):ZE X (.Name x pos) (tVar i):=⟨pe_var hN hv hd hcd⟩
theorem ze_glob {v:V} {u:Value} (hg:Gl X x) (hm:X.mg x=some u) (r:RelV v u) (hd:(x == ("__debug__" : Str))=false:=by decide):ZE X (.Name x pos) (tC v):=⟨pe_glob hg hm r hd⟩
theorem ze_tyn {T:String} (hg:Gl X x) (hm:X.mg x=none) (hv:bootBuiltins x=some (.type T)) (hn:x ≠ "__name__" := by decide) (hd:(x == ("__debug__" : Str))=false:=by decide):ZE X (.Name x pos) (tC (.ty T)):=⟨pe_tyn hg hm hv hn hd⟩
theorem ze_op {op:Operator} {r:R2} (ho:OpR X (binaryOp op) r) (ha:ZE X a ta) (hb:ZE X b tb):ZE X (.BinOp a op b pos) (tOp r ta tb):=⟨pe_op ho ha.out hb.out⟩
theorem ze_un {op:UnaryOp} {r:V->Hp->VK->Prop} (ho:UnR X (unaryOp op) r) (ha:ZE X a ta):ZE X (.UnaryOp op a pos) (tUn r ta):=⟨pe_un ho ha.out⟩
theorem ze_cmpR {op:CmpOp} {r:R2} (ho:OpR X (compareOp op) r) (ha:ZE X a ta) (hb:ZE X b tb) (hm:behindInMarks op b=false):ZE X (.Compare a [op] [b] pos) (tOp r ta tb):=⟨pe_cmpR ho ha.out hb.out hm⟩
theorem zt_cmpR {op:CmpOp} {r:R2} (ho:OpR X (compareOp op) r) (ha:ZE X a ta) (hb:ZE X b tb) (hm:behindInMarks op b=false):ZT X (.Compare a [op] [b] pos) (tTest (tOp r ta tb)):=⟨pt_cmpR ho ha.out hb.out hm⟩
theorem zt_val {t:TE} (h:ZE X e t) (he:∀ whole,isTrue e X.env whole=(do let v <- whole;standAt e.pos;holding [v] (truthy v)):=by intro _;rfl):ZT X e (tB t):=⟨pt_val h.out he⟩
theorem zt_not {tA:TT} (ha:ZT X a tA):ZT X (.UnaryOp .Not a pos) (tNot tA):=⟨pt_not ha.out⟩
theorem ZW.pt {t:TT} (h:ZW X e t):ZT X e t:=⟨h.out.pt⟩
theorem zw_and1 {tA:TT} (ha:ZT X a tA):ZW X (.BoolOp .And [a] pos) tA:=⟨pw_and1 ha.out⟩
theorem zw_or1 {tA:TT} (ha:ZT X a tA):ZW X (.BoolOp .Or [a] pos) tA:=⟨pw_or1 ha.out⟩
theorem zw_and {tA tB':TT} (ha:ZT X a tA) (hb:ZW X (.BoolOp .And (b :: es) pos) tB'):ZW X (.BoolOp .And (a :: b :: es) pos) (tAnd tA tB'):=⟨pw_and ha.out hb.out⟩
theorem zw_or {tA tB':TT} (ha:ZT X a tA) (hb:ZW X (.BoolOp .Or (b :: es) pos) tB'):ZW X (.BoolOp .Or (a :: b :: es) pos) (tOr tA tB'):=⟨pw_or ha.out hb.out⟩
theorem ze_ix {r:R2} (hr:IxR X r) (ha:ZE X a ta) (hb:ZE X b tb) (hs:PlainIx b):ZE X (.Subscript a b pos) (tOp r ta tb):=⟨pe_ix hr ha.out hb.out hs⟩
theorem ze_lst (h:ZA X es t):ZE X (.List es pos) (tLst t):=⟨pe_lst h.out⟩
theorem ze_tup {x1} (h:ZA X es t):ZE X (.Tuple es x1 pos) (tTup t):=⟨pe_tup h.out⟩
theorem ze_call {CX:CXT} {k:Nat} {f:Addr} {fd:FuncData} {ps:List Str} {sp:Sp} {ds:List Value} {dvs:List V} {E:XK} (F:FnOk X.prog X.w X.K X.mg X.base CX k f fd ps sp) (hr:Room k X.A) (hg:Gl X x) (hm:X.mg x=some (.ref f)) (hk:PySem.W.keepIn X.K (.ref f)=true) (hb:Binds X.K fd ps ds) (hd:Vals dvs ds) (hx:Passes CX X E)
    (ha:ZA X (e :: es) t) (hdb:(x == ("__debug__" : Str))=false:=by decide) (he:starEach (e :: es) X.env=(false,eval e X.env) :: starEach es X.env:=by rfl) (hpl:(backTo pos (starEach es X.env)).any (·.1)=false:=by rfl) :
    ZE X (.Call (.Name x p) (e :: es) [] pos) (tCall sp dvs E t):=⟨pe_call F hr hg hm hk hb hd hx ha.out hdb he hpl⟩
theorem ze_callB {id:String} {r:List V->Hp->VK->Prop} (hc:CallR X (.builtin id) r) (hg:Gl X x) (hm:X.mg x=none) (hv:bootBuiltins x=some (.builtin id)) (ha:ZA X (e :: es) t) (hn:x ≠ "__name__" := by decide) (hdb:(x == ("__debug__" : Str))=false:=by decide)
    (he:starEach (e :: es) X.env=(false,eval e X.env) :: starEach es X.env:=by rfl) (hpl:(backTo pos (starEach es X.env)).any (·.1)=false:=by rfl):ZE X (.Call (.Name x p) (e :: es) [] pos) (tCB r t):=⟨pe_callB hc hg hm hv ha.out hn hdb he hpl⟩
theorem ze_callTy {T:String} {r:List V->Hp->VK->Prop} (hc:CallR X (.type T) r) (hg:Gl X x) (hm:X.mg x=none) (hv:bootBuiltins x=some (.type T)) (ha:ZA X (e :: es) t) (hn:x ≠ "__name__" := by decide) (hdb:(x == ("__debug__" : Str))=false:=by decide)
    (he:starEach (e :: es) X.env=(false,eval e X.env) :: starEach es X.env:=by rfl) (hpl:(backTo pos (starEach es X.env)).any (·.1)=false:=by rfl):ZE X (.Call (.Name x p) (e :: es) [] pos) (tCB r t):=⟨pe_callTy hc hg hm hv ha.out hn hdb he hpl⟩
theorem za_nil:ZA X [] tNil:=⟨pa_nil⟩
theorem za_cons (ha:ZE X e te) (hr:ZA X es t) (hs:starEach (e :: es) X.env=(false,eval e X.env) :: starEach es X.env:=by rfl):ZA X (e :: es) (tCons te t):=⟨pa_cons ha.out hr.out hs⟩
theorem za_i {i:Int} {j:Nat} (hr:ZA X es t):ZA X (.Constant (.int i) j p :: es) (tCons (tC (.int i)) t):=⟨pa_i hr.out⟩
theorem za_n (ha:ZE X (.Name x p) te) (hr:ZA X es t):ZA X (.Name x p :: es) (tCons te t):=⟨pa_n ha.out hr.out⟩
theorem za_b {op:Operator} (ha:ZE X (.BinOp a op b p) te) (hr:ZA X es t):ZA X (.BinOp a op b p :: es) (tCons te t):=⟨pa_b ha.out hr.out⟩
theorem za_u {op:UnaryOp} (ha:ZE X (.UnaryOp op a p) te) (hr:ZA X es t):ZA X (.UnaryOp op a p :: es) (tCons te t):=⟨pa_u ha.out hr.out⟩
theorem za_s (ha:ZE X (.Subscript a b p) te) (hr:ZA X es t):ZA X (.Subscript a b p :: es) (tCons te t):=⟨pa_s ha.out hr.out⟩
theorem za_c {f:Expr} {l:List Expr} {k:List Keyword} (ha:ZE X (.Call f l k p) te) (hr:ZA X es t):ZA X (.Call f l k p :: es) (tCons te t):=⟨pa_c ha.out hr.out⟩
theorem za_t {l:List Expr} {k:Nat} (ha:ZE X (.Tuple l k p) te) (hr:ZA X es t):ZA X (.Tuple l k p :: es) (tCons te t):=⟨pa_t ha.out hr.out⟩
theorem zg_name {i:Nat} (hN:X.N.Nodup) (hi:X.N[i]?=some x) (hx:Loc X.env.scope x) (hf:X.fn x=true\/X.env.scope.names.lookup x=some .local:=by first | exact .inl rfl | exact .inr rfl | assumption):ZG X (.Name x pos) (gName i):=⟨pg_name hN hi hx hf⟩
theorem zg_sub {o i:Expr} {to ti:TE} {t:TSet} (ho:ZE X o to) (hi:ZE X i ti) (hs:PSet X t) (ha:∀ v,assign (.Subscript o i pos) X.env v=(do
      let ov <- holding [v] (eval o X.env)
      let iv <- holding [v,ov] (eval i X.env)
      standAt pos
      holding [v,ov,iv] (setItem ov iv v)
      release [v,ov,iv] []):=by intro _;rfl):ZG X (.Subscript o i pos) (gSub to ti t):=⟨pg_sub ho.out hi.out hs ha⟩
theorem zgs_nil:ZGs X [] gNil:=⟨pgs_nil⟩
theorem zgs_cons {t:TG} {u:TGs} (h1:ZG X e t) (h2:ZGs X es u) (hs:(assignEach (e :: es) X.env).map (·.2)=assign e X.env :: (assignEach es X.env).map (·.2):=by rfl):ZGs X (e :: es) (gCons t u):=⟨pgs_cons h1.out h2.out hs⟩
theorem zg_tup {k:Nat} {t:TGs} {n:Nat} (hc:X.calm=true) (h:ZGs X es t) (hn:(assignEach es X.env).length=n:=by rfl) (hst:(assignEach es X.env).findIdx? (·.1)=none:=by rfl):ZG X (.Tuple es k pos) (gTup X.K n t):=⟨pg_tup hc h.out hn hst⟩
theorem zi_list (hl:ZE X e te):ZI X tg e (iList X.K te):=⟨pi_list hl.out⟩
theorem zi_tup (hl:ZE X e te):ZI X tg e (iTup X.K te):=⟨pi_tup hl.out⟩
theorem zi_range1 {ta:TA} (hg:Gl X "range") (hm:X.mg "range" = none) (ha:ZA X [a] ta) (hs:starEach [a] X.env=[(false,eval a X.env)]:=by rfl):ZI X tg (.Call (.Name "range" p) [a] [] pos) (iRng1 ta):=⟨pi_range1 hg hm ha.out hs⟩
theorem zts_nil:ZTs X [] tAll:=⟨pts_nil⟩
theorem zts_one {t:TT} (h:ZT X c t):ZTs X [c] t:=⟨pts_one h.out⟩
theorem ze_comp {own:List Str} {scope sc:Scope} {iter elt:Expr} {ifs:List Expr} {wi:TI} {g:TG} {tt:TT} {N0 P0:List Str} (S0:FnScope N0 P0 sc) (hc:X.calm=true) (S1:CompScope own N0 sc scope) (hi:ZI X tg iter wi)
    (hg:∀ C fp s H,(maskN own N0).Nodup->ZG (cxComp X own scope C fp s H) tg g) (ht:∀ C fp s H,ZTs (cxComp X own scope C fp s H) ifs tt) (he:∀ C fp s H,ZE (cxComp X own scope C fp s H) elt te)
    (hs:∀ x,foldedSetIterable iter X.env x=pure x:=by intro _;rfl) (hN0:X.N=N0:=by rfl) (hsc:X.env.scope=sc:=by rfl):ZE X (.ListComp elt [⟨tg,iter,ifs,0⟩] scope pos) (tCompB own.length wi g tt te) :=
  ⟨pe_comp S0 hc S1 hi.out (fun C fp s H n=>(hg C fp s H n).out) (fun C fp s H=>(ht C fp s H).out) (fun C fp s H=>(he C fp s H).out) hs hN0 hsc⟩
theorem zi_zip {ta:TA} {pt:Pos} {elts:List Expr} {x1} (hg:Gl X "zip") (hm:X.mg "zip" = none) (ha:ZA X [a,b] ta) (hs:starEach [a,b] X.env=[(false,eval a X.env),(false,eval b X.env)]:=by rfl) (hs2:starEach [b] X.env=[(false,eval b X.env)]:=by rfl) :
    ZI X (.Tuple elts x1 pt) (.Call (.Name "zip" p) [a,b] [] pos) (iZip X.K ta):=⟨pi_zip hg hm ha.out hs hs2⟩
theorem zg_pair {own:List Str} {scope:Scope} {C:Addr} {fp:List Addr} {s:Shared} {H:Hp} {x y:Str} {px py:Pos} {k:Nat} (hc:X.calm=true) (nd:(cxComp X own scope C fp s H).N.Nodup) (h0:(cxComp X own scope C fp s H).N[0]?=some x) (h1:(cxComp X own scope C fp s H).N[1]?=some y)
    (l0:(cxComp X own scope C fp s H).env.scope.names.lookup x=some .local) (l1:(cxComp X own scope C fp s H).env.scope.names.lookup y=some .local):ZG (cxComp X own scope C fp s H) (.Tuple [.Name x px,.Name y py] k pos) (gPair X.K):=⟨pg_pair hc nd h0 h1 l0 l1⟩
end
section
variable {P:Program} {w:World} {K:PySem.W.Frag} {mg:Str->Option Value} {base:Heap}
theorem Fun.okZ {x qual:Str} {st:Stmt} {f:Addr} {fd:FuncData} {N ps:List Str} {k:Nat} {sp:Sp} (F:Fun K x qual st f fd) (S:FnScope N ps (defScope st)) (len:∀ vs H Q E,sp vs H Q E->vs.length=ps.length)
    (hbody:∀ (cdv:Value) (A:Around) (outer:List Env) (s:Shared) (H:Hp) (vs:List V) (Q:VK) (E:XK),Room k (A.deeper (envOfC qual (defScope st) s.heap.objs.size f cdv))->sp vs H Q E ->
      ∃ t,ZSs (cxOf CX0 P w K mg base N qual (defScope st) f cdv A outer s H E).nox (defBody st) t/\t { nx:=fun _ H'=>Q .non H',rt:=Q } (start N vs) H):FnOk P w K mg base CX0 (k + 1) f fd ps sp :=
  F.ok S len fun cdv A outer s H vs Q E hr h=>let ⟨t,b,q⟩:=hbody cdv A outer s H vs Q E hr h;⟨t,b.out,q⟩
end
end L2
end
section
namespace L2
open PySem PySem.Spec PyProof.Rows
open PySem.W (Dat)
section
variable {K:PySem.W.Frag} {H:Hp} {σ:St} {te:TE} {Q:VK} {xs:List V}
end
section
variable {X:Cx} {e o:Expr} {to te:TE} {apos cpos:Pos}
theorem ze_append (ho:ZE X o to) (ha:ZE X e te) (hbase:attributeBase o "append" X.env (eval o X.env)=eval o X.env:=by rfl)
    (hfew:((backTo cpos (starEach [e] X.env)).all (fun x => !x.1) && (backToKw cpos (keywordEach [] X.env)).all (fun x=>x.1.isSome)
      && decide ([e].length + ([]:List Keyword).length + (if ([]:List Keyword).isEmpty then 0 else 1) < 30))=true:=by rfl)
    (hline:(apos.endLine == cpos.line)=true:=by rfl) (hs:starEach [e] X.env=(false,eval e X.env) :: starEach [] X.env:=by rfl) :
    ZE X (.Call (.Attribute o "append" apos) [e] [] cpos) (tBM X.K "list" rAppend to (tCons te tNil)) :=
  ⟨pe_bm PySem.F.plainAttrs_list slot_list_append (by rfl) mt_append ho.out (pa_cons ha.out pa_nil hs) hbase hfew hline hs⟩
end
section
variable {X:Cx} {own:List Str} {scope:Scope} {C:Addr} {fp:List Addr} {s:Shared} {H:Hp}
theorem ix_listC:IxR (cxComp X own scope C fp s H) (rIxL X.K):=ix_list
end
noncomputable def rCatW (K:PySem.W.Frag):R2:=fun x y H Q=>∃ a b xs ys,x = .ref a/\y = .ref b/\SqT K H a xs/\SqT K H b ys/\xs.length + ys.length<=sizeLine/\∀ p H',Same H H'->SqT K H' p (xs ++ ys)->Q (.ref p) H'
section
variable {X:Cx}
theorem op_catW:OpR X (binaryOp .Add) (rCatW X.K):=by
  intro pins s σ H x y v u Q I rx ry h
  obtain ⟨a,b,xs,ys,rfl,rfl,ha,hb,hz,q⟩:=h
  by_cases hx:xs=[]
  . subst hx
    cases rx
    cases ry
    obtain ⟨its,r1,p1,_⟩:=I.tuple ha
    obtain ⟨its2,r2,p2,_⟩:=I.tuple hb
    obtain ⟨m,F⟩:=I.fr
    have e:its=[]:=r1.nil_iff.mpr rfl
    refine add_tuples (news:=[]) F (fun p hp=>by simp at hp) p1 p2 (fun _=>⟨.ref b,H,I,rfl,q b H (Same.refl _) (by simpa using hb)⟩) (fun n=>absurd e n) (fun n=>absurd e n) ?_
    rw [<- r1.length, <- r2.length];exact hz
  . refine op_catT pins s σ H _ _ v u Q I rx ry ⟨a,b,xs,ys,rfl,rfl,ha,hb,hx,hz,fun e=>?_,fun e p hp=>?_⟩
    . subst e;exact q a H (Same.refl _) (by rw [List.append_nil];exact ha)
    . exact q p _ (Same.new hp _) (SqT.of upd_same)
end
end L2
end
section
namespace Num
noncomputable def gcdN (ns:List Int):Nat:=ns.foldl (fun d n=>Nat.gcd d n.natAbs) 0
theorem gcdN_snoc (ns:List Int) (n:Int):gcdN (ns ++ [n])=Nat.gcd (gcdN ns) n.natAbs:=by
  unfold gcdN;rw [List.foldl_append];rfl
theorem foldl_gcd (ns:List Int):∀ d:Nat,ns.foldl (fun d n=>Nat.gcd d n.natAbs) d=Nat.gcd d (gcdN ns):=by
  induction ns with
  | nil=>intro d;simp [gcdN]
  | cons n ns ih =>
    intro d
    unfold gcdN
    rw [List.foldl_cons,List.foldl_cons,ih,ih,Nat.gcd_assoc,Nat.gcd_zero_left]
theorem gcdN_cons (n:Int) (ns:List Int):gcdN (n :: ns)=Nat.gcd n.natAbs (gcdN ns):=by
  show List.foldl _ _ _=_
  rw [List.foldl_cons,foldl_gcd,Nat.gcd_zero_left]
theorem gcdN_dvd:∀ {ns:List Int} {n:Int},n ∈ ns->(gcdN ns:Int) ∣ n
  | m :: ns,n,h=>by
    rw [gcdN_cons]
    rcases List.mem_cons.mp h with rfl | h
    . exact Int.ofNat_dvd_left.mpr (Nat.gcd_dvd_left _ _)
    . exact Int.dvd_trans (Int.natCast_dvd_natCast.mpr (Nat.gcd_dvd_right _ _)) (gcdN_dvd h)
theorem gcdN_zero:∀ {ns:List Int},gcdN ns=0->∀ n ∈ ns,n=0
  | m :: ns,h,n,hn=>by
    rw [gcdN_cons] at h
    obtain ⟨h1,h2⟩:=Nat.gcd_eq_zero_iff.mp h
    rcases List.mem_cons.mp hn with rfl | hn
    . omega
    . exact gcdN_zero h2 n hn
theorem gcdN_pos {ns:List Int} (h:∃ n ∈ ns,n ≠ 0):0 < gcdN ns:=by
  obtain ⟨n,hn,h0⟩:=h
  rcases Nat.eq_zero_or_pos (gcdN ns) with z | z
  . exact absurd (gcdN_zero z n hn) h0
  . exact z
theorem gcdN_mul (c:Int) (ns:List Int):gcdN (ns.map (c * ·))=c.natAbs * gcdN ns:=by
  induction ns with
  | nil=>simp [gcdN]
  | cons n ns ih=>rw [List.map_cons,gcdN_cons,gcdN_cons,ih,Int.natAbs_mul,Nat.gcd_mul_left]
theorem gcdN_le {ns:List Int} {n:Int} (h:n ∈ ns) (h0:n ≠ 0):gcdN ns<=n.natAbs:=Nat.le_of_dvd (by omega) (Int.ofNat_dvd_left.mp (gcdN_dvd h))
noncomputable def fst0:List Int->Int
  | []=>0
  | x :: r=>if x=0 then fst0 r else x
theorem fst0_mul (c:Int):∀ ns:List Int,fst0 (ns.map (c * ·))=c * fst0 ns
  | []=>by simp [fst0]
  | x :: r => by
    rw [List.map_cons,fst0,fst0,fst0_mul c r]
    by_cases hc:c=0
    . subst hc;simp
    . by_cases hx:x=0
      . simp [hx]
      . rw [if_neg (Int.mul_ne_zero hc hx),if_neg hx]
theorem fst0_ne:∀ {ns:List Int},(∃ n ∈ ns,n ≠ 0)->fst0 ns ≠ 0
  | x :: r, ⟨n, hn, h0⟩ => by
    rw [fst0]
    split
    . rename_i hx
      rcases List.mem_cons.mp hn with rfl | hn
      . exact absurd hx h0
      . exact fst0_ne ⟨n,hn,h0⟩
    . assumption
noncomputable def unit (ns:List Int):Int:=if fst0 ns < 0 then -(gcdN ns:Int) else gcdN ns
noncomputable def pl (ns:List Int):List Int:=ns.map fun n=>n / unit ns
theorem unit_ne {ns:List Int} (h:∃ n ∈ ns,n ≠ 0):unit ns ≠ 0:=by
  have:=gcdN_pos h
  unfold unit;split <;> omega
theorem unit_dvd {ns:List Int} {n:Int} (h:n ∈ ns):unit ns ∣ n:=by
  unfold unit;split
  . exact Int.neg_dvd.mpr (gcdN_dvd h)
  . exact gcdN_dvd h
theorem pl_mul {ns:List Int}:(pl ns).map (unit ns * ·)=ns:=by
  unfold pl
  rw [List.map_map]
  conv=>rhs;rw [<- List.map_id ns]
  refine List.map_congr_left fun n hn=>?_
  show unit ns * (n / unit ns)=n
  exact Int.mul_ediv_cancel' (unit_dvd hn)
theorem unit_natAbs (ns:List Int):(unit ns).natAbs=gcdN ns:=by
  unfold unit;split <;> omega
theorem gcd_pl {ns:List Int} (h:∃ n ∈ ns,n ≠ 0):gcdN (pl ns)=1:=by
  have e:=gcdN_mul (unit ns) (pl ns)
  rw [pl_mul,unit_natAbs] at e
  have p:=gcdN_pos h
  exact Nat.eq_of_mul_eq_mul_left p (by omega)
theorem fst_pl {ns:List Int} (h:∃ n ∈ ns,n ≠ 0):0 < fst0 (pl ns):=by
  have e:=fst0_mul (unit ns) (pl ns)
  rw [pl_mul] at e
  have p:=gcdN_pos h
  have f:=fst0_ne h
  by_cases hn:fst0 ns < 0
  . have u:unit ns = -(gcdN ns:Int):=if_pos hn
    rw [u] at e
    refine Int.not_le.mp fun z=>?_
    have:0 <= -(gcdN ns:Int) * fst0 (pl ns):=Int.mul_nonneg_of_nonpos_of_nonpos (by omega) z
    omega
  . have u:unit ns=(gcdN ns:Int):=if_neg hn
    rw [u] at e
    refine Int.not_le.mp fun z=>?_
    have:(gcdN ns:Int) * fst0 (pl ns)<=0:=Int.mul_nonpos_of_nonneg_of_nonpos (by omega) z
    omega
theorem nz_pl {ns:List Int} (h:∃ n ∈ ns,n ≠ 0):∃ n ∈ pl ns,n ≠ 0:=by
  obtain ⟨n,hn,h0⟩:=h
  refine ⟨n / unit ns,List.mem_map.mpr ⟨n,hn,rfl⟩,fun z=>h0 ?_⟩
  have:=Int.mul_ediv_cancel' (unit_dvd hn)
  rw [z] at this;omega
theorem nz_mul {ns:List Int} {c:Int} (hc:c ≠ 0) (h:∃ n ∈ ns,n ≠ 0):∃ n ∈ ns.map (c * ·),n ≠ 0:=by
  obtain ⟨n,hn,h0⟩:=h
  exact ⟨c * n,List.mem_map.mpr ⟨n,hn,rfl⟩,Int.mul_ne_zero hc h0⟩
theorem pl_of_mul {ms:List Int} {c:Int} (hc:c ≠ 0) (hg:gcdN ms=1) (hf:0 < fst0 ms):pl (ms.map (c * ·))=ms:=by
  have u:unit (ms.map (c * ·))=c:=by
    unfold unit
    rw [gcdN_mul,hg,fst0_mul]
    by_cases h:c < 0
    . rw [if_pos (Int.mul_neg_of_neg_of_pos h hf)];omega
    . rw [if_neg (by have:=Int.mul_pos (show 0 < c by omega) hf;omega)];omega
  unfold pl
  rw [u,List.map_map]
  conv=>rhs;rw [<- List.map_id ms]
  refine List.map_congr_left fun n hn=>?_
  show c * n / c=n
  exact Int.mul_ediv_cancel_left n hc
theorem pl_scale {ns:List Int} {c:Int} (hc:c ≠ 0) (h:∃ n ∈ ns,n ≠ 0):pl (ns.map (c * ·))=pl ns:=by
  have e:ns.map (c * ·)=(pl ns).map ((c * unit ns) * ·):=by
    conv=>lhs;rw [<- pl_mul (ns:=ns)]
    rw [List.map_map]
    refine List.map_congr_left fun n _=>?_
    show c * (unit ns * n)=c * unit ns * n
    rw [Int.mul_assoc]
  rw [e]
  exact pl_of_mul (Int.mul_ne_zero hc (unit_ne h)) (gcd_pl h) (fst_pl h)
theorem pl_length (ns:List Int):(pl ns).length=ns.length:=List.length_map _
theorem pl_le {ns:List Int} (h:∃ n ∈ ns,n ≠ 0) {m:Int} (hm:m ∈ pl ns):∃ n ∈ ns,m.natAbs<=n.natAbs:=by
  obtain ⟨n,hn,rfl⟩:=List.mem_map.mp hm
  refine ⟨n,hn,?_⟩
  have e:=Int.mul_ediv_cancel' (unit_dvd hn)
  have e2:=congrArg Int.natAbs e
  rw [Int.natAbs_mul,unit_natAbs] at e2
  have p:=gcdN_pos h
  calc (n / unit ns).natAbs=1 * (n / unit ns).natAbs:=by omega
    _<=gcdN ns * (n / unit ns).natAbs:=Nat.mul_le_mul_right _ p
    _=n.natAbs:=e2
end Num
end
section
namespace Num
noncomputable def qm:List Int->List Int->List Int
  | [a,b,c,d],[e,f,g,h]=>[a * e - b * f - c * g - d * h,a * f + b * e + c * h - d * g,a * g - b * h + c * e + d * f,a * h + b * g - c * f + d * e]
  | _,_=>[]
noncomputable def cj:List Int->List Int
  | [a,b,c,d]=>[a, -b, -c, -d]
  | _=>[]
noncomputable def nrm:List Int->Int
  | [a,b,c,d]=>a * a + b * b + c * c + d * d
  | _=>0
theorem four_of {ns:List Int} (h:ns.length=4):∃ a b c d,ns=[a,b,c,d]:=by
  match ns,h with
  | [a,b,c,d],_=>exact ⟨a,b,c,d,rfl⟩
theorem euler (a b c d e f g h:Int):(a * e - b * f - c * g - d * h) * (a * e - b * f - c * g - d * h) + (a * f + b * e + c * h - d * g) * (a * f + b * e + c * h - d * g) + (a * g - b * h + c * e + d * f) * (a * g - b * h + c * e + d * f) + (a * h + b * g - c * f + d * e) * (a * h + b * g - c * f + d * e)=(a * a + b * b + c * c + d * d) * (e * e + f * f + g * g + h * h):=by
  grind
theorem qm_len {ns ms:List Int} (h:ns.length=4) (h2:ms.length=4):(qm ns ms).length=4:=by
  obtain ⟨a,b,c,d,rfl⟩:=four_of h
  obtain ⟨e,f,g,i,rfl⟩:=four_of h2
  rfl
theorem cj_len {ns:List Int} (h:ns.length=4):(cj ns).length=4:=by
  obtain ⟨a,b,c,d,rfl⟩:=four_of h
  rfl
theorem nrm_qm {ns ms:List Int} (h:ns.length=4) (h2:ms.length=4):nrm (qm ns ms)=nrm ns * nrm ms:=by
  obtain ⟨a,b,c,d,rfl⟩:=four_of h
  obtain ⟨e,f,g,i,rfl⟩:=four_of h2
  exact euler a b c d e f g i
theorem sq_nn (a:Int):0<=a * a:=by
  rcases Int.le_total 0 a with h | h
  . exact Int.mul_nonneg h h
  . exact Int.mul_nonneg_of_nonpos_of_nonpos h h
theorem sq_pos {a:Int} (h:a ≠ 0):0 < a * a:=by
  have:=sq_nn a
  have:a * a ≠ 0:=Int.mul_ne_zero h h
  omega
theorem nrm_pos {ns:List Int} (h:ns.length=4) (hz:∃ n ∈ ns,n ≠ 0):0 < nrm ns:=by
  obtain ⟨a,b,c,d,rfl⟩:=four_of h
  obtain ⟨n,hn,h0⟩:=hz
  have ha:=sq_nn a
  have hb:=sq_nn b
  have hc:=sq_nn c
  have hd:=sq_nn d
  have hp:=sq_pos h0
  show 0 < a * a + b * b + c * c + d * d
  simp only [List.mem_cons,List.mem_nil_iff,or_false] at hn
  rcases hn with rfl | rfl | rfl | rfl <;> omega
theorem nz_nrm {ns:List Int} (h:ns.length=4) (hz:0 < nrm ns):∃ n ∈ ns,n ≠ 0:=by
  obtain ⟨a,b,c,d,rfl⟩:=four_of h
  by_cases ha:a=0
  . by_cases hb:b=0
    . by_cases hc:c=0
      . by_cases hd:d=0
        . subst ha hb hc hd;exact absurd hz (by decide)
        . exact ⟨d,by simp,hd⟩
      . exact ⟨c,by simp,hc⟩
    . exact ⟨b,by simp,hb⟩
  . exact ⟨a,by simp,ha⟩
theorem nz_qm {ns ms:List Int} (h:ns.length=4) (h2:ms.length=4) (hz:∃ n ∈ ns,n ≠ 0) (hz2:∃ n ∈ ms,n ≠ 0):∃ n ∈ qm ns ms,n ≠ 0:=by
  refine nz_nrm (qm_len h h2) ?_
  rw [nrm_qm h h2]
  exact Int.mul_pos (nrm_pos h hz) (nrm_pos h2 hz2)
theorem nrm_cj {ns:List Int} (h:ns.length=4):nrm (cj ns)=nrm ns:=by
  obtain ⟨a,b,c,d,rfl⟩:=four_of h
  show a * a + -b * -b + -c * -c + -d * -d=a * a + b * b + c * c + d * d
  grind
theorem nz_cj {ns:List Int} (h:ns.length=4) (hz:∃ n ∈ ns,n ≠ 0):∃ n ∈ cj ns,n ≠ 0 :=
  nz_nrm (cj_len h) (by rw [nrm_cj h];exact nrm_pos h hz)
theorem qm_mulL {ns ms:List Int} {k:Int} (h:ns.length=4) (h2:ms.length=4):qm (ns.map (k * ·)) ms=(qm ns ms).map (k * ·):=by
  obtain ⟨a,b,c,d,rfl⟩:=four_of h
  obtain ⟨e,f,g,i,rfl⟩:=four_of h2
  simp only [List.map_cons,List.map_nil,qm]
  congr 1
  . grind
  congr 1
  . grind
  congr 1
  . grind
  congr 1
  . grind
theorem qm_mulR {ns ms:List Int} {k:Int} (h:ns.length=4) (h2:ms.length=4):qm ns (ms.map (k * ·))=(qm ns ms).map (k * ·):=by
  obtain ⟨a,b,c,d,rfl⟩:=four_of h
  obtain ⟨e,f,g,i,rfl⟩:=four_of h2
  simp only [List.map_cons,List.map_nil,qm]
  congr 1
  . grind
  congr 1
  . grind
  congr 1
  . grind
  congr 1
  . grind
theorem qm_cjR {ns:List Int} (h:ns.length=4):qm ns (cj ns)=[1,0,0,0].map (nrm ns * ·):=by
  obtain ⟨a,b,c,d,rfl⟩:=four_of h
  simp only [List.map_cons,List.map_nil,qm,cj,nrm]
  congr 1
  . grind
  congr 1
  . grind
  congr 1
  . grind
  congr 1
  . grind
theorem qm_cjL {ns:List Int} (h:ns.length=4):qm (cj ns) ns=[1,0,0,0].map (nrm ns * ·):=by
  obtain ⟨a,b,c,d,rfl⟩:=four_of h
  simp only [List.map_cons,List.map_nil,qm,cj,nrm]
  congr 1
  . grind
  congr 1
  . grind
  congr 1
  . grind
  congr 1
  . grind
theorem qm_oneL {ns:List Int} (h:ns.length=4):qm [1,0,0,0] ns=ns:=by
  obtain ⟨a,b,c,d,rfl⟩:=four_of h
  simp [qm]
theorem qm_oneR {ns:List Int} (h:ns.length=4):qm ns [1,0,0,0]=ns:=by
  obtain ⟨a,b,c,d,rfl⟩:=four_of h
  simp [qm]
theorem qm_assoc {ns ms ks:List Int} (h:ns.length=4) (h2:ms.length=4) (h3:ks.length=4):qm (qm ns ms) ks=qm ns (qm ms ks):=by
  obtain ⟨a,b,c,d,rfl⟩:=four_of h
  obtain ⟨e,f,g,i,rfl⟩:=four_of h2
  obtain ⟨x,y,z,u,rfl⟩:=four_of h3
  simp only [qm]
  congr 1
  . grind
  congr 1
  . grind
  congr 1
  . grind
  congr 1
  . grind
theorem pl_one {k:Int} (h:k ≠ 0):pl ([1,0,0,0].map (k * ·))=[1,0,0,0]:=pl_of_mul h (by decide) (by decide)
theorem pl_qmL {ns ms:List Int} (h:ns.length=4) (h2:ms.length=4) (hz:∃ n ∈ ns,n ≠ 0) (hz2:∃ n ∈ ms,n ≠ 0):pl (qm (pl ns) ms)=pl (qm ns ms):=by
  have hp:(pl ns).length=4:=by rw [pl_length];exact h
  have e:qm ns ms=(qm (pl ns) ms).map (unit ns * ·):=by
    rw [<- qm_mulL hp h2,pl_mul]
  rw [e,pl_scale (unit_ne hz) (nz_qm hp h2 (nz_pl hz) hz2)]
theorem pl_qmR {ns ms:List Int} (h:ns.length=4) (h2:ms.length=4) (hz:∃ n ∈ ns,n ≠ 0) (hz2:∃ n ∈ ms,n ≠ 0):pl (qm ns (pl ms))=pl (qm ns ms):=by
  have hp:(pl ms).length=4:=by rw [pl_length];exact h2
  have e:qm ns ms=(qm ns (pl ms)).map (unit ms * ·):=by
    rw [<- qm_mulR h hp,pl_mul]
  rw [e,pl_scale (unit_ne hz2) (nz_qm h hp hz (nz_pl hz2))]
noncomputable def Bd (b:Nat) (ns:List Int):Prop:=∀ n ∈ ns,n.natAbs<=b
theorem bd_qm {ns ms:List Int} {x y:Nat} (h:ns.length=4) (h2:ms.length=4) (hx:Bd x ns) (hy:Bd y ms):Bd (4 * (x * y)) (qm ns ms):=by
  obtain ⟨a,b,c,d,rfl⟩:=four_of h
  obtain ⟨e,f,g,i,rfl⟩:=four_of h2
  have q:∀ {p r:Int},p ∈ [a,b,c,d]->r ∈ [e,f,g,i]->(p * r).natAbs<=x * y:=fun {p r} hp hr=>by
    rw [Int.natAbs_mul];exact Nat.mul_le_mul (hx p hp) (hy r hr)
  have ad:∀ {u v:Int} {m n:Nat},u.natAbs<=m->v.natAbs<=n->(u + v).natAbs<=m + n:=fun hu hv=>Nat.le_trans (Int.natAbs_add_le _ _) (Nat.add_le_add hu hv)
  have sb:∀ {u v:Int} {m n:Nat},u.natAbs<=m->v.natAbs<=n->(u - v).natAbs<=m + n:=fun hu hv=>Nat.le_trans (Int.natAbs_sub_le _ _) (Nat.add_le_add hu hv)
  have e4:4 * (x * y)=x * y + x * y + x * y + x * y:=by
    rw [show 4=1 + 1 + 1 + 1 from rfl,Nat.add_mul,Nat.add_mul,Nat.add_mul,Nat.one_mul]
  have m1:a ∈ [a,b,c,d]:=.head _
  have m2:b ∈ [a,b,c,d]:=.tail _ (.head _)
  have m3:c ∈ [a,b,c,d]:=.tail _ (.tail _ (.head _))
  have m4:d ∈ [a,b,c,d]:=.tail _ (.tail _ (.tail _ (.head _)))
  have k1:e ∈ [e,f,g,i]:=.head _
  have k2:f ∈ [e,f,g,i]:=.tail _ (.head _)
  have k3:g ∈ [e,f,g,i]:=.tail _ (.tail _ (.head _))
  have k4:i ∈ [e,f,g,i]:=.tail _ (.tail _ (.tail _ (.head _)))
  intro n hn
  rw [e4]
  simp only [qm,List.mem_cons,List.mem_nil_iff,or_false] at hn
  rcases hn with rfl | rfl | rfl | rfl
  . exact sb (sb (sb (q m1 k1) (q m2 k2)) (q m3 k3)) (q m4 k4)
  . exact sb (ad (ad (q m1 k2) (q m2 k1)) (q m3 k4)) (q m4 k3)
  . exact ad (ad (sb (q m1 k3) (q m2 k4)) (q m3 k1)) (q m4 k2)
  . exact ad (sb (ad (q m1 k4) (q m2 k3)) (q m3 k2)) (q m4 k1)
theorem bd_cj {ns:List Int} {x:Nat} (h:ns.length=4) (hx:Bd x ns):Bd x (cj ns):=by
  obtain ⟨a,b,c,d,rfl⟩:=four_of h
  intro n hn
  simp only [cj,List.mem_cons,List.mem_nil_iff,or_false] at hn
  have:=hx a (by simp);have:=hx b (by simp);have:=hx c (by simp);have:=hx d (by simp)
  rcases hn with rfl | rfl | rfl | rfl <;> omega
theorem bd_pl {ns:List Int} {x:Nat} (hz:∃ n ∈ ns,n ≠ 0) (hx:Bd x ns):Bd x (pl ns):=fun m hm=>let ⟨n,hn,hle⟩:=pl_le hz hm;Nat.le_trans hle (hx n hn)
end Num
end
section
namespace K0
open PySem L2 Num
section
variable {K:PySem.W.Frag}
noncomputable def spCD (K:PySem.W.Frag):Sp:=fun vs H Q _=>∃ (a:Addr) (ns:List Int),vs=[.ref a]/\SqT K H a (ns.map V.int)/\Q (.int (gcdN ns)) H
theorem gcd_step {a b:Int} (ha:0<=a) (hb:0 < b):Nat.gcd b.toNat (a % b).toNat=Nat.gcd a.toNat b.toNat:=by
  have h1:(a % b).toNat=a.toNat % b.toNat:=by
    have e:=Int.toNat_emod ha (Int.le_of_lt hb)
    exact e
  rw [h1,Nat.gcd_comm, <- Nat.gcd_rec,Nat.gcd_comm]
noncomputable def Sm (ns:List Int):Prop:=∀ n ∈ ns,n.natAbs < 2 ^ 9000
noncomputable def spT (K:PySem.W.Frag) (pre:List Int->Prop) (fn:List Int->List Int):Sp:=fun vs H Q _=>∃ (a:Addr) (ns:List Int),vs=[.ref a]/\SqT K H a (ns.map V.int)/\ns.length<=1000/\pre ns /\
  ∀ (r:Addr) (H':Hp),Same H H'->H' r=some (.tup ((fn ns).map V.int))->Q (.ref r) H'
noncomputable def red (ns:List Int):List Int:=ns.map fun n=>n / (gcdN ns:Int)
theorem gcd_small {ns:List Int} (h:∃ n ∈ ns,n ≠ 0) (hs:Sm ns):((gcdN ns:Nat):Int).natAbs.log2 < 9000:=by
  obtain ⟨n,hn,h0⟩:=h
  have h1:=gcdN_le hn h0
  have h2:=hs n hn
  have h3:((gcdN ns:Nat):Int).natAbs < 2 ^ 9000:=by
    rw [Int.natAbs_natCast]
    exact Nat.lt_of_le_of_lt h1 h2
  exact (Nat.log2_lt (by have:=gcdN_pos ⟨n,hn,h0⟩;omega)).mpr h3
noncomputable def sop (ns ms:List Int):Int:=(List.zipWith (· * ·) ns ms).sum
theorem mulOk_of {i j:Int} (hi:i.natAbs < 2 ^ 100000) (hj:j.natAbs < 2 ^ 100000):IntMulOk i j:=by
  have b:∀ k:Int,k.natAbs < 2 ^ 100000->Builtin.Int.intBits k<=2 ^ 20:=fun k hk=>by
    unfold Builtin.Int.intBits
    split
    . exact Nat.zero_le _
    . rename_i h0
      have hne:k.natAbs ≠ 0:=by
        intro z
        apply h0
        have:k=0:=by omega
        simp [this]
      have:=(Nat.log2_lt hne).mpr hk
      omega
  exact IntMulOk.of_bits (b i hi) (b j hj)
theorem pow_lift {n:Nat} (h:n < 2 ^ 9000):n < 2 ^ 100000:=Nat.lt_of_lt_of_le h (Nat.pow_le_pow_right (by decide) (by decide))
noncomputable def spSop (K:PySem.W.Frag):Sp:=fun vs H Q _=>∃ (a b:Addr) (ns ms:List Int),vs=[.ref a,.ref b]/\SqT K H a (ns.map V.int)/\SqT K H b (ms.map V.int)/\ns.length<=1000/\ms.length=ns.length/\Sm ns/\Sm ms /\
  ∀ (H':Hp),Same H H'->Q (.int (sop ns ms)) H'
noncomputable def spSize (K:PySem.W.Frag):Sp:=fun vs H Q _=>∃ (a:Addr) (ns:List Int),vs=[.ref a]/\SqT K H a (ns.map V.int)/\ns.length<=1000/\Sm ns/\∀ (H':Hp),Same H H'->Q (.int (sop ns ns)) H'
theorem lex_fst0:∀ {l:List Int} {n:Nat},l.length=n->HT.lexLt l (List.replicate n 0)=decide (fst0 l < 0)
  | [],n,h=>by subst h;rfl
  | x :: r,n,h=>by
    subst h
    rw [List.length_cons,List.replicate_succ,HT.lexLt_cons,fst0,lex_fst0 rfl]
    by_cases hx:x=0
    . rw [if_pos hx,if_pos hx]
    . rw [if_neg hx,if_neg hx]
theorem red_mul (ns:List Int):(red ns).map ((gcdN ns:Int) * ·)=ns:=by
  unfold red
  rw [List.map_map]
  conv=>rhs;rw [<- List.map_id ns]
  refine List.map_congr_left fun n hn=>?_
  exact Int.mul_ediv_cancel' (gcdN_dvd hn)
theorem plain_eq {ns:List Int} (h:∃ n ∈ ns,n ≠ 0):(if fst0 (red ns) < 0 then (red ns).map (fun n => -n) else red ns)=pl ns:=by
  have e:=fst0_mul (gcdN ns) (red ns)
  rw [red_mul] at e
  have p:=gcdN_pos h
  by_cases hn:fst0 (red ns) < 0
  . rw [if_pos hn]
    have u:unit ns = -(gcdN ns:Int):=if_pos (by rw [e];exact Int.mul_neg_of_pos_of_neg (by omega) hn)
    unfold pl red
    rw [u,List.map_map]
    refine List.map_congr_left fun n _=>?_
    show -(n / (gcdN ns:Int))=n / -(gcdN ns:Int)
    rw [Int.ediv_neg]
  . rw [if_neg hn]
    have u:unit ns=(gcdN ns:Int):=if_neg (by rw [e];have:=Int.mul_nonneg (show (0:Int)<=gcdN ns by omega) (show 0<=fst0 (red ns) by omega);omega)
    unfold pl red
    rw [u]
noncomputable def PlainPre (ns:List Int):Prop:=ns.length=4/\(∃ n ∈ ns,n ≠ 0)/\Sm ns
noncomputable def Pu (H:Hp) (p:Addr):Prop:=∃ a b:Int,H p=some (.lst [.int a,.int b])
theorem Pu.same {H H':Hp} {p:Addr} (h:Pu H p) (s:Same H H'):Pu H' p:=by
  obtain ⟨a,b,e⟩:=h;exact ⟨a,b,s _ _ e⟩
noncomputable def spLaw (K:PySem.W.Frag):Sp:=fun vs H Q _=>∃ (a:Addr) (ns:List Int),vs=[.ref a]/\SqL K H a (ns.map V.int)/\ns.length<=63/\(∀ v ∈ ns,Builtin.Int.intBits v<=2 ^ 20)/\∀ (H':Hp),Q (.bl true) H'
theorem sm_bd {ns:List Int} {b:Nat} (h:Bd b ns) (hb:b < 2 ^ 9000):Sm ns:=fun n hn=>Nat.lt_of_le_of_lt (h n hn) hb
theorem mulSm {ns ms:List Int} (h:Sm ns) (h2:Sm ms) {a b:Int} (ha:a ∈ ns) (hb:b ∈ ms):IntMulOk a b:=mulOk_of (pow_lift (h a ha)) (pow_lift (h2 b hb))
noncomputable def sp2 (K:PySem.W.Frag) (fn:List Int->List Int->List Int):Sp:=fun vs H Q _=>∃ (x y:Addr) (ns ms:List Int),vs=[.ref x,.ref y]/\SqT K H x (ns.map V.int)/\SqT K H y (ms.map V.int)/\ns.length=4/\ms.length=4/\Sm ns/\Sm ms /\
  ∀ (r:Addr) (H':Hp),Same H H'->H' r=some (.tup ((fn ns ms).map V.int))->Q (.ref r) H'
noncomputable def spThen (K:PySem.W.Frag):Sp:=fun vs H Q _=>∃ (x y:Addr) (ns ms:List Int),vs=[.ref x,.ref y]/\SqT K H x (ns.map V.int)/\SqT K H y (ms.map V.int)/\ns.length=4/\ms.length=4/\(∃ n ∈ ns,n ≠ 0)/\(∃ n ∈ ms,n ≠ 0)/\Bd (2 ^ 4000) ns/\Bd (2 ^ 4000) ms /\
  ∀ (r:Addr) (H':Hp),Same H H'->H' r=some (.tup ((pl (qm ms ns)).map V.int))->Q (.ref r) H'
theorem bd_mono {ns:List Int} {a b:Nat} (h:Bd a ns) (hab:a<=b):Bd b ns:=fun n hn=>Nat.le_trans (h n hn) hab
theorem two4000:(2:Nat) ^ 4000 < 2 ^ 9000:=Nat.pow_lt_pow_right (by decide) (by decide)
theorem two8002:4 * ((2:Nat) ^ 4000 * 2 ^ 4000) < 2 ^ 9000:=by
  have e:4 * ((2:Nat) ^ 4000 * 2 ^ 4000)=2 ^ 8002:=by
    rw [<- Nat.pow_add,show (4:Nat)=2 ^ 2 from rfl, <- Nat.pow_add]
  rw [e]
  exact Nat.pow_lt_pow_right (by decide) (by decide)
theorem sm4000 {ns:List Int} (h:Bd (2 ^ 4000) ns):Sm ns:=sm_bd h two4000
theorem at40 {a b c d:Int}:atI ([a,b,c,d].map V.int) 0=some (.int a):=rfl
theorem at41 {a b c d:Int}:atI ([a,b,c,d].map V.int) 1=some (.int b):=rfl
theorem at42 {a b c d:Int}:atI ([a,b,c,d].map V.int) 2=some (.int c):=rfl
theorem at43 {a b c d:Int}:atI ([a,b,c,d].map V.int) 3=some (.int d):=rfl
end
end K0
end
section
namespace K0
open PySem L2 Num
theorem red_scale {ns:List Int} {c:Int} (hc:0 < c):red (ns.map (c * ·))=red ns:=by
  unfold red
  rw [List.map_map,gcdN_mul]
  refine List.map_congr_left fun n _=>?_
  show c * n / ((c.natAbs * gcdN ns:Nat):Int)=n / (gcdN ns:Int)
  rw [Int.natCast_mul,Int.natAbs_of_nonneg (Int.le_of_lt hc),Int.mul_ediv_mul_of_pos _ _ hc]
noncomputable def fr (t b:Int):List Int:=red [t,b]
theorem fr_eq {t b t' b':Int} (hb:0 < b) (hb':0 < b') (h:t * b'=t' * b):fr t b=fr t' b':=by
  unfold fr
  rw [<- red_scale (ns:=[t,b]) hb', <- red_scale (ns:=[t',b']) hb]
  simp only [List.map_cons,List.map_nil]
  rw [Int.mul_comm b' t,h,Int.mul_comm b t',Int.mul_comm b' b]
structure Pt (H:Hp) (p:Addr) (f1 f2 f3:List Int):Prop where
  ex:∃ p1 p2 p3,H p=some (.tup [.ref p1,.ref p2,.ref p3])/\H p1=some (.tup (f1.map V.int))/\H p2=some (.tup (f2.map V.int))/\H p3=some (.tup (f3.map V.int))
noncomputable def Bt (n:Int) (k:Nat):Prop:=n.natAbs<=2 ^ k
theorem Bt.mul {a b:Int} {x y:Nat} (ha:Bt a x) (hb:Bt b y):Bt (a * b) (x + y):=by
  unfold Bt at *
  rw [Int.natAbs_mul,Nat.pow_add];exact Nat.mul_le_mul ha hb
theorem Bt.add {a b:Int} {x:Nat} (ha:Bt a x) (hb:Bt b x):Bt (a + b) (x + 1):=by
  unfold Bt at *
  rw [Nat.pow_succ,Nat.mul_two]
  exact Nat.le_trans (Int.natAbs_add_le a b) (Nat.add_le_add ha hb)
theorem Bt.up {a:Int} {x y:Nat} (h:Bt a x) (hxy:x<=y):Bt a y:=Nat.le_trans h (Nat.pow_le_pow_right (by decide) hxy)
theorem Bt.lt {a:Int} {x:Nat} (h:Bt a x) (hx:x < 9000):a.natAbs < 2 ^ 9000:=Nat.lt_of_le_of_lt h (Nat.pow_lt_pow_right (by decide) hx)
theorem Bt.mulOk {a b:Int} {x y:Nat} (ha:Bt a x) (hb:Bt b y) (hx:x < 9000:=by decide) (hy:y < 9000:=by decide):IntMulOk a b:=mulOk_of (pow_lift (ha.lt hx)) (pow_lift (hb.lt hy))
theorem sm2 {a b:Int} {x:Nat} (ha:Bt a x) (hb:Bt b x) (hx:x < 9000:=by decide):Sm [a,b]:=fun n hn=>by
  simp only [List.mem_cons,List.mem_nil_iff,or_false] at hn
  rcases hn with rfl | rfl
  . exact ha.lt hx
  . exact hb.lt hx
noncomputable def rw1 (a b c d:Int):List Int:=[a * a + b * b - c * c - d * d,2 * (b * c - a * d),2 * (b * d + a * c)]
noncomputable def rw2 (a b c d:Int):List Int:=[2 * (b * c + a * d),a * a - b * b + c * c - d * d,2 * (c * d - a * b)]
noncomputable def rw3 (a b c d:Int):List Int:=[2 * (b * d - a * c),2 * (c * d + a * b),a * a - b * b - c * c + d * d]
theorem sop4 (a b c d:Int):sop [a,b,c,d] [a,b,c,d]=nrm [a,b,c,d]:=by
  simp only [sop,nrm,List.zipWith_cons_cons,List.zipWith_nil_right,List.sum_cons,List.sum_nil];omega
theorem nrm_bt {a b c d:Int} (h:Bd (2 ^ 1000) [a,b,c,d]):Bt (nrm [a,b,c,d]) 2003:=by
  have ha:Bt a 1000:=h a (by simp)
  have hb:Bt b 1000:=h b (by simp)
  have hc:Bt c 1000:=h c (by simp)
  have hd:Bt d 1000:=h d (by simp)
  exact (((ha.mul ha).add (hb.mul hb)).add ((hc.mul hc).up (by decide))).add ((hd.mul hd).up (by decide))
theorem bts {ns:List Int} {k:Nat} (h:∀ n ∈ ns,Bt n k) (hk:k < 9000:=by decide):Sm ns:=fun n hn=>(h n hn).lt hk
noncomputable def ptD (f1 f2 f3:List Int):PySem.W.Dat:=.tuple [.tuple (f1.map .int),.tuple (f2.map .int),.tuple (f3.map .int)]
end K0
end
section
namespace K0
open PySem L2 Num
noncomputable def qv (t b:Int):Rat:=(t:Rat) / (b:Rat)
noncomputable def R1 (a b c d x y z:Rat):Rat:=(a * a + b * b - c * c - d * d) * x + 2 * (b * c - a * d) * y + 2 * (b * d + a * c) * z
noncomputable def R2 (a b c d x y z:Rat):Rat:=2 * (b * c + a * d) * x + (a * a - b * b + c * c - d * d) * y + 2 * (c * d - a * b) * z
noncomputable def R3 (a b c d x y z:Rat):Rat:=2 * (b * d - a * c) * x + 2 * (c * d + a * b) * y + (a * a - b * b - c * c + d * d) * z
noncomputable def N4 (a b c d:Rat):Rat:=a * a + b * b + c * c + d * d
structure Lo (k:Nat) (t b:Int) (x:Rat):Prop where
  pos:0 < b
  low:Nat.gcd t.natAbs b.natAbs=1
  bt:Bt t k
  bb:Bt b k
  val:qv t b=x
end K0
end
section
namespace K0
open PySem L2 Num
structure PC (H:Hp) (r:Addr) (c:Nat) (x y z:Rat):Prop where
  ex:∃ t1 b1 t2 b2 t3 b3,Pt H r [t1,b1] [t2,b2] [t3,b3]/\Lo c t1 b1 x/\Lo c t2 b2 y/\Lo c t3 b3 z/\∃ C T1 T2 T3:Int,0 < C/\Bt C c/\Bt T1 c/\Bt T2 c/\Bt T3 c/\qv T1 C=x/\qv T2 C=y/\qv T3 C=z
noncomputable def bk (n:List Int):List Int:=pl (cj n)
end K0
end
section
namespace K0
open PySem L2 Num
theorem okL {i j:Int} (h1 : -(2 ^ 64) < i) (h2:i < 2 ^ 64):IntMulOk i j:=CMul.ok (.inl ⟨h1,h2⟩)
theorem okR {i j:Int} (h1 : -(2 ^ 64) < j) (h2:j < 2 ^ 64):IntMulOk i j:=CMul.ok (.inr ⟨h1,h2⟩)
end K0
end
section
namespace L2
open PySem PySem.Spec PyProof.Rows
end L2
namespace K0
open PySem L2 Num
open PySem.W (Dat)
noncomputable def rs (ns:List Int):List Int:=match ns with | [a,_,_,_]=>fr (a * a) (nrm ns) | _=>[]
theorem rs_scale {ns:List Int} {u:Int} (h:ns.length=4) (hz:∃ n ∈ ns,n ≠ 0) (hu:u ≠ 0):rs (ns.map (u * ·))=rs ns:=by
  have hz2:=nz_mul hu hz
  obtain ⟨a,b,c,d,rfl⟩:=four_of h
  have p1:=nrm_pos (ns:=[a,b,c,d]) rfl hz
  have p2:=nrm_pos (ns:=[a,b,c,d].map (u * ·)) rfl hz2
  simp only [List.map_cons,List.map_nil] at p2 ⊢
  show fr (u * a * (u * a)) (nrm [u * a,u * b,u * c,u * d])=fr (a * a) (nrm [a,b,c,d])
  refine fr_eq p2 p1 ?_
  unfold nrm
  grind
theorem rs_pl {ns:List Int} (h:ns.length=4) (hz:∃ n ∈ ns,n ≠ 0):rs (pl ns)=rs ns:=by
  have e:=rs_scale (ns:=pl ns) (u:=unit ns) (by rw [pl_length];exact h) (nz_pl hz) (unit_ne hz)
  rw [pl_mul] at e
  exact e.symm
theorem rs_turned {l f:List Int} (hl:l.length=4) (hf:f.length=4) (zl:∃ n ∈ l,n ≠ 0) (zf:∃ n ∈ f,n ≠ 0):rs (pl (qm l (pl (qm f (pl (cj l))))))=rs f:=by
  have lc:=cj_len hl
  have zc:=nz_cj hl zl
  have l1:(pl (cj l)).length=4:=by rw [pl_length];exact lc
  rw [pl_qmR hl (qm_len hf l1) zl (nz_qm hf l1 zf (nz_pl zc)), <- qm_assoc hl hf l1,pl_qmR (qm_len hl hf) lc (nz_qm hl hf zl zf) zc,rs_pl (qm_len (qm_len hl hf) lc) (nz_qm (qm_len hl hf) lc (nz_qm hl hf zl zf) zc)]
  have zz:=nz_qm (qm_len hl hf) lc (nz_qm hl hf zl zf) zc
  have pz:=nrm_pos (qm_len (qm_len hl hf) lc) zz
  have pf:=nrm_pos hf zf
  have en:nrm (qm (qm l f) (cj l))=nrm l * nrm f * nrm l:=by rw [nrm_qm (qm_len hl hf) lc,nrm_qm hl hf,nrm_cj hl]
  obtain ⟨a,b,c,d,rfl⟩:=four_of hl
  obtain ⟨e,g,h,i,rfl⟩:=four_of hf
  obtain ⟨x0,y,z,w,er⟩:=four_of (qm_len (qm_len hl hf) lc)
  have hx:nrm [a,b,c,d] * e=x0:=by
    have q:=er
    simp only [qm,cj] at q
    injection q with q1 _
    rw [<- q1]
    unfold nrm
    grind
  subst hx
  rw [er] at en pz ⊢
  show fr (nrm [a,b,c,d] * e * (nrm [a,b,c,d] * e)) (nrm [nrm [a,b,c,d] * e,y,z,w])=fr (e * e) (nrm [e,g,h,i])
  refine fr_eq pz pf ?_
  rw [en]
  grind
noncomputable def spRest (K:PySem.W.Frag):Sp:=fun vs H Q _=>∃ (x:Addr) (ns:List Int),vs=[.ref x]/\SqT K H x (ns.map V.int)/\ns.length=4/\(∃ n ∈ ns,n ≠ 0)/\Bd (2 ^ 1000) ns/\∀ (r:Addr) (H':Hp),Same H H'->H' r=some (.tup ((rs ns).map V.int))->Q (.ref r) H'
noncomputable def cr (a b c d e f:Int):List Int:=[b * f - c * e,c * d - a * f,a * e - b * d]
noncomputable def ps (k l:Int):List Int:=[k / unit [l,k],l / unit [l,k]]
end K0
end
section
namespace D
open PySem L2 K0
open PySem.W (Dat)
noncomputable def SqN (N:Addr->Prop) (K:PySem.W.Frag) (H:Hp) (a:Addr) (xs:List V):Prop:=(N a/\Rd H a (.lst xs))\/SqL K (fun _=>none) a xs
theorem SqN.sq {N:Addr->Prop} {K:PySem.W.Frag} {H:Hp} {a:Addr} {xs:List V} (h:SqN N K H a xs):SqL K H a xs:=by
  rcases h with ⟨_,h⟩ | (h | ⟨o,h⟩) | h
  . exact .inl h
  . cases h
  . cases h
  . exact .inr h
mutual
inductive Dz (N:Addr->Prop) (K:PySem.W.Frag) (H:Hp):V->Dat->Prop
  | none:Dz N K H .non .none
  | bool (b:Bool):Dz N K H (.bl b) (.bool b)
  | int (i:Int):Dz N K H (.int i) (.int i)
  | str (x:Str):Dz N K H (.str x) (.str x)
  | tup {a:Addr} {xs:List V} {ds:List Dat}:SqT K H a xs->Dzs N K H xs ds->Dz N K H (.ref a) (.tuple ds)
  | lst {a:Addr} {xs:List V} {ds:List Dat}:SqN N K H a xs->Dzs N K H xs ds->Dz N K H (.ref a) (.list ds)
  | exc {a:Addr} {c:Array UInt8}:N a->XAt K H a c->Dz N K H (.ref a) (.bytes c)
inductive Dzs (N:Addr->Prop) (K:PySem.W.Frag) (H:Hp):List V->List Dat->Prop
  | nil:Dzs N K H [] []
  | cons {x:V} {d:Dat} {xs:List V} {ds:List Dat}:Dz N K H x d->Dzs N K H xs ds->Dzs N K H (x :: xs) (d :: ds)
end
structure Ev (W:Addr->Prop) (H H':Hp):Prop where
  keep:∀ b o,¬ W b->H b=some o->H' b=some o
  tm:Tm H H'
theorem Ev.refl {W:Addr->Prop} {H:Hp}:Ev W H H:=⟨fun _ _ _ h=>h,Tm.refl _⟩
theorem Ev.trans {W:Addr->Prop} {H H1 H2:Hp} (a:Ev W H H1) (b:Ev W H1 H2):Ev W H H2:=⟨fun c o n h=>b.keep c o n (a.keep c o n h),a.tm.trans b.tm⟩
theorem Ev.of {W:Addr->Prop} {H H':Hp} (s:Same H H'):Ev W H H':=⟨fun c o _ h=>s c o h,s.tm⟩
theorem Ev.mono {W W':Addr->Prop} {H H':Hp} (a:Ev W H H') (m:∀ b,W b->W' b):Ev W' H H':=⟨fun c o n h=>a.keep c o (fun z=>n (m c z)) h,a.tm⟩
structure Own where
  R:(Addr->Prop)->PySem.W.Frag->Hp->Addr->List Addr->Prop
  ev:∀ {N W:Addr->Prop} {K:PySem.W.Frag} {H H':Hp} {a:Addr} {l:List Addr},R N K H a l->Ev W H H'->(∀ a,N a->¬ W a)->(∀ b o,b ∈ l->H b=some o->H' b=some o)->R N K H' a l
  wide:∀ {N N':Addr->Prop} {K:PySem.W.Frag} {H:Hp} {a:Addr} {l:List Addr},R N K H a l->(∀ a o,N a->H a=some o->N' a)->R N' K H a l
  al:∀ {N:Addr->Prop} {K:PySem.W.Frag} {H:Hp} {a:Addr} {l:List Addr},R N K H a l->∀ b,b ∈ l->∃ o,H b=some o
inductive Sl where
  | un | dat (d:Dat) | pu | own (ds:List Dat) | vw (ds:List Dat) | dt (o:Own)
section
variable {N N':Addr->Prop} {K:PySem.W.Frag} {H H':Hp}
mutual
theorem Dz.ev {W:Addr->Prop} (e:Ev W H H') (nw:∀ a,N a->¬ W a):∀ {v:V} {d:Dat},Dz N K H v d->Dz N K H' v d
  | _,_,.none=>.none
  | _,_,.bool b=>.bool b
  | _,_,.int i=>.int i
  | _,_,.str x=>.str x
  | _,_,.tup h r=>.tup (e.tm _ _ _ h) (Dzs.ev e nw r)
  | _,_,.lst h r=>.lst (by
      rcases h with ⟨n,h | ⟨o,h⟩⟩ | h
      . exact .inl ⟨n,.inl (e.keep _ _ (nw _ n) h)⟩
      . exact .inl ⟨n,.inr ⟨o,e.keep _ _ (nw _ n) h⟩⟩
      . exact .inr h) (Dzs.ev e nw r)
  | _,_,.exc n h=>.exc n (let ⟨ob,C,q,z⟩:=h;⟨ob,C,e.keep _ _ (nw _ n) q,z⟩)
theorem Dzs.ev {W:Addr->Prop} (e:Ev W H H') (nw:∀ a,N a->¬ W a):∀ {v:List V} {d:List Dat},Dzs N K H v d->Dzs N K H' v d
  | _,_,.nil=>.nil
  | _,_,.cons h r=>.cons (Dz.ev e nw h) (Dzs.ev e nw r)
end
mutual
theorem Dz.mono (m:∀ a,N a->N' a):∀ {v:V} {d:Dat},Dz N K H v d->Dz N' K H v d
  | _,_,.none=>.none
  | _,_,.bool b=>.bool b
  | _,_,.int i=>.int i
  | _,_,.str x=>.str x
  | _,_,.tup h r=>.tup h (Dzs.mono m r)
  | _,_,.lst h r=>.lst (h.elim (fun z=>.inl ⟨m _ z.1,z.2⟩) .inr) (Dzs.mono m r)
  | _,_,.exc n h=>.exc (m _ n) h
theorem Dzs.mono (m:∀ a,N a->N' a):∀ {v:List V} {d:List Dat},Dzs N K H v d->Dzs N' K H v d
  | _,_,.nil=>.nil
  | _,_,.cons h r=>.cons (Dz.mono m h) (Dzs.mono m r)
end
mutual
theorem Dz.is:∀ {v:V} {d:Dat},Dz N K H v d->Is K H v d
  | _,_,.none=>.none
  | _,_,.bool b=>.bool b
  | _,_,.int i=>.int i
  | _,_,.str x=>.str x
  | _,_,.tup h r=>.tup h (Dzs.is r)
  | _,_,.lst h r=>.lst h.sq (Dzs.is r)
  | _,_,.exc _ h=>.exc h
theorem Dzs.is:∀ {v:List V} {d:List Dat},Dzs N K H v d->Iss K H v d
  | _,_,.nil=>.nil
  | _,_,.cons h r=>.cons (Dz.is h) (Dzs.is r)
end
theorem Dzs.len:∀ {v:List V} {d:List Dat},Dzs N K H v d->v.length=d.length
  | _,_,.nil=>rfl
  | _,_,.cons _ r=>by rw [List.length_cons,List.length_cons,Dzs.len r]
theorem Dzs.app:∀ {v v':List V} {d d':List Dat},Dzs N K H v d->Dzs N K H v' d'->Dzs N K H (v ++ v') (d ++ d')
  | _,_,_,_,.nil,h=>h
  | _,_,_,_,.cons a r,h=>.cons a (Dzs.app r h)
theorem Dzs.get:∀ {v:List V} {d:List Dat} {i:Nat} {e:Dat},Dzs N K H v d->d[i]?=some e->∃ x,v[i]?=some x/\Dz N K H x e
  | _,_,_,_,.nil,h=>by simp at h
  | _,_,0,_,.cons a r,h=>by simp at h;subst h;exact ⟨_,rfl,a⟩
  | _,_,i + 1,e,.cons a r,h=>by
    obtain ⟨x,q,z⟩:=Dzs.get (i:=i) r (by simpa using h)
    exact ⟨x,by simpa using q,z⟩
theorem Dzs.get':∀ {v:List V} {d:List Dat} {i:Nat} {x:V},Dzs N K H v d->v[i]?=some x->∃ e,d[i]?=some e/\Dz N K H x e
  | _,_,_,_,.nil,h=>by simp at h
  | _,_,0,_,.cons a r,h=>by simp at h;subst h;exact ⟨_,rfl,a⟩
  | _,_,i + 1,e,.cons a r,h=>by
    obtain ⟨x,q,z⟩:=Dzs.get' (i:=i) r (by simpa using h)
    exact ⟨x,by simpa using q,z⟩
theorem Dzs.ints (ns:List Int):Dzs N K H (ns.map V.int) (ns.map Dat.int):=by
  induction ns with
  | nil=>exact .nil
  | cons n ns ih=>exact .cons (.int n) ih
theorem Dzs.inv:∀ {vs:List V} {ns:List Int},Dzs N K H vs (ns.map Dat.int)->vs=ns.map V.int
  | _,[],h=>by cases h;rfl
  | _,n :: ns,h=>by
    cases h with
    | cons a r=>cases a;rw [Dzs.inv r];rfl
end
mutual
noncomputable def noL:Dat->Bool
  | .tuple ds=>noLs ds
  | .list _=>false
  | .none=>true
  | .bool _=>true
  | .int _=>true
  | .str _=>true
  | _=>false
noncomputable def noLs:List Dat->Bool
  | []=>true
  | d :: r=>noL d && noLs r
end
section
variable {N N':Addr->Prop} {K:PySem.W.Frag} {H H':Hp}
mutual
theorem Dz.free:∀ {v:V} {d:Dat},Dz N K H v d->noL d=true->Dz N' K H v d
  | _,_,.none,_=>.none
  | _,_,.bool b,_=>.bool b
  | _,_,.int i,_=>.int i
  | _,_,.str x,_=>.str x
  | _,_,.tup h r,z=>.tup h (Dzs.free r (by rw [noL] at z;exact z))
  | _,_,.lst h r,z=>by rw [noL] at z;cases z
  | _,_,.exc _ h,z=>by simp [noL] at z
theorem Dzs.free:∀ {v:List V} {d:List Dat},Dzs N K H v d->noLs d=true->Dzs N' K H v d
  | _,_,.nil,_=>.nil
  | _,_,.cons h r,z=>by
    rw [noLs,Bool.and_eq_true] at z
    exact .cons (Dz.free h z.1) (Dzs.free r z.2)
end
end
theorem noLs_ints (ns:List Int):noLs (ns.map .int)=true:=by
  induction ns with
  | nil=>rw [List.map_nil,noLs]
  | cons n r ih=>rw [List.map_cons,noLs,ih,noL];rfl
section
variable {N N':Addr->Prop} {K:PySem.W.Frag} {H:Hp}
mutual
theorem Dz.widen (n:∀ a o,N a->H a=some o->N' a):∀ {v:V} {d:Dat},Dz N K H v d->Dz N' K H v d
  | _,_,.none=>.none
  | _,_,.bool b=>.bool b
  | _,_,.int i=>.int i
  | _,_,.str x=>.str x
  | _,_,.tup h r=>.tup h (Dzs.widen n r)
  | _,_,.lst h r=>.lst (by
      rcases h with ⟨nn,h⟩ | h
      . rcases h with h | ⟨o,h⟩
        . exact .inl ⟨n _ _ nn h,.inl h⟩
        . exact .inl ⟨n _ _ nn h,.inr ⟨o,h⟩⟩
      . exact .inr h) (Dzs.widen n r)
  | _,_,.exc nn h=>.exc (let ⟨_,_,q,_⟩:=h;n _ _ nn q) h
theorem Dzs.widen (n:∀ a o,N a->H a=some o->N' a):∀ {v:List V} {d:List Dat},Dzs N K H v d->Dzs N' K H v d
  | _,_,.nil=>.nil
  | _,_,.cons h r=>.cons (Dz.widen n h) (Dzs.widen n r)
end
end
structure Ok (p:Option Addr) (W:Addr->Prop) (H:Hp):Prop where
  pu:∀ q,p=some q->Pu H q/\W q
  al:∀ a,W a->∃ ys,H a=some ys
inductive Rs (p:Option Addr) (W:Addr->Prop) (K:PySem.W.Frag) (H:Hp):List Addr->St->List Sl->Prop
  | nil:Rs p W K H [] [] []
  | un {L:List Addr} {σ:St} {τ:List Sl} {o:Option V}:Rs p W K H L σ τ->Rs p W K H L (o :: σ) (.un :: τ)
  | dat {L:List Addr} {σ:St} {τ:List Sl} {v:V} {d:Dat}:Dz (fun a=>¬ W a) K H v d->Rs p W K H L σ τ->Rs p W K H L (some v :: σ) (.dat d :: τ)
  | pu {L:List Addr} {σ:St} {τ:List Sl} {q:Addr}:p=some q->Rs p W K H L σ τ->Rs p W K H L (some (.ref q) :: σ) (.pu :: τ)
  | own {L:List Addr} {σ:St} {τ:List Sl} {a:Addr} {vs:List V} {ds:List Dat}:W a->p ≠ some a->a ∉ L->H a=some (.lst vs)->Dzs (fun a=>¬ W a) K H vs ds->Rs p W K H L σ τ->Rs p W K H (a :: L) (some (.ref a) :: σ) (.own ds :: τ)
  | dt {L l:List Addr} {σ:St} {τ:List Sl} {a:Addr} {o:Own}:(∀ b,b ∈ l->W b)->(∀ b,b ∈ l->p ≠ some b)->(∀ b,b ∈ l->b ∉ L)->o.R (fun a=>¬ W a) K H a l->Rs p W K H L σ τ->Rs p W K H (l ++ L) (some (.ref a) :: σ) (.dt o :: τ)
noncomputable def Rv (p:Option Addr) (W:Addr->Prop) (K:PySem.W.Frag) (H H':Hp) (v:V):Sl->Prop
  | .un=>True
  | .dat d=>Dz (fun a=>¬ W a) K H' v d
  | .pu=>∃ q,p=some q/\v = .ref q
  | .own ds=>∃ a vs,v = .ref a/\H a=none/\H' a=some (.lst vs)/\Dzs (fun a=>¬ W a) K H' vs ds
  | .dt o=>∃ a l,v = .ref a/\(∀ b,b ∈ l->H b=none)/\o.R (fun a=>¬ W a) K H' a l
  | .vw ds=>∃ a vs,v = .ref a/\SqN (fun a=>p ≠ some a) K H' a vs/\Dzs (fun a=>¬ W a) K H' vs ds
inductive Rvs (p:Option Addr) (W:Addr->Prop) (K:PySem.W.Frag) (H H':Hp):List V->List Sl->Prop
  | nil:Rvs p W K H H' [] []
  | cons {v:V} {s:Sl} {vs:List V} {ss:List Sl}:Rv p W K H H' v s->Rvs p W K H H' vs ss->Rvs p W K H H' (v :: vs) (s :: ss)
noncomputable def Pp (p:Option Addr):Addr->Prop:=fun a=>p=some a
section
variable {p:Option Addr} {W:Addr->Prop} {K:PySem.W.Frag} {H H1 H':Hp} {σ:St} {τ:List Sl} {L:List Addr} {v:V} {s:Sl}
theorem Ok.ev (o:Ok p W H) (e:Ev (Pp p) H H') (q:∀ q,p=some q->Pu H' q):Ok p W H':=⟨fun a ha=>⟨q a ha,(o.pu a ha).2⟩,fun a ha=>by
  by_cases z:p=some a
  . obtain ⟨x,y,h⟩:=q a z;exact ⟨_,h⟩
  . obtain ⟨ys,h⟩:=o.al a ha;exact ⟨ys,e.keep _ _ z h⟩⟩
theorem Rs.ev (r:Rs p W K H L σ τ) (e:Ev (Pp p) H H') (pw:∀ q,p=some q->W q):Rs p W K H' L σ τ:=by
  have nw:∀ a,¬ W a->¬ Pp p a:=fun a n z=>n (pw a z)
  induction r with
  | nil=>exact .nil
  | un _ ih=>exact .un ih
  | dat h _ ih=>exact .dat (h.ev e nw) ih
  | pu h _ ih=>exact .pu h ih
  | own h1 h2 h3 h4 h5 _ ih=>exact .own h1 h2 h3 (e.keep _ _ h2 h4) (h5.ev e nw) ih
  | dt h1 h2 h3 h4 _ ih=>exact .dt h1 h2 h3 (Own.ev _ h4 e nw fun b o hb h=>e.keep _ _ (h2 b hb) h) ih
theorem Rs.get_dat (r:Rs p W K H L σ τ):∀ {i:Nat} {d:Dat},τ[i]?=some (.dat d)->∃ v,σ[i]?=some (some v)/\Dz (fun a=>¬ W a) K H v d:=by
  induction r with
  | nil=>intro i d h;simp at h
  | un _ ih =>
    intro i d h
    match i,h with
    | 0,h=>simp at h
    | i + 1,h=>exact ih (i:=i) (by simpa using h)
  | dat z _ ih =>
    intro i d h
    match i,h with
    | 0,h=>simp at h;subst h;exact ⟨_,rfl,z⟩
    | i + 1,h=>exact ih (i:=i) (by simpa using h)
  | pu _ _ ih =>
    intro i d h
    match i,h with
    | 0,h=>simp at h
    | i + 1,h=>exact ih (i:=i) (by simpa using h)
  | own _ _ _ _ _ _ ih =>
    intro i d h
    match i,h with
    | 0,h=>simp at h
    | i + 1,h=>exact ih (i:=i) (by simpa using h)
  | dt _ _ _ _ _ ih =>
    intro i d h
    match i,h with
    | 0,h=>simp at h
    | i + 1,h=>exact ih (i:=i) (by simpa using h)
theorem Rs.get_own (r:Rs p W K H L σ τ):∀ {i:Nat} {ds:List Dat},τ[i]?=some (.own ds)->∃ a vs,σ[i]?=some (some (.ref a))/\W a/\p ≠ some a/\a ∈ L/\H a=some (.lst vs)/\Dzs (fun a=>¬ W a) K H vs ds:=by
  induction r with
  | nil=>intro i ds h;simp at h
  | un _ ih =>
    intro i ds h
    match i,h with
    | 0,h=>simp at h
    | i + 1,h=>exact ih (i:=i) (by simpa using h)
  | dat z _ ih =>
    intro i ds h
    match i,h with
    | 0,h=>simp at h
    | i + 1,h=>exact ih (i:=i) (by simpa using h)
  | pu z _ ih =>
    intro i ds h
    match i,h with
    | 0,h=>simp at h
    | i + 1,h=>exact ih (i:=i) (by simpa using h)
  | own h1 h2 h3 h4 h5 _ ih =>
    intro i ds h
    match i,h with
    | 0,h=>simp at h;subst h;exact ⟨_,_,rfl,h1,h2,List.mem_cons_self,h4,h5⟩
    | i + 1,h =>
      obtain ⟨a,vs,e1,e2,e3,e4,e5⟩:=ih (i:=i) (by simpa using h)
      exact ⟨a,vs,by simpa using e1,e2,e3,List.mem_cons_of_mem _ e4,e5⟩
  | dt h1 h2 h3 h4 _ ih =>
    intro i ds h
    match i,h with
    | 0,h=>simp at h
    | i + 1,h =>
      obtain ⟨a,vs,e1,e2,e3,e4,e5⟩:=ih (i:=i) (by simpa using h)
      exact ⟨a,vs,by simpa using e1,e2,e3,List.mem_append_right _ e4,e5⟩
theorem Rs.set (r:Rs p W K H L σ τ) {v:V} {s:Sl} (hs:(s = .un)\/(∃ d,s = .dat d/\Dz (fun a=>¬ W a) K H v d)\/(s = .pu/\∃ q,p=some q/\v = .ref q)):∀ (i:Nat),∃ L',(∀ a,a ∈ L'->a ∈ L)/\Rs p W K H L' (σ.set i (some v)) (τ.set i s):=by
  induction r with
  | nil=>intro i;exact ⟨[],fun _ h=>h,.nil⟩
  | un r ih =>
    intro i
    match i with
    | 0 =>
      rcases hs with rfl | ⟨d,rfl,z⟩ | ⟨rfl,q,z,rfl⟩
      . exact ⟨_,fun _ h=>h,.un r⟩
      . exact ⟨_,fun _ h=>h,.dat z r⟩
      . exact ⟨_,fun _ h=>h,.pu z r⟩
    | i + 1=>obtain ⟨L',h1,h2⟩:=ih i;exact ⟨L',h1,.un h2⟩
  | dat y r ih =>
    intro i
    match i with
    | 0 =>
      rcases hs with rfl | ⟨d,rfl,z⟩ | ⟨rfl,q,z,rfl⟩
      . exact ⟨_,fun _ h=>h,.un r⟩
      . exact ⟨_,fun _ h=>h,.dat z r⟩
      . exact ⟨_,fun _ h=>h,.pu z r⟩
    | i + 1=>obtain ⟨L',h1,h2⟩:=ih i;exact ⟨L',h1,.dat y h2⟩
  | pu y r ih =>
    intro i
    match i with
    | 0 =>
      rcases hs with rfl | ⟨d,rfl,z⟩ | ⟨rfl,q,z,rfl⟩
      . exact ⟨_,fun _ h=>h,.un r⟩
      . exact ⟨_,fun _ h=>h,.dat z r⟩
      . exact ⟨_,fun _ h=>h,.pu z r⟩
    | i + 1=>obtain ⟨L',h1,h2⟩:=ih i;exact ⟨L',h1,.pu y h2⟩
  | own h1 h2 h3 h4 h5 r ih =>
    intro i
    match i with
    | 0 =>
      rcases hs with rfl | ⟨d,rfl,z⟩ | ⟨rfl,q,z,rfl⟩
      . exact ⟨_,fun _ h=>List.mem_cons_of_mem _ h,.un r⟩
      . exact ⟨_,fun _ h=>List.mem_cons_of_mem _ h,.dat z r⟩
      . exact ⟨_,fun _ h=>List.mem_cons_of_mem _ h,.pu z r⟩
    | i + 1 =>
      obtain ⟨L',g1,g2⟩:=ih i
      refine ⟨_ :: L',fun b hb=>?_,.own h1 h2 (fun z=>h3 (g1 _ z)) h4 h5 g2⟩
      rcases List.mem_cons.mp hb with rfl | hb
      . exact List.mem_cons_self
      . exact List.mem_cons_of_mem _ (g1 b hb)
  | dt h1 h2 h3 h4 r ih =>
    intro i
    match i with
    | 0 =>
      rcases hs with rfl | ⟨d,rfl,z⟩ | ⟨rfl,q,z,rfl⟩
      . exact ⟨_,fun _ h=>List.mem_append_right _ h,.un r⟩
      . exact ⟨_,fun _ h=>List.mem_append_right _ h,.dat z r⟩
      . exact ⟨_,fun _ h=>List.mem_append_right _ h,.pu z r⟩
    | i + 1 =>
      obtain ⟨L',g1,g2⟩:=ih i
      exact ⟨_ ++ L',fun b hb=>(List.mem_append.mp hb).elim (List.mem_append_left _) (fun z=>List.mem_append_right _ (g1 b z)),.dt h1 h2 (fun b hb z=>h3 b hb (g1 _ z)) h4 g2⟩
theorem Rs.wide {W':Addr->Prop} (r:Rs p W K H L σ τ) (m:∀ a,W a->W' a) (n:∀ a,W' a->¬ W a->H a=none):Rs p W' K H L σ τ:=by
  induction r with
  | nil=>exact .nil
  | un _ ih=>exact .un ih
  | dat h _ ih=>exact .dat (wideZ h) ih
  | pu h _ ih=>exact .pu h ih
  | own h1 h2 h3 h4 h5 _ ih=>exact .own (m _ h1) h2 h3 h4 (wideZs h5) ih
  | dt h1 h2 h3 h4 _ ih=>exact .dt (fun b hb=>m _ (h1 b hb)) h2 h3 (Own.wide _ h4 fun a o na ha wa=>by rw [n a wa na] at ha;cases ha) ih
where
  wideZ : ∀ {v : V} {d : Dat}, Dz (fun a => ¬ W a) K H v d -> Dz (fun a => ¬ W' a) K H v d
    | _,_,.none=>.none
    | _,_,.bool b=>.bool b
    | _,_,.int i=>.int i
    | _,_,.str x=>.str x
    | _,_,.tup h r=>.tup h (wideZs r)
    | _,_,.lst h r=>.lst (by
        rcases h with ⟨nn,h⟩ | h
        . refine .inl ⟨fun z=>?_,h⟩
          have e1:=n _ z nn
          rcases h with h | ⟨o,h⟩
          . rw [e1] at h;cases h
          . rw [e1] at h;cases h
        . exact .inr h) (wideZs r)
    | _,_,.exc nn h=>.exc (fun z=>by obtain ⟨_,_,q,_⟩:=h;rw [n _ z nn] at q;cases q) h
  wideZs:∀ {v:List V} {d:List Dat},Dzs (fun a=>¬ W a) K H v d->Dzs (fun a=>¬ W' a) K H v d
    | _,_,.nil=>.nil
    | _,_,.cons h r=>.cons (wideZ h) (wideZs r)
end
end D
end
section
namespace D
open PySem L2 K0
open PySem.W (Dat)
section
variable (p:Option Addr) (K:PySem.W.Frag)
noncomputable def E (te:TE) (τ:List Sl) (C:Sl->Prop):Prop:=∀ (W:Addr->Prop) (L:List Addr) (σ:St) (H:Hp) (Q:VK),Rs p W K H L σ τ->Ok p W H->(∀ v H' s,C s->Ev (Pp p) H H'->Ok p W H'->Rv p W K H H' v s->Q v H')->te σ H Q
noncomputable def E1 (te:TE) (τ:List Sl) (s:Sl):Prop:=E p K te τ (fun x=>s=x)
noncomputable def A (ta:TA) (τ:List Sl) (C:List Sl->Prop):Prop:=∀ (W:Addr->Prop) (L:List Addr) (σ:St) (H:Hp) (Q:List V->Hp->Prop),Rs p W K H L σ τ->Ok p W H->(∀ vs H' ss,C ss->Ev (Pp p) H H'->Ok p W H'->Rvs p W K H H' vs ss->Q vs H')->ta σ H Q
noncomputable def A1 (ta:TA) (τ:List Sl) (ss:List Sl):Prop:=A p K ta τ (fun x=>ss=x)
noncomputable def T (tt:TT) (τ:List Sl) (C:Bool->Prop):Prop:=∀ (W:Addr->Prop) (L:List Addr) (σ:St) (H:Hp) (Q:Bool->Hp->Prop),Rs p W K H L σ τ->Ok p W H->(∀ b H',C b->Ev (Pp p) H H'->Ok p W H'->Q b H')->tt σ H Q
noncomputable def T1 (tt:TT) (τ:List Sl) (b:Bool):Prop:=T p K tt τ (fun x=>b=x)
end
section
variable {p:Option Addr} {K:PySem.W.Frag} {W:Addr->Prop} {L:List Addr} {σ:St} {H H0 H1 H2:Hp} {τ:List Sl} {ta tb te:TE} {tas:TA} {v:V} {s:Sl}
theorem Ok.pw (o:Ok p W H):∀ q,p=some q->W q:=fun q h=>(o.pu q h).2
theorem Ok.nw (o:Ok p W H):∀ a,¬ W a->¬ Pp p a:=fun a n z=>n (o.pw a z)
theorem Ok.same (o:Ok p W H) (s:Same H H1):Ok p W H1:=o.ev (Ev.of s) fun q h=>(o.pu q h).1.same s
theorem Ok.back (o:Ok p W H1) (e:Ev (Pp p) H H1) {a:Addr} (h:H1 a=none):H a=none:=by
  cases q:H a with
  | none=>rfl
  | some u =>
    by_cases z:p=some a
    . obtain ⟨x,y,e2⟩:=(o.pu a z).1;rw [h] at e2;cases e2
    . rw [e.keep _ _ z q] at h;cases h
theorem Ok.fresh (o:Ok p W H) {a:Addr} (h:H a=none):¬ W a:=fun z=>by
  obtain ⟨ys,e⟩:=o.al a z;rw [h] at e;cases e
theorem Ok.np (o:Ok p W H) {a:Addr} (h:H a=none):p ≠ some a:=fun z=>o.fresh h (o.pw a z)
theorem Rv.ev (h:Rv p W K H0 H v s) (e:Ev (Pp p) H H1) (o:Ok p W H) (o0:Ok p W H0):Rv p W K H0 H1 v s:=by
  cases s with
  | un=>trivial
  | dat d=>exact Dz.ev e o.nw h
  | pu=>exact h
  | own ds =>
    obtain ⟨a,vs,rfl,h1,h2,h3⟩:=h
    exact ⟨a,vs,rfl,h1,e.keep _ _ (o0.np h1) h2,h3.ev e o.nw⟩
  | dt ds =>
    obtain ⟨a,l,rfl,h1,h2⟩:=h
    exact ⟨a,l,rfl,h1,Own.ev _ h2 e o.nw fun b u hb h=>e.keep _ _ (o0.np (h1 b hb)) h⟩
  | vw ds =>
    obtain ⟨a,vs,rfl,h2,h3⟩:=h
    refine ⟨a,vs,rfl,?_,h3.ev e o.nw⟩
    rcases h2 with ⟨z,h2 | ⟨u,h2⟩⟩ | h2
    . exact .inl ⟨z,.inl (e.keep _ _ z h2)⟩
    . exact .inl ⟨z,.inr ⟨u,e.keep _ _ z h2⟩⟩
    . exact .inr h2
theorem Rv.base (h:Rv p W K H1 H v s) (e:Ev (Pp p) H0 H1) (o1:Ok p W H1):Rv p W K H0 H v s:=by
  cases s with
  | own ds=>obtain ⟨a,vs,rfl,h1,h2⟩:=h;exact ⟨a,vs,rfl,o1.back e h1,h2⟩
  | dt ds=>obtain ⟨a,vs,rfl,h1,h2⟩:=h;exact ⟨a,vs,rfl,fun b hb=>o1.back e (h1 b hb),h2⟩
  | _=>exact h
theorem Rvs.base {vs:List V} {ss:List Sl} (h:Rvs p W K H1 H vs ss) (e:Ev (Pp p) H0 H1) (o1:Ok p W H1):Rvs p W K H0 H vs ss:=by
  induction h with
  | nil=>exact .nil
  | cons a _ ih=>exact .cons (a.base e o1) ih
theorem E.mono {C C':Sl->Prop} (h:E p K te τ C) (m:∀ s,C s->C' s):E p K te τ C':=fun W L σ H Q r o q=>h W L σ H Q r o fun v H' s c=>q v H' s (m s c)
theorem E1.var {i:Nat} {d:Dat} (h:τ[i]?=some (.dat d)):E1 p K (tVar i) τ (.dat d):=fun W L σ H Q r o q=>by
  obtain ⟨v,e,z⟩:=r.get_dat h
  exact ⟨v,e,q v H _ rfl Ev.refl o z⟩
theorem E1.varO {i:Nat} {ds:List Dat} (h:τ[i]?=some (.own ds)):E1 p K (tVar i) τ (.vw ds):=fun W L σ H Q r o q=>by
  obtain ⟨a,vs,e,w,n,_,h1,z⟩:=r.get_own h
  exact ⟨_,e,q _ H _ rfl Ev.refl o ⟨a,vs,rfl,.inl ⟨n,.inl h1⟩,z⟩⟩
theorem E1.varL {i:Nat} {ds:List Dat} (h:τ[i]?=some (.dat (.list ds))):E1 p K (tVar i) τ (.vw ds):=fun W L σ H Q r o q=>by
  obtain ⟨v,e,z⟩:=r.get_dat h
  cases z with
  | lst h1 h2=>exact ⟨_,e,q _ H _ rfl Ev.refl o ⟨_,_,rfl,h1.elim (fun z=>.inl ⟨fun y=>z.1 (o.pw _ y),z.2⟩) .inr,h2⟩⟩
theorem E1.int {i:Int}:E1 p K (tC (.int i)) τ (.dat (.int i)):=fun W L σ H Q r o q=>q _ H _ rfl Ev.refl o (.int i)
theorem E1.bl {i:Bool}:E1 p K (tC (.bl i)) τ (.dat (.bool i)):=fun W L σ H Q r o q=>q _ H _ rfl Ev.refl o (.bool i)
theorem E1.non:E1 p K (tC .non) τ (.dat .none):=fun W L σ H Q r o q=>q _ H _ rfl Ev.refl o .none
theorem E1.str {x:Str}:E1 p K (tC (.str x)) τ (.dat (.str x)):=fun W L σ H Q r o q=>q _ H _ rfl Ev.refl o (.str x)
theorem E1.frz {ds:List Dat} (h:E1 p K te τ (.own ds)):E1 p K te τ (.dat (.list ds)):=fun W L σ H Q r o q=>h W L σ H Q r o fun v H' s e ev o' rv=>by
  subst e
  obtain ⟨a,vs,rfl,h1,h2,h3⟩:=rv
  exact q _ H' _ rfl ev o' (.lst (.inl ⟨o.fresh h1,.inl h2⟩) h3)
theorem E1.vwo {ds:List Dat} (h:E1 p K te τ (.own ds)):E1 p K te τ (.vw ds):=fun W L σ H Q r o q=>h W L σ H Q r o fun v H' s e ev o' rv=>by
  subst e
  obtain ⟨a,vs,rfl,h1,h2,h3⟩:=rv
  exact q _ H' _ rfl ev o' ⟨a,vs,rfl,.inl ⟨o.np h1,.inl h2⟩,h3⟩
theorem E.op2 {r:R2} {A B C:Sl->Prop} {B':Sl->Sl->Prop} (ha:E p K ta τ A) (hb:∀ s,A s->E p K tb τ (B' s))
    (hr:∀ s t,A s->B' s t->∀ (W:Addr->Prop) (H0 H:Hp) (x y:V) (Q:VK),Ok p W H0->Ok p W H->Rv p W K H0 H x s->Rv p W K H0 H y t->(∀ v H' u,C u->Ev (Pp p) H H'->Ok p W H'->Rv p W K H0 H' v u->Q v H')->r x y H Q):E p K (tOp r ta tb) τ C :=
  fun W L σ H Q rs o q=>ha W L σ H _ rs o fun x H1 s cs e1 o1 rv1=>hb s cs W L σ H1 _ (rs.ev e1 o.pw) o1 fun y H2 t ct e2 o2 rv2 =>
    hr s t cs ct W H H2 x y _ o o2 (rv1.ev e2 o1 o) (rv2.base e1 o1) fun v H' u cu e3 o3 rv3=>q v H' u cu ((e1.trans e2).trans e3) o3 rv3
theorem E1.op2 {r:R2} {a b c:Sl} (ha:E1 p K ta τ a) (hb:E1 p K tb τ b)
    (hr:∀ (W:Addr->Prop) (H0 H:Hp) (x y:V) (Q:VK),Ok p W H0->Ok p W H->Rv p W K H0 H x a->Rv p W K H0 H y b->(∀ v H',Ev (Pp p) H H'->Ok p W H'->Rv p W K H0 H' v c->Q v H')->r x y H Q):E1 p K (tOp r ta tb) τ c :=
  E.op2 (B:=fun _=>True) (B':=fun _ x=>b=x) ha (fun _ _=>hb) fun s t hs ht W H0 H x y Q o0 o r1 r2 q=>by
    subst hs ht
    exact hr W H0 H x y Q o0 o r1 r2 fun v H'=>q v H' c rfl
theorem Rv.int_inv {i:Int} (h:Rv p W K H0 H v (.dat (.int i))):v = .int i:=by cases h;rfl
theorem Rv.bl_inv {i:Bool} (h:Rv p W K H0 H v (.dat (.bool i))):v = .bl i:=by cases h;rfl
theorem Rv.non_inv (h:Rv p W K H0 H v (.dat .none)):v = .non:=by cases h;rfl
theorem E1.opI0 {g:Int->Int->V} {i j:Int} {d:Dat} (ha:E1 p K ta τ (.dat (.int i))) (hb:E1 p K tb τ (.dat (.int j))) (hd:∀ (N:Addr->Prop) (K:PySem.W.Frag) (H:Hp),Dz N K H (g i j) d):E1 p K (tOp (rI0 g) ta tb) τ (.dat d) :=
  E1.op2 ha hb fun W H0 H x y Q o0 o r1 r2 q=>⟨i,j,r1.int_inv,r2.int_inv,q _ H Ev.refl o (hd _ K H)⟩
theorem E1.opI {g:Int->Int->V} {Cn:Int->Int->Prop} {i j:Int} {d:Dat} (ha:E1 p K ta τ (.dat (.int i))) (hb:E1 p K tb τ (.dat (.int j))) (hc:Cn i j) (hd:∀ (N:Addr->Prop) (K:PySem.W.Frag) (H:Hp),Dz N K H (g i j) d):E1 p K (tOp (rI Cn g) ta tb) τ (.dat d) :=
  E1.op2 ha hb fun W H0 H x y Q o0 o r1 r2 q=>⟨i,j,r1.int_inv,r2.int_inv,hc,q _ H Ev.refl o (hd _ K H)⟩
section
variable {i j:Int} (ha:E1 p K ta τ (.dat (.int i))) (hb:E1 p K tb τ (.dat (.int j)))
include ha hb
theorem E1.add:E1 p K (tOp (rI0 fun i j=>.int (i + j)) ta tb) τ (.dat (.int (i + j))):=E1.opI0 ha hb fun _ _ _=>.int _
theorem E1.sub:E1 p K (tOp (rI0 fun i j=>.int (i - j)) ta tb) τ (.dat (.int (i - j))):=E1.opI0 ha hb fun _ _ _=>.int _
theorem E1.mul (hc:IntMulOk i j):E1 p K (tOp (rI IntMulOk fun i j=>.int (i * j)) ta tb) τ (.dat (.int (i * j))):=E1.opI ha hb hc fun _ _ _=>.int _
theorem E1.fdiv (hc:CDivB i j):E1 p K (tOp (rI CDivB fun i j=>.int (i.fdiv j)) ta tb) τ (.dat (.int (i.fdiv j))):=E1.opI ha hb hc fun _ _ _=>.int _
theorem E1.mod (hc:0 < j):E1 p K (tOp (rI (fun _ j=>0 < j) fun i j=>.int (i % j)) ta tb) τ (.dat (.int (i % j))):=E1.opI ha hb hc fun _ _ _=>.int _
theorem E1.pow (hc:CPow i j):E1 p K (tOp (rI CPow fun i j=>.int (i ^ j.toNat)) ta tb) τ (.dat (.int (i ^ j.toNat))):=E1.opI ha hb hc fun _ _ _=>.int _
theorem E1.lt:E1 p K (tOp (rI0 fun i j=>.bl (decide (i < j))) ta tb) τ (.dat (.bool (decide (i < j)))):=E1.opI0 ha hb fun _ _ _=>.bool _
theorem E1.le:E1 p K (tOp (rI0 fun i j=>.bl (decide (i<=j))) ta tb) τ (.dat (.bool (decide (i<=j)))):=E1.opI0 ha hb fun _ _ _=>.bool _
theorem E1.gt:E1 p K (tOp (rI0 fun i j=>.bl (decide (j < i))) ta tb) τ (.dat (.bool (decide (j < i)))):=E1.opI0 ha hb fun _ _ _=>.bool _
theorem E1.eq:E1 p K (tOp rEq ta tb) τ (.dat (.bool (decide (i=j)))):=E1.op2 ha hb fun W H0 H x y Q o0 o r1 r2 q=>by
  cases r1.int_inv;cases r2.int_inv
  refine ⟨rfl,q _ H Ev.refl o ?_⟩
  have e:decide (V.int i=V.int j)=decide (i=j):=by rw [decide_eq_decide];exact ⟨fun h=>by injection h,fun h=>by rw [h]⟩
  rw [e];exact .bool _
theorem E1.ne:E1 p K (tOp rNe ta tb) τ (.dat (.bool (!decide (i=j)))):=E1.op2 ha hb fun W H0 H x y Q o0 o r1 r2 q=>by
  cases r1.int_inv;cases r2.int_inv
  refine ⟨rfl,q _ H Ev.refl o ?_⟩
  have e:decide (V.int i=V.int j)=decide (i=j):=by rw [decide_eq_decide];exact ⟨fun h=>by injection h,fun h=>by rw [h]⟩
  rw [e];exact .bool _
end
theorem E1.neg {i:Int} (ha:E1 p K ta τ (.dat (.int i))):E1 p K (tUn (rU fun i=>.int (-i)) ta) τ (.dat (.int (-i))):=fun W L σ H Q rs o q=>ha W L σ H _ rs o fun x H1 s e e1 o1 rv=>by
  subst e;cases rv.int_inv
  exact ⟨i,rfl,q _ H1 _ rfl e1 o1 (.int _)⟩
noncomputable def datOf:Sl->Option Dat
  | .dat d=>some d
  | .vw ds=>some (.list ds)
  | .own ds=>some (.list ds)
  | _=>none
theorem Rv.isD {d:Dat} (h:Rv p W K H0 H v s) (e:datOf s=some d):Is K H v d:=by
  cases s with
  | un=>cases e
  | pu=>cases e
  | dat d'=>cases e;exact Dz.is h
  | own ds=>cases e;obtain ⟨a,vs,rfl,_,h2,h3⟩:=h;exact .lst (SqL.of h2) h3.is
  | dt ds=>cases e
  | vw ds=>cases e;obtain ⟨a,vs,rfl,h2,h3⟩:=h;exact .lst h2.sq h3.is
theorem E1.eqD {a b:Sl} {d e:Dat} (ha:E1 p K ta τ a) (hb:E1 p K tb τ b) (ea:datOf a=some d) (eb:datOf b=some e) (k1:PySem.W.kqdOk 9 d=true) (k2:PySem.W.kqdOk 9 e=true):E1 p K (tOp (rEqD K false) ta tb) τ (.dat (.bool (deq d e))) :=
  E1.op2 ha hb fun W H0 H x y Q o0 o r1 r2 q=>⟨d,e,r1.isD ea,r2.isD eb,k1,k2,q _ H Ev.refl o (.bool _)⟩
theorem E1.neD {a b:Sl} {d e:Dat} (ha:E1 p K ta τ a) (hb:E1 p K tb τ b) (ea:datOf a=some d) (eb:datOf b=some e) (k1:PySem.W.kqdOk 9 d=true) (k2:PySem.W.kqdOk 9 e=true):E1 p K (tOp (rEqD K true) ta tb) τ (.dat (.bool (!deq d e))) :=
  E1.op2 ha hb fun W H0 H x y Q o0 o r1 r2 q=>⟨d,e,r1.isD ea,r2.isD eb,k1,k2,q _ H Ev.refl o (.bool _)⟩
theorem atI_dz {N:Addr->Prop} {xs:List V} {ds:List Dat} {i:Int} {d:Dat} (h:Dzs N K H xs ds) (e:atI ds i=some d):∃ x,atI xs i=some x/\Dz N K H x d:=by
  unfold atI at e ⊢
  rw [h.len]
  cases q:ixN ds.length i with
  | none=>rw [q] at e;cases e
  | some j =>
    rw [q] at e
    obtain ⟨x,e1,e2⟩:=h.get (i:=j) (by simpa using e)
    exact ⟨x,by simpa using e1,e2⟩
theorem E1.ixT {ds:List Dat} {i:Int} {d:Dat} (ha:E1 p K ta τ (.dat (.tuple ds))) (hb:E1 p K tb τ (.dat (.int i))) (h:atI ds i=some d):E1 p K (tOp (rIxT K) ta tb) τ (.dat d) :=
  E1.op2 ha hb fun W H0 H x y Q o0 o r1 r2 q=>by
    cases r2.int_inv
    cases r1 with
    | tup h1 h2 =>
      obtain ⟨x,e1,e2⟩:=atI_dz h2 h
      exact ⟨_,_,i,x,rfl,rfl,h1,e1,q _ H Ev.refl o e2⟩
theorem E1.ixL {ds:List Dat} {i:Int} {d:Dat} (ha:E1 p K ta τ (.vw ds)) (hb:E1 p K tb τ (.dat (.int i))) (h:atI ds i=some d):E1 p K (tOp (rIxL K) ta tb) τ (.dat d) :=
  E1.op2 ha hb fun W H0 H x y Q o0 o r1 r2 q=>by
    cases r2.int_inv
    obtain ⟨a,vs,rfl,h1,h2⟩:=r1
    obtain ⟨x,e1,e2⟩:=atI_dz h2 h
    exact ⟨_,_,i,x,rfl,rfl,h1.sq,e1,q _ H Ev.refl o e2⟩
theorem A1.nil:A1 p K tNil τ []:=fun W L σ H Q rs o q=>q [] H _ rfl Ev.refl o .nil
theorem A.cons {C1:Sl->Prop} {C2:Sl->List Sl->Prop} {C:List Sl->Prop} (ha:E p K te τ C1) (hr:∀ s,C1 s->A p K tas τ (C2 s)) (m:∀ s ss,C1 s->C2 s ss->C (s :: ss)):A p K (tCons te tas) τ C:=fun W L σ H Q rs o q =>
  ha W L σ H _ rs o fun x H1 s c1 e1 o1 rv1=>hr s c1 W L σ H1 _ (rs.ev e1 o.pw) o1 fun xs H2 ss c2 e2 o2 rv2=>q _ H2 _ (m s ss c1 c2) (e1.trans e2) o2 (.cons (rv1.ev e2 o1 o) (rv2.base e1 o1))
theorem A1.cons {ss:List Sl} (ha:E1 p K te τ s) (hr:A1 p K tas τ ss):A1 p K (tCons te tas) τ (s :: ss):=A.cons (C2:=fun _ x=>ss=x) ha (fun _ _=>hr) fun s ss h1 h2=>by rw [h1,h2]
theorem Rvs.dats {ds:List Dat} {vs:List V} (h:Rvs p W K H0 H vs (ds.map .dat)):Dzs (fun a=>¬ W a) K H vs ds:=by
  induction ds generalizing vs with
  | nil=>cases h;exact .nil
  | cons d r ih =>
    cases h with
    | cons a t=>exact .cons a (ih t)
theorem Rvs.len {ss:List Sl} {vs:List V} (h:Rvs p W K H0 H vs ss):vs.length=ss.length:=by
  induction h with
  | nil=>rfl
  | cons _ _ ih=>rw [List.length_cons,List.length_cons,ih]
theorem E1.tup {ds:List Dat} (h:A1 p K tas τ (ds.map .dat)) (hz:ds.length<=sizeLine):E1 p K (tTup tas) τ (.dat (.tuple ds)):=fun W L σ H Q rs o q =>
  h W L σ H _ rs o fun vs H1 ss e e1 o1 rv=>by
    subst e
    refine ⟨by rw [rv.len,List.length_map];exact hz,fun a ha=>?_⟩
    have s1:=Same.new ha (.tup vs)
    exact q _ _ _ rfl (e1.trans (Ev.of s1)) (o1.same s1) (.tup (SqT.of upd_same) (rv.dats.ev (W:=Pp p) (Ev.of s1) o1.nw))
theorem E1.lst {ds:List Dat} (h:A1 p K tas τ (ds.map .dat)) (hz:ds.length<=sizeLine):E1 p K (tLst tas) τ (.own ds):=fun W L σ H Q rs o q =>
  h W L σ H _ rs o fun vs H1 ss e e1 o1 rv=>by
    subst e
    refine ⟨by rw [rv.len,List.length_map];exact hz,fun a ha=>?_⟩
    have s1:=Same.new ha (.lst vs)
    exact q _ _ _ rfl (e1.trans (Ev.of s1)) (o1.same s1) ⟨a,vs,rfl,o1.back e1 ha,upd_same,rv.dats.ev (W:=Pp p) (Ev.of s1) o1.nw⟩
theorem E1.to {s':Sl} (h:E1 p K te τ s) (e:s=s'):E1 p K te τ s':=e ▸ h
theorem T1.test {b:Bool} (h:E1 p K te τ (.dat (.bool b))):T1 p K (tTest te) τ b:=fun W L σ H Q rs o q=>h W L σ H _ rs o fun v H' s e e1 o1 rv=>by
  subst e;cases rv.bl_inv;exact ⟨b,rfl,q b H' rfl e1 o1⟩
theorem T1.val {b:Bool} (h:E1 p K te τ (.dat (.bool b))):T1 p K (tB te) τ b:=fun W L σ H Q rs o q=>h W L σ H _ rs o fun v H' s e e1 o1 rv=>by
  subst e;cases rv.bl_inv;exact ⟨b,rfl,q b H' rfl e1 o1⟩
theorem T1.not {tt:TT} {b:Bool} (h:T1 p K tt τ b):T1 p K (tNot tt) τ (!b):=fun W L σ H Q rs o q=>h W L σ H _ rs o fun v H' e e1 o1=>by
  subst e;exact q _ H' rfl e1 o1
theorem T.and {tt tu:TT} {C D:Bool->Prop} (h:T p K tt τ C) (ht:C true->T p K tu τ D) (hf:C false->D false):T p K (tAnd tt tu) τ D:=fun W L σ H Q rs o q=>h W L σ H _ rs o fun v H' c e1 o1=>by
  cases v with
  | true=>rw [if_pos rfl];exact ht c W L σ H' _ (rs.ev e1 o.pw) o1 fun b H2 d e2=>q b H2 d (e1.trans e2)
  | false=>rw [if_neg (by decide)];exact q _ H' (hf c) e1 o1
theorem T.or {tt tu:TT} {C D:Bool->Prop} (h:T p K tt τ C) (ht:C true->D true) (hf:C false->T p K tu τ D):T p K (tOr tt tu) τ D:=fun W L σ H Q rs o q=>h W L σ H _ rs o fun v H' c e1 o1=>by
  cases v with
  | false=>rw [if_neg (by decide)];exact hf c W L σ H' _ (rs.ev e1 o.pw) o1 fun b H2 d e2=>q b H2 d (e1.trans e2)
  | true=>rw [if_pos rfl];exact q _ H' (ht c) e1 o1
theorem T1.orF {tt tu:TT} (h:T1 p K tt τ false) (h2:T1 p K tu τ false):T1 p K (tOr tt tu) τ false:=T.or h (fun z=>by cases z) fun _=>h2
theorem T1.and1 {tt tu:TT} {b c:Bool} (h:T1 p K tt τ b) (h2:T1 p K tu τ c):T1 p K (tAnd tt tu) τ (b && c):=T.and h (fun z=>by rw [z];exact h2) fun z=>by rw [z];rfl
end
end D
end
section
namespace D
open PySem L2 K0
open PySem.W (Dat)
noncomputable def Rr (p:Option Addr) (W:Addr->Prop) (K:PySem.W.Frag) (L:List Addr) (H H':Hp) (v:V):Sl->Prop
  | .own ds=>∃ a vs,v = .ref a/\(a ∈ L\/H a=none)/\H' a=some (.lst vs)/\Dzs (fun a=>¬ W a) K H' vs ds
  | .dt o=>∃ a l,v = .ref a/\(∀ b,b ∈ l->b ∈ L\/H b=none)/\o.R (fun a=>¬ W a) K H' a l
  | s=>Rv p W K H H' v s
section
variable (p:Option Addr) (K:PySem.W.Frag)
noncomputable def S (ts:TS) (τ:List Sl) (nx:List Sl->Prop) (rt:Sl->Prop):Prop:=∀ (W:Addr->Prop) (L:List Addr) (σ:St) (H:Hp) (D:Ends),Rs p W K H L σ τ->Ok p W H ->
  (∀ (W':Addr->Prop) (L':List Addr) σ' H' τ',nx τ'->Ev W H H'->Ok p W' H'->(∀ a,W a->∃ ys,H' a=some ys)->(∀ a,W' a->W a\/H a=none)->(∀ a,a ∈ L'->a ∈ L\/H a=none)->Rs p W' K H' L' σ' τ'->D.nx σ' H') ->
  (∀ (W':Addr->Prop) H' v s,rt s->Ev W H H'->Ok p W' H'->(∀ a,W a->∃ ys,H' a=some ys)->(∀ a,W' a->W a\/H a=none)->Rr p W' K L H H' v s->D.rt v H')->ts D σ H
end
section
variable {p:Option Addr} {K:PySem.W.Frag} {W:Addr->Prop} {L:List Addr} {σ:St} {H H0 H1 H2:Hp} {τ:List Sl} {te:TE} {v:V} {s:Sl} {nx:List Sl->Prop} {rt:Sl->Prop} {t u:TS}
theorem Rv.rr (h:Rv p W K H0 H v s):Rr p W K L H0 H v s:=by
  cases s with
  | own ds=>obtain ⟨a,vs,e,h1,h2⟩:=h;exact ⟨a,vs,e,.inr h1,h2⟩
  | dt ds=>obtain ⟨a,vs,e,h1,h2⟩:=h;exact ⟨a,vs,e,fun b hb=>.inr (h1 b hb),h2⟩
  | _=>exact h
theorem Rr.base {L':List Addr} (h:Rr p W K L' H1 H v s) (hn:∀ a,H1 a=none->H0 a=none) (hl:∀ a,a ∈ L'->a ∈ L\/H0 a=none):Rr p W K L H0 H v s:=by
  cases s with
  | own ds=>obtain ⟨a,vs,e,h1,h2⟩:=h;exact ⟨a,vs,e,h1.elim (hl a) fun z=>.inr (hn a z),h2⟩
  | dt ds=>obtain ⟨a,vs,e,h1,h2⟩:=h;exact ⟨a,vs,e,fun b hb=>(h1 b hb).elim (hl b) fun z=>.inr (hn b z),h2⟩
  | _=>exact h
theorem Ev.ofP (e:Ev (Pp p) H H1) (o:Ok p W H):Ev W H H1:=e.mono o.pw
theorem Ev.chain {W W':Addr->Prop} (e:Ev W H H1) (e2:Ev W' H1 H2) (n:∀ a,W' a->W a\/H a=none):Ev W H H2:=⟨fun b o nb h=>e2.keep b o (fun z=>by
  rcases n b z with y | y
  . exact nb y
  . rw [h] at y;cases y) (e.keep b o nb h),e.tm.trans e2.tm⟩
theorem Ev.none (e:Ev W H H1) (al:∀ a,W a->∃ ys,H1 a=some ys) {a:Addr} (h:H1 a=none):H a=none:=by
  cases q:H a with
  | none=>rfl
  | some u =>
    by_cases z:W a
    . obtain ⟨ys,e2⟩:=al a z;rw [h] at e2;cases e2
    . rw [e.keep _ _ z q] at h;cases h
theorem al_chain {W W1:Addr->Prop} (w1:∀ a,W a->∃ ys,H1 a=some ys) (w2:∀ a,W1 a->∃ ys,H2 a=some ys) (e2:Ev W1 H1 H2):∀ a,W a->∃ ys,H2 a=some ys:=fun a ha=>by
  by_cases z:W1 a
  . exact w2 a z
  . obtain ⟨ys,h⟩:=w1 a ha;exact ⟨ys,e2.keep _ _ z h⟩
theorem S.seq {M:List Sl->Prop} (h1:S p K t τ M rt) (h2:∀ τ',M τ'->S p K u τ' nx rt):S p K (tSeq t u) τ nx rt:=fun W L σ H D r o q1 q2 =>
  h1 W L σ H _ r o (fun W1 L1 σ1 H1 τ1 m e1 o1 w1 n1 l1 r1=>by
    have hn:∀ a,H1 a=none->H a=none:=fun a ha=>e1.none w1 ha
    exact h2 τ1 m W1 L1 σ1 H1 D r1 o1 (fun W2 L2 σ2 H2 τ2 c e2 o2 w2 n2 l2 r2=>q1 W2 L2 σ2 H2 τ2 c (e1.chain e2 n1) o2 (al_chain w1 w2 e2)
        (fun a ha=>(n2 a ha).elim (n1 a) fun z=>.inr (hn a z)) (fun a ha=>(l2 a ha).elim (l1 a) fun z=>.inr (hn a z)) r2)
      fun W2 H2 v s c e2 o2 w2 n2 rv=>q2 W2 H2 v s c (e1.chain e2 n1) o2 (al_chain w1 w2 e2) (fun a ha=>(n2 a ha).elim (n1 a) fun z=>.inr (hn a z)) (rv.base hn l1)) q2
theorem S.next (h:nx τ):S p K tNext τ nx rt:=fun W L σ H D r o q1 q2=>q1 W L σ H τ h Ev.refl o o.al (fun _ h=>.inl h) (fun _ h=>.inl h) r
theorem S.ret {C:Sl->Prop} (h:E p K te τ C) (m:∀ s,C s->rt s):S p K (tRet te) τ nx rt:=fun W L σ H D r o q1 q2=>h W L σ H _ r o fun v H' s c e o' rv=>q2 W H' v s (m s c) (e.ofP o) o' o'.al (fun _ h=>.inl h) rv.rr
theorem S.ret1 (h:E1 p K te τ s) (m:rt s):S p K (tRet te) τ nx rt:=S.ret h fun x e=>e ▸ m
theorem S.retO {i:Nat} {ds:List Dat} (h:τ[i]?=some (.own ds)) (m:rt (.own ds)):S p K (tRet (tVar i)) τ nx rt:=fun W L σ H D r o q1 q2=>by
  obtain ⟨a,vs,e,w,n,l,h1,z⟩:=r.get_own h
  exact ⟨_,e,q2 W H _ _ m Ev.refl o o.al (fun _ h=>.inl h) ⟨a,vs,rfl,.inl l,h1,z⟩⟩
theorem S.iff {tc:TT} {C:Bool->Prop} (h:T p K tc τ C) (ht:C true->S p K t τ nx rt) (hf:C false->S p K u τ nx rt):S p K (tIfS tc t u) τ nx rt:=fun W L σ H D r o q1 q2=>h W L σ H _ r o fun b H1 c e o1=>by
  have e1:=e.ofP o
  have hn:∀ a,H1 a=none->H a=none:=fun a ha=>e1.none (fun a h=>o1.al a h) ha
  have go:∀ {t:TS},S p K t τ nx rt->t D σ H1:=fun h=>h W L σ H1 D (r.ev e o.pw) o1 (fun W2 L2 σ2 H2 τ2 c e2 o2 w2 n2 l2 r2=>q1 W2 L2 σ2 H2 τ2 c (e1.trans e2) o2 (al_chain o1.al w2 e2) (fun a ha=>(n2 a ha).elim .inl fun z=>.inr (hn a z)) (fun a ha=>(l2 a ha).elim .inl fun z=>.inr (hn a z)) r2)
      fun W2 H2 v s c e2 o2 w2 n2 rv=>q2 W2 H2 v s c (e1.trans e2) o2 (al_chain o1.al w2 e2) (fun a ha=>(n2 a ha).elim .inl fun z=>.inr (hn a z)) (rv.base hn fun _ h=>.inl h)
  cases b with
  | true=>rw [if_pos rfl];exact go (ht c)
  | false=>rw [if_neg (by decide)];exact go (hf c)
theorem S.if1 {tc:TT} {b:Bool} (h:T1 p K tc τ b) (ht:b=true->S p K t τ nx rt) (hf:b=false->S p K u τ nx rt):S p K (tIfS tc t u) τ nx rt:=S.iff h ht hf
theorem S.ifF {tc:TT} (h:T1 p K tc τ false) (hf:S p K u τ nx rt):S p K (tIfS tc t u) τ nx rt:=S.iff h (fun z=>by cases z) fun _=>hf
theorem S.ifs {tc:TT} {b:Bool} (h:T1 p K tc τ b) (ht:b=true->S p K t τ (fun τ'=>S p K u τ' nx rt) rt) (hf:b=false->S p K u τ nx rt):S p K (tSeq (tIfS tc t tNext) u) τ nx rt :=
  S.seq (M:=fun τ'=>S p K u τ' nx rt) (S.if1 h ht fun z=>S.next (hf z)) fun _ h=>h
theorem S.ifsF {tc:TT} (h:T1 p K tc τ false) (hf:S p K u τ nx rt):S p K (tSeq (tIfS tc t tNext) u) τ nx rt:=S.ifs h (fun z=>by cases z) fun _=>hf
noncomputable def flat:Sl->Bool
  | .own _=>false
  | .dt _=>false
  | .vw _=>false
  | _=>true
theorem S.asg {C:Sl->Prop} {i:Nat} (h:E p K te τ C) (hf:∀ s,C s->flat s=true) (m:∀ s,C s->nx (τ.set i s)):S p K (tAsg te (gName i)) τ nx rt:=fun W L σ H D r o q1 q2=>h W L σ H _ r o fun v H1 s c e o1 rv=>by
  have z:=hf s c
  obtain ⟨L',l,r'⟩:=(r.ev e o.pw).set (v:=v) (s:=s) (by
    cases s with
    | un=>exact .inl rfl
    | dat d=>exact .inr (.inl ⟨d,rfl,rv⟩)
    | pu=>exact .inr (.inr ⟨rfl,rv⟩)
    | own ds=>cases z
    | dt ds=>cases z
    | vw ds=>cases z) i
  exact q1 W L' _ H1 _ (m s c) (e.ofP o) o1 o1.al (fun _ h=>.inl h) (fun a ha=>.inl (l a ha)) r'
theorem S.letC {C:Sl->Prop} {i:Nat} (h:E p K te τ C) (hf:∀ s,C s->flat s=true) (m:∀ s,C s->S p K u (τ.set i s) nx rt):S p K (tSeq (tAsg te (gName i)) u) τ nx rt :=
  S.seq (M:=fun τ'=>∃ s,C s/\τ'=τ.set i s) (S.asg h hf fun s c=>⟨s,c,rfl⟩) fun τ' ⟨s,c,e⟩=>e ▸ m s c
theorem S.let1 {i:Nat} {τ':List Sl} (h:E1 p K te τ s) (m:S p K u τ' nx rt) (e:τ.set i s=τ':=by rfl) (hf:flat s=true:=by rfl):S p K (tSeq (tAsg te (gName i)) u) τ nx rt :=
  S.letC h (fun x y=>y ▸ hf) fun x y=>by subst y;rw [e];exact m
theorem S.asg1 {i:Nat} {τ':List Sl} (h:E1 p K te τ s) (m:nx τ') (e:τ.set i s=τ':=by rfl) (hf:flat s=true:=by rfl):S p K (tAsg te (gName i)) τ nx rt :=
  S.asg h (fun x y=>y ▸ hf) fun x y=>by subst y;rw [e];exact m
theorem Rs.setO (r:Rs p W K H L σ τ) {a:Addr} {vs:List V} {ds:List Dat} (wa:W a) (np:p ≠ some a) (nl:a ∉ L) (h:H a=some (.lst vs)) (z:Dzs (fun a=>¬ W a) K H vs ds):∀ (i:Nat),∃ L',(∀ b,b ∈ L'->b=a\/b ∈ L)/\Rs p W K H L' (σ.set i (some (.ref a))) (τ.set i (.own ds)):=by
  induction r with
  | nil=>intro i;exact ⟨[],fun _ h=>.inr h,.nil⟩
  | un r ih =>
    intro i
    match i with
    | 0=>exact ⟨_,fun b hb=>by simpa using hb,.own wa np nl h z r⟩
    | i + 1=>obtain ⟨L',h1,h2⟩:=ih nl i;exact ⟨L',h1,.un h2⟩
  | dat y r ih =>
    intro i
    match i with
    | 0=>exact ⟨_,fun b hb=>by simpa using hb,.own wa np nl h z r⟩
    | i + 1=>obtain ⟨L',h1,h2⟩:=ih nl i;exact ⟨L',h1,.dat y h2⟩
  | pu y r ih =>
    intro i
    match i with
    | 0=>exact ⟨_,fun b hb=>by simpa using hb,.own wa np nl h z r⟩
    | i + 1=>obtain ⟨L',h1,h2⟩:=ih nl i;exact ⟨L',h1,.pu y h2⟩
  | own g1 g2 g3 g4 g5 r ih =>
    intro i
    have nl':=fun y=>nl (List.mem_cons_of_mem _ y)
    match i with
    | 0=>exact ⟨_,fun b hb=>(List.mem_cons.mp hb).imp id (List.mem_cons_of_mem _),.own wa np nl' h z r⟩
    | i + 1 =>
      obtain ⟨L',h1,h2⟩:=ih nl' i
      refine ⟨_ :: L',fun b hb=>?_,.own g1 g2 (fun y=>?_) g4 g5 h2⟩
      . rcases List.mem_cons.mp hb with rfl | hb
        . exact .inr List.mem_cons_self
        . exact (h1 b hb).imp id (List.mem_cons_of_mem _)
      . rcases h1 _ y with y | y
        . exact nl (y ▸ List.mem_cons_self)
        . exact g3 y
  | dt g1 g2 g3 g4 r ih =>
    intro i
    have nl':=fun y=>nl (List.mem_append_right _ y)
    match i with
    | 0=>exact ⟨_,fun b hb=>(List.mem_cons.mp hb).imp id (List.mem_append_right _),.own wa np nl' h z r⟩
    | i + 1 =>
      obtain ⟨L',h1,h2⟩:=ih nl' i
      refine ⟨_ ++ L',fun b hb=>?_,.dt g1 g2 (fun b hb y=>?_) g4 h2⟩
      . rcases List.mem_append.mp hb with hb | hb
        . exact .inr (List.mem_append_left _ hb)
        . exact (h1 b hb).imp id (List.mem_append_right _)
      . rcases h1 _ y with y | y
        . exact nl (y ▸ List.mem_append_left _ hb)
        . exact g3 b hb y
theorem Rs.own_in (r:Rs p W K H L σ τ):∀ a,a ∈ L->∃ vs,H a=some vs:=by
  induction r with
  | nil=>intro a h;cases h
  | un _ ih=>exact ih
  | dat _ _ ih=>exact ih
  | pu _ _ ih=>exact ih
  | own _ _ _ h4 _ _ ih => intro a h; rcases List.mem_cons.mp h with rfl | h
                           . exact ⟨_,h4⟩
                           . exact ih a h
  | dt _ _ _ h4 _ ih =>
    intro a h;rcases List.mem_append.mp h with h | h
    . exact Own.al _ h4 a h
    . exact ih a h
theorem Dzs.old {W W':Addr->Prop} {H H':Hp} (e:Ev W H H') (n:∀ a,W' a->W a\/H a=none):∀ {vs:List V} {ds:List Dat},Dzs (fun a=>¬ W a) K H vs ds->Dzs (fun a=>¬ W' a) K H' vs ds
    | _,_,.nil=>.nil
    | _,_,.cons h r=>.cons (go1 h) (Dzs.old e n r)
where
  go1 : ∀ {v : V} {d : Dat}, Dz (fun a => ¬ W a) K H v d -> Dz (fun a => ¬ W' a) K H' v d
    | _,_,.none=>.none
    | _,_,.bool b=>.bool b
    | _,_,.int i=>.int i
    | _,_,.str x=>.str x
    | _,_,.tup h r=>.tup (e.tm _ _ _ h) (Dzs.old e n r)
    | _, _, .lst h r => .lst (by
        rcases h with ⟨nn,h⟩ | h
        . refine .inl ⟨fun z=>?_,?_⟩
          . have e1:=(n _ z).resolve_left nn
            rcases h with h | ⟨o,h⟩
            . rw [e1] at h;cases h
            . rw [e1] at h;cases h
          . exact h.imp (e.keep _ _ nn) fun ⟨o,h⟩=>⟨o,e.keep _ _ nn h⟩
        . exact .inr h) (Dzs.old e n r)
    | _,_,.exc nn h=>.exc (fun z=>by obtain ⟨_,_,q,_⟩:=h;rw [(n _ z).resolve_left nn] at q;cases q) (let ⟨ob,C,q,z⟩:=h;⟨ob,C,e.keep _ _ nn q,z⟩)
theorem dz_old {W W':Addr->Prop} {H H':Hp} (e:Ev W H H') (n:∀ a,W' a->W a\/H a=none) {v:V} {d:Dat} (h:Dz (fun a=>¬ W a) K H v d):Dz (fun a=>¬ W' a) K H' v d:=by
  cases Dzs.old e n (.cons h .nil) with
  | cons a _=>exact a
theorem S.letOC {C:List Dat->Prop} {i:Nat} (h:E p K te τ (fun s=>∃ ds,s = .own ds/\noLs ds=true/\C ds)) (m:∀ ds,C ds->S p K u (τ.set i (.own ds)) nx rt):S p K (tSeq (tAsg te (gName i)) u) τ nx rt:=by
  refine S.seq (M:=fun τ'=>∃ ds,C ds/\τ'=τ.set i (.own ds)) (fun W L σ H D r o q1 q2=>?_) fun τ' ⟨ds,c,e⟩=>e ▸ m ds c
  refine h W L σ H _ r o fun v H1 s c e o1 rv=>?_
  obtain ⟨ds,rfl,nl,cd⟩:=c
  obtain ⟨a,vs,rfl,h1,h2,h3⟩:=rv
  have nw:=o.fresh h1
  have wid:∀ b,(W b\/b=a)->¬ W b->H b=none:=fun b hb nb=>(hb.resolve_left nb) ▸ h1
  have r1:Rs p (fun b=>W b\/b=a) K H1 L σ τ:=(r.wide (fun _ h=>.inl h) wid).ev e fun q hq=>.inl (o.pw q hq)
  have al:a ∉ L:=fun z=>by obtain ⟨_,y⟩:=r.own_in a z;rw [h1] at y;cases y
  obtain ⟨L',l,r2⟩:=r1.setO (.inr rfl) (o.np h1) al h2 (h3.free nl) i
  refine q1 _ L' _ H1 _ ⟨ds,cd,rfl⟩ (e.ofP o) ⟨fun q hq=>⟨(o1.pu q hq).1,.inl (o1.pw q hq)⟩,fun b hb=>?_⟩ o1.al (fun b hb=>hb.imp id fun (z:b=a)=>by rw [z];exact h1) (fun b hb=>?_) r2
  . rcases hb with hb | rfl
    . exact o1.al b hb
    . exact ⟨_,h2⟩
  . rcases l b hb with rfl | hb
    . exact .inr h1
    . exact .inl hb
theorem S.letO {ds:List Dat} {i:Nat} {τ':List Sl} (h:E1 p K te τ (.own ds)) (nl:noLs ds=true) (m:S p K u τ' nx rt) (e:τ.set i (.own ds)=τ':=by rfl):S p K (tSeq (tAsg te (gName i)) u) τ nx rt :=
  S.letOC (C:=fun x=>ds=x) (E.mono h fun s hs=>⟨ds,hs.symm,nl,rfl⟩) fun x hx=>by subst hx;rw [e];exact m
theorem Rs.chg (r:Rs p W K H L σ τ) {a:Addr} {vs0 vs:List V} (ha:W a) (h0:H a=some (.lst vs0)):a ∉ L->Rs p W K (upd H a (.lst vs)) L σ τ:=by
  have ev:Ev (fun b=>b=a) H (upd H a (.lst vs)):=⟨fun b o n h=>by rw [upd_ne n];exact h,Tm.lst h0 _⟩
  have nw:∀ b,¬ W b->¬ b=a:=fun b n z=>n (z ▸ ha)
  induction r with
  | nil=>intro _;exact .nil
  | un _ ih=>intro h;exact .un (ih h)
  | dat h _ ih=>intro n;exact .dat (h.ev ev nw) (ih n)
  | pu h _ ih=>intro n;exact .pu h (ih n)
  | own h1 h2 h3 h4 h5 _ ih =>
    intro n
    refine .own h1 h2 h3 ?_ (h5.ev ev nw) (ih fun z=>n (List.mem_cons_of_mem _ z))
    rw [upd_ne (fun z=>n (by rw [<- z];exact List.mem_cons_self))];exact h4
  | dt h1 h2 h3 h4 _ ih =>
    intro n
    exact .dt h1 h2 h3 (Own.ev _ h4 ev nw fun b o hb h=>by rw [upd_ne (fun (z:b=a)=>n (z ▸ List.mem_append_left _ hb))];exact h) (ih fun z=>n (List.mem_append_right _ z))
theorem Rs.chgO {a:Addr} {vs0 vs:List V} {ds:List Dat} (ha:W a) (h0:H a=some (.lst vs0)) (hz:Dzs (fun a=>¬ W a) K (upd H a (.lst vs)) vs ds):∀ {L:List Addr} {σ:St} {τ:List Sl},Rs p W K H L σ τ->∀ {i:Nat} {ds0:List Dat},τ[i]?=some (.own ds0)->σ[i]?=some (some (.ref a))->Rs p W K (upd H a (.lst vs)) L σ (τ.set i (.own ds)):=by
  have ev:Ev (fun b=>b=a) H (upd H a (.lst vs)):=⟨fun b o n h=>by rw [upd_ne n];exact h,Tm.lst h0 _⟩
  have nw:∀ b,¬ W b->¬ b=a:=fun b n z=>n (z ▸ ha)
  intro L σ τ r
  induction r with
  | nil=>intro i ds0 h;simp at h
  | un r ih =>
    intro i ds0 h e
    match i,h,e with
    | 0,h,_=>simp at h
    | i + 1,h,e=>exact .un (ih (i:=i) (by simpa using h) (by simpa using e))
  | dat y r ih =>
    intro i ds0 h e
    match i,h,e with
    | 0,h,_=>simp at h
    | i + 1,h,e=>exact .dat (y.ev ev nw) (ih (i:=i) (by simpa using h) (by simpa using e))
  | pu y r ih =>
    intro i ds0 h e
    match i,h,e with
    | 0,h,_=>simp at h
    | i + 1,h,e=>exact .pu y (ih (i:=i) (by simpa using h) (by simpa using e))
  | own h1 h2 h3 h4 h5 r ih =>
    intro i ds0 h e
    match i,h,e with
    | 0,h,e =>
      simp at e;subst e
      exact .own h1 h2 h3 upd_same hz (r.chg h1 h4 h3)
    | i + 1,h,e =>
      have e':_:=e
      simp only [List.getElem?_cons_succ] at e'
      obtain ⟨a',vs',g1,g2,g3,g4,g5,g6⟩:=r.get_own (i:=i) (by simpa using h)
      rw [e'] at g1;cases g1
      refine .own h1 h2 h3 ?_ (h5.ev ev nw) (ih (i:=i) (by simpa using h) e')
      rw [upd_ne (fun z=>h3 (by rw [z];exact g4))];exact h4
  | dt h1 h2 h3 h4 r ih =>
    intro i ds0 h e
    match i,h,e with
    | 0,h,e =>
      simp at h
    | i + 1,h,e =>
      have e':_:=e
      simp only [List.getElem?_cons_succ] at e'
      obtain ⟨a',vs',g1,g2,g3,g4,g5,g6⟩:=r.get_own (i:=i) (by simpa using h)
      rw [e'] at g1;cases g1
      exact .dt h1 h2 h3 (Own.ev _ h4 ev nw fun b o hb h=>by rw [upd_ne (fun (z:b=a)=>h3 b hb (z ▸ g4))];exact h) (ih (i:=i) (by simpa using h) e')
theorem S.append {i:Nat} {ds:List Dat} {C:Dat->Prop} (h:τ[i]?=some (.own ds)) (he:E p K te τ (fun s=>∃ d,s = .dat d/\noL d=true/\C d)) (hz:ds.length < sizeLine) (m:∀ d,C d->nx (τ.set i (.own (ds ++ [d])))):S p K (tDrop (tBM K "list" rAppend (tVar i) (tCons te tNil))) τ nx rt:=fun W L σ H D r o q1 q2=>by
  obtain ⟨a,vs,e,w,n,l,h1,z⟩:=r.get_own h
  refine ⟨_,e,.inl ⟨rfl,_,SqL.of h1⟩,he W L σ H _ r o fun v H1 s c e1 o1 rv=>?_⟩
  obtain ⟨d,rfl,nl,cd⟩:=c
  have r1:=r.ev e1 o.pw
  obtain ⟨a',vs',e',w',n',l',h1',z'⟩:=r1.get_own h
  rw [e] at e';cases e'
  have ev:Ev (fun b=>b=a) H1 (upd H1 a (.lst (vs' ++ [v]))):=⟨fun b o n h=>by rw [upd_ne n];exact h,Tm.lst h1' _⟩
  have nw:∀ b,¬ W b->¬ b=a:=fun b n z=>n (z ▸ w)
  refine ⟨a,vs',v,rfl,rfl,h1',by rw [z'.len];exact hz,?_⟩
  refine q1 W L σ _ _ (m d cd) ((e1.ofP o).trans (ev.mono fun b hb=>hb ▸ w)) ⟨fun q hq=>⟨?_,o1.pw q hq⟩,fun b hb=>?_⟩ ?_ (fun _ h=>.inl h) (fun _ h=>.inl h) (Rs.chgO w h1' ((z'.app (.cons rv .nil)).ev ev nw) r1 h e)
  . obtain ⟨x,y,u⟩:=(o1.pu q hq).1
    exact ⟨x,y,by rw [upd_ne (fun z=>n' (by rw [<- z];exact hq))];exact u⟩
  all_goals
    first
    | (by_cases z:b=a
       . subst z;exact ⟨_,upd_same⟩
       . rw [upd_ne z];exact o1.al b hb)
    | (intro b hb
       by_cases z:b=a
       . subst z;exact ⟨_,upd_same⟩
       . rw [upd_ne z];exact o1.al b hb)
theorem S.append1 {i:Nat} {ds:List Dat} {d:Dat} {τ':List Sl} (h:τ[i]?=some (.own ds)) (he:E1 p K te τ (.dat d)) (nl:noL d=true) (hz:ds.length < sizeLine) (m:nx τ') (e:τ.set i (.own (ds ++ [d]))=τ':=by rfl):S p K (tDrop (tBM K "list" rAppend (tVar i) (tCons te tNil))) τ nx rt :=
  S.append (C:=fun x=>d=x) h (E.mono he fun s hs=>⟨d,hs.symm,nl,rfl⟩) hz fun x hx=>by subst hx;rw [e];exact m
end
end D
end
section
namespace D
open PySem L2 K0
open PySem.W (Dat)
noncomputable def Jd (W:Addr->Prop) (K:PySem.W.Frag) (J:It) (H:Hp) (ds:List Dat):Prop:=∀ (W':Addr->Prop) (H':Hp),Ev W H H'->(∀ a,W' a->W a\/H a=none)->J.stop ds.length H'/\∀ i d,ds[i]?=some d->J.go i H'/\∀ y H2,J.yld i H' y H2->Same H' H2/\Dz (fun a=>¬ W' a) K H2 y d
section
variable (p:Option Addr) (K:PySem.W.Frag)
noncomputable def Wk (wi:TI) (τ:List Sl) (ds:List Dat):Prop:=∀ (W:Addr->Prop) (L:List Addr) (σ:St) (H:Hp) (R:It->Hp->Prop),Rs p W K H L σ τ->Ok p W H->(∀ J H1,Ev (Pp p) H H1->Ok p W H1->Jd W K J H1 ds->R J H1)->wi σ H R
noncomputable def Gd (g:TG) (d:Dat) (τ τ':List Sl):Prop:=∀ (W:Addr->Prop) (L:List Addr) (σ:St) (H:Hp) (v:V) (Q:St->Hp->Prop),Rs p W K H L σ τ->Dz (fun a=>¬ W a) K H v d->(∀ L' σ',(∀ a,a ∈ L'->a ∈ L)->Rs p W K H L' σ' τ'->Q σ' H)->g v σ H Q
end
section
variable {p:Option Addr} {K:PySem.W.Frag} {W:Addr->Prop} {L:List Addr} {σ:St} {H H1 H2:Hp} {τ τ':List Sl} {tb te:TE} {tas:TA} {v:V} {s:Sl} {nx:List Sl->Prop} {rt:Sl->Prop} {t u:TS} {ds:List Dat} {wi:TI}
theorem Wk.tup (h:E1 p K te τ (.dat (.tuple ds))):Wk p K (iTup K te) τ ds:=fun W L σ H R r o q=>h W L σ H _ r o fun v H1 s e e1 o1 rv=>by
  subst e
  cases rv with
  | tup h1 h2 =>
    rename_i a xs
    refine ⟨a,rfl,⟨xs,h1⟩,q _ H1 e1 o1 fun W' H' ev n=>?_⟩
    have h1':=ev.tm _ _ _ h1
    have h2':=Dzs.old ev n h2
    refine ⟨⟨xs,h1',by rw [h2.len];exact Nat.le_refl _⟩,fun i d hd=>?_⟩
    obtain ⟨x,ex,zx⟩:=h2'.get hd
    exact ⟨⟨xs,x,h1',ex⟩,fun y H2 ⟨e,q⟩=>by
      subst e
      have:=q xs h1'
      rw [ex] at this;cases this
      exact ⟨Same.refl _,zx⟩⟩
theorem Wk.lst (h:E1 p K te τ (.dat (.list ds))):Wk p K (iList K te) τ ds:=fun W L σ H R r o q=>h W L σ H _ r o fun v H1 s e e1 o1 rv=>by
  subst e
  cases rv with
  | lst h1 h2 =>
    rename_i a xs
    refine ⟨a,rfl,⟨xs,h1.sq⟩,q _ H1 e1 o1 fun W' H' ev n=>?_⟩
    have h1':SqL K H' a xs:=by
      rcases h1 with ⟨nn,h1⟩ | h1
      . exact .inl (h1.imp (ev.keep _ _ nn) fun ⟨o,h⟩=>⟨o,ev.keep _ _ nn h⟩)
      . exact SqN.sq (N:=fun _=>True) (.inr h1)
    have h2':=Dzs.old ev n h2
    refine ⟨⟨xs,h1',by rw [h2.len];exact Nat.le_refl _⟩,fun i d hd=>?_⟩
    obtain ⟨x,ex,zx⟩:=h2'.get hd
    exact ⟨⟨xs,x,h1',ex⟩,fun y H2 ⟨e,q⟩=>by
      subst e
      have:=q xs h1'
      rw [ex] at this;cases this
      exact ⟨Same.refl _,zx⟩⟩
noncomputable def rangeD (lo:Int) (n:Nat):List Dat:=(List.range n).map fun (i:Nat)=>.int (lo + i)
theorem rangeD_get {lo:Int} {n i:Nat} {d:Dat} (h:(rangeD lo n)[i]?=some d):i < n/\d = .int (lo + i):=by
  unfold rangeD at h
  rw [List.getElem?_map] at h
  cases e:(List.range n)[i]? with
  | none=>rw [e] at h;cases h
  | some j =>
    rw [e] at h;cases h
    have hi:i < n:=by simpa using (List.getElem?_eq_some_iff.mp e).1
    have hj:j=i:=by
      have:=(List.getElem?_eq_some_iff.mp e).2
      simpa using this.symm
    subst hj
    exact ⟨hi,rfl⟩
theorem rangeD_len {lo:Int} {n:Nat}:(rangeD lo n).length=n:=by unfold rangeD;simp
theorem jd_rng {lo:Int} {n:Nat}:Jd W K (Itr lo n) H (rangeD lo n):=fun W' H' ev nn=>⟨by show n<=_;rw [rangeD_len];exact Nat.le_refl _,fun i d hd=>by
  obtain ⟨hi,rfl⟩:=rangeD_get hd
  exact ⟨hi,fun y H2 ⟨e1,e2⟩=>by subst e1 e2;exact ⟨Same.refl _,.int _⟩⟩⟩
theorem Wk.rng {j:Int} {n:Nat} (h:A1 p K tas τ [.dat (.int j)]) (hn:j.toNat=n) (h1 : -(2 ^ 62)<=j:=by decide) (h2:j < 2 ^ 62:=by decide):Wk p K (iRng1 tas) τ (rangeD 0 n):=fun W L σ H R r o q=>h W L σ H _ r o fun vs H1 ss e e1 o1 rv=>by
  subst e hn
  cases rv with
  | cons a t =>
    cases t
    cases a.int_inv
    exact ⟨j,rfl,h1,h2,q _ H1 e1 o1 jd_rng⟩
noncomputable def zipD:List Dat->List Dat->List Dat:=List.zipWith fun x y=>.tuple [x,y]
theorem zipD_get:∀ {xs ys:List Dat} {i:Nat} {d:Dat},(zipD xs ys)[i]?=some d->∃ x y,xs[i]?=some x/\ys[i]?=some y/\d = .tuple [x,y]:=by
  intro xs ys i d h
  unfold zipD at h
  rw [List.getElem?_zipWith] at h
  cases e1:xs[i]? with
  | none=>rw [e1] at h;simp at h
  | some x =>
    cases e2:ys[i]? with
    | none=>rw [e1,e2] at h;simp at h
    | some y=>rw [e1,e2] at h;simp at h;exact ⟨x,y,rfl,rfl,h.symm⟩
theorem Gd.name {i:Nat} {d:Dat} (e:τ.set i (.dat d)=τ':=by rfl):Gd p K (gName i) d τ τ':=fun W L σ H v Q r z q=>by
  obtain ⟨L',l,r'⟩:=r.set (v:=v) (s:=.dat d) (.inr (.inl ⟨d,rfl,z⟩)) i
  rw [e] at r'
  exact q L' _ l r'
theorem Gd.pair {i j : Nat} {x y : Dat} (e : (τ.set i (.dat x)).set j (.dat y) = τ' := by rfl) : Gd p K (gTup K 2 (gCons (gName i) (gCons (gName j) gNil))) (.tuple [x, y]) τ τ' := fun W L σ H v Q r z q => by
  cases z with
  | tup h1 h2 =>
    cases h2 with
    | cons za t =>
      cases t with
      | cons zb t =>
        cases t
        obtain ⟨L1,l1,r1⟩:=r.set (s:=.dat x) (.inr (.inl ⟨x,rfl,za⟩)) i
        obtain ⟨L2,l2,r2⟩:=r1.set (s:=.dat y) (.inr (.inl ⟨y,rfl,zb⟩)) j
        rw [e] at r2
        exact ⟨_,_,rfl,h1,rfl,_,_,rfl,_,_,rfl,rfl,q L2 _ (fun a h=>l1 a (l2 a h)) r2⟩
theorem S.asgG {g:TG} {d:Dat} (h:E1 p K te τ (.dat d)) (hg:Gd p K g d τ τ') (m:nx τ'):S p K (tAsg te g) τ nx rt:=fun W L σ H D r o q1 q2=>h W L σ H _ r o fun v H1 s e e1 o1 rv=>by
  subst e
  exact hg W L σ H1 v _ (r.ev e1 o.pw) rv fun L' σ' l r'=>q1 W L' σ' H1 _ m (e1.ofP o) o1 o1.al (fun _ h=>.inl h) (fun a h=>.inl (l a h)) r'
theorem S.letG {g:TG} {d:Dat} (h:E1 p K te τ (.dat d)) (hg:Gd p K g d τ τ') (m:S p K u τ' nx rt):S p K (tSeq (tAsg te g) u) τ nx rt:=S.seq (M:=fun x=>τ'=x) (S.asgG h hg rfl) fun x e=>e ▸ m
theorem S.for {g:TG} {tb:TS} (hw:Wk p K wi τ ds) (I:Nat->List Sl->Prop) (h0:I 0 τ) (turn:∀ i d τ1,ds[i]?=some d->I i τ1->∃ τ2,Gd p K g d τ1 τ2/\S p K tb τ2 (I (i + 1)) rt) (done:∀ τ1,I ds.length τ1->nx τ1):S p K (tFor wi g tb) τ nx rt:=fun W L σ H D r o q1 q2=>by
  refine hw W L σ H _ r o fun J H1 e1 o1 jd=>?_
  have ew:=e1.ofP o
  have hn:∀ a,H1 a=none->H a=none:=fun a ha=>ew.none o1.al ha
  refine ⟨fun i m σ' H'=>m=ds.length - i/\i<=ds.length/\∃ (W':Addr->Prop) (L':List Addr) (τ1:List Sl),I i τ1/\Ev W H1 H'/\Ok p W' H'/\(∀ a,W a->∃ ys,H' a=some ys)/\(∀ a,W' a->W a\/H1 a=none)/\(∀ a,a ∈ L'->a ∈ L\/H1 a=none)/\Rs p W' K H' L' σ' τ1,
    ⟨ds.length,by omega,Nat.zero_le _,W,L,τ,h0,Ev.refl,o1,o1.al,fun _ h=>.inl h,fun _ h=>.inl h,r.ev e1 o.pw⟩,?_⟩
  rintro i m σ' H' ⟨rfl,hi,W',L',τ1,hI,ev,ok,al,nn,ll,rs⟩
  obtain ⟨stop,each⟩:=jd W' H' ev nn
  by_cases hlt:i < ds.length
  . have hd:ds[i]?=some ds[i]:=by simp [hlt]
    obtain ⟨go,yl⟩:=each i _ hd
    obtain ⟨τ2,hg,hb⟩:=turn i _ τ1 hd hI
    refine .inr ⟨go,fun σ'' H''=>ds.length - (i + 1)=ds.length - (i + 1)/\i + 1<=ds.length/\∃ (W':Addr->Prop) (L':List Addr) (τ1:List Sl),I (i + 1) τ1/\Ev W H1 H''/\Ok p W' H''/\(∀ a,W a->∃ ys,H'' a=some ys)/\(∀ a,W' a->W a\/H1 a=none)/\(∀ a,a ∈ L'->a ∈ L\/H1 a=none)/\Rs p W' K H'' L' σ'' τ1,fun σ'' H'' h=>⟨_,by omega,h⟩,fun x H2 y=>?_⟩
    obtain ⟨s2,z2⟩:=yl x H2 y
    have e2:Ev (Pp p) H' H2:=Ev.of s2
    have o2:=ok.same s2
    have ev2:Ev W H1 H2:=ev.trans (Ev.of s2)
    have al2:∀ a,W a->∃ ys,H2 a=some ys:=fun a ha=>let ⟨ys,h⟩:=al a ha;⟨ys,s2 _ _ h⟩
    have hn2:∀ a,H2 a=none->H1 a=none:=fun a ha=>ev2.none al2 ha
    refine hg W' L' σ' H2 x _ (rs.ev e2 ok.pw) z2 fun L3 σ3 l3 rs3=>?_
    refine hb W' L3 σ3 H2 _ rs3 o2 (fun W4 L4 σ4 H4 τ4 c e4 o4 w4 n4 l4 r4=>?_) (fun W4 H4 v s c e4 o4 w4 n4 rv=>?_)
    . exact ⟨rfl,hlt,W4,L4,τ4,c,ev2.chain e4 nn,o4,al_chain al2 w4 e4,fun a ha=>(n4 a ha).elim (nn a) fun z=>.inr (hn2 a z),fun a ha=>(l4 a ha).elim (fun z=>ll a (l3 a z)) fun z=>.inr (hn2 a z),r4⟩
    . have nn':∀ a,W' a->W a\/H a=none:=fun a ha=>(nn a ha).imp id (hn a)
      refine q2 W4 H4 v s c ((ew.trans ev2).chain e4 nn') o4 (al_chain al2 w4 e4) (fun a ha=>(n4 a ha).elim (nn' a) fun z=>.inr (hn a (hn2 a z))) (rv.base (fun a z=>hn a (hn2 a z)) fun a ha=>?_)
      exact (ll a (l3 a ha)).imp id (hn a)
  . have e:i=ds.length:=by omega
    subst e
    exact .inl ⟨stop,q1 W' L' σ' H' τ1 (done τ1 hI) (ew.trans ev) ok al (fun a ha=>(nn a ha).imp id (hn a)) (fun a ha=>(ll a ha).imp id (hn a)) rs⟩
theorem S.while {tc:TT} {tb:TS} (I:Nat->List Sl->Prop) {m0:Nat} (h0:I m0 τ) (turn:∀ m τ1,I m τ1->∃ C:Bool->Prop,T p K tc τ1 C/\(C true->S p K tb τ1 (fun τ2=>∃ m',m' < m/\I m' τ2) rt)/\(C false->nx τ1)):S p K (tWhile tc tb) τ nx rt:=fun W L σ H D r o q1 q2=>by
  refine ⟨fun m σ' H'=>∃ (W':Addr->Prop) (L':List Addr) (τ1:List Sl),I m τ1/\Ev W H H'/\Ok p W' H'/\(∀ a,W a->∃ ys,H' a=some ys)/\(∀ a,W' a->W a\/H a=none)/\(∀ a,a ∈ L'->a ∈ L\/H a=none)/\Rs p W' K H' L' σ' τ1,
    ⟨m0,W,L,τ,h0,Ev.refl,o,o.al,fun _ h=>.inl h,fun _ h=>.inl h,r⟩,?_⟩
  rintro m σ' H' ⟨W',L',τ1,hI,ev,ok,al,nn,ll,rs⟩
  obtain ⟨C,ht,hb,hx⟩:=turn m τ1 hI
  refine ht W' L' σ' H' _ rs ok fun b H2 c e2 o2=>?_
  have e2w:=e2.ofP ok
  have hn0:∀ a,H2 a=none->H' a=none:=fun a ha=>e2w.none o2.al ha
  have ev2:Ev W H H2:=ev.chain e2w nn
  have al2:∀ a,W a->∃ ys,H2 a=some ys:=al_chain al o2.al e2w
  have hn2:∀ a,H2 a=none->H a=none:=fun a ha=>ev2.none al2 ha
  have rs2:=rs.ev e2 ok.pw
  cases b with
  | false=>rw [if_neg (by decide)];exact q1 W' L' σ' H2 τ1 (hx c) ev2 o2 al2 nn ll rs2
  | true =>
    rw [if_pos rfl]
    refine ⟨fun σ4 H4=>∃ m',m' < m/\∃ (W':Addr->Prop) (L':List Addr) (τ1:List Sl),I m' τ1/\Ev W H H4/\Ok p W' H4/\(∀ a,W a->∃ ys,H4 a=some ys)/\(∀ a,W' a->W a\/H a=none)/\(∀ a,a ∈ L'->a ∈ L\/H a=none)/\Rs p W' K H4 L' σ4 τ1,fun σ4 H4 h=>h,?_⟩
    refine hb c W' L' σ' H2 _ rs2 o2 (fun W4 L4 σ4 H4 τ4 c e4 o4 w4 n4 l4 r4=>?_) (fun W4 H4 v s c e4 o4 w4 n4 rv=>?_)
    . obtain ⟨m',hm,hI'⟩:=c
      exact ⟨m',hm,W4,L4,τ4,hI',ev2.chain e4 nn,o4,al_chain al2 w4 e4,fun a ha=>(n4 a ha).elim (nn a) fun z=>.inr (hn2 a z),fun a ha=>(l4 a ha).elim (ll a) fun z=>.inr (hn2 a z),r4⟩
    . exact q2 W4 H4 v s c (ev2.chain e4 nn) o4 (al_chain al2 w4 e4) (fun a ha=>(n4 a ha).elim (nn a) fun z=>.inr (hn2 a z)) (rv.base hn2 ll)
end
end D
end
section
namespace D
open PySem L2 K0
open PySem.W (Dat)
section
variable {p:Option Addr} {K:PySem.W.Frag} {W:Addr->Prop} {L:List Addr} {σ:St} {H H1 H2:Hp} {τ:List Sl} {te:TE} {v:V} {s:Sl} {nx:List Sl->Prop} {u:TS} {ds:List Dat} {wi:TI} {tt:TT}
noncomputable def Gc (p:Option Addr) (K:PySem.W.Frag) (no:Nat) (g:TG) (d:Dat) (own:List Sl):Prop:=∀ (W:Addr->Prop) (L:List Addr) (ρ σ:St) (τ:List Sl) (H:Hp) (v:V) (Q:St->Hp->Prop),ρ.length=no->Rs p W K H L σ τ->Dz (fun a=>¬ W a) K H v d->(∀ ρ',ρ'.length=no->Rs p W K H L (ρ' ++ σ) (own ++ τ)->Q (ρ' ++ σ) H)->g v (ρ ++ σ) H Q
theorem Gc.name {d:Dat}:Gc p K 1 (gName 0) d [.dat d]:=fun W L ρ σ τ H v Q l r z q=>by
  match ρ,l with
  | [o],_=>exact q [some v] rfl (.dat z r)
theorem Rs.evx {X:Addr->Prop} {H':Hp} (r:Rs p W K H L σ τ) (e:Ev X H H') (nx:∀ a,¬ W a->¬ X a) (no:∀ a o,H a=some o->p ≠ some a->¬ X a):Rs p W K H' L σ τ:=by
  induction r with
  | nil=>exact .nil
  | un _ ih=>exact .un ih
  | dat h _ ih=>exact .dat (h.ev e nx) ih
  | pu h _ ih=>exact .pu h ih
  | own h1 h2 h3 h4 h5 _ ih=>exact .own h1 h2 h3 (e.keep _ _ (no _ _ h4 h2) h4) (h5.ev e nx) ih
  | dt h1 h2 h3 h4 _ ih=>exact .dt h1 h2 h3 (Own.ev _ h4 e nx fun b o hb h=>e.keep _ _ (no _ _ h (h2 b hb)) h) ih
theorem E.comp {no:Nat} {g:TG} (hw:Wk p K wi τ ds) (own:Dat->List Sl) (hg:∀ d,d ∈ ds->Gc p K no g d (own d)) (kp:Dat->Bool) (Cd:Dat->Dat->Prop) (ht:∀ d,d ∈ ds->T1 p K tt (own d ++ τ) (kp d))
    (turn:∀ d,d ∈ ds->kp d=true->E p K te (own d ++ τ) (fun s=>∃ e,s = .dat e/\Cd d e)) (hz:ds.length<=sizeLine) :
    E p K (tCompB no wi g tt te) τ (fun s=>∃ es,s = .own es/\es.length=(ds.filter kp).length/\∀ (i:Nat) (e:Dat),es[i]?=some e->∃ d,(ds.filter kp)[i]?=some d/\Cd d e):=fun W L σ H Q r o q=>by
  refine hw W L σ H _ r o fun J H1 e1 o1 jd=>?_
  intro D hD
  have nD:=o1.fresh hD
  have pD:=o1.np hD
  have r1:=r.ev e1 o.pw
  have r1':Rs p (fun b=>W b\/b=D) K H1 L σ τ:=r1.wide (fun _ h=>.inl h) fun b hb nb=>(hb.resolve_left nb) ▸ hD
  refine ⟨fun i m σ' H'=>m=ds.length - i/\i<=ds.length/\(∃ ρ,ρ.length=no/\σ'=ρ ++ σ)/\Ev (fun a=>Pp p a\/a=D) H1 H'/\(∀ q,p=some q->Pu H' q)/\∃ (vs:List V) (es:List Dat),H' D=some (.lst vs)/\Dzs (fun b=>¬ (W b\/b=D)) K H' vs es/\es.length=((ds.take i).filter kp).length/\∀ (j:Nat) (e:Dat),es[j]?=some e->∃ d,((ds.take i).filter kp)[j]?=some d/\Cd d e,
    ⟨ds.length,by omega,Nat.zero_le _,⟨List.replicate no none,by simp,rfl⟩,⟨fun b u nb h=>by rw [upd_ne (fun z=>nb (.inr z))];exact h,(Same.new hD _).tm⟩,fun q hq=>(o1.pu q hq).1.same (Same.new hD _),[],[],upd_same,.nil,by simp,fun j e h=>by simp at h⟩,?_⟩
  rintro i m σ' H' ⟨rfl,hi,⟨ρ,lρ,rfl⟩,ev,pu,vs,es,hv,zv,le,hes⟩
  have evW:Ev W H1 H':=⟨fun b u nb h=>ev.keep b u (fun z=>z.elim (fun y=>nb (o1.pw b y)) fun y=>by rw [y] at h;rw [hD] at h;cases h) h,ev.tm⟩
  have ok':Ok p (fun b=>W b\/b=D) H':=⟨fun q hq=>⟨pu q hq,.inl (o1.pw q hq)⟩,fun b hb=>by
    by_cases z:b=D
    . subst z;exact ⟨_,hv⟩
    . by_cases y:p=some b
      . obtain ⟨x1,x2,h⟩:=pu b y;exact ⟨_,h⟩
      . obtain ⟨ys,h⟩:=o1.al b (hb.resolve_right z)
        exact ⟨ys,ev.keep _ _ (fun w=>w.elim y z) h⟩⟩
  have evD:Ev (fun b=>W b\/b=D) H1 H':=evW.mono fun _ h=>.inl h
  have rs':Rs p (fun b=>W b\/b=D) K H' L σ τ:=by
    refine Rs.evx r1' ev (fun a ha z=>?_) fun a u ha np z=>?_
    . rcases z with z | z
      . exact ha (.inl (o1.pw a z))
      . exact ha (.inr z)
    . rcases z with z | z
      . exact np z
      . rw [z,hD] at ha;cases ha
  obtain ⟨stop,each⟩:=jd (fun b=>W b\/b=D) H' evW fun a ha=>ha.imp id fun z=>by rw [z];exact hD
  have o1f:H D=none:=o1.back e1 hD
  by_cases hlt:i < ds.length
  . have hd : ds[i]? = some ds[i] := by simp [hlt]
    have hm:ds[i] ∈ ds:=List.getElem_mem hlt
    obtain ⟨go,yl⟩:=each i _ hd
    have tk:ds.take (i + 1)=ds.take i ++ [ds[i]]:=by rw [List.take_add_one];simp [hlt]
    refine .inr ⟨go,fun x H2 y=>?_⟩
    obtain ⟨s2,z2⟩:=yl x H2 y
    have ok2:=ok'.same s2
    refine hg _ hm _ L ρ σ τ H2 x _ lρ (rs'.ev (Ev.of s2) ok'.pw) z2 fun ρ' lρ' rs2=>?_
    refine ht _ hm _ L _ H2 _ rs2 ok2 fun b H4 eb e4 o4=>?_
    have pvH:Ev (fun a=>Pp p a\/a=D) H' H4:=(Ev.of s2).trans (e4.mono fun _ h=>.inl h)
    have hv4:H4 D=some (.lst vs):=e4.keep _ _ pD (s2 _ _ hv)
    have zv4:Dzs (fun b=>¬ (W b\/b=D)) K H4 vs es:=(zv.ev (W:=fun _=>False) (Ev.of s2) fun _ _ h=>h).ev e4 fun a ha z=>ha (.inl (o1.pw a z))
    subst eb
    by_cases hk:kp ds[i]=true
    . rw [if_pos hk]
      refine turn _ hm hk _ L _ H4 _ (rs2.ev e4 ok2.pw) o4 fun v H5 s c e5 o5 rv=>?_
      obtain ⟨e,rfl,ce⟩:=c
      have hv5:H5 D=some (.lst vs):=e5.keep _ _ pD hv4
      have zv5:=zv4.ev e5 fun a ha z=>ha (.inl (o1.pw a z))
      have ll:vs.length<=i:=by rw [zv.len,le];exact Nat.le_trans (List.length_filter_le _ _) (by rw [List.length_take];omega)
      have evu:Ev (fun b=>b=D) H5 (upd H5 D (.lst (vs ++ [v]))):=⟨fun b o n h=>by rw [upd_ne n];exact h,Tm.lst hv5 _⟩
      refine ⟨vs,hv5,by omega,ds.length - (i + 1),by omega,rfl,hlt,⟨ρ',lρ',rfl⟩,(ev.trans (pvH.trans (e5.mono fun _ h=>.inl h))).trans (evu.mono fun _ h=>.inr h),fun q hq=>?_,vs ++ [v],es ++ [e],upd_same,(zv5.app (.cons rv .nil)).ev evu fun b hb z=>hb (.inr z),?_,fun j f hj=>?_⟩
      . obtain ⟨x1,x2,h⟩:=(o5.pu q hq).1
        exact ⟨x1,x2,by rw [upd_ne (fun z=>pD (by rw [<- z];exact hq))];exact h⟩
      . rw [tk,List.filter_append,List.length_append,List.length_append,le];simp [hk]
      . rw [tk,List.filter_append]
        have h1:[ds[i]].filter kp=[ds[i]]:=by simp [hk]
        rw [h1]
        by_cases hj2:j < es.length
        . rw [List.getElem?_append_left hj2] at hj
          rw [List.getElem?_append_left (by rw [<- le];exact hj2)]
          exact hes j f hj
        . rw [List.getElem?_append_right (by omega)] at hj
          have ej:j - es.length=0:=by
            have:=(List.getElem?_eq_some_iff.mp hj).1
            simp at this;omega
          rw [ej] at hj
          cases hj
          rw [List.getElem?_append_right (by omega), <- le,ej]
          exact ⟨_,rfl,ce⟩
    . rw [if_neg hk]
      refine ⟨ds.length - (i + 1),by omega,rfl,hlt,⟨ρ',lρ',rfl⟩,ev.trans pvH,fun q hq=>(o4.pu q hq).1,vs,es,hv4,zv4,?_,fun j f hj=>?_⟩
      . rw [tk,List.filter_append,List.length_append,le];simp [hk]
      . obtain ⟨d,h1,h2⟩:=hes j f hj
        rw [tk,List.filter_append]
        have h3:[ds[i]].filter kp=[]:=by simp [hk]
        rw [h3,List.append_nil]
        exact ⟨d,h1,h2⟩
  . have e:i=ds.length:=by omega
    subst e
    rw [List.take_length] at le hes
    have evP:Ev (Pp p) H1 H':=⟨fun b u nb h=>ev.keep b u (fun z=>z.elim nb fun y=>by rw [y] at h;rw [hD] at h;cases h) h,ev.tm⟩
    refine .inl ⟨stop,q _ H' _ ⟨es,rfl,le,hes⟩ (e1.trans evP) (o1.ev evP pu) ⟨D,vs,rfl,o1f,hv,zv.mono fun a ha z=>ha (.inl z)⟩⟩
end
end D
end
section
namespace D
open PySem L2 K0
open PySem.W (Dat)
section
variable {p:Option Addr} {K:PySem.W.Frag} {W:Addr->Prop} {L:List Addr} {σ:St} {H H0 H1:Hp} {τ τ':List Sl} {ta tb te:TE} {tas:TA} {v:V} {s:Sl} {t:TS} {ds:List Dat} {wi:TI} {tt:TT}
theorem T1.all:T1 p K tAll τ true:=fun W L σ H Q r o q=>q true H rfl Ev.refl o
theorem filter_true (ds:List Dat):ds.filter (fun _=>true)=ds:=List.filter_eq_self.mpr fun _ _=>rfl
theorem E.compC {Cd:Dat->Dat->Prop} (hw:Wk p K wi τ ds) (turn:∀ d,d ∈ ds->E p K te (.dat d :: τ) (fun s=>∃ e,s = .dat e/\Cd d e)) (hz:ds.length<=sizeLine) :
    E p K (tCompB 1 wi (gName 0) tAll te) τ (fun s=>∃ es,s = .own es/\es.length=ds.length/\∀ (i:Nat) (e:Dat),es[i]?=some e->∃ d,ds[i]?=some d/\Cd d e):=by
  have h:=E.comp (tt:=tAll) hw (fun d=>[.dat d]) (fun d _=>Gc.name) (fun _=>true) Cd (fun _ _=>T1.all) (fun d hd _=>turn d hd) hz
  rw [filter_true] at h
  exact h
theorem map_of {f:Dat->Dat} {es:List Dat} (l:es.length=ds.length) (h:∀ (i:Nat) (e:Dat),es[i]?=some e->∃ d,ds[i]?=some d/\f d=e):es=ds.map f:=by
  apply List.ext_getElem?
  intro i
  rw [List.getElem?_map]
  cases q:es[i]? with
  | none =>
    have:=List.getElem?_eq_none_iff.mp q
    rw [List.getElem?_eq_none (by omega)];rfl
  | some e=>obtain ⟨d,h1,h2⟩:=h i e q;rw [h1, <- h2];rfl
theorem E1.compM {f:Dat->Dat} (hw:Wk p K wi τ ds) (turn:∀ d,d ∈ ds->E1 p K te (.dat d :: τ) (.dat (f d))) (hz:ds.length<=sizeLine):E1 p K (tCompB 1 wi (gName 0) tAll te) τ (.own (ds.map f)):=by
  refine E.mono (E.compC (Cd:=fun d e=>f d=e) hw (fun d hd=>E.mono (turn d hd) fun s hs=>⟨_,hs.symm,rfl⟩) hz) fun s hs=>?_
  obtain ⟨es,rfl,l,h⟩:=hs
  rw [map_of l h]
theorem E1.compF {f:Dat->Dat} {kp:Dat->Bool} (hw:Wk p K wi τ ds) (ht:∀ d,d ∈ ds->T1 p K tt (.dat d :: τ) (kp d)) (turn:∀ d,d ∈ ds->kp d=true->E1 p K te (.dat d :: τ) (.dat (f d))) (hz:ds.length<=sizeLine):E1 p K (tCompB 1 wi (gName 0) tt te) τ (.own ((ds.filter kp).map f)):=by
  refine E.mono (E.comp hw (fun d=>[.dat d]) (fun d _=>Gc.name) kp (fun d e=>f d=e) ht (fun d hd hk=>E.mono (turn d hd hk) fun s hs=>⟨_,hs.symm,rfl⟩) hz) fun s hs=>?_
  obtain ⟨es,rfl,l,h⟩:=hs
  rw [map_of l h]
noncomputable def p1:Dat->Dat
  | .tuple [x,_]=>x
  | d=>d
noncomputable def p2:Dat->Dat
  | .tuple [_,y]=>y
  | d=>d
theorem E1.compI {ns:List Int} {g:Int->Int} (hw:Wk p K wi τ (ns.map .int)) (turn:∀ n,n ∈ ns->E1 p K te (.dat (.int n) :: τ) (.dat (.int (g n)))) (hz:ns.length<=sizeLine):E1 p K (tCompB 1 wi (gName 0) tAll te) τ (.own ((ns.map g).map .int)):=by
  have h:=E1.compM (f:=fun d=>match d with | .int n=>.int (g n) | d=>d) hw (fun d hd=>by
    obtain ⟨n,hn,rfl⟩:=List.mem_map.mp hd
    exact turn n hn) (by rw [List.length_map];exact hz)
  rw [List.map_map] at h ⊢
  exact h
theorem E1.compIF {ns:List Int} {kp:Int->Bool} (hw:Wk p K wi τ (ns.map .int)) (ht:∀ n,n ∈ ns->T1 p K tt (.dat (.int n) :: τ) (kp n)) (turn:∀ n,n ∈ ns->E1 p K te (.dat (.int n) :: τ) (.dat (.int n))) (hz:ns.length<=sizeLine):E1 p K (tCompB 1 wi (gName 0) tt te) τ (.own ((ns.filter kp).map .int)):=by
  have h:=E1.compF (f:=id) (kp:=fun d=>match d with | .int n=>kp n | d=>false) hw (fun d hd=>by
    obtain ⟨n,hn,rfl⟩:=List.mem_map.mp hd
    exact ht n hn) (fun d hd _=>by
    obtain ⟨n,hn,rfl⟩:=List.mem_map.mp hd
    exact turn n hn) (by rw [List.length_map];exact hz)
  rw [List.map_id,List.filter_map] at h
  exact h
theorem E1.cb1 {r:List V->Hp->VK->Prop} {a c:Sl} (ha:A1 p K tas τ [a]) (hr:∀ (W:Addr->Prop) (H0 H:Hp) (x:V) (Q:VK),Ok p W H0->Ok p W H->Ev (Pp p) H0 H->Rv p W K H0 H x a->(∀ v H',Ev (Pp p) H H'->Ok p W H'->Rv p W K H0 H' v c->Q v H')->r [x] H Q):E1 p K (tCB r tas) τ c:=fun W L σ H Q rs o q =>
  ha W L σ H _ rs o fun vs H1 ss e e1 o1 rv=>by
    subst e
    cases rv with
    | cons a t =>
      cases t
      exact hr W H H1 _ _ o o1 e1 a fun v H' e2 o2 rv=>q v H' _ rfl (e1.trans e2) o2 rv
theorem E1.abs {i:Int} (ha:A1 p K tas τ [.dat (.int i)]):E1 p K (tCB (fun xs H Q=>∃ i,xs=[.int i]/\Q (.int (if i < 0 then -i else i)) H) tas) τ (.dat (.int (if i < 0 then -i else i))) :=
  E1.cb1 ha fun W H0 H x Q o0 o _ r q=>by cases r.int_inv;exact ⟨i,rfl,q _ H Ev.refl o (.int _)⟩
theorem E1.tupleL {ds:List Dat} (ha:A1 p K tas τ [.vw ds]):E1 p K (tCB (fun xs H Q=>∃ p ys,xs=[.ref p]/\((SqL K H p ys/\∀ l,H l=none->Q (.ref l) (upd H l (.tup ys)))\/(SqT K H p ys/\Q (.ref p) H))) tas) τ (.dat (.tuple ds)) :=
  E1.cb1 ha fun W H0 H x Q o0 o _ r q=>by
    obtain ⟨a,vs,rfl,h1,h2⟩:=r
    refine ⟨a,vs,rfl,.inl ⟨h1.sq,fun l hl=>?_⟩⟩
    have s:=Same.new hl (.tup vs)
    exact q _ _ (Ev.of s) (o.same s) (.tup (SqT.of upd_same) (h2.ev (W:=Pp p) (Ev.of s) o.nw))
theorem E1.lenL {ds:List Dat} (ha:A1 p K tas τ [.vw ds]):E1 p K (tCB (fun xs H Q=>∃ p ys,xs=[.ref p]/\(SqL K H p ys\/SqT K H p ys)/\Q (.int ys.length) H) tas) τ (.dat (.int ds.length)) :=
  E1.cb1 ha fun W H0 H x Q o0 o _ r q=>by
    obtain ⟨a,vs,rfl,h1,h2⟩:=r
    refine ⟨a,vs,rfl,.inl h1.sq,?_⟩
    rw [h2.len]
    exact q _ H Ev.refl o (.int _)
theorem E1.lenT {ds:List Dat} (ha:A1 p K tas τ [.dat (.tuple ds)]):E1 p K (tCB (fun xs H Q=>∃ p ys,xs=[.ref p]/\(SqL K H p ys\/SqT K H p ys)/\Q (.int ys.length) H) tas) τ (.dat (.int ds.length)) :=
  E1.cb1 ha fun W H0 H x Q o0 o _ r q=>by
    cases r with
    | tup h1 h2 =>
      refine ⟨_,_,rfl,.inr h1,?_⟩
      rw [h2.len]
      exact q _ H Ev.refl o (.int _)
noncomputable def O1 (p:Option Addr) (K:PySem.W.Frag) (to:TO) (τ:List Sl) (i:Option Int):Prop:=∀ (W:Addr->Prop) (L:List Addr) (σ:St) (H:Hp) (Q:Option Int->Hp->Prop),Rs p W K H L σ τ->Ok p W H->(∀ H',Ev (Pp p) H H'->Ok p W H'->Q i H')->to σ H Q
theorem E1.catT {xs ys:List Dat} (ha:E1 p K ta τ (.dat (.tuple xs))) (hb:E1 p K tb τ (.dat (.tuple ys))) (hz:xs.length + ys.length<=sizeLine):E1 p K (tOp (rCatW K) ta tb) τ (.dat (.tuple (xs ++ ys))) :=
  E1.op2 ha hb fun W H0 H x y Q o0 o r1 r2 q=>by
    cases r1 with
    | tup h1 h2 =>
      cases r2 with
      | tup h3 h4 =>
        refine ⟨_,_,_,_,rfl,rfl,h1,h3,by rw [h2.len,h4.len];exact hz,fun a H' s h=>?_⟩
        exact q _ H' (Ev.of s) (o.same s) (.tup h ((h2.app h4).ev (W:=Pp p) (Ev.of s) o.nw))
end
noncomputable def spP (K:PySem.W.Frag) (R:List Dat->Dat->Prop):Sp:=fun vs H Q _=>∃ ds d,Dzs (fun _=>True) K H vs ds/\R ds d/\∀ v H',Same H H'->Dz (fun a=>H a=none) K H' v d->Q v H'
section
variable {p:Option Addr} {K:PySem.W.Frag} {W:Addr->Prop} {L:List Addr} {σ:St} {H H0 H1:Hp} {τ τ':List Sl} {ta tb te:TE} {tas:TA} {v:V} {s:Sl} {t:TS} {ds:List Dat} {E':XK}
noncomputable def datsOf:List Sl->Option (List Dat)
  | []=>some []
  | s :: r=>match datOf s,datsOf r with
    | some d,some ds=>some (d :: ds)
    | _,_=>none
theorem Rvs.dz {ss:List Sl} {vs:List V} (h:Rvs p W K H0 H vs ss):∀ {ds:List Dat},datsOf ss=some ds->Dzs (fun _=>True) K H vs ds:=by
  induction h with
  | nil=>intro ds e;cases e;exact .nil
  | cons a t ih =>
    rename_i v s vs ss
    intro ds e
    unfold datsOf at e
    cases e1:datOf s with
    | none=>rw [e1] at e;simp at e
    | some d =>
      cases e2:datsOf ss with
      | none=>rw [e1,e2] at e;simp at e
      | some r =>
        rw [e1,e2] at e;cases e
        refine .cons ?_ (ih e2)
        cases s with
        | un=>cases e1
        | pu=>cases e1
        | dat d'=>cases e1;exact Dz.mono (fun _ _=>trivial) a
        | own ds=>cases e1;obtain ⟨a,vs,rfl,_,h2,h3⟩:=a;exact .lst (.inl ⟨trivial,.inl h2⟩) (h3.mono fun _ _=>trivial)
        | dt ds=>cases e1
        | vw ds=>cases e1;obtain ⟨a,vs,rfl,h2,h3⟩:=a;exact .lst (h2.elim (fun z=>.inl ⟨trivial,z.2⟩) .inr) (h3.mono fun _ _=>trivial)
theorem E1.call {R:List Dat->Dat->Prop} {ss:List Sl} {ds:List Dat} {d:Dat} (ha:A1 p K tas τ ss) (hr:R ds d) (hd:datsOf ss=some ds:=by rfl):E1 p K (tCall (spP K R) [] E' tas) τ (.dat d):=fun W L σ H Q rs o q=>ha W L σ H _ rs o fun vs H1 ss e e1 o1 rv=>by
  subst e
  rw [List.append_nil]
  exact ⟨ds,d,rv.dz hd,hr,fun v H' s z=>q v H' _ rfl (e1.trans (Ev.of s)) (o1.same s) (z.mono fun a ha=>o1.fresh ha)⟩
noncomputable def Gives (d:Dat):Sl->Prop
  | .dat e=>d=e/\noL d=true
  | .own ds=>d = .list ds/\noLs ds=true
  | _=>False
theorem rs_start {N:Addr->Prop}:∀ {vs:List V} {ds:List Dat} (n:Nat),Dzs N K H vs ds->(∀ a,N a->¬ W a)->Rs p W K H [] (vs.map some ++ List.replicate n none) (ds.map .dat ++ List.replicate n .un)
  | _,_,0,.nil,_=>.nil
  | _,_,n + 1,.nil,h=>by
    have:=rs_start n (Dzs.nil (N:=N) (K:=K) (H:=H)) h
    rw [List.replicate_succ,List.replicate_succ]
    exact .un this
  | _,_,n,.cons a r,h=>.dat (a.mono h) (rs_start n r h)
variable {P:Program} {w:World} {mg:Str->Option Value} {base:Heap}
theorem okP {x qual:Str} {st:Stmt} {f:Addr} {fd:FuncData} {N ps:List Str} {k:Nat} {R:List Dat->Dat->Prop} (F:Fun K x qual st f fd) (S0:FnScope N ps (defScope st)) (len:∀ ds d,R ds d->ds.length=ps.length)
    (body:∀ (cdv:Value) (A:Around) (outer:List Env) (s:Shared) (H:Hp) (E:XK),Room k (A.deeper (PyProof.Rows.envOfC qual (defScope st) s.heap.objs.size f cdv)) ->
      ∃ t,ZSs (cxOf CX0 P w K mg base N qual (defScope st) f cdv A outer s H E).nox (defBody st) t/\∀ ds d,R ds d->S none K t (ds.map .dat ++ List.replicate (N.length - ps.length) .un) (fun _=>d = .none) (Gives d)):FnOk P w K mg base CX0 (k + 1) f fd ps (spP K R):=by
  refine F.okZ S0 (fun vs H Q E h=>?_) (fun cdv A outer s H vs Q E hr h=>?_)
  . obtain ⟨ds,d,z,r,_⟩:=h;rw [z.len];exact len ds d r
  . obtain ⟨ds,d,z,r,q⟩:=h
    obtain ⟨t,hz,hs⟩:=body cdv A outer s H E hr
    refine ⟨t,hz,?_⟩
    have l:vs.length=ps.length:=by rw [z.len];exact len ds d r
    have r0:Rs none (fun _=>False) K H [] (L2.start N vs) (ds.map .dat ++ List.replicate (N.length - ps.length) .un):=by
      unfold L2.start
      rw [l]
      exact rs_start _ z fun a _ h=>h
    have same:∀ {H':Hp},Ev (fun _=>False) H H'->Same H H':=fun e b o h=>e.keep b o (fun z=>z) h
    refine hs ds d r (fun _=>False) [] _ H _ r0 ⟨fun q h=>(by cases h),fun a h=>False.elim h⟩ (fun W' L' σ' H' τ' e ev o' al n l r'=>?_) (fun W' H' v s e ev o' al n rv=>?_)
    . subst e;exact q .non H' (same ev) .none
    . cases s with
      | dat d' =>
        obtain ⟨rfl,nl⟩:=e
        exact q v H' (same ev) (Dz.free rv nl)
      | own es =>
        obtain ⟨rfl,nl⟩:=e
        obtain ⟨a,vs,rfl,h1,h2,h3⟩:=rv
        exact q _ H' (same ev) (.lst (.inl ⟨h1.resolve_left (fun z=>by cases z),.inl h2⟩) (h3.free nl))
      | dt es=>cases e
      | un=>cases e
      | pu=>cases e
      | vw ds=>cases e
end
end D
end
section
namespace L2
open PySem PySem.Spec PyProof.Rows
open PySem.W (Dat)
noncomputable def tyD:Dat->String
  | .none => "NoneType"
  | .bool _ => "bool"
  | .int _ => "int"
  | .str _ => "str"
  | .tuple _ => "tuple"
  | .list _ => "list"
  | _ => "object"
noncomputable def kitD (K:PySem.W.Frag) (d:Dat) (T:String):Option Bool:=match d with
  | .bytes _=>Option.none
  | d=>PySem.W.kitOne K (.type (tyD d)) (.type T)
theorem call_isiD {X:Cx} {T:String}:CallR X (.builtin "isinstance") (fun xs H Q=>∃ x d b,xs=[x,.ty T]/\Is X.K H x d/\kitD X.K d T=some b/\Q (.bl b) H):=by
  intro pins s σ H xs us Q I r h
  obtain ⟨x,d,b,rfl,z,e,q⟩:=h
  cases r with
  | cons r1 r2 =>
    cases r2 with
    | cons r3 r4 =>
      cases r4
      cases (show _=Value.type T from r3)
      have fin:∀ tk,EP X pins σ Q (.bool b) { s with toks:=tk }:=fun tk=>⟨.bl b,H,I.tok tk,rfl,q⟩
      cases z with
      | none=>exact isinst_ok I r1 .non e fin
      | bool y=>exact isinst_ok I r1 (.bl y) e fin
      | int i=>exact isinst_ok I r1 (.int i) e fin
      | str y=>exact isinst_ok I r1 (.str y) e fin
      | @tup a ys ds h1 h2 =>
        cases (show _=Value.ref a from r1)
        obtain ⟨its,_,⟨o,h3,h4,_⟩,_⟩:=I.tuple h1
        exact PySem.W.kia_one PySem.W.kitx_tuple I.kIn ⟨o,h3,h4⟩ e (fun z=>nomatch z) fin
      | @lst a ys ds h1 h2 =>
        cases (show _=Value.ref a from r1)
        obtain ⟨its,_,⟨o,n,h3,h4,_⟩,_⟩:=I.list h1
        exact PySem.W.kia_one PySem.W.kitx_list I.kIn ⟨o,h3,h4⟩ e (fun z=>nomatch z) fin
      | exc h=>cases e
end L2
namespace D
open PySem L2 K0 Num
open PySem.W (Dat)
noncomputable abbrev tI (ns:List Int):Dat:=.tuple (ns.map .int)
section
variable {p:Option Addr} {K:PySem.W.Frag} {W:Addr->Prop} {L:List Addr} {σ:St} {H H1:Hp} {τ:List Sl} {te:TE} {tas:TA} {v:V} {s:Sl} {t:TS} {ds:List Dat} {E':XK}
noncomputable def dOf:List Sl->Option (List Dat)
  | []=>some []
  | .dat d :: r=>match dOf r with
    | some ds=>some (d :: ds)
    | none=>none
  | _=>none
theorem dOf_eq:∀ {ss:List Sl} {ds:List Dat},dOf ss=some ds->ss=ds.map .dat
  | [],ds,h=>by cases h;rfl
  | .dat d :: r,ds,h=>by
    unfold dOf at h
    cases e:dOf r with
    | none=>rw [e] at h;cases h
    | some es=>rw [e] at h;cases h;rw [dOf_eq e];rfl
  | .un :: _,_,h=>by cases h
  | .pu :: _,_,h=>by cases h
  | .own _ :: _,_,h=>by cases h
  | .dt _ :: _,_,h=>by cases h
  | .vw _ :: _,_,h=>by cases h
theorem E1.tu {ss:List Sl} {ds:List Dat} (h:A1 p K tas τ ss) (e:dOf ss=some ds) (hz:ds.length<=sizeLine):E1 p K (tTup tas) τ (.dat (.tuple ds)):=E1.tup (dOf_eq e ▸ h) hz
theorem E1.li {ss:List Sl} {ds:List Dat} (h:A1 p K tas τ ss) (e:dOf ss=some ds) (hz:ds.length<=sizeLine):E1 p K (tLst tas) τ (.own ds):=E1.lst (dOf_eq e ▸ h) hz
theorem E1.isi {T:String} {s:Sl} {d:Dat} {b:Bool} (ha:E1 p K te τ s) (hd:datOf s=some d) (hb:∀ K,kitD K d T=some b):E1 p K (tCB (fun xs H Q=>∃ x d b,xs=[x,.ty T]/\Is K H x d/\kitD K d T=some b/\Q (.bl b) H) (tCons te (tCons (tC (.ty T)) tNil))) τ (.dat (.bool b)):=fun W L σ H Q r o q =>
  ha W L σ H _ r o fun v H1 s e e1 o1 rv=>by
    subst e
    exact ⟨v,d,b,rfl,rv.isD hd,hb K,q _ H1 _ rfl e1 o1 (.bool _)⟩
theorem tup_inv {N:Addr->Prop} {ns:List Int} {v:V} (h:Dz N K H v (tI ns)):∃ a,v = .ref a/\SqT K H a (ns.map V.int):=by
  cases h with
  | tup h1 h2=>have e:=h2.inv;subst e;exact ⟨_,rfl,h1⟩
theorem told {N:Addr->Prop} {ns:List Int} {r:Addr} (h:H r=some (.tup (ns.map V.int))):Dz N K H (.ref r) (tI ns):=.tup (SqT.of h) (Dzs.ints _)
theorem E.c1 {sp:Sp} {ns:List Int} {C:Sl->Prop} (ha:A1 p K tas τ [.dat (tI ns)]) (h:∀ (W:Addr->Prop) (H:Hp) (a:Addr) (Q:VK),SqT K H a (ns.map V.int)->(∀ v H' s,C s->Same H H'->(∀ W,Rv p W K H H' v s)->Q v H')->sp [.ref a] H Q E'):E p K (tCall sp [] E' tas) τ C:=fun W L σ H Q rs o q=>ha W L σ H _ rs o fun vs H1 ss e e1 o1 rv=>by
  subst e
  cases rv with
  | cons a t =>
    cases t
    obtain ⟨r,rfl,z⟩:=tup_inv a
    exact h W H1 r _ z fun v H' s c sm z=>q v H' s c (e1.trans (Ev.of sm)) (o1.same sm) ((z W).base e1 o1)
theorem E.c2 {sp:Sp} {ns ms:List Int} {C:Sl->Prop} (ha:A1 p K tas τ [.dat (tI ns),.dat (tI ms)]) (h:∀ (W:Addr->Prop) (H:Hp) (a b:Addr) (Q:VK),SqT K H a (ns.map V.int)->SqT K H b (ms.map V.int)->(∀ v H' s,C s->Same H H'->(∀ W,Rv p W K H H' v s)->Q v H')->sp [.ref a,.ref b] H Q E'):E p K (tCall sp [] E' tas) τ C:=fun W L σ H Q rs o q=>ha W L σ H _ rs o fun vs H1 ss e e1 o1 rv=>by
  subst e
  cases rv with
  | cons a t =>
    cases t with
    | cons b t =>
      cases t
      obtain ⟨r,rfl,z⟩:=tup_inv a
      obtain ⟨r2,rfl,z2⟩:=tup_inv b
      exact h W H1 r r2 _ z z2 fun v H' s c sm z=>q v H' s c (e1.trans (Ev.of sm)) (o1.same sm) ((z W).base e1 o1)
theorem E1.cRest {ns:List Int} (ha:A1 p K tas τ [.dat (tI ns)]) (hl:ns.length=4) (nz:∃ n ∈ ns,n ≠ 0) (bd:Bd (2 ^ 1000) ns):E1 p K (tCall (spRest K) [] E' tas) τ (.dat (tI (rs ns))) :=
  E.c1 ha fun W H a Q z q=>⟨a,ns,rfl,z,hl,nz,bd,fun r H' s h=>q _ H' _ rfl s fun W=>told h⟩
theorem E1.cThen {ns ms:List Int} (ha:A1 p K tas τ [.dat (tI ns),.dat (tI ms)]) (l1:ns.length=4) (l2:ms.length=4) (n1:∃ n ∈ ns,n ≠ 0) (n2:∃ n ∈ ms,n ≠ 0) (s1:Bd (2 ^ 4000) ns) (s2:Bd (2 ^ 4000) ms):E1 p K (tCall (spThen K) [] E' tas) τ (.dat (tI (pl (qm ms ns)))) :=
  E.c2 ha fun W H a b Q z z2 q=>⟨a,b,ns,ms,rfl,z,z2,l1,l2,n1,n2,s1,s2,fun r H' s h=>q _ H' _ rfl s fun W=>told h⟩
end
theorem bd_bt4 {k:Nat} {a b c d:Int} (h:Bd (2 ^ k) [a,b,c,d]):Bt a k/\Bt b k/\Bt c k/\Bt d k:=⟨h a (by simp),h b (by simp),h c (by simp),h d (by simp)⟩
section
variable {p:Option Addr} {K:PySem.W.Frag} {τ:List Sl} {te:TE} {ds:List Dat}
theorem lsz {α:Type} {l:List α} {n:Nat} (h:l.length=n) (hn:n<=sizeLine):l.length<=sizeLine:=h ▸ hn
theorem z1:1<=sizeLine:=by decide
theorem z2:2<=sizeLine:=by decide
theorem z3:3<=sizeLine:=by decide
theorem z4:4<=sizeLine:=by decide
theorem z0:0<=sizeLine:=by decide
end
end D
end
namespace D
open PySem L2 K0 Num
open PySem.W (Dat)
section
theorem sm_bd' {k:Nat} {ns:List Int} (h:Bd (2 ^ k) ns) (hk:k < 9000:=by decide):Sm ns:=sm_bd h (Nat.pow_lt_pow_right (by decide) hk)
theorem nz_of_ne4 {ns:List Int} (l:ns.length=4) (h:ns ≠ [0,0,0,0]):∃ n ∈ ns,n ≠ 0:=by
  obtain ⟨a,b,c,d,rfl⟩:=four_of l
  by_cases ha:a=0
  . by_cases hb:b=0
    . by_cases hc:c=0
      . by_cases hd:d=0
        . subst ha hb hc hd;exact absurd rfl h
        . exact ⟨d,by simp,hd⟩
      . exact ⟨c,by simp,hc⟩
    . exact ⟨b,by simp,hb⟩
  . exact ⟨a,by simp,ha⟩
theorem cpow10 {k:Int} (h0:0<=k) (h1:k<=1000000):CPow 10 k:=⟨h0,h1,by decide⟩
section
variable {p:Option Addr} {K:PySem.W.Frag} {τ:List Sl} {ta tb:TE}
theorem E1.neS {x y:Str} (ha:E1 p K ta τ (.dat (.str x))) (hb:E1 p K tb τ (.dat (.str y))):E1 p K (tOp rNe ta tb) τ (.dat (.bool (!decide (x=y)))):=E1.op2 ha hb fun W H0 H u v Q o0 o r1 r2 q=>by
  cases r1;cases r2
  refine ⟨rfl,q _ H Ev.refl o ?_⟩
  have e:decide (V.str x=V.str y)=decide (x=y):=by rw [decide_eq_decide];exact ⟨fun h=>by injection h,fun h=>by rw [h]⟩
  rw [e];exact .bool _
end
theorem T1.eqn {p:Option Addr} {K:PySem.W.Frag} {τ:List Sl} {tt:TT} {b c:Bool} (h:T1 p K tt τ b) (e:b=c):T1 p K tt τ c:=e ▸ h
section
variable {p:Option Addr} {K:PySem.W.Frag} {τ:List Sl} {te:TE} {tt:TT}
theorem T1.notT (h:T1 p K tt τ true):T1 p K (tNot tt) τ false:=T1.not h
theorem T1.notF (h:T1 p K tt τ false):T1 p K (tNot tt) τ true:=T1.not h
theorem E1.isiT {ds:List Dat} (ha:E1 p K te τ (.dat (.tuple ds))):E1 p K (tCB (fun xs H Q=>∃ x d b,xs=[x,.ty "tuple"]/\Is K H x d/\kitD K d "tuple" = some b/\Q (.bl b) H) (tCons te (tCons (tC (.ty "tuple")) tNil))) τ (.dat (.bool true)):=E1.isi ha rfl fun K=>by rfl
theorem T1.neT {p:Option Addr} {K:PySem.W.Frag} {τ:List Sl} {ta tb:TE} {i j:Int} (ha:E1 p K ta τ (.dat (.int i))) (hb:E1 p K tb τ (.dat (.int j))) (e:i=j):T1 p K (tTest (tOp rNe ta tb)) τ false:=(T1.test (E1.ne ha hb)).eqn (by rw [decide_eq_true e];rfl)
theorem T1.neDT {p:Option Addr} {K:PySem.W.Frag} {τ:List Sl} {ta tb:TE} {a b:Sl} {d:Dat} (ha:E1 p K ta τ a) (hb:E1 p K tb τ b) (ea:datOf a=some d) (eb:datOf b=some d) (k1:PySem.W.kqdOk 9 d=true):T1 p K (tTest (tOp (rEqD K true) ta tb)) τ false:=(T1.test (E1.neD ha hb ea eb k1 k1)).eqn (by rw [deq_self];rfl)
end
theorem tI_inj {ns ms:List Int} (h:tI ns=tI ms):ns=ms:=map_int_inj (by injection h)
end
section
section
variable {p:Option Addr} {K:PySem.W.Frag} {W:Addr->Prop} {H H0:Hp} {τ':List Sl} {v:V} {s:Sl} {t:TS}
variable {P:Program} {w:World} {mg:Str->Option Value} {base:Heap}
theorem okL {x qual:Str} {st:Stmt} {f:Addr} {fd:FuncData} {N ps:List Str} {k:Nat} (F:Fun K x qual st f fd) (S0:FnScope N ps (defScope st)) (len:ps.length=1)
    (body:∀ (cdv:Value) (A:Around) (outer:List Env) (s:Shared) (H:Hp) (E:XK),Room k (A.deeper (PyProof.Rows.envOfC qual (defScope st) s.heap.objs.size f cdv)) ->
      ∃ t,ZSs (cxOf CX0 P w K mg base N qual (defScope st) f cdv A outer s H E).nox (defBody st) t/\∀ ns:List Int,ns.length<=63->(∀ v ∈ ns,Builtin.Int.intBits v<=2 ^ 20)->S none K t (.dat (.list (ns.map .int)) :: List.replicate (N.length - 1) .un) (fun _=>False) (fun s=>s = .dat (.bool true))):FnOk P w K mg base CX0 (k + 1) f fd ps (spLaw K):=by
  refine F.okZ S0 (fun vs H Q E h=>?_) (fun cdv A outer s H vs Q E hr h=>?_)
  . obtain ⟨a,ns,rfl,_⟩:=h;rw [len];rfl
  . obtain ⟨a,ns,rfl,hS,hl,hb,q⟩:=h
    obtain ⟨t,hz,hs⟩:=body cdv A outer s H E hr
    refine ⟨t,hz,?_⟩
    have z:Dzs (fun _=>True) K H [.ref a] [.list (ns.map .int)]:=.cons (.lst (by
      rcases hS with h | h
      . exact .inl ⟨trivial,h⟩
      . exact .inr (.inr h)) (Dzs.ints _)) .nil
    have r0:Rs none (fun _=>False) K H [] (L2.start N [.ref a]) (.dat (.list (ns.map .int)) :: List.replicate (N.length - 1) .un):=by
      unfold L2.start
      exact rs_start _ z fun a _ h=>h
    refine hs ns hl hb (fun _=>False) [] _ H _ r0 ⟨fun q h=>(by cases h),fun a h=>False.elim h⟩ (fun W' L' σ' H' τ' e ev o' al n l r'=>e.elim) (fun W' H' v s e ev o' al n rv=>?_)
    subst e
    cases (Rv.bl_inv (p:=none) (H0:=H) rv)
    exact q H'
end
end
end D
section
namespace D
open PySem L2 K0
open PySem.W (Dat)
section
variable {p:Option Addr} {K:PySem.W.Frag} {W:Addr->Prop} {τ:List Sl} {tas:TA}
theorem rangeD_4:rangeD 0 4=[.int 0,.int 1,.int 2,.int 3]:=rfl
theorem Wk.r4 (h:A1 p K tas τ [.dat (.int 4)]):Wk p K (iRng1 tas) τ [.int 0,.int 1,.int 2,.int 3]:=rangeD_4 ▸ Wk.rng h rfl
end
end D
end
namespace D
open PySem L2 K0 Num
open PySem.W (Dat)
section
end
theorem kq_ints {n:Nat} {ns:List Int}:PySem.W.kqdOk (n + 1) (tI ns)=true:=kqd_ints ns n
section
section
variable {ds:List Dat}
noncomputable def enumD (ds:List Dat):List Dat:=zipD ((List.range ds.length).map fun (i:Nat)=>.int (i:Int)) ds
theorem enumD_get {ds:List Dat} {i:Nat} {d:Dat} (h:(enumD ds)[i]?=some d):∃ x,ds[i]?=some x/\d = .tuple [.int i,x]:=by
  obtain ⟨a,b,h1,h2,rfl⟩:=zipD_get h
  refine ⟨b,h2,?_⟩
  rw [List.getElem?_map] at h1
  have hi:i < ds.length:=(List.getElem?_eq_some_iff.mp h2).1
  rw [List.getElem?_range hi] at h1
  cases h1;rfl
theorem enumD_len {ds:List Dat}:(enumD ds).length=ds.length:=by unfold enumD zipD;simp
end
end
section
noncomputable def qf (x:Rat):List Int:=[x.num,(x.den:Int)]
noncomputable def ptQ (x y z:Rat):Dat:=ptD (qf x) (qf y) (qf z)
section
variable {W:Addr->Prop}
end
noncomputable def sa (x y z a b c e:Int):Option (List Int):=if cr x y z b c e=[0,0,0] then some (if x=0 then (if y=0 then ps e (a * z) else ps c (a * y)) else ps b (a * x)) else none
end
section
noncomputable def isNo:Dat->Bool
  | .none=>true
  | _=>false
section
variable {p:Option Addr} {K:PySem.W.Frag} {τ:List Sl} {ta tb:TE}
theorem E1.isNo {d:Dat} (ha:E1 p K ta τ (.dat d)) (hb:E1 p K tb τ (.dat .none)):E1 p K (tOp (fun x y H Q=>y = .non/\Q (.bl (decide (x = .non))) H) ta tb) τ (.dat (.bool (D.isNo d))) :=
  E1.op2 ha hb fun W H0 H x y Q o0 o r1 r2 q=>by
    refine ⟨r2.non_inv,q _ H Ev.refl o ?_⟩
    cases r1 <;> exact .bool _
end
end
section
section
variable {p:Option Addr} {K:PySem.W.Frag} {τ:List Sl} {te:TE}
theorem E1.isi' {T:String} {d:Dat} (b':Bool) (ha:E1 p K te τ (.dat d)) (hb:∀ K,kitD K d T=some b'):E1 p K (tCB (fun xs H Q=>∃ x d b,xs=[x,.ty T]/\Is K H x d/\kitD K d T=some b/\Q (.bl b) H) (tCons te (tCons (tC (.ty T)) tNil))) τ (.dat (.bool b')):=E1.isi ha rfl hb
end
end
section
noncomputable abbrev Q1 (a b d e:Int) (x y z:Rat):Rat:=K0.R1 a b d e x y z / N4 a b d e
noncomputable abbrev Q2 (a b d e:Int) (x y z:Rat):Rat:=K0.R2 a b d e x y z / N4 a b d e
noncomputable abbrev Q3 (a b d e:Int) (x y z:Rat):Rat:=K0.R3 a b d e x y z / N4 a b d e
section
variable {W:Addr->Prop}
end
end
noncomputable def MM (p q r x y z w v:Rat):Rat:=v - 2 * (p * x + q * y + r * z) / (p * p + q * q + r * r) * w
noncomputable abbrev M1 (p q r:Int) (x y z:Rat):Rat:=MM p q r x y z p x
noncomputable def ftR (k l N v D w c:Rat):Rat:=(k * (N * v - D * w) + l * c) / (2 * k * N)
noncomputable abbrev F1 (p q r k l:Int) (x y z:Rat):Rat:=ftR k l ((p:Rat) * p + q * q + r * r) x (p * x + q * y + r * z) p (q * z - r * y)
noncomputable abbrev F2 (p q r k l:Int) (x y z:Rat):Rat:=ftR k l ((p:Rat) * p + q * q + r * r) y (p * x + q * y + r * z) q (r * x - p * z)
noncomputable abbrev F3 (p q r k l:Int) (x y z:Rat):Rat:=ftR k l ((p:Rat) * p + q * q + r * r) z (p * x + q * y + r * z) r (p * y - q * x)
noncomputable abbrev sl (p q r:Int) (x y z:Rat):Rat:=((p:Rat) * x + q * y + r * z) / ((p:Rat) * p + q * q + r * r)
end D
section
namespace L2
open PySem PySem.Spec PyProof.Rows
section
noncomputable abbrev zl (h:Heap) (l:Addr):Heap:=h.push { cls:=.type "list_iterator",data:=.fields #[.ref l,.int 0 0] }
noncomputable abbrev zg (b:Bool) (h:Heap) (l:Addr):Heap:=h.push { cls:=.type (if b then "list_iterator" else "tuple_iterator"),data:=.fields #[.ref l,.int 0 0] }
end
end L2
end
namespace D
open PySem L2 K0 Num
open PySem.W (Dat)
section
section
variable {p:Option Addr} {K:PySem.W.Frag} {W:Addr->Prop} {H:Hp} {τ:List Sl}
theorem Gd.four {τ' : List Sl} {i1 i2 i3 i4 : Nat} {d1 d2 d3 d4 : Dat} (e : (((τ.set i1 (.dat d1)).set i2 (.dat d2)).set i3 (.dat d3)).set i4 (.dat d4) = τ' := by rfl) : Gd p K (gTup K 4 (gCons (gName i1) (gCons (gName i2) (gCons (gName i3) (gCons (gName i4) gNil))))) (.tuple [d1, d2, d3, d4]) τ τ' := fun W L σ H v Q r zz q => by
  cases zz with
  | tup h1 h2 =>
    cases h2 with
    | cons z1 t =>
      cases t with
      | cons z2 t =>
        cases t with
        | cons z3 t =>
          cases t with
          | cons z4 t =>
            cases t
            obtain ⟨L1,l1,r1⟩:=r.set (s:=.dat d1) (.inr (.inl ⟨d1,rfl,z1⟩)) i1
            obtain ⟨L2,l2,r2⟩:=r1.set (s:=.dat d2) (.inr (.inl ⟨d2,rfl,z2⟩)) i2
            obtain ⟨L3,l3,r3⟩:=r2.set (s:=.dat d3) (.inr (.inl ⟨d3,rfl,z3⟩)) i3
            obtain ⟨L4,l4,r4⟩:=r3.set (s:=.dat d4) (.inr (.inl ⟨d4,rfl,z4⟩)) i4
            rw [e] at r4
            exact ⟨_,_,rfl,h1,rfl,_,_,rfl,_,_,rfl,_,_,rfl,_,_,rfl,rfl,q L4 _ (fun a h=>l1 a (l2 a (l3 a (l4 a h)))) r4⟩
end
noncomputable abbrev Lw (x:Rat):Prop:=Lo 310 x.num x.den x
structure Row3 where
  x:Rat
  y:Rat
  z:Rat
noncomputable def Row3.d (r:Row3):Dat:=ptQ r.x r.y r.z
noncomputable def Row3.lw (r:Row3):Prop:=Lw r.x/\Lw r.y/\Lw r.z
noncomputable def Row3.dot (r s:Row3):Rat:=r.x * s.x + r.y * s.y + r.z * s.z
end
end D
section
namespace L2
open PySem PySem.Spec PyProof.Rows
section
variable {a b c e o:Expr}
end
end L2
namespace D
open PySem L2 K0 Num
open PySem.W (Dat)
section
variable {p:Option Addr} {K:PySem.W.Frag} {W:Addr->Prop} {H:Hp} {τ:List Sl}
end
end D
namespace D
open PySem L2 K0 Num
open PySem.W (Dat)
end D
namespace D
open PySem L2 K0 Num
open PySem.W (Dat)
section
variable {p:Option Addr} {K:PySem.W.Frag} {W:Addr->Prop} {H:Hp} {L:List Addr} {σ:St} {τ:List Sl} {t:TS} {nx:List Sl->Prop} {rt:Sl->Prop}
theorem Rs.less {a:Addr} (r:Rs p W K H L σ τ):a ∉ L->Rs p (fun b=>W b/\b ≠ a) K H L σ τ:=by
  induction r with
  | nil=>exact fun _=>.nil
  | un _ ih=>exact fun h=>.un (ih h)
  | dat h _ ih=>exact fun n=>.dat (h.mono fun _ nb z=>nb z.1) (ih n)
  | pu h _ ih=>exact fun n=>.pu h (ih n)
  | own h1 h2 h3 h4 h5 _ ih=>exact fun n=>.own ⟨h1,fun z=>n (z ▸ List.mem_cons_self)⟩ h2 h3 h4 (h5.mono fun _ nb z=>nb z.1) (ih fun z=>n (List.mem_cons_of_mem _ z))
  | dt h1 h2 h3 h4 _ ih=>exact fun n=>.dt (fun b hb=>⟨h1 b hb,fun z=>n (z ▸ List.mem_append_left _ hb)⟩) h2 h3 (Own.wide _ h4 fun _ _ nb _ z=>nb z.1) (ih fun z=>n (List.mem_append_right _ z))
theorem Rs.frz (r:Rs p W K H L σ τ):∀ {i:Nat} {ds:List Dat},τ[i]?=some (.own ds)->∃ (a:Addr) (L':List Addr),(∀ b,b ∈ L'->b ∈ L)/\a ∈ L/\W a/\p ≠ some a/\(∃ vs,H a=some (.lst vs))/\Rs p (fun b=>W b/\b ≠ a) K H L' σ (τ.set i (.dat (.list ds))):=by
  induction r with
  | nil=>exact fun h=>by simp at h
  | un r ih =>
    intro i ds h
    cases i with
    | zero=>cases h
    | succ i =>
      obtain ⟨a,L',h1,h2,h3,h4,h5,h6⟩:=ih (i:=i) h
      exact ⟨a,L',h1,h2,h3,h4,h5,.un h6⟩
  | dat z r ih =>
    intro i ds h
    cases i with
    | zero=>cases h
    | succ i =>
      obtain ⟨a,L',h1,h2,h3,h4,h5,h6⟩:=ih (i:=i) h
      exact ⟨a,L',h1,h2,h3,h4,h5,.dat (z.mono fun _ nb z=>nb z.1) h6⟩
  | pu z r ih =>
    intro i ds h
    cases i with
    | zero=>cases h
    | succ i =>
      obtain ⟨a,L',h1,h2,h3,h4,h5,h6⟩:=ih (i:=i) h
      exact ⟨a,L',h1,h2,h3,h4,h5,.pu z h6⟩
  | @own L σ τ a vs es h1 h2 h3 h4 h5 r ih =>
    intro i ds h
    cases i with
    | zero =>
      cases h
      exact ⟨a,L,fun b hb=>List.mem_cons_of_mem _ hb,List.mem_cons_self,h1,h2,⟨vs,h4⟩,.dat (.lst (.inl ⟨fun z=>z.2 rfl,.inl h4⟩) (h5.mono fun _ nb z=>nb z.1)) (r.less h3)⟩
    | succ i =>
      obtain ⟨c,L',g1,g2,g3,g4,g5,g6⟩:=ih (i:=i) h
      refine ⟨c,a :: L',fun b hb=>?_,List.mem_cons_of_mem _ g2,g3,g4,g5,.own ⟨h1,fun z=>h3 (z ▸ g2)⟩ h2 (fun z=>h3 (g1 _ z)) h4 (h5.mono fun _ nb z=>nb z.1) g6⟩
      rcases List.mem_cons.mp hb with rfl | hb
      . exact List.mem_cons_self
      . exact List.mem_cons_of_mem _ (g1 _ hb)
  | @dt L l σ τ a o h1 h2 h3 h4 r ih =>
    intro i ds h
    cases i with
    | zero=>cases h
    | succ i =>
      obtain ⟨c,L',g1,g2,g3,g4,g5,g6⟩:=ih (i:=i) h
      refine ⟨c,l ++ L',fun b hb=>?_,List.mem_append_right _ g2,g3,g4,g5,.dt (fun b hb=>⟨h1 b hb,fun z=>h3 b hb (z ▸ g2)⟩) h2 (fun b hb z=>h3 b hb (g1 _ z)) (Own.wide _ h4 fun _ _ nb _ z=>nb z.1) g6⟩
      rcases List.mem_append.mp hb with hb | hb
      . exact List.mem_append_left _ hb
      . exact List.mem_append_right _ (g1 _ hb)
theorem S.frz {i : Nat} {ds : List Dat} {τ' : List Sl} (h : τ[i]? = some (.own ds)) (m : S p K t τ' nx rt) (e : τ.set i (.dat (.list ds)) = τ' := by rfl) : S p K t τ nx rt := fun W L σ H D r o q1 q2 => by
  subst e
  obtain ⟨a,L',h1,h2,h3,h4,⟨vs,h5⟩,h6⟩:=r.frz h
  have keep:∀ {H':Hp},Ev (fun b=>W b/\b ≠ a) H H'->H' a=some (.lst vs):=fun ev=>ev.keep _ _ (fun z=>z.2 rfl) h5
  refine m _ L' σ H D h6 ⟨fun q hq=>⟨(o.pu q hq).1,(o.pu q hq).2,fun z=>h4 (z ▸ hq)⟩,fun b hb=>o.al b hb.1⟩ (fun W' L2 σ' H' τ' n ev ok al wn ln rs=>?_) fun W' H' v s n ev ok al wn rr=>?_
  . refine q1 W' L2 σ' H' τ' n (ev.mono fun _ z=>z.1) ok (fun b hb=>?_) (fun b hb=>(wn b hb).imp (fun z=>z.1) id) (fun b hb=>(ln b hb).imp (h1 b) id) rs
    by_cases z:b=a
    . exact ⟨_,z ▸ keep ev⟩
    . exact al b ⟨hb,z⟩
  . refine q2 W' H' v s n (ev.mono fun _ z=>z.1) ok (fun b hb=>?_) (fun b hb=>(wn b hb).imp (fun z=>z.1) id) ?_
    . by_cases z:b=a
      . exact ⟨_,z ▸ keep ev⟩
      . exact al b ⟨hb,z⟩
    . cases s with
      | own ds' =>
        obtain ⟨a',vs',e1,e2,e3,e4⟩:=rr
        exact ⟨a',vs',e1,e2.imp (h1 _) id,e3,e4⟩
      | dt ds' =>
        obtain ⟨a',vs',e1,e2,e3⟩:=rr
        exact ⟨a',vs',e1,fun b hb=>(e2 b hb).imp (h1 _) id,e3⟩
      | _=>exact rr
end
end D
end
namespace D
open PySem L2 K0 Num
open PySem.W (Dat)
section
section
variable {W:Addr->Prop}
end
noncomputable def F4 (b:Nat) (f:List Int):Prop:=f.length=4/\(∃ n ∈ f,n ≠ 0)/\Bd (2 ^ b) f
noncomputable def stD (fs:List (List Int)):Dat:=.list (fs.map tI)
noncomputable def rb (ns ms:List Int):List Int:=fr (sop ns ms * sop ns ms) (nrm ns * nrm ms)
end
noncomputable def nd (kind:Int):Nat:=if kind=0 then 1 else if kind=4 then 3 else 2
theorem T1.andT {p:Option Addr} {K:PySem.W.Frag} {τ:List Sl} {tt tu:TT} {c:Bool} (h:T1 p K tt τ true) (h2:T1 p K tu τ c):T1 p K (tAnd tt tu) τ c:=T.and h (fun _=>h2) fun z=>by cases z
end D
section
namespace L2
open PySem PySem.Spec PyProof.Rows
noncomputable def hashIs (ks:List Int):Int:=reduceHash (Builtin.Tuple.tupleHashOf (ks.map hashInt))
inductive Ents (K:PySem.W.Frag):List DictEntry->List (List Int × Int)->Prop
  | nil:Ents K [] []
  | cons {g:Int} {a:Addr} {o:Obj} {its:Array Value} {n:Nat} {ks:List Int} {v:Int} {u:Value} {es:List DictEntry} {kvs:List (List Int × Int)}:K.lookup a=some o->o.cls = .type "tuple" -> o.data = .seq its n->Vals (ks.map V.int) its.toList->RelV (.int v) u->g=hashIs ks->Ents K es kvs->Ents K (⟨g,.ref a,u⟩ :: es) ((ks,v) :: kvs)
noncomputable def TabD (K:PySem.W.Frag) (d:Addr) (kvs:List (List Int × Int)):Prop:=∃ o es ep,K.lookup d=some o/\o.ExactDict/\o.data = .dict es ep/\Ents K es.toList kvs/\(kvs.map (·.1)).Nodup/\(d == sysModules)=false
theorem items_of {P:Program} {w:World}:∀ {ks:List Int} {vs:List Value},Vals (ks.map V.int) vs->ItemsAre (intKind P w) ks vs
  | [],_,h=>by cases h;exact .nil
  | k :: r, _, h => by
    cases h with
    | cons h1 h2 =>
      obtain ⟨t,rfl⟩:=h1
      exact .cons (by show Value.isInt k (.int k t)=true;simp [Value.isInt]) (items_of h2)
theorem Ents.ex {X:Cx} {pins:List (Addr × Obj)} {σ:List (Option V)} {H:Hp} {s:Shared} (I:Inv X pins σ H s) {es:List DictEntry} {kvs:List (List Int × Int)} (h:Ents X.K es kvs) :
    ∃ xs:List (List Int × Addr × Value),es=xs.map (entryOfKey (tupleKind (intKind X.prog X.w)))/\(∀ x ∈ xs,(tupleKind (intKind X.prog X.w)).is s.heap x.1 x.2.1)/\xs.map (·.1)=kvs.map (·.1) /\
      ∀ ks,RelV (((kvs.lookup ks).map V.int).getD .non) (((atKey xs ks).map (·.2)).getD .none):=by
  induction h with
  | nil=>exact ⟨[],rfl,by simp,rfl,fun ks=>rfl⟩
  | @cons g a o its n ks v u es kvs h1 h2 h3 h4 h5 h6 h7 ih =>
    obtain ⟨xs,e1,e2,e3,e4⟩:=ih
    refine ⟨(ks,a,u) :: xs,?_,?_,?_,?_⟩
    . rw [List.map_cons, <- e1,h6];rfl
    . intro x hx
      rcases List.mem_cons.mp hx with rfl | hx
      . exact ⟨o,its,n,I.kIn a o h1,h2,h3,items_of h4⟩
      . exact e2 x hx
    . rw [List.map_cons,List.map_cons,e3]
    . intro k
      have:=e4 k
      unfold atKey at *
      by_cases z:ks=k
      . subst z
        rw [List.find?_cons_of_pos (by simp),List.lookup_cons,beq_self_eq_true]
        exact h5
      . rw [List.find?_cons_of_neg (by simpa using z),List.lookup_cons,beq_false_of_ne (fun h=>z h.symm)]
        exact this
noncomputable def rTGet (K:PySem.W.Frag):V->List V->Hp->VK->Prop:=fun x vs H Q=>∃ d a ks kvs,x = .ref d/\vs=[.ref a]/\TabD K d kvs/\SqT K H a (ks.map V.int)/\Q (((kvs.lookup ks).map V.int).getD .non) H
section
variable {X:Cx} {e o:Expr} {to te:TE} {apos cpos:Pos}
theorem mt_tget (hu:X.A.units + 64 < cLine):MtR X "dict.get" (rTGet X.K):=by
  intro pins s σ H x vs v us Q I rx rv h
  obtain ⟨d,a,ks,kvs,rfl,rfl,⟨od,es,ep,hk,hex,hdat,en,nd,hd⟩,hs,q⟩:=h
  cases rx
  obtain ⟨u,rfl,ru⟩:=rv.one
  cases ru
  obtain ⟨its,r,⟨o,ho,hc,n,hsq⟩,hz⟩:=I.tuple hs
  have key:IsTupleKey (intKind X.prog X.w) s.heap ks a:=⟨o,its.toArray,n,ho,hc,hsq,items_of (by simpa using r)⟩
  obtain ⟨xs,e1,e2,e3,e4⟩:=en.ex I
  refine call_meetsIn F.slot_dict_get ⟨od,I.kIn d od hk,hex.1⟩ F.entry_dict_get ?args (meetsH_dict_get (tupleKind (intKind X.prog X.w)) d a hd) ⟨?room,ks,xs,key,⟨od,es,ep,I.kIn d od hk,hex,hdat,e1,e2,by rw [e3];exact nd⟩,?_⟩
  case room=>exact tupleKind_room_in1 (by omega)
  case args=>trivial
  exact ⟨_,H,I.tok _,e4 ks,q⟩
noncomputable def tTG (K:PySem.W.Frag) (to:TE) (t:TA):TE:=fun σ H Q=>to σ H fun x H1=>(∃ d kvs,x = .ref d/\TabD K d kvs)/\t σ H1 fun xs H2=>rTGet K x xs H2 Q
theorem ze_tget (hu:X.A.units + 64 < cLine) (ho:ZE X o to) (ha:ZE X e te) (hbase:attributeBase o "get" X.env (eval o X.env)=eval o X.env:=by rfl)
    (hfew:((backTo cpos (starEach [e] X.env)).all (fun x => !x.1) && (backToKw cpos (keywordEach [] X.env)).all (fun x=>x.1.isSome)
      && decide ([e].length + ([]:List Keyword).length + (if ([]:List Keyword).isEmpty then 0 else 1) < 30))=true:=by rfl)
    (hline:(apos.endLine == cpos.line)=true:=by rfl) (hs:starEach [e] X.env=(false,eval e X.env) :: starEach [] X.env:=by rfl) (hplain:(backTo cpos (starEach [] X.env)).any (·.1)=false:=by rfl) :
    ZE X (.Call (.Attribute o "get" apos) [e] [] cpos) (tTG X.K to (tCons te tNil)):=by
  refine ⟨?_⟩
  have ha':PA X [e] (tCons te tNil):=pa_cons ha.out pa_nil hs
  have hm:=mt_tget (X:=X) hu
  intro pins s σ H Q I h
  refine wpAny_Call_method_late hbase hfew hline rfl (thn (ho.out pins s σ H _ I h) fun v s1 ⟨x,H1,I1,r1,ty,q1⟩=>?_)
  obtain ⟨d,kvs,rfl,od,es,ep,hk,hex,_⟩:=ty
  cases r1
  have ob:=I1.kIn d od hk
  refine ⟨"dict","dict.get",PySem.F.plainAttrs_dict,PySem.F.slot_dict_get,by rfl,⟨od,ob,hex.1⟩,fun a z=>by cases z;exact ⟨od,ob,hex.2.1⟩,?_⟩
  have hA:=ha' cpos pins s1 σ H1 _ I1 q1
  rw [hs] at hA ⊢
  refine Calls.callWith_builtin (by show (false || (backTo cpos (starEach [] X.env)).any (·.1))=false;rw [hplain] <;> rfl) (Calls.evalArgs_plain ?_)
  exact thn hA fun us s2 ⟨vs,H2,I2,r2,q2⟩=>hm pins s2 σ H2 (.ref d) vs (.ref d) us Q I2 (show Value.ref d=Value.ref d from rfl) r2 q2
noncomputable def TabAt (K:PySem.W.Frag) (x:Str) (kvs:List (List Int × Int)):Prop:=∃ d,PySem.W.nsIn K mainGlobals x=some (some (.ref d))/\TabD K d kvs
theorem TabAt.get {K:PySem.W.Frag} {x:Str} {kvs:List (List Int × Int)} {h:Heap} {mg:Str->Option Value} (t:TabAt K x kvs) (Y:K.In h) (G:h.Ns mainGlobals mg):∃ d,mg x=some (.ref d)/\TabD K d kvs:=by
  obtain ⟨d,a,t⟩:=t
  exact ⟨d,PySem.W.mg_of Y G a,t⟩
theorem Ents.two {K:PySem.W.Frag} {g:Int} {a:Addr} {o:Obj} {p q v:Int} {t1 t2 t3:_} {n:Nat} {es:List DictEntry} {kvs:List (List Int × Int)} (l:K.lookup a=some o) (c:o.cls = .type "tuple") (d:o.data = .seq #[.int p t1,.int q t2] n) (e:g=hashIs [p,q]) (r:Ents K es kvs):Ents K (⟨g,.ref a,.int v t3⟩ :: es) (([p,q],v) :: kvs) :=
  .cons l c d (.cons ⟨_,rfl⟩ (.cons ⟨_,rfl⟩ .nil)) ⟨_,rfl⟩ e r
theorem TabAt.mk {K:PySem.W.Frag} {x:Str} {kvs:List (List Int × Int)} {d:Addr} {o:Obj} {es:List DictEntry} {ep:Nat} (a:PySem.W.nsIn K mainGlobals x=some (some (.ref d))) (l:K.lookup d=some o) (c:o.ExactDict) (e:o.data = .dict es.toArray ep) (n:Ents K es kvs) (u:(kvs.map (·.1)).Nodup) (m:(d == sysModules)=false):TabAt K x kvs :=
  ⟨d,a,o,_,ep,l,c,e,n,u,m⟩
end
end L2
end
namespace D
open PySem L2 K0 Num
open PySem.W (Dat)
section
noncomputable def cts:List (List Int × Int):=[([1,1],1),([0,1],2),([1,4],3),([1,2],4),([3,4],6)]
noncomputable def cbD (ns:List Int):Dat:=((cts.lookup (rs ns)).map Dat.int).getD .none
noncomputable def pw (ns:List Int):Nat->List Int
  | 0=>ns
  | k + 1=>qm ns (pw ns k)
section
variable {d:Int}
end
noncomputable def tn (ns:List Int):Nat->List Int
  | 0=>[1,0,0,0]
  | k + 1=>pl (pw ns k)
noncomputable def RCB:List Dat->Dat->Prop:=fun ds r=>∃ ns:List Int,ds=[tI ns]/\ns.length=4/\(∃ n ∈ ns,n ≠ 0)/\Bd (2 ^ 1000) ns/\r=cbD ns
theorem E1.tget {p:Option Addr} {K:PySem.W.Frag} {τ:List Sl} {te:TE} {d:Addr} {kvs:List (List Int × Int)} {ks:List Int} (t:TabD K d kvs) (ha:E1 p K te τ (.dat (tI ks))):E1 p K (tTG K (tC (.ref d)) (tCons te tNil)) τ (.dat (((kvs.lookup ks).map Dat.int).getD .none)):=fun W L σ H Q rs o q=>by
  refine ⟨⟨d,kvs,rfl,t⟩,ha W L σ H _ rs o fun v H1 s e e1 o1 rv=>?_⟩
  subst e
  obtain ⟨r,rfl,z1⟩:=tup_inv rv
  refine ⟨d,r,ks,kvs,rfl,rfl,t,z1,q _ H1 _ rfl e1 o1 ?_⟩
  cases kvs.lookup ks with
  | none=>exact .none
  | some i=>exact .int _
end
section
theorem noL_cb {ns:List Int}:noL (cbD ns)=true:=by unfold cbD;cases cts.lookup (rs ns) <;> rfl
end
end D
section
namespace L2
open PySem PySem.Spec PyProof.Rows
section
variable {X:Cx}
theorem zs_never {st:Stmt}:ZS X st tNever:=⟨ps_never⟩
end
end L2
end
section
namespace L2
open PySem PySem.Spec PyProof.Rows
section
noncomputable abbrev zs (h:Heap) (sx:Str) (t:Tok):Heap:=h.push { cls:=.type "str_ascii_iterator",data:=.fields #[.str sx t,.int 0 0] }
end
section
end
end L2
end
section
namespace L2
open PySem PySem.Spec PyProof.Rows
section
end
end L2
namespace D
open PySem L2 K0 Num
open PySem.W (Dat)
section
end
noncomputable def hg (i j k:Nat):Str:=⟨#[120 + i,120 + j,120 + k]⟩
noncomputable def w1 (i:Nat):Int:=if i=0 then 1 else 0
noncomputable def w2 (i:Nat):Int:=if i=1 then 1 else 0
noncomputable def w3 (i:Nat):Int:=if i=2 then 1 else 0
noncomputable def hu (f g h:List Int):List Int:=pl (qm f (qm g h))
section
variable {f g h:List Int}
end
end D
end
section
namespace L2
open PySem PySem.Spec PyProof.Rows
section
end
end L2
namespace D
open PySem L2 K0 Num
open PySem.W (Dat)
section
end
noncomputable def hd (i j:Nat):Int:=if (i + 1) % 3=j then 1 else -1
noncomputable def le3 (i j k:Nat):Int:=if i=k then 0 else hd i j
end D
end
namespace D
open PySem L2 K0 Num
open PySem.W (Dat)
noncomputable def lea (i j k:Nat) (m n:Int):List Int:=ps (m * 1 + n * le3 i j k) (n * 1 - m * le3 i j k)
noncomputable def fstS (p q r s m n:Int):Int × Int:=if p * m + r * n=0/\q * m + s * n=0 then (p * m * 0 + q * m * 1,q * m * 0 - p * m * 1) else (p * m + r * n,q * m + s * n)
noncomputable def sby (i j k:Nat) (p q r s m n:Int):Dat:=.tuple [tI (ps (fstS p q r s m n).1 (fstS p q r s m n).2),tI (lea i j k m n),tI (ps (p * m * (fstS p q r s m n).2 + q * m * -(fstS p q r s m n).1) (q * m * (fstS p q r s m n).2 - p * m * -(fstS p q r s m n).1))]
noncomputable def rowD (x:List (List Int)):Dat:=.tuple (x.map tI)
section
end
noncomputable def sbyR (i j k:Nat) (p q r s m n:Int):List (List Int):=[ps (fstS p q r s m n).1 (fstS p q r s m n).2,lea i j k m n,ps (p * m * (fstS p q r s m n).2 + q * m * -(fstS p q r s m n).1) (q * m * (fstS p q r s m n).2 - p * m * -(fstS p q r s m n).1)]
theorem sby_row {i j k:Nat} {p q r s m n:Int}:sby i j k p q r s m n=rowD (sbyR i j k p q r s m n):=rfl
section
noncomputable def Pu3 (N:Nat) (H:Hp) (q:Addr):Prop:=∃ x c n:Int,H q=some (.lst [.int x,.int c,.int n])/\0<=n/\n<=N
structure P3 (q:Addr) (ip N:Nat) (W:Addr->Prop) (L:List Addr) (σ:St) (H:Hp):Prop where
  wq:W q
  lq:q ∉ L
  sq:σ[ip]?=some (some (.ref q))
  pu:Pu3 N H q
section
variable (q:Addr) (ip N M:Nat) (K:PySem.W.Frag)
noncomputable def E2 (te:TE) (τ:List Sl) (C:Sl->Prop):Prop:=∀ (W:Addr->Prop) (L:List Addr) (σ:St) (H:Hp) (Q:VK),Rs none W K H L σ τ->Ok none W H->P3 q ip N W L σ H->(∀ v H' s,C s->Ev (fun a=>a=q) H H'->Ok none W H'->Pu3 M H' q->Rv none W K H H' v s->Q v H')->te σ H Q
noncomputable def A2 (ta:TA) (τ:List Sl) (C:List Sl->Prop):Prop:=∀ (W:Addr->Prop) (L:List Addr) (σ:St) (H:Hp) (Q:List V->Hp->Prop),Rs none W K H L σ τ->Ok none W H->P3 q ip N W L σ H->(∀ vs H' ss,C ss->Ev (fun a=>a=q) H H'->Ok none W H'->Pu3 M H' q->Rvs none W K H H' vs ss->Q vs H')->ta σ H Q
noncomputable def T2 (tt:TT) (τ:List Sl) (C:Bool->Prop):Prop:=∀ (W:Addr->Prop) (L:List Addr) (σ:St) (H:Hp) (Q:Bool->Hp->Prop),Rs none W K H L σ τ->Ok none W H->P3 q ip N W L σ H->(∀ b H',C b->Ev (fun a=>a=q) H H'->Ok none W H'->Pu3 M H' q->Q b H')->tt σ H Q
noncomputable def S2 (ts:TS) (τ:List Sl) (nx:List Sl->Prop) (rt:Sl->Prop):Prop:=∀ (W:Addr->Prop) (L:List Addr) (σ:St) (H:Hp) (D:Ends),Rs none W K H L σ τ->Ok none W H->P3 q ip N W L σ H ->
  (∀ (W':Addr->Prop) (L':List Addr) σ' H' τ',nx τ'->Ev W H H'->Ok none W' H'->(∀ a,W a->∃ ys,H' a=some ys)->(∀ a,W' a->W a\/H a=none)->(∀ a,a ∈ L'->a ∈ L\/H a=none)->Rs none W' K H' L' σ' τ'->P3 q ip M W' L' σ' H'->D.nx σ' H') ->
  (∀ (W':Addr->Prop) H' v s,rt s->Ev W H H'->Ok none W' H'->(∀ a,W a->∃ ys,H' a=some ys)->(∀ a,W' a->W a\/H a=none)->Rr none W' K L H H' v s->Pu3 M H' q->D.rt v H')->ts D σ H
noncomputable abbrev EI2 (te:TE) (τ:List Sl) (P:Int->Prop):Prop:=E2 q ip N M K te τ (fun s=>∃ i,s = .dat (.int i)/\P i)
end
section
variable {q:Addr} {ip N M N1 M1:Nat} {K:PySem.W.Frag} {W:Addr->Prop} {L:List Addr} {σ:St} {H H0 H1 H2 H':Hp} {τ τ':List Sl} {ta tb te:TE} {tas:TA} {v:V} {s:Sl} {nx:List Sl->Prop} {rt:Sl->Prop} {t u:TS} {ds:List Dat} {tt:TT} {E':XK}
theorem Pu3.up (h:Pu3 N H q) (l:N<=M):Pu3 M H q:=by
  obtain ⟨x,c,n,e,h0,h1⟩:=h
  exact ⟨x,c,n,e,h0,by omega⟩
theorem Pu3.keep (h:Pu3 N H q) (e:Ev (Pp none) H H'):Pu3 N H' q:=by
  obtain ⟨x,c,n,e',h⟩:=h
  exact ⟨x,c,n,e.keep _ _ (fun z=>by cases z) e',h⟩
theorem Pu3.same (h:Pu3 N H q) (s:Same H H'):Pu3 N H' q:=h.keep (Ev.of s)
theorem ev_q (e:Ev (Pp none) H H'):Ev (fun a=>a=q) H H':=e.mono fun a z=>by cases z
theorem Rs.ev3 (r:Rs none W K H L σ τ) (e:Ev (fun a=>a=q) H H') (wq:W q):q ∉ L->Rs none W K H' L σ τ:=by
  have nw:∀ a,¬ W a->¬ a=q:=fun a n z=>n (z ▸ wq)
  induction r with
  | nil=>intro _;exact .nil
  | un _ ih=>intro l;exact .un (ih l)
  | dat h _ ih=>intro l;exact .dat (h.ev e nw) (ih l)
  | pu h _ ih=>cases h
  | own h1 h2 h3 h4 h5 _ ih =>
    intro l
    exact .own h1 h2 h3 (e.keep _ _ (fun z=>l (z ▸ List.mem_cons_self)) h4) (h5.ev e nw) (ih fun z=>l (List.mem_cons_of_mem _ z))
  | dt h1 h2 h3 h4 _ ih =>
    intro l
    exact .dt h1 h2 h3 (Own.ev _ h4 e nw fun b o hb h=>e.keep _ _ (fun z=>l (z ▸ List.mem_append_left _ hb)) h) (ih fun z=>l (List.mem_append_right _ z))
theorem Ok.ev3 (o:Ok none W H) (e:Ev (fun a=>a=q) H H') (pu:Pu3 M H' q):Ok none W H':=⟨fun a ha=>(by cases ha),fun a ha=>by
  by_cases z:a=q
  . subst z;obtain ⟨x,c,n,e,_⟩:=pu;exact ⟨_,e⟩
  . obtain ⟨ys,h⟩:=o.al a ha;exact ⟨ys,e.keep _ _ z h⟩⟩
theorem P3.to (h:P3 q ip N W L σ H) (pu:Pu3 M H' q):P3 q ip M W L σ H':=⟨h.wq,h.lq,h.sq,pu⟩
theorem P3.up (h:P3 q ip N W L σ H) (l:N<=M):P3 q ip M W L σ H:=h.to (h.pu.up l)
theorem Pu3.nn (h:Pu3 N H q):H q ≠ none:=fun z=>by obtain ⟨x,c,n,e,_⟩:=h;rw [z] at e;cases e
noncomputable def nvw:Sl->Bool
  | .vw _=>false
  | _=>true
theorem Rv.ev3 (h:Rv none W K H0 H v s) (hs:nvw s=true) (e:Ev (fun a=>a=q) H H1) (wq:W q) (nn:H0 q ≠ none):Rv none W K H0 H1 v s:=by
  have nw:∀ a,¬ W a->¬ a=q:=fun a n z=>n (z ▸ wq)
  cases s with
  | un=>trivial
  | dat d=>exact Dz.ev e nw h
  | pu=>exact h
  | own ds =>
    obtain ⟨a,vs,rfl,h1,h2,h3⟩:=h
    exact ⟨a,vs,rfl,h1,e.keep _ _ (fun z=>nn (z ▸ h1)) h2,h3.ev e nw⟩
  | dt ds =>
    obtain ⟨a,vs,rfl,h1,h2⟩:=h
    exact ⟨a,vs,rfl,h1,Own.ev _ h2 e nw fun b o hb h=>e.keep _ _ (fun z=>nn (z ▸ h1 b hb)) h⟩
  | vw ds=>cases hs
theorem none3 (e:Ev (fun a=>a=q) H H1) (pu:Pu3 M H1 q) {a:Addr} (h:H1 a=none):H a=none:=by
  cases z:H a with
  | none=>rfl
  | some u =>
    by_cases y:a=q
    . subst y;exact absurd h pu.nn
    . rw [e.keep _ _ y z] at h;cases h
theorem Rv.base3 (h:Rv none W K H1 H v s) (e:Ev (fun a=>a=q) H0 H1) (pu:Pu3 M H1 q):Rv none W K H0 H v s:=by
  cases s with
  | own ds=>obtain ⟨a,vs,rfl,h1,h2⟩:=h;exact ⟨a,vs,rfl,none3 e pu h1,h2⟩
  | dt ds=>obtain ⟨a,vs,rfl,h1,h2⟩:=h;exact ⟨a,vs,rfl,fun b hb=>none3 e pu (h1 b hb),h2⟩
  | _=>exact h
theorem ofq (e:Ev (fun a=>a=q) H H1) (wq:W q):Ev W H H1:=e.mono fun a z=>z ▸ wq
theorem E2.of {C:Sl->Prop} (h:E none K te τ C):E2 q ip N N K te τ C:=fun W L σ H Q r o p k=>h W L σ H Q r o fun v H' s c e o' rv=>k v H' s c (ev_q e) o' (p.pu.keep e) rv
theorem E2.mono {C C':Sl->Prop} (h:E2 q ip N M K te τ C) (m:∀ s,C s->C' s):E2 q ip N M K te τ C':=fun W L σ H Q r o p k=>h W L σ H Q r o p fun v H' s c=>k v H' s (m s c)
theorem E2.up {C:Sl->Prop} (h:E2 q ip N M K te τ C) (l:M<=M1):E2 q ip N M1 K te τ C:=fun W L σ H Q r o p k=>h W L σ H Q r o p fun v H' s c e o' pu=>k v H' s c e o' (pu.up l)
theorem EI2.of {i:Int} {P:Int->Prop} (h:E1 none K te τ (.dat (.int i))) (hp:P i):EI2 q ip N N K te τ P:=E2.of (E.mono h fun s e=>⟨i,e.symm,hp⟩)
theorem EI2.mono {P P':Int->Prop} (h:EI2 q ip N M K te τ P) (m:∀ i,P i->P' i):EI2 q ip N M K te τ P':=E2.mono h fun s ⟨i,e,hp⟩=>⟨i,e,m i hp⟩
theorem E2.op2 {r:R2} {A C:Sl->Prop} {B:Sl->Sl->Prop} (ha:E2 q ip N M1 K ta τ A) (hv:∀ s,A s->nvw s=true) (hb:∀ s,A s->E2 q ip M1 M K tb τ (B s))
    (hr:∀ s t,A s->B s t->∀ (W:Addr->Prop) (H0 H:Hp) (x y:V) (Q:VK),Ok none W H->Rv none W K H0 H x s->Rv none W K H0 H y t->(∀ v u,C u->Rv none W K H0 H v u->Q v H)->r x y H Q):E2 q ip N M K (tOp r ta tb) τ C :=
  fun W L σ H Q rs o p k=>ha W L σ H _ rs o p fun x H1 s cs e1 o1 p1 rv1=>hb s cs W L σ H1 _ (rs.ev3 e1 p.wq p.lq) o1 (p.to p1) fun y H2 t ct e2 o2 p2 rv2 =>
    hr s t cs ct W H H2 x y _ o2 (rv1.ev3 (hv s cs) e2 p.wq p.pu.nn) (rv2.base3 e1 p1) fun v u cu rv3=>k v H2 u cu (e1.trans e2) o2 p2 rv3
theorem EI2.op {g:Int->Int->Int} {P Q:Int->Prop} (ha:EI2 q ip N M1 K ta τ P) (hb:EI2 q ip M1 M K tb τ Q):EI2 q ip N M K (tOp (rI0 fun i j=>.int (g i j)) ta tb) τ (fun k=>∃ i j,P i/\Q j/\k=g i j) :=
  E2.op2 ha (fun s ⟨i,e,_⟩=>by rw [e];rfl) (fun _ _=>hb) fun s t ⟨i,e1,h1⟩ ⟨j,e2,h2⟩ W H0 H x y R o r1 r2 k=>by
    subst e1 e2
    exact ⟨i,j,r1.int_inv,r2.int_inv,k _ _ ⟨_,rfl,i,j,h1,h2,rfl⟩ (.int _)⟩
theorem EI2.opC {g:Int->Int->Int} {Cn:Int->Int->Prop} {P Q:Int->Prop} (ha:EI2 q ip N M1 K ta τ P) (hb:EI2 q ip M1 M K tb τ Q) (hc:∀ i j,P i->Q j->Cn i j):EI2 q ip N M K (tOp (rI Cn fun i j=>.int (g i j)) ta tb) τ (fun k=>∃ i j,P i/\Q j/\k=g i j) :=
  E2.op2 ha (fun s ⟨i,e,_⟩=>by rw [e];rfl) (fun _ _=>hb) fun s t ⟨i,e1,h1⟩ ⟨j,e2,h2⟩ W H0 H x y R o r1 r2 k=>by
    subst e1 e2
    exact ⟨i,j,r1.int_inv,r2.int_inv,hc i j h1 h2,k _ _ ⟨_,rfl,i,j,h1,h2,rfl⟩ (.int _)⟩
theorem EI2.p0:EI2 q ip N N K (tOp (rIxL K) (tVar ip) (tC (.int 0))) τ (fun _=>True):=fun W L σ H Q r o p k=>by
  obtain ⟨x,c,n,e,_⟩:=id p.pu
  exact ⟨_,p.sq,q,_,0,.int x,rfl,rfl,SqL.of e,rfl,k _ H _ ⟨x,rfl,trivial⟩ Ev.refl o p.pu (.int _)⟩
theorem EI2.p1:EI2 q ip N N K (tOp (rIxL K) (tVar ip) (tC (.int 1))) τ (fun _=>True):=fun W L σ H Q r o p k=>by
  obtain ⟨x,c,n,e,_⟩:=id p.pu
  exact ⟨_,p.sq,q,_,1,.int c,rfl,rfl,SqL.of e,rfl,k _ H _ ⟨c,rfl,trivial⟩ Ev.refl o p.pu (.int _)⟩
theorem EI2.p2:EI2 q ip N N K (tOp (rIxL K) (tVar ip) (tC (.int 2))) τ (fun n=>0<=n/\n<=N):=fun W L σ H Q r o p k=>by
  obtain ⟨x,c,n,e,h⟩:=id p.pu
  exact ⟨_,p.sq,q,_,2,.int n,rfl,rfl,SqL.of e,rfl,k _ H _ ⟨n,rfl,h⟩ Ev.refl o p.pu (.int _)⟩
theorem E2.pick {ms:List Dat} {P:Int->Prop} (hl:E1 none K ta τ (.own ms)) (hd:EI2 q ip N M K tb τ P) (hp:∀ d,P d->0<=d/\d < (ms.length:Int)):E2 q ip N M K (tOp (rIxL K) ta tb) τ (fun s=>∃ d,s = .dat d/\d ∈ ms) :=
  E2.op2 (E2.of hl) (fun s e=>by rw [<- e];rfl) (fun _ _=>hd) fun s t e1 ⟨j,e2,h2⟩ W H0 H x y R o r1 r2 k=>by
    subst e1 e2
    obtain ⟨a,vs,rfl,h1,h3,h4⟩:=r1
    cases r2.int_inv
    obtain ⟨j0,j1⟩:=hp j h2
    have hj:j.toNat < ms.length:=by omega
    obtain ⟨v,hv,zv⟩:=h4.get (show ms[j.toNat]?=some ms[j.toNat] by simp [hj])
    refine ⟨a,vs,j,v,rfl,rfl,SqL.of h3,?_,k v _ ⟨_,rfl,List.getElem_mem hj⟩ zv⟩
    unfold atI
    rw [ixN_of j0 (by rw [h4.len];exact j1)]
    exact hv
theorem EI2.pick {ms:List Int} {P:Int->Prop} (hl:E1 none K ta τ (.own (ms.map .int))) (hd:EI2 q ip N M K tb τ P) (hp:∀ d,P d->0<=d/\d < (ms.length:Int)):EI2 q ip N M K (tOp (rIxL K) ta tb) τ (fun m=>m ∈ ms) :=
  E2.mono (E2.pick hl hd fun d h=>by rw [List.length_map];exact hp d h) fun s ⟨d,e,h⟩=>by
    obtain ⟨m,hm,rfl⟩:=List.mem_map.mp h
    exact ⟨m,e,hm⟩
theorem A2.of {C:List Sl->Prop} (h:A none K tas τ C):A2 q ip N N K tas τ C:=fun W L σ H Q r o p k=>h W L σ H Q r o fun v H' s c e o' rv=>k v H' s c (ev_q e) o' (p.pu.keep e) rv
theorem A2.one {C:Sl->Prop} (h:E2 q ip N M K te τ C):A2 q ip N M K (tCons te tNil) τ (fun ss=>∃ s,ss=[s]/\C s):=fun W L σ H Q r o p k=>h W L σ H _ r o p fun v H' s c e o' pu rv=>k [v] H' [s] ⟨s,rfl,c⟩ e o' pu (.cons rv .nil)
theorem A2.cons {C1:Sl->Prop} {C2:Sl->List Sl->Prop} {C:List Sl->Prop} (ha:E2 q ip N M1 K te τ C1) (hv:∀ s,C1 s->nvw s=true) (hr:∀ s,C1 s->A2 q ip M1 M K tas τ (C2 s)) (m:∀ s ss,C1 s->C2 s ss->C (s :: ss)):A2 q ip N M K (tCons te tas) τ C:=fun W L σ H Q rs o p k =>
  ha W L σ H _ rs o p fun x H1 s cs e1 o1 p1 rv1=>hr s cs W L σ H1 _ (rs.ev3 e1 p.wq p.lq) o1 (p.to p1) fun ys H2 ss ct e2 o2 p2 rv2 =>
    k (x :: ys) H2 (s :: ss) (m s ss cs ct) (e1.trans e2) o2 p2 (.cons (rv1.ev3 (hv s cs) e2 p.wq p.pu.nn) (by
      clear k m ct
      induction rv2 with
      | nil=>exact .nil
      | cons a _ ih=>exact .cons (a.base3 e1 p1) ih))
noncomputable def spD (K:PySem.W.Frag) (c:Nat) (R:List Dat->(Dat->Prop)->Prop):Sp:=fun vs H Q _=>∃ q us ds C N,vs=V.ref q :: us/\Dzs (fun a=>a ≠ q) K H us ds/\Pu3 N H q/\N + c<=2 ^ 60/\R ds C/\∀ v H' d,C d->Ev (fun a=>a=q) H H'->Pu3 (N + c) H' q->Dz (fun a=>H a=none) K H' v d->Q v H'
theorem E2.call {c:Nat} {R:List Dat->(Dat->Prop)->Prop} {A:List Dat->Prop} {C:Dat->Prop} (ha:A2 q ip N M K tas τ (fun ss=>∃ ds,ss=ds.map .dat/\A ds)) (hr:∀ ds,A ds->∃ C0,R ds C0/\∀ d,C0 d->C d) (hm:M + c<=2 ^ 60):E2 q ip N (M + c) K (tCall (spD K c R) [] E' (tCons (tVar ip) tas)) τ (fun s=>∃ d,s = .dat d/\C d):=fun W L σ H Q rs o p k =>
  ⟨_,p.sq,ha W L σ H _ rs o p fun vs H1 ss ⟨ds,es,ad⟩ e1 o1 p1 rv=>by
    subst es
    obtain ⟨C0,r0,m0⟩:=hr ds ad
    show spD K c R ((V.ref q :: vs) ++ []) H1 Q E'
    rw [List.append_nil]
    refine ⟨q,vs,ds,C0,M,rfl,rv.dats.mono (fun a n (z:a=q)=>n (by rw [z];exact p.wq)),p1,hm,r0,fun v H' d c ev pu z=>?_⟩
    exact k v H' _ ⟨d,rfl,m0 d c⟩ (e1.trans ev) (o1.ev3 ev pu) pu (z.mono fun a ha=>o1.fresh ha)⟩
theorem E2.call1 {c:Nat} {R:List Dat->(Dat->Prop)->Prop} {ds:List Dat} {C:Dat->Prop} (ha:A1 none K tas τ (ds.map .dat)) (hr:R ds C) (hm:N + c<=2 ^ 60):E2 q ip N (N + c) K (tCall (spD K c R) [] E' (tCons (tVar ip) tas)) τ (fun s=>∃ d,s = .dat d/\C d) :=
  E2.call (A:=fun x=>x=ds) (A2.of (show A none K tas τ _ from fun W L σ H Q r o k=>ha W L σ H Q r o fun vs H' ss e=>k vs H' ss ⟨ds,e.symm,rfl⟩)) (fun x e=>by subst e;exact ⟨C,hr,fun _ h=>h⟩) hm
theorem S2.seq {X : List Sl -> Prop} (h1 : S2 q ip N M1 K t τ X rt) (h2 : ∀ τ', X τ' -> S2 q ip M1 M K u τ' nx rt) (hm : M1 <= M := by omega) : S2 q ip N M K (tSeq t u) τ nx rt := fun W L σ H D r o p q1 q2 =>
  h1 W L σ H _ r o p (fun W1 L1 σ1 H1 τ1 m e1 o1 w1 n1 l1 r1 p1=>by
    have hn:∀ a,H1 a=none->H a=none:=fun a ha=>e1.none w1 ha
    exact h2 τ1 m W1 L1 σ1 H1 D r1 o1 p1 (fun W2 L2 σ2 H2 τ2 c e2 o2 w2 n2 l2 r2 p2=>q1 W2 L2 σ2 H2 τ2 c (e1.chain e2 n1) o2 (al_chain w1 w2 e2)
        (fun a ha=>(n2 a ha).elim (n1 a) fun z=>.inr (hn a z)) (fun a ha=>(l2 a ha).elim (l1 a) fun z=>.inr (hn a z)) r2 p2)
      fun W2 H2 v s c e2 o2 w2 n2 rv p2=>q2 W2 H2 v s c (e1.chain e2 n1) o2 (al_chain w1 w2 e2) (fun a ha=>(n2 a ha).elim (n1 a) fun z=>.inr (hn a z)) (rv.base hn l1) p2) fun W' H' v s c e o' al n rv pu=>q2 W' H' v s c e o' al n rv (pu.up hm)
theorem S2.next (h:nx τ) (hm:N<=M:=by omega):S2 q ip N M K tNext τ nx rt:=fun W L σ H D r o p q1 q2=>q1 W L σ H τ h Ev.refl o o.al (fun _ h=>.inl h) (fun _ h=>.inl h) r (p.up hm)
theorem S2.ret {C:Sl->Prop} (h:E2 q ip N M1 K te τ C) (m:∀ s,C s->rt s) (hm:M1<=M:=by omega):S2 q ip N M K (tRet te) τ nx rt:=fun W L σ H D r o p q1 q2=>h W L σ H _ r o p fun v H' s c e o' pu rv=>q2 W H' v s (m s c) (ofq e p.wq) o' o'.al (fun _ h=>.inl h) rv.rr (pu.up hm)
theorem S2.ret1 (h:E1 none K te τ s) (m:rt s) (hm:N<=M:=by omega):S2 q ip N M K (tRet te) τ nx rt:=S2.ret (E2.of h) (fun x e=>e ▸ m) hm
theorem S2.asg {C:Sl->Prop} {i:Nat} (h:E2 q ip N M1 K te τ C) (hf:∀ s,C s->flat s=true/\s ≠ .pu) (m:∀ s,C s->nx (τ.set i s)) (hi:i ≠ ip:=by decide) (hm:M1<=M:=by omega):S2 q ip N M K (tAsg te (gName i)) τ nx rt:=fun W L σ H D r o p q1 q2=>h W L σ H _ r o p fun v H1 s c e o1 pu rv=>by
  obtain ⟨z,np⟩:=hf s c
  obtain ⟨L',l,r'⟩:=(r.ev3 e p.wq p.lq).set (v:=v) (s:=s) (by
    cases s with
    | un=>exact .inl rfl
    | dat d=>exact .inr (.inl ⟨d,rfl,rv⟩)
    | pu=>exact absurd rfl np
    | own ds=>cases z
    | dt ds=>cases z
    | vw ds=>cases z) i
  exact q1 W L' _ H1 _ (m s c) (ofq e p.wq) o1 o1.al (fun _ h=>.inl h) (fun a ha=>.inl (l a ha)) r' ⟨p.wq,fun z=>p.lq (l _ z),by rw [List.getElem?_set_ne hi];exact p.sq,pu.up hm⟩
theorem S2.letC {C:Dat->Prop} {i:Nat} (h:E2 q ip N M1 K te τ (fun s=>∃ d,s = .dat d/\C d)) (m:∀ d,C d->S2 q ip M1 M K u (τ.set i (.dat d)) nx rt) (hi:i ≠ ip:=by decide) (hm:M1<=M:=by omega):S2 q ip N M K (tSeq (tAsg te (gName i)) u) τ nx rt :=
  S2.seq (M1:=M1) (X:=fun τ'=>∃ d,C d/\τ'=τ.set i (.dat d)) (S2.asg h (fun s ⟨d,e,_⟩=>by rw [e];exact ⟨rfl,fun z=>by cases z⟩) (fun s ⟨d,e,c⟩=>⟨d,c,by rw [e]⟩) hi (Nat.le_refl _)) (fun τ' ⟨s,c,e⟩=>e ▸ m s c) hm
theorem S2.letI {P:Int->Prop} {i:Nat} (h:EI2 q ip N M1 K te τ P) (m:∀ n,P n->S2 q ip M1 M K u (τ.set i (.dat (.int n))) nx rt) (hi:i ≠ ip:=by decide) (hm:M1<=M:=by omega):S2 q ip N M K (tSeq (tAsg te (gName i)) u) τ nx rt :=
  S2.letC (C:=fun d=>∃ n,d = .int n/\P n) (E2.mono h fun s ⟨n,e,hn⟩=>⟨_,e,n,rfl,hn⟩) (fun d ⟨n,e,hn⟩=>by subst e;exact m n hn) hi hm
theorem S2.let1 {i:Nat} {d:Dat} {τ':List Sl} (h:E1 none K te τ (.dat d)) (m:S2 q ip N M K u τ' nx rt) (e:τ.set i (.dat d)=τ':=by rfl) (hi:i ≠ ip:=by decide) (hm:N<=M:=by omega):S2 q ip N M K (tSeq (tAsg te (gName i)) u) τ nx rt :=
  S2.letC (M1:=N) (C:=fun x=>x=d) (E2.of (E.mono h fun s e=>⟨d,e.symm,rfl⟩)) (fun x y=>by subst y;rw [e];exact m) hi hm
theorem S2.iff2 {tc:TT} {C:Bool->Prop} (h:T2 q ip N M1 K tc τ C) (ht:C true->S2 q ip M1 M K t τ nx rt) (hf:C false->S2 q ip M1 M K u τ nx rt):S2 q ip N M K (tIfS tc t u) τ nx rt:=fun W L σ H D r o p q1 q2=>h W L σ H _ r o p fun b H1 c e o1 pu=>by
  have e1:=ofq e p.wq
  have hn:∀ a,H1 a=none->H a=none:=fun a ha=>e1.none (fun a h=>o1.al a h) ha
  have go:∀ {t:TS},S2 q ip M1 M K t τ nx rt->t D σ H1:=fun h=>h W L σ H1 D (r.ev3 e p.wq p.lq) o1 (p.to pu) (fun W2 L2 σ2 H2 τ2 c e2 o2 w2 n2 l2 r2=>q1 W2 L2 σ2 H2 τ2 c (e1.trans e2) o2 (al_chain o1.al w2 e2) (fun a ha=>(n2 a ha).elim .inl fun z=>.inr (hn a z)) (fun a ha=>(l2 a ha).elim .inl fun z=>.inr (hn a z)) r2)
      fun W2 H2 v s c e2 o2 w2 n2 rv=>q2 W2 H2 v s c (e1.trans e2) o2 (al_chain o1.al w2 e2) (fun a ha=>(n2 a ha).elim .inl fun z=>.inr (hn a z)) (rv.base hn fun _ h=>.inl h)
  cases b with
  | true=>rw [if_pos rfl];exact go (ht c)
  | false=>rw [if_neg (by decide)];exact go (hf c)
theorem T2.of {tc:TT} {C:Bool->Prop} (h:T none K tc τ C):T2 q ip N N K tc τ C:=fun W L σ H Q r o p k=>h W L σ H Q r o fun b H' c e o'=>k b H' c (ev_q e) o' (p.pu.keep e)
theorem S2.ifs2 {tc:TT} {C:Bool->Prop} (h:T2 q ip N N1 K tc τ C) (ht:C true->S2 q ip N1 M1 K t τ (fun τ'=>S2 q ip M1 M K u τ' nx rt) rt) (hf:C false->S2 q ip M1 M K u τ nx rt) (h1:N1<=M1:=by omega) (h2:M1<=M:=by omega):S2 q ip N M K (tSeq (tIfS tc t tNext) u) τ nx rt :=
  S2.seq (M1:=M1) (X:=fun τ'=>S2 q ip M1 M K u τ' nx rt) (S2.iff2 h ht fun z=>S2.next (hf z) h1) (fun _ h=>h) h2
theorem S2.ifs {tc:TT} {C:Bool->Prop} (h:T none K tc τ C) (ht:C true->S2 q ip N M1 K t τ (fun τ'=>S2 q ip M1 M K u τ' nx rt) rt) (hf:C false->S2 q ip M1 M K u τ nx rt) (h1:N<=M1:=by omega) (h2:M1<=M:=by omega):S2 q ip N M K (tSeq (tIfS tc t tNext) u) τ nx rt:=S2.ifs2 (T2.of h) ht hf h1 h2
theorem T1.ofB {tc:TT} {b:Bool} (h:T1 none K tc τ b):T none K tc τ (fun x=>x=b):=fun W L σ H Q r o k=>h W L σ H Q r o fun x H' e=>k x H' e.symm
theorem S2.setP0 {P:Int->Prop} (he:EI2 q ip N M1 K te τ P) (m:nx τ) (hm:M1<=M:=by omega):S2 q ip N M K (tAsg te (gSub (tVar ip) (tC (.int 0)) rSetL)) τ nx rt:=fun W L σ H D r o p q1 q2 =>
  he W L σ H _ r o p fun v H1 s ⟨k,e0,_⟩ e1 o1 p1 rv=>by
    subst e0
    cases rv.int_inv
    obtain ⟨x,c,n,e,h⟩:=id p1
    have ev:Ev (fun b=>b=q) H1 (upd H1 q (.lst [.int k,.int c,.int n])):=⟨fun b o n h=>by rw [upd_ne n];exact h,Tm.lst e _⟩
    have pu:Pu3 M (upd H1 q (.lst [.int k,.int c,.int n])) q:=⟨k,c,n,upd_same,h.1,by omega⟩
    have o2:=o1.ev3 ev pu
    exact ⟨_,p.sq,q,_,0,0,rfl,rfl,e,rfl,q1 W L σ _ τ m (ofq (e1.trans ev) p.wq) o2 o2.al (fun _ h=>.inl h) (fun _ h=>.inl h) (r.ev3 (e1.trans ev) p.wq p.lq) (p.to pu)⟩
theorem S2.setP2 {P:Int->Prop} (he:EI2 q ip N M1 K te τ P) (hP:∀ n,P n->0<=n/\n<=M) (m:nx τ):S2 q ip N M K (tAsg te (gSub (tVar ip) (tC (.int 2)) rSetL)) τ nx rt:=fun W L σ H D r o p q1 q2 =>
  he W L σ H _ r o p fun v H1 s ⟨k,e0,hk⟩ e1 o1 p1 rv=>by
    subst e0
    cases rv.int_inv
    obtain ⟨x,c,n,e,h⟩:=id p1
    have ev:Ev (fun b=>b=q) H1 (upd H1 q (.lst [.int x,.int c,.int k])):=⟨fun b o n h=>by rw [upd_ne n];exact h,Tm.lst e _⟩
    have pu:Pu3 M (upd H1 q (.lst [.int x,.int c,.int k])) q:=⟨x,c,k,upd_same,hP k hk⟩
    have o2:=o1.ev3 ev pu
    exact ⟨_,p.sq,q,_,2,2,rfl,rfl,e,rfl,q1 W L σ _ τ m (ofq (e1.trans ev) p.wq) o2 o2.al (fun _ h=>.inl h) (fun _ h=>.inl h) (r.ev3 (e1.trans ev) p.wq p.lq) (p.to pu)⟩
end
end
section
section
variable {p:Option Addr} {q:Addr} {ip N M:Nat} {K:PySem.W.Frag} {W:Addr->Prop} {L:List Addr} {σ:St} {H H1 H2 H':Hp} {τ τ':List Sl} {tb te:TE} {tas:TA} {v:V} {s:Sl} {nx:List Sl->Prop} {rt:Sl->Prop} {t u:TS} {ds:List Dat} {wi:TI}
theorem E1.max2 {a b:Int} (ha:A1 p K tas τ [.dat (.int a),.dat (.int b)]):E1 p K (tCB (fun xs H Q=>∃ i j,xs=[.int i,.int j]/\Q (.int (if j > i then j else i)) H) tas) τ (.dat (.int (if b > a then b else a))):=fun W L σ H Q rs o k=>ha W L σ H _ rs o fun vs H1 ss e e1 o1 rv=>by
  subst e
  cases rv with
  | cons x r =>
    cases r with
    | cons y r =>
      cases r
      cases x.int_inv
      cases y.int_inv
      exact ⟨a,b,rfl,k _ H1 _ rfl e1 o1 (.int _)⟩
theorem Rs.evX {X:Addr->Prop} (r:Rs none W K H L σ τ) (e:Ev X H H') (nw:∀ a,¬ W a->¬ X a):(∀ a,a ∈ L->¬ X a)->Rs none W K H' L σ τ:=by
  induction r with
  | nil=>intro _;exact .nil
  | un _ ih=>intro l;exact .un (ih l)
  | dat h _ ih=>intro l;exact .dat (h.ev e nw) (ih l)
  | pu h _ ih=>cases h
  | own h1 h2 h3 h4 h5 _ ih =>
    intro l
    exact .own h1 h2 h3 (e.keep _ _ (l _ List.mem_cons_self) h4) (h5.ev e nw) (ih fun a z=>l a (List.mem_cons_of_mem _ z))
  | dt h1 h2 h3 h4 _ ih =>
    intro l
    exact .dt h1 h2 h3 (Own.ev _ h4 e nw fun b o hb h=>e.keep _ _ (l _ (List.mem_append_left _ hb)) h) (ih fun a z=>l a (List.mem_append_right _ z))
theorem E2.comp {c:Nat} {Cd:Dat->Prop} (hw:Wk none K wi τ ds) (turn:∀ (i:Nat) d,ds[i]?=some d->E2 q (ip + 1) (N + i * c) (N + (i + 1) * c) K te (.dat d :: τ) (fun s=>∃ e,s = .dat e/\Cd e)) (hz:ds.length<=sizeLine) :
    E2 q ip N (N + ds.length * c) K (tCompB 1 wi (gName 0) tAll te) τ (fun s=>∃ es,s = .own es/\es.length=ds.length/\∀ e,e ∈ es->Cd e):=fun W L σ H Q r o p k=>by
  refine hw W L σ H _ r o fun J H1 e1 o1 jd=>?_
  intro D hD
  have nD:=o1.fresh hD
  have r1:=r.ev e1 o.pw
  have p1:Pu3 N H1 q:=p.pu.keep e1
  have qD:q ≠ D:=fun z=>p1.nn (z ▸ hD)
  have r1':Rs none (fun b=>W b\/b=D) K H1 L σ τ:=r1.wide (fun _ h=>.inl h) fun b hb nb=>(hb.resolve_left nb) ▸ hD
  have lD:∀ a,a ∈ L->¬ (a=q\/a=D):=fun a ha z=>z.elim (fun y=>p.lq (y ▸ ha)) fun y=>by
    obtain ⟨vs,h⟩:=r1.own_in a ha
    rw [y,hD] at h;cases h
  refine ⟨fun i m σ' H'=>m=ds.length - i/\i<=ds.length/\(∃ ρ,ρ.length=1/\σ'=ρ ++ σ)/\Ev (fun a=>a=q\/a=D) H1 H'/\Pu3 (N + i * c) H' q/\∃ (vs:List V) (es:List Dat),H' D=some (.lst vs)/\Dzs (fun b=>¬ (W b\/b=D)) K H' vs es/\es.length=i/\∀ e,e ∈ es->Cd e,
    ⟨ds.length,by omega,Nat.zero_le _,⟨List.replicate 1 none,by simp,rfl⟩,⟨fun b u nb h=>by rw [upd_ne (fun z=>nb (.inr z))];exact h,(Same.new hD _).tm⟩,(p1.same (Same.new hD _)).up (by omega),[],[],upd_same,.nil,rfl,fun e h=>by cases h⟩,?_⟩
  rintro i m σ' H' ⟨rfl,hi,⟨ρ,lρ,rfl⟩,ev,pu,vs,es,hv,zv,le,hes⟩
  have evW:Ev W H1 H':=⟨fun b u nb h=>ev.keep b u (fun z=>z.elim (fun y=>nb (y ▸ p.wq)) fun y=>by rw [y] at h;rw [hD] at h;cases h) h,ev.tm⟩
  have ok':Ok none (fun b=>W b\/b=D) H':=⟨fun q hq=>(by cases hq),fun b hb=>by
    by_cases z:b=D
    . subst z;exact ⟨_,hv⟩
    . by_cases y:b=q
      . subst y;obtain ⟨x1,x2,x3,h,_⟩:=pu;exact ⟨_,h⟩
      . obtain ⟨ys,h⟩:=o1.al b (hb.resolve_right z)
        exact ⟨ys,ev.keep _ _ (fun w=>w.elim y z) h⟩⟩
  have rs':Rs none (fun b=>W b\/b=D) K H' L σ τ:=Rs.evX r1' ev (fun a ha (z:a=q\/a=D)=>ha (z.imp (fun y=>by rw [y];exact p.wq) id)) lD
  obtain ⟨stop,each⟩:=jd (fun b=>W b\/b=D) H' evW fun a ha=>ha.imp id fun z=>by rw [z];exact hD
  have o1f:H D=none:=o1.back e1 hD
  by_cases hlt:i < ds.length
  . have hd:ds[i]?=some ds[i]:=by simp [hlt]
    obtain ⟨go,yl⟩:=each i _ hd
    refine .inr ⟨go,fun x H2 y=>?_⟩
    obtain ⟨s2,z2⟩:=yl x H2 y
    have ok2:=ok'.same s2
    match ρ,lρ with
    | [o'],_ =>
    dsimp only [gName,List.cons_append,List.nil_append,List.set_cons_zero]
    have rs2:Rs none (fun b=>W b\/b=D) K H2 L (some x :: σ) (.dat ds[i] :: τ):=.dat z2 (rs'.ev (Ev.of s2) ok'.pw)
    refine (T1.all (p:=none) (K:=K) (τ:=.dat ds[i] :: τ)) _ L _ H2 _ rs2 ok2 fun b H4 eb e4 o4=>?_
    subst eb
    rw [if_pos rfl]
    have p4:Pu3 (N + i * c) H4 q:=(pu.same s2).keep e4
    refine turn i _ hd _ L _ H4 _ (rs2.ev e4 ok2.pw) o4 ⟨.inl p.wq,p.lq,p.sq,p4⟩ fun v H5 s cs e5 o5 p5 rv=>?_
    obtain ⟨e,rfl,ce⟩:=cs
    have hv4:H4 D=some (.lst vs):=e4.keep _ _ (fun z=>by cases z) (s2 _ _ hv)
    have hv5:H5 D=some (.lst vs):=e5.keep _ _ (fun z=>qD z.symm) hv4
    have nq:∀ a,¬ (W a\/a=D)->¬ a=q:=fun a ha z=>ha (.inl (z ▸ p.wq))
    have zv5:Dzs (fun b=>¬ (W b\/b=D)) K H5 vs es:=((zv.ev (W:=fun _=>False) (Ev.of s2) fun _ _ h=>h).ev e4 fun a ha z=>by cases z).ev e5 nq
    have ll:vs.length=i:=by rw [zv.len,le]
    have evu:Ev (fun b=>b=D) H5 (upd H5 D (.lst (vs ++ [v]))):=⟨fun b o n h=>by rw [upd_ne n];exact h,Tm.lst hv5 _⟩
    have ev4:Ev (fun a=>a=q\/a=D) H' H4:=(Ev.of s2).trans (e4.mono fun _ h=>by cases h)
    refine ⟨vs,hv5,by omega,ds.length - (i + 1),by omega,rfl,hlt,⟨[some x],rfl,rfl⟩,(ev.trans (ev4.trans (e5.mono fun _ h=>.inl h))).trans (evu.mono fun _ h=>.inr h),?_,vs ++ [v],es ++ [e],upd_same,(zv5.app (.cons rv .nil)).ev evu fun b hb z=>hb (.inr z),by rw [List.length_append,le];rfl,fun f hf=>?_⟩
    . obtain ⟨x1,x2,x3,h,h'⟩:=p5
      exact ⟨x1,x2,x3,by rw [upd_ne qD];exact h,h'⟩
    . rcases List.mem_append.mp hf with h | h
      . exact hes f h
      . rcases List.mem_singleton.mp h with rfl;exact ce
  . have e:i=ds.length:=by omega
    subst e
    have evP:Ev (fun a=>a=q) H1 H':=⟨fun b u nb h=>ev.keep b u (fun z=>z.elim nb fun y=>by rw [y] at h;rw [hD] at h;cases h) h,ev.tm⟩
    exact .inl ⟨stop,k _ H' _ ⟨es,rfl,le,hes⟩ ((ev_q e1).trans evP) (o1.ev3 evP pu) pu ⟨D,vs,rfl,o1f,hv,zv.mono fun a ha z=>ha (.inl z)⟩⟩
theorem S2.for {c i:Nat} {tb:TS} (hw:Wk none K wi τ ds) (I:Nat->List Sl->Prop) (h0:I 0 τ) (turn:∀ (k:Nat) d τ1,ds[k]?=some d->I k τ1->S2 q ip (N + k * c) (N + (k + 1) * c) K tb (τ1.set i (.dat d)) (I (k + 1)) rt) (done:∀ τ1,I ds.length τ1->nx τ1) (hi:i ≠ ip:=by decide) (hm:N + ds.length * c<=M:=by omega):S2 q ip N M K (tFor wi (gName i) tb) τ nx rt:=fun W L σ H D r o p q1 q2=>by
  refine hw W L σ H _ r o fun J H1 e1 o1 jd=>?_
  have ew:=e1.ofP o
  have hn:∀ a,H1 a=none->H a=none:=fun a ha=>ew.none o1.al ha
  refine ⟨fun i m σ' H'=>m=ds.length - i/\i<=ds.length/\∃ (W':Addr->Prop) (L':List Addr) (τ1:List Sl),I i τ1/\Ev W H1 H'/\Ok none W' H'/\(∀ a,W a->∃ ys,H' a=some ys)/\(∀ a,W' a->W a\/H1 a=none)/\(∀ a,a ∈ L'->a ∈ L\/H1 a=none)/\Rs none W' K H' L' σ' τ1/\P3 q ip (N + i * c) W' L' σ' H',
    ⟨ds.length,by omega,Nat.zero_le _,W,L,τ,h0,Ev.refl,o1,o1.al,fun _ h=>.inl h,fun _ h=>.inl h,r.ev e1 o.pw,(p.to (p.pu.keep e1)).up (by omega)⟩,?_⟩
  rintro k m σ' H' ⟨rfl,hk,W',L',τ1,hI,ev,ok,al,nn,ll,rs,p'⟩
  obtain ⟨stop,each⟩:=jd W' H' ev nn
  by_cases hlt:k < ds.length
  . have hd:ds[k]?=some ds[k]:=by simp [hlt]
    obtain ⟨go,yl⟩:=each k _ hd
    have hb:=turn k _ τ1 hd hI
    have kc:N + (k + 1) * c<=M:=Nat.le_trans (Nat.add_le_add_left (Nat.mul_le_mul_right c hlt) N) hm
    refine .inr ⟨go,fun σ'' H''=>ds.length - (k + 1)=ds.length - (k + 1)/\k + 1<=ds.length/\∃ (W':Addr->Prop) (L':List Addr) (τ1:List Sl),I (k + 1) τ1/\Ev W H1 H''/\Ok none W' H''/\(∀ a,W a->∃ ys,H'' a=some ys)/\(∀ a,W' a->W a\/H1 a=none)/\(∀ a,a ∈ L'->a ∈ L\/H1 a=none)/\Rs none W' K H'' L' σ'' τ1/\P3 q ip (N + (k + 1) * c) W' L' σ'' H'',fun σ'' H'' h=>⟨_,by omega,h⟩,fun x H2 y=>?_⟩
    obtain ⟨s2,z2⟩:=yl x H2 y
    have e2:Ev (Pp none) H' H2:=Ev.of s2
    have o2:=ok.same s2
    have ev2:Ev W H1 H2:=ev.trans (Ev.of s2)
    have al2:∀ a,W a->∃ ys,H2 a=some ys:=fun a ha=>let ⟨ys,h⟩:=al a ha;⟨ys,s2 _ _ h⟩
    have hn2:∀ a,H2 a=none->H1 a=none:=fun a ha=>ev2.none al2 ha
    obtain ⟨L3,l3,rs3⟩:=(rs.ev e2 ok.pw).set (v:=x) (s:=.dat ds[k]) (.inr (.inl ⟨_,rfl,z2⟩)) i
    refine hb W' L3 _ H2 _ rs3 o2 ⟨p'.wq,fun z=>p'.lq (l3 _ z),by rw [List.getElem?_set_ne hi];exact p'.sq,p'.pu.same s2⟩ (fun W4 L4 σ4 H4 τ4 c e4 o4 w4 n4 l4 r4 p4=>?_) (fun W4 H4 v s c e4 o4 w4 n4 rv p4=>?_)
    . exact ⟨rfl,hlt,W4,L4,τ4,c,ev2.chain e4 nn,o4,al_chain al2 w4 e4,fun a ha=>(n4 a ha).elim (nn a) fun z=>.inr (hn2 a z),fun a ha=>(l4 a ha).elim (fun z=>ll a (l3 a z)) fun z=>.inr (hn2 a z),r4,p4⟩
    . have nn':∀ a,W' a->W a\/H a=none:=fun a ha=>(nn a ha).imp id (hn a)
      refine q2 W4 H4 v s c ((ew.trans ev2).chain e4 nn') o4 (al_chain al2 w4 e4) (fun a ha=>(n4 a ha).elim (nn' a) fun z=>.inr (hn a (hn2 a z))) (rv.base (fun a z=>hn a (hn2 a z)) fun a ha=>?_) (p4.up kc)
      exact (ll a (l3 a ha)).imp id (hn a)
  . have e:k=ds.length:=by omega
    subst e
    exact .inl ⟨stop,q1 W' L' σ' H' τ1 (done τ1 hI) (ew.trans ev) ok al (fun a ha=>(nn a ha).imp id (hn a)) (fun a ha=>(ll a ha).imp id (hn a)) rs (p'.up hm)⟩
variable {P:Program} {w:World} {mg:Str->Option Value} {base:Heap}
theorem okD {x qual:Str} {st:Stmt} {f:Addr} {fd:FuncData} {N ps:List Str} {k c:Nat} {R:List Dat->(Dat->Prop)->Prop} (F:Fun K x qual st f fd) (S0:FnScope N ps (defScope st)) (len:∀ ds C,R ds C->ds.length + 1=ps.length)
    (body:∀ (cdv:Value) (A:Around) (outer:List Env) (s:Shared) (H:Hp) (E:XK),Room k (A.deeper (PyProof.Rows.envOfC qual (defScope st) s.heap.objs.size f cdv)) ->
      ∃ t,ZSs (cxOf CX0 P w K mg base N qual (defScope st) f cdv A outer s H E).nox (defBody st) t/\∀ (q:Addr) (n:Nat) ds C,n + c<=2 ^ 60->R ds C->S2 q 0 n (n + c) K t (.un :: ds.map .dat ++ List.replicate (N.length - ps.length) .un) (fun _=>False) (fun s=>∃ d,C d/\Gives d s)):FnOk P w K mg base CX0 (k + 1) f fd ps (spD K c R):=by
  refine F.okZ S0 (fun vs H Q E h=>?_) (fun cdv A outer s H vs Q E hr h=>?_)
  . obtain ⟨q,us,ds,C,n,rfl,z,_,_,r,_⟩:=h;rw [List.length_cons,z.len];exact len ds C r
  . obtain ⟨q0,us,ds,C,n,rfl,z,pu,nc,r,k⟩:=h
    obtain ⟨t,hz,hs⟩:=body cdv A outer s H E hr
    refine ⟨t,hz,?_⟩
    have l:(V.ref q0 :: us).length=ps.length:=by rw [List.length_cons,z.len];exact len ds C r
    have r0:Rs none (fun a=>a=q0) K H [] (L2.start N (.ref q0 :: us)) (.un :: ds.map .dat ++ List.replicate (N.length - ps.length) .un):=by
      unfold L2.start
      rw [l]
      exact .un (rs_start _ z fun a h=>h)
    have o0:Ok none (fun a=>a=q0) H:=⟨fun q h=>(by cases h),fun a h=>by obtain ⟨x,y,z,e,_⟩:=pu;exact ⟨_,by rw [h];exact e⟩⟩
    refine hs q0 n ds C nc r (fun a=>a=q0) [] _ H _ r0 o0 ⟨rfl,fun h=>(by cases h),rfl,pu⟩ (fun W' L' σ' H' τ' e ev o' al n l r'=>e.elim) (fun W' H' v s e ev o' al n rv pu'=>?_)
    obtain ⟨d,c,e⟩:=e
    cases s with
    | dat d' =>
      obtain ⟨rfl,nl⟩:=e
      exact k v H' _ c ev pu' (Dz.free rv nl)
    | own es =>
      obtain ⟨rfl,nl⟩:=e
      obtain ⟨a,vs,rfl,h1,h2,h3⟩:=rv
      exact k _ H' _ c ev pu' (.lst (.inl ⟨h1.resolve_left (fun z=>by cases z),.inl h2⟩) (h3.free nl))
    | dt es=>cases e
    | un=>cases e
    | pu=>cases e
    | vw ds=>cases e
noncomputable def spN (K:PySem.W.Frag) (R:List Dat->List Dat->Prop):Sp:=fun vs H Q _=>∃ ds es,Dzs (fun _=>True) K H vs ds/\R ds es/\∀ a H' ws,Same H H'->H a=none->H' a=some (.lst ws)->Dzs (fun _=>True) K H' ws es->Q (.ref a) H'
theorem okN {x qual:Str} {st:Stmt} {f:Addr} {fd:FuncData} {N ps:List Str} {k:Nat} {R:List Dat->List Dat->Prop} (F:Fun K x qual st f fd) (S0:FnScope N ps (defScope st)) (len:∀ ds d,R ds d->ds.length=ps.length)
    (body:∀ (cdv:Value) (A:Around) (outer:List Env) (s:Shared) (H:Hp) (E:XK),Room k (A.deeper (PyProof.Rows.envOfC qual (defScope st) s.heap.objs.size f cdv)) ->
      ∃ t,ZSs (cxOf CX0 P w K mg base N qual (defScope st) f cdv A outer s H E).nox (defBody st) t/\∀ ds es,R ds es->S none K t (ds.map .dat ++ List.replicate (N.length - ps.length) .un) (fun _=>False) (fun s=>s = .own es)):FnOk P w K mg base CX0 (k + 1) f fd ps (spN K R):=by
  refine F.okZ S0 (fun vs H Q E h=>?_) (fun cdv A outer s H vs Q E hr h=>?_)
  . obtain ⟨ds,d,z,r,_⟩:=h;rw [z.len];exact len ds d r
  . obtain ⟨ds,es,z,r,q⟩:=h
    obtain ⟨t,hz,hs⟩:=body cdv A outer s H E hr
    refine ⟨t,hz,?_⟩
    have l:vs.length=ps.length:=by rw [z.len];exact len ds es r
    have r0:Rs none (fun _=>False) K H [] (L2.start N vs) (ds.map .dat ++ List.replicate (N.length - ps.length) .un):=by
      unfold L2.start
      rw [l]
      exact rs_start _ z fun a _ h=>h
    have same:∀ {H':Hp},Ev (fun _=>False) H H'->Same H H':=fun e b o h=>e.keep b o (fun z=>z) h
    refine hs ds es r (fun _=>False) [] _ H _ r0 ⟨fun q h=>(by cases h),fun a h=>False.elim h⟩ (fun W' L' σ' H' τ' e ev o' al n l r'=>e.elim) (fun W' H' v s e ev o' al n rv=>?_)
    subst e
    obtain ⟨a,vs,rfl,h1,h2,h3⟩:=rv
    exact q a H' vs (same ev) (h1.resolve_left (fun z=>by cases z)) h2 (h3.mono fun _ _=>trivial)
end
end
section
section
variable {p:Option Addr} {q:Addr} {ip N M M1:Nat} {K:PySem.W.Frag} {τ:List Sl} {ta tb te:TE} {tas:TA} {E':XK}
theorem E2.tupC {C:List Dat->Prop} (h:E2 q ip N M K te τ (fun s=>∃ es,s = .own es/\C es)):E2 q ip N M K (tCB (fun xs H Q=>∃ p ys,xs=[.ref p]/\((SqL K H p ys/\∀ l,H l=none->Q (.ref l) (upd H l (.tup ys)))\/(SqT K H p ys/\Q (.ref p) H))) (tCons te tNil)) τ (fun s=>∃ d,s = .dat d/\∃ es,d = .tuple es/\C es):=fun W L σ H Q rs o pq k =>
  h W L σ H _ rs o pq fun v H1 s ⟨es,e,c⟩ e1 o1 p1 rv=>by
    subst e
    obtain ⟨a,vs,rfl,h0,h1,h2⟩:=rv
    refine ⟨a,_,rfl,.inl ⟨SqL.of h1,fun r hr=>?_⟩⟩
    have s:=Same.new hr (.tup vs)
    exact k _ _ _ ⟨_,rfl,es,rfl,c⟩ (e1.trans (Ev.of s)) (o1.same s) (p1.same s) (.tup (SqT.of upd_same) (h2.ev (W:=fun _=>False) (Ev.of s) fun _ _ h=>h))
theorem T2.cmp {g:Int->Int->Bool} {P Q:Int->Prop} (ha:EI2 q ip N M1 K ta τ P) (hb:EI2 q ip M1 M K tb τ Q):T2 q ip N M K (tTest (tOp (rI0 fun i j=>.bl (g i j)) ta tb)) τ (fun b=>∃ i j,P i/\Q j/\b=g i j):=fun W L σ H R rs o pq k =>
  ha W L σ H _ rs o pq fun x H1 s ⟨i,e,hi⟩ e1 o1 p1 rv=>hb W L σ H1 _ (rs.ev3 e1 pq.wq pq.lq) o1 (pq.to p1) fun y H2 t ⟨j,e',hj⟩ e2 o2 p2 rv2=>by
    subst e e'
    cases rv.int_inv
    cases rv2.int_inv
    exact ⟨i,j,rfl,rfl,_,rfl,k _ H2 ⟨i,j,hi,hj,rfl⟩ (e1.trans e2) o2 p2⟩
theorem T2.eq {P Q:Int->Prop} (ha:EI2 q ip N M1 K ta τ P) (hb:EI2 q ip M1 M K tb τ Q):T2 q ip N M K (tTest (tOp rEq ta tb)) τ (fun b=>∃ i j,P i/\Q j/\b=decide (i=j)):=fun W L σ H R rs o pq k =>
  ha W L σ H _ rs o pq fun x H1 s ⟨i,e,hi⟩ e1 o1 p1 rv=>hb W L σ H1 _ (rs.ev3 e1 pq.wq pq.lq) o1 (pq.to p1) fun y H2 t ⟨j,e',hj⟩ e2 o2 p2 rv2=>by
    subst e e'
    cases rv.int_inv
    cases rv2.int_inv
    refine ⟨rfl,_,rfl,k _ H2 ⟨i,j,hi,hj,?_⟩ (e1.trans e2) o2 p2⟩
    rw [decide_eq_decide];exact ⟨fun h=>by injection h,fun h=>by rw [h]⟩
theorem E1.b2i {b:Bool} (h:A1 p K tas τ [.dat (.bool b)]):E1 p K (tCB (fun xs H Q=>(∃ i,xs=[.int i]/\Q (.int i) H)\/∃ k,xs=[.bl k]/\Q (.int (if k then 1 else 0)) H) tas) τ (.dat (.int (if b then 1 else 0))):=fun W L σ H Q rs o q=>h W L σ H _ rs o fun vs H1 ss e e1 o1 rv=>by
  subst e
  cases rv with
  | cons a t =>
    cases t
    cases a.bl_inv
    exact .inr ⟨b,rfl,q _ H1 _ rfl e1 o1 (.int _)⟩
theorem E2.callP {R:List Dat->Dat->Prop} {A:List Dat->Prop} {C:Dat->Prop} (ha:A2 q ip N M K tas τ (fun ss=>∃ ds,ss=ds.map .dat/\A ds)) (hr:∀ ds,A ds->∃ d,R ds d/\C d):E2 q ip N M K (tCall (spP K R) [] E' tas) τ (fun s=>∃ d,s = .dat d/\C d):=fun W L σ H Q rs o p k =>
  ha W L σ H _ rs o p fun vs H1 ss ⟨ds,es,ad⟩ e1 o1 p1 rv=>by
    subst es
    obtain ⟨d,r0,cd⟩:=hr ds ad
    show spP K R (vs ++ []) H1 Q E'
    rw [List.append_nil]
    exact ⟨ds,d,rv.dats.mono fun _ _=>trivial,r0,fun v H' s z=>k v H' _ ⟨d,rfl,cd⟩ (e1.trans (Ev.of s)) (o1.same s) (p1.same s) (z.mono fun a ha=>o1.fresh ha)⟩
theorem A2.ints2 {P Q:Int->Prop} (ha:EI2 q ip N M1 K ta τ P) (hb:EI2 q ip M1 M K tb τ Q):A2 q ip N M K (tCons ta (tCons tb tNil)) τ (fun ss=>∃ ds,ss=ds.map .dat/\∃ i j,ds=[.int i,.int j]/\P i/\Q j) :=
  A2.cons ha (fun s ⟨i,e,_⟩=>by rw [e];rfl) (fun _ _=>A2.one hb) fun s ss ⟨i,e,hi⟩ ⟨t,et,j,ej,hj⟩=>⟨[.int i,.int j],by rw [e,et,ej];rfl,i,j,rfl,hi,hj⟩
theorem A2.int1 {P:Int->Prop} (ha:EI2 q ip N M K ta τ P):A2 q ip N M K (tCons ta tNil) τ (fun ss=>∃ ds,ss=ds.map .dat/\∃ i,ds=[.int i]/\P i):=fun W L σ H Q r o p k=>A2.one ha W L σ H Q r o p fun vs H' ss ⟨t,et,j,ej,hj⟩=>k vs H' ss ⟨[.int j],by rw [et,ej];rfl,j,rfl,hj⟩
theorem EI2.lit {i:Int}:EI2 q ip N N K (tC (.int i)) τ (fun j=>j=i):=EI2.of E1.int rfl
end
noncomputable def cellAt (sc:List Int) (k:Int):Int:=sc.getD k.toNat 0
noncomputable def RAt3:List Dat->Dat->Prop:=fun ds d=>∃ (sc:List Int) (k:Int),ds=[.list (sc.map .int),.int k]/\0<=k/\d = .int (cellAt sc k)
noncomputable def mx3 (c k:Int):Int:=((c * 1103515245 + 7919 * k * k + k) % 2147483647 * ((c * 1103515245 + 7919 * k * k + k) % 2147483647) % 2147483629) * 69621 % 2147483587
noncomputable def RMix3:List Dat->Dat->Prop:=fun ds d=>∃ c k:Int,ds=[.int c,.int k]/\0<=k/\k<=2 ^ 61/\d = .int (mx3 c k)
noncomputable def RPur3:List Dat->List Dat->Prop:=fun ds es=>∃ (sc:List Int) (k:Int),ds=[.list (sc.map .int),.int k]/\0<=k/\k < 64/\es=[.int (if 0 > cellAt sc k - 10 ^ 18 then 0 else cellAt sc k - 10 ^ 18),.int (cellAt sc k),.int (1000 * k)]
noncomputable def RDraw3:List Dat->(Dat->Prop)->Prop:=fun ds C=>∃ m:Int,ds=[.int m]/\0 < m/\m < 2 ^ 200/\C=fun d=>∃ i:Int,d = .int i/\0<=i/\i < m
noncomputable def RSm3:List Dat->(Dat->Prop)->Prop:=fun ds C=>∃ m:Int,ds=[.int m]/\0 < m/\m < 2 ^ 190/\C=fun d=>∃ i:Int,d = .int i /\ -m<=i/\i<=m
noncomputable def RFour3:List Dat->(Dat->Prop)->Prop:=fun ds C=>∃ m:Int,ds=[.int m]/\0 < m/\m < 2 ^ 190/\C=fun d=>∃ w x y z:Int,d=tI [w,x,y,z]/\(∃ n ∈ [w,x,y,z],n ≠ 0)/\Bd m.toNat [w,x,y,z]
theorem E2.drawn {q:Addr} {ip N:Nat} {K:PySem.W.Frag} {τ:List Sl} {tas:TA} {E':XK} {m:Int} (ha:A1 none K tas τ [.dat (.int m)]) (h0:0 < m) (h1:m < 2 ^ 200) (hm:N + 4<=2 ^ 60:=by omega):EI2 q ip N (N + 4) K (tCall (spD K 4 RDraw3) [] E' (tCons (tVar ip) tas)) τ (fun d=>0<=d/\d < m) :=
  E2.mono (E2.call1 (ds:=[.int m]) ha ⟨m,rfl,h0,h1,rfl⟩ hm) fun s ⟨d,e,i,ei,h⟩=>⟨i,by rw [e,ei],h⟩
end
section
section
variable {p:Option Addr} {K:PySem.W.Frag} {τ:List Sl} {tas:TA} {nx:List Sl->Prop} {rt:Sl->Prop}
theorem S.par {i j:Nat} {d1 d2:Dat} {τ':List Sl} (h:A1 p K tas τ [.dat d1,.dat d2]) (m:nx τ') (e:(τ.set i (.dat d1)).set j (.dat d2)=τ':=by rfl):S p K (tPar i j tas) τ nx rt:=fun W L σ H D r o q1 q2=>h W L σ H _ r o fun vs H1 ss es ev o1 rv=>by
  subst es e
  cases rv with
  | cons a t =>
    cases t with
    | cons b t =>
      cases t
      refine ⟨_,_,rfl,?_⟩
      obtain ⟨L1,l1,r1⟩:=(r.ev ev o.pw).set (s:=.dat d1) (.inr (.inl ⟨d1,rfl,a⟩)) i
      obtain ⟨L2,l2,r2⟩:=r1.set (s:=.dat d2) (.inr (.inl ⟨d2,rfl,b⟩)) j
      exact q1 W L2 _ H1 _ m (ev.ofP o) o1 o1.al (fun _ h=>.inl h) (fun a ha=>.inl (l1 a (l2 a ha))) r2
end
noncomputable def RGcd:List Dat->Dat->Prop:=fun ds d=>∃ ns:List Int,ds=[tI ns]/\d = .int (gcdN ns)
noncomputable def RShr:List Dat->Dat->Prop:=fun ds d=>∃ ns:List Int,ds=[tI ns]/\ns.length<=4/\(∃ n ∈ ns,n ≠ 0)/\Sm ns/\d=tI (red ns)
end
section
section
variable {X:Cx} {own:List Str} {scope:Scope} {C:Addr} {fp:List Addr} {s:Shared} {H:Hp}
theorem call_isiDC {T:String}:CallR (cxComp X own scope C fp s H) (.builtin "isinstance") (fun xs H Q=>∃ x d b,xs=[x,.ty T]/\Is X.K H x d/\kitD X.K d T=some b/\Q (.bl b) H):=call_isiD
end
noncomputable def RPl3:List Dat->Dat->Prop:=fun ds d=>∃ ns:List Int,ds=[tI ns]/\ns.length<=4/\(∃ n ∈ ns,n ≠ 0)/\Sm ns/\d=tI (pl ns)
noncomputable def RWholes:List Dat->Dat->Prop:=fun ds d=>∃ (ns:List Int) (k:Int),ds=[tI ns,.int k]/\(ns.length:Int)=k/\k<=4/\d = .bool true
theorem nz_red {ns:List Int} (h:∃ n ∈ ns,n ≠ 0):∃ n ∈ red ns,n ≠ 0:=by
  obtain ⟨n,hn,n0⟩:=h
  have e:=red_mul ns
  rw [<- e] at hn
  obtain ⟨m,hm,rfl⟩:=List.mem_map.mp hn
  exact ⟨m,hm,fun z=>n0 (by rw [z,Int.mul_zero])⟩
theorem fst0_at:∀ {rs:List Int} {i:Nat} {n:Int},(∀ k ∈ rs.take i,k=0)->rs[i]?=some n->n ≠ 0->fst0 rs=n
  | [],i,n,_,h,_=>by simp at h
  | x :: r,0,n,_,h,n0=>by
    simp at h;subst h
    rw [fst0,if_neg n0]
  | x :: r,i + 1,n,hz,h,n0=>by
    have hx:x=0:=hz x (by simp)
    rw [fst0,if_pos hx]
    exact fst0_at (i:=i) (fun k hk=>hz k (by rw [List.take_succ_cons];exact List.mem_cons_of_mem _ hk)) (by simpa using h) n0
end
end D
section
namespace L2
open PySem PySem.Spec PyProof.Rows
noncomputable def TupT (K:PySem.W.Frag) (d:Addr) (ks:List Int):Prop:=∃ o its n,K.lookup d=some o/\o.cls = .type "tuple" /\ o.data = .seq its n/\its.size<=sizeLine/\Vals (ks.map V.int) its.toList
noncomputable def TupTAt (K:PySem.W.Frag) (x:Str) (ks:List Int):Prop:=∃ d,PySem.W.nsIn K mainGlobals x=some (some (.ref d))/\TupT K d ks
theorem TupTAt.get {K:PySem.W.Frag} {x:Str} {ks:List Int} {h:Heap} {mg:Str->Option Value} (t:TupTAt K x ks) (Y:K.In h) (G:h.Ns mainGlobals mg):∃ d,mg x=some (.ref d)/\TupT K d ks:=by
  obtain ⟨d,a,t⟩:=t
  exact ⟨d,PySem.W.mg_of Y G a,t⟩
theorem TupTAt.four {K:PySem.W.Frag} {x:Str} {d:Addr} {o:Obj} {p q r s:Int} {t1 t2 t3 t4:_} {n:Nat} (a:PySem.W.nsIn K mainGlobals x=some (some (.ref d))) (l:K.lookup d=some o) (c:o.cls = .type "tuple") (e:o.data = .seq #[.int p t1,.int q t2,.int r t3,.int s t4] n):TupTAt K x [p,q,r,s] :=
  ⟨d,a,o,_,n,l,c,e,(show 4<=sizeLine by decide),.cons ⟨_,rfl⟩ (.cons ⟨_,rfl⟩ (.cons ⟨_,rfl⟩ (.cons ⟨_,rfl⟩ .nil)))⟩
end L2
namespace D
open PySem L2 K0 Num
open PySem.W (Dat)
section
variable {p:Option Addr} {q:Addr} {ip N M M1:Nat} {K:PySem.W.Frag} {W:Addr->Prop} {L:List Addr} {σ:St} {H H1:Hp} {τ τ':List Sl} {te:TE} {v:V} {s:Sl} {nx:List Sl->Prop} {rt:Sl->Prop} {t u:TS} {ds:List Dat} {wi:TI}
theorem E1.gT {d:Addr} {ks:List Int} (h:TupT K d ks):E1 p K (tC (.ref d)) τ (.dat (tI ks)):=fun W L σ H Q rs o k=>by
  obtain ⟨ob,its,n,h1,h2,h3,h4,h5⟩:=h
  exact k _ H _ rfl Ev.refl o (.tup (.inr ⟨ob,its,n,h1,h2,h3,h4,h5⟩) (Dzs.ints _))
noncomputable def W2 (q:Addr) (ip N M:Nat) (K:PySem.W.Frag) (wi:TI) (τ:List Sl) (P:List Dat->Prop):Prop:=∀ (W:Addr->Prop) (L:List Addr) (σ:St) (H:Hp) (R:It->Hp->Prop),Rs none W K H L σ τ->Ok none W H->P3 q ip N W L σ H->(∀ ds J H1,P ds->Ev (fun a=>a=q) H H1->Ok none W H1->Pu3 M H1 q->Jd W K J H1 ds->R J H1)->wi σ H R
theorem S2.letO {i:Nat} {ds:List Dat} {τ':List Sl} (h:E1 none K te τ (.own ds)) (nl:noLs ds=true) (m:S2 q ip N M K u τ' nx rt) (e:τ.set i (.own ds)=τ':=by rfl) (hi:i ≠ ip:=by decide) (hm:N<=M:=by omega):S2 q ip N M K (tSeq (tAsg te (gName i)) u) τ nx rt:=by
  refine S2.seq (M1:=N) (X:=fun x=>x=τ') (fun W L σ H D r o p q1 q2=>?_) (fun x hx=>hx ▸ m) hm
  refine h W L σ H _ r o fun v H1 s es e1 o1 rv=>?_
  subst es
  obtain ⟨a,vs,rfl,h1,h2,h3⟩:=rv
  have nq:q ≠ a:=fun z=>p.pu.nn (z ▸ h1)
  have wid:∀ b,(W b\/b=a)->¬ W b->H b=none:=fun b hb nb=>(hb.resolve_left nb) ▸ h1
  have r1:Rs none (fun b=>W b\/b=a) K H1 L σ τ:=(r.wide (fun _ h=>.inl h) wid).ev e1 fun q hq=>by cases hq
  have al:a ∉ L:=fun z=>by obtain ⟨_,y⟩:=r.own_in a z;rw [h1] at y;cases y
  obtain ⟨L',l,r2⟩:=r1.setO (.inr rfl) (fun z=>by cases z) al h2 (h3.free nl) i
  refine q1 _ L' _ H1 _ e (e1.ofP o) ⟨fun q hq=>(by cases hq),fun b hb=>?_⟩ o1.al (fun b hb=>hb.imp id fun (z:b=a)=>by rw [z];exact h1) (fun b hb=>?_) r2 ⟨.inl p.wq,fun z=>?_,by rw [List.getElem?_set_ne hi];exact p.sq,p.pu.keep e1⟩
  . rcases hb with hb | rfl
    . exact o1.al b hb
    . exact ⟨_,h2⟩
  . rcases l b hb with rfl | hb
    . exact .inr h1
    . exact .inl hb
  . rcases l q z with y | y
    . exact nq y
    . exact p.lq y
theorem S2.append {i:Nat} {ds:List Dat} {C:Dat->Prop} (h:τ[i]?=some (.own ds)) (he:E2 q ip N M1 K te τ (fun s=>∃ d,s = .dat d/\C d)) (hl:∀ d,C d->noL d=true) (hz:ds.length < sizeLine) (m:∀ d,C d->nx (τ.set i (.own (ds ++ [d])))) (hm:M1<=M:=by omega):S2 q ip N M K (tDrop (tBM K "list" rAppend (tVar i) (tCons te tNil))) τ nx rt:=fun W L σ H D r o p q1 q2=>by
  obtain ⟨a,vs,e,w,n,l,h1,z⟩:=r.get_own h
  refine ⟨_,e,.inl ⟨rfl,_,SqL.of h1⟩,he W L σ H _ r o p fun v H1 s c e1 o1 p1 rv=>?_⟩
  obtain ⟨d,rfl,cd⟩:=c
  have r1:=r.ev3 e1 p.wq p.lq
  obtain ⟨a',vs',e',w',n',l',h1',z'⟩:=r1.get_own h
  rw [e] at e';cases e'
  have qa:q ≠ a:=fun z=>p.lq (z ▸ l)
  have ev:Ev (fun b=>b=a) H1 (upd H1 a (.lst (vs' ++ [v]))):=⟨fun b o n h=>by rw [upd_ne n];exact h,Tm.lst h1' _⟩
  have nw:∀ b,¬ W b->¬ b=a:=fun b n z=>n (z ▸ w)
  have alw:∀ b,W b->∃ ys,upd H1 a (.lst (vs' ++ [v])) b=some ys:=fun b hb=>by
    by_cases z:b=a
    . subst z;exact ⟨_,upd_same⟩
    . rw [upd_ne z];exact o1.al b hb
  refine ⟨a,vs',v,rfl,rfl,h1',by rw [z'.len];exact hz,?_⟩
  refine q1 W L σ _ _ (m d cd) ((ofq e1 p.wq).trans (ev.mono fun b hb=>hb ▸ w)) ⟨fun q hq=>(by cases hq),alw⟩ alw (fun _ h=>.inl h) (fun _ h=>.inl h) (Rs.chgO w h1' ((z'.app (.cons rv .nil)).ev ev nw) r1 h e) ⟨p.wq,p.lq,p.sq,?_⟩
  obtain ⟨x1,x2,x3,hx,hy⟩:=p1
  exact ⟨x1,x2,x3,by rw [upd_ne qa];exact hx,by omega⟩
theorem S2.retO {i:Nat} {ds:List Dat} (h:τ[i]?=some (.own ds)) (m:rt (.own ds)) (hm:N<=M:=by omega):S2 q ip N M K (tRet (tVar i)) τ nx rt:=fun W L σ H D r o p q1 q2=>by
  obtain ⟨a,vs,e,w,n,l,h1,z⟩:=r.get_own h
  exact ⟨_,e,q2 W H _ _ m Ev.refl o o.al (fun _ h=>.inl h) ⟨a,vs,rfl,.inl l,h1,z⟩ (p.pu.up hm)⟩
theorem Rs.slen (r:Rs p W K H L σ τ):σ.length=τ.length:=by
  induction r with
  | nil=>rfl
  | un _ ih=>rw [List.length_cons,List.length_cons,ih]
  | dat _ _ ih=>rw [List.length_cons,List.length_cons,ih]
  | pu _ _ ih=>rw [List.length_cons,List.length_cons,ih]
  | own _ _ _ _ _ _ ih=>rw [List.length_cons,List.length_cons,ih]
  | dt _ _ _ _ _ ih=>rw [List.length_cons,List.length_cons,ih]
end
end D
end
namespace D
open PySem L2 K0 Num
open PySem.W (Dat)
section
noncomputable def RQm:List Dat->Dat->Prop:=fun ds d=>∃ ns ms:List Int,ds=[tI ns,tI ms]/\ns.length=4/\ms.length=4/\Bd (2 ^ 4000) ns/\Bd (2 ^ 4000) ms/\d=tI (qm ns ms)
noncomputable def RThen3:List Dat->Dat->Prop:=fun ds d=>∃ ns ms:List Int,ds=[tI ns,tI ms]/\ns.length=4/\ms.length=4/\(∃ n ∈ ns,n ≠ 0)/\(∃ n ∈ ms,n ≠ 0)/\Bd (2 ^ 4000) ns/\Bd (2 ^ 4000) ms/\d=tI (pl (qm ms ns))
theorem noLs_fs (fs:List (List Int)):noLs (fs.map tI)=true:=by
  induction fs with
  | nil=>rw [List.map_nil,noLs]
  | cons f r ih =>
    have h:noL (tI f)=true:=by unfold tI;rw [noL];exact noLs_ints f
    rw [List.map_cons,noLs,ih,h];rfl
theorem kqd_fs (fs:List (List Int)):PySem.W.kqdOk 9 (.list (fs.map tI))=true:=by
  simp only [PySem.W.kqdOk,List.all_eq_true]
  intro d hd
  obtain ⟨f,_,rfl⟩:=List.mem_map.mp hd
  exact kq_ints
section
variable {p:Option Addr} {K:PySem.W.Frag} {τ:List Sl} {tas:TA}
theorem E1.listL {ds:List Dat} (ha:A1 p K tas τ [.vw ds]):E1 p K (tCB (fun xs H Q=>∃ p ys,xs=[.ref p]/\(SqL K H p ys\/SqT K H p ys)/\∀ l,H l=none->Q (.ref l) (upd H l (.lst ys))) tas) τ (.own ds):=fun W L σ H Q rs o k=>ha W L σ H _ rs o fun vs H1 ss e e1 o1 rv=>by
  subst e
  cases rv with
  | cons a t =>
    cases t
    obtain ⟨a,vs,rfl,h1,h2⟩:=a
    refine ⟨a,vs,rfl,.inl h1.sq,fun l hl=>?_⟩
    have s:=Same.new hl (.lst vs)
    exact k _ _ _ rfl (e1.trans (Ev.of s)) (o1.same s) ⟨l,vs,rfl,o1.back e1 hl,upd_same,h2.ev (W:=fun _=>False) (Ev.of s) fun _ _ h=>h⟩
end
end
end D
section
namespace L2
open PySem PySem.Spec PyProof.Rows
open PySem.W (Dat kqdOk kqdP kqdPs)
noncomputable def rInD (K:PySem.W.Frag) (neg:Bool):R2:=fun x y H Q=>∃ d ds r,Is K H x d/\Is K H y (.list ds)/\kqdOk 8 d=true/\(∀ e ∈ ds,kqdOk 8 e=true)/\(r=true ↔ d ∈ ds)/\Q (.bl (if neg then !r else r)) H
section
variable {X:Cx}
theorem any_in {ds:List Dat} {d:Dat} (ha:∀ e ∈ ds,kqdOk 8 e=true) (hd:kqdOk 8 d=true) {b:Bool} (hb:b=true ↔ d ∈ ds):((kqdPs ds).any fun y=>PyData.eqv y (kqdP d))=b:=by
  have k:=PySem.W.kqd_any ds d ha hd
  rw [Bool.eq_iff_iff,k,hb]
theorem op_inD (hu:X.A.units + 64 < cLine):OpR X (compareOp .In) (rInD X.K false):=by
  intro pins s σ H x y v u Q I rx ry h
  obtain ⟨d,ds,r,hd,hs,k1,k2,hr,q⟩:=h
  obtain ⟨as,ra⟩:=hd.reads I 8 k1 rx
  obtain ⟨bs,rb⟩:=hs.reads I 9 (by rw [kqdOk];exact List.all_eq_true.mpr k2) ry
  rw [kqdP] at rb
  have l1:=PySem.W.kqd_layL k2
  have l2:=PySem.W.kqd_lay 8 d k1
  refine SeqAt.in_list_reads rb ra l1.1 l2.1 (by have:=Nat.min_le_right (PyData.depthAll (kqdPs ds)) (kqdP d).depth;have:=l2.2;omega) ?_
  rw [any_in k2 k1 hr]
  exact ⟨.bl _,H,I,rfl,q⟩
theorem op_notInD (hu:X.A.units + 64 < cLine):OpR X (compareOp .NotIn) (rInD X.K true):=by
  intro pins s σ H x y v u Q I rx ry h
  obtain ⟨d,ds,r,hd,hs,k1,k2,hr,q⟩:=h
  obtain ⟨as,ra⟩:=hd.reads I 8 k1 rx
  obtain ⟨bs,rb⟩:=hs.reads I 9 (by rw [kqdOk];exact List.all_eq_true.mpr k2) ry
  rw [kqdP] at rb
  have l1:=PySem.W.kqd_layL k2
  have l2:=PySem.W.kqd_lay 8 d k1
  refine SeqAt.notIn_list_reads rb ra l1.1 l2.1 (by have:=Nat.min_le_right (PyData.depthAll (kqdPs ds)) (kqdP d).depth;have:=l2.2;omega) ?_
  rw [any_in k2 k1 hr]
  exact ⟨.bl _,H,I,rfl,q⟩
end
end L2
namespace D
open PySem L2 K0 Num
open PySem.W (Dat)
section
variable {p:Option Addr} {K:PySem.W.Frag} {τ:List Sl} {ta tb:TE}
theorem E1.notInD {a b:Sl} {d:Dat} {ds:List Dat} {r:Bool} (ha:E1 p K ta τ a) (hb:E1 p K tb τ b) (ea:datOf a=some d) (eb:datOf b=some (.list ds)) (k1:PySem.W.kqdOk 8 d=true) (k2:∀ e ∈ ds,PySem.W.kqdOk 8 e=true) (hr:r=true ↔ d ∈ ds):E1 p K (tOp (rInD K true) ta tb) τ (.dat (.bool (!r))) :=
  E1.op2 ha hb fun W H0 H x y Q o0 o r1 r2 q=>⟨d,ds,r,r1.isD ea,r2.isD eb,k1,k2,hr,q _ H Ev.refl o (.bool _)⟩
end
end D
end
namespace D
open PySem L2 K0 Num
open PySem.W (Dat)
noncomputable def n4 (a b c e:Int):Int:=a * a + b * b + c * c + e * e
end D
section
namespace L2
open PySem PySem.Spec PyProof.Rows
section
end
end L2
namespace D
open PySem L2 K0 Num
open PySem.W (Dat)
noncomputable def Go (p:Option Addr) (K:PySem.W.Frag) (W:Addr->Prop) (L:List Addr) (H:Hp) (nx:List Sl->Prop) (N:St->Hp->Prop):Prop :=
  ∀ (W':Addr->Prop) (L':List Addr) σ' H' τ',nx τ'->Ev W H H'->Ok p W' H'->(∀ a,W a->∃ ys,H' a=some ys)->(∀ a,W' a->W a\/H a=none)->(∀ a,a ∈ L'->a ∈ L\/H a=none)->Rs p W' K H' L' σ' τ'->N σ' H'
noncomputable def Gr (p:Option Addr) (K:PySem.W.Frag) (W:Addr->Prop) (L:List Addr) (H:Hp) (rt:Sl->Prop) (R:VK):Prop :=
  ∀ (W':Addr->Prop) H' v s,rt s->Ev W H H'->Ok p W' H'->(∀ a,W a->∃ ys,H' a=some ys)->(∀ a,W' a->W a\/H a=none)->Rr p W' K L H H' v s->R v H'
section
variable {p:Option Addr} {K:PySem.W.Frag} {W W1:Addr->Prop} {L L1:List Addr} {H H1:Hp} {τ':List Sl} {v:V} {s:Sl} {nx:List Sl->Prop} {rt:Sl->Prop} {N:St->Hp->Prop} {R:VK}
theorem Go.on (g:Go p K W L H nx N) (e1:Ev W H H1) (w1:∀ a,W a->∃ ys,H1 a=some ys) (n1:∀ a,W1 a->W a\/H a=none) (l1:∀ a,a ∈ L1->a ∈ L\/H a=none):Go p K W1 L1 H1 nx N:=fun W2 L2 σ2 H2 τ2 c e2 o2 w2 n2 l2 r2=>by
  have hn:∀ a,H1 a=none->H a=none:=fun a ha=>e1.none w1 ha
  exact g W2 L2 σ2 H2 τ2 c (e1.chain e2 n1) o2 (al_chain w1 w2 e2) (fun a ha=>(n2 a ha).elim (n1 a) fun z=>.inr (hn a z)) (fun a ha=>(l2 a ha).elim (l1 a) fun z=>.inr (hn a z)) r2
theorem Gr.on (g:Gr p K W L H rt R) (e1:Ev W H H1) (w1:∀ a,W a->∃ ys,H1 a=some ys) (n1:∀ a,W1 a->W a\/H a=none) (l1:∀ a,a ∈ L1->a ∈ L\/H a=none):Gr p K W1 L1 H1 rt R:=fun W2 H2 v s c e2 o2 w2 n2 rv=>by
  have hn:∀ a,H1 a=none->H a=none:=fun a ha=>e1.none w1 ha
  exact g W2 H2 v s c (e1.chain e2 n1) o2 (al_chain w1 w2 e2) (fun a ha=>(n2 a ha).elim (n1 a) fun z=>.inr (hn a z)) (rv.base hn l1)
end
end D
end
namespace D
open PySem L2 K0 Num
open PySem.W (Dat)
section
section
variable {K:PySem.W.Frag} {W:Addr->Prop} {τ:List Sl} {te:TE} {q:Addr} {ip N M:Nat} {tas:TA}
theorem A2.datR {C:Dat->Prop} {ds2:List Dat} (ha:E2 q ip N M K te τ (fun s=>∃ d,s = .dat d/\C d)) (hr:A1 none K tas τ (ds2.map .dat)):A2 q ip N M K (tCons te tas) τ (fun ss=>∃ ds,ss=ds.map .dat/\∃ d,C d/\ds=d :: ds2) :=
  A2.cons (C2:=fun s x=>ds2.map .dat=x) ha (fun s ⟨d,e,_⟩=>by rw [e];rfl) (fun s _=>A2.of hr) (fun s ss ⟨d,e,c⟩ e2=>⟨d :: ds2,by rw [e, <- e2];rfl,d,c,rfl⟩)
end
end
section
noncomputable def S2N (q:Addr) (ip N:Nat) (K:PySem.W.Frag) (ts:TS) (τ:List Sl) (nx:List Sl->Prop) (rt:Sl->Prop):Prop:=∀ (W:Addr->Prop) (L:List Addr) (σ:St) (H:Hp) (D:Ends),Rs none W K H L σ τ->Ok none W H->P3 q ip N W L σ H->Go none K W L H nx D.nx->Gr none K W L H rt D.rt->ts D σ H
section
variable {p:Option Addr} {q:Addr} {ip N M1:Nat} {K:PySem.W.Frag} {W:Addr->Prop} {L:List Addr} {σ:St} {H H1 H2 H':Hp} {τ τ':List Sl} {te:TE} {tas:TA} {v:V} {s:Sl} {nx:List Sl->Prop} {rt:Sl->Prop} {t u:TS} {ds:List Dat} {E':XK}
theorem S2N.of (h:S none K t τ nx rt):S2N q ip N K t τ nx rt:=fun W L σ H D r o _ q1 q2=>h W L σ H D r o q1 q2
theorem S2N.seq {X:List Sl->Prop} (h1:S2 q ip N M1 K t τ X rt) (h2:∀ τ',X τ'->S2N q ip M1 K u τ' nx rt):S2N q ip N K (tSeq t u) τ nx rt:=fun W L σ H D r o p q1 q2 =>
  h1 W L σ H _ r o p (fun W1 L1 σ1 H1 τ1 m e1 o1 w1 n1 l1 r1 p1=>h2 τ1 m W1 L1 σ1 H1 D r1 o1 p1 (q1.on e1 w1 n1 l1) (q2.on e1 w1 n1 l1)) fun W' H' v s c e o' al n rv _=>q2 W' H' v s c e o' al n rv
theorem S2N.letC {C:Dat->Prop} {i:Nat} (h:E2 q ip N M1 K te τ (fun s=>∃ d,s = .dat d/\C d)) (m:∀ d,C d->S2N q ip M1 K u (τ.set i (.dat d)) nx rt) (hi:i ≠ ip:=by decide):S2N q ip N K (tSeq (tAsg te (gName i)) u) τ nx rt :=
  S2N.seq (M1:=M1) (X:=fun τ'=>∃ d,C d/\τ'=τ.set i (.dat d)) (S2.asg h (fun s ⟨d,e,_⟩=>by rw [e];exact ⟨rfl,fun z=>by cases z⟩) (fun s ⟨d,e,c⟩=>⟨d,c,by rw [e]⟩) hi (Nat.le_refl _)) fun τ' ⟨d,c,e⟩=>e ▸ m d c
theorem S.purse3N {i : Nat} {R0 : List Dat -> List Dat -> Prop} {ss : List Sl} {ds : List Dat} {x y n : Int} {τ' : List Sl} (ha : A1 none K tas τ ss) (h0 : R0 ds [.int x, .int y, .int n]) (hn : 0 <= n /\ n <= 2 ^ 20) (m : ∀ q, S2N q i (2 ^ 20) K u τ' nx rt) (hi : i < τ.length) (e : τ.set i .un = τ' := by rfl) (hd : datsOf ss = some ds := by rfl) : S none K (tSeq (tAsg (tCall (spN K R0) [] E' tas) (gName i)) u) τ nx rt := fun W L σ H D r o q1 q2 => by
  refine ha W L σ H _ r o fun vs H1 ss' es e1 o1 rv=>?_
  subst es
  show spN K R0 (vs ++ []) H1 _ E'
  rw [List.append_nil]
  refine ⟨ds,_,rv.dz hd,h0,fun q0 H2 ws s nq hq zq=>?_⟩
  have ew:ws=[.int x,.int y,.int n]:=by
    cases zq with
    | cons a t=>cases t with
      | cons b t=>cases t with
        | cons c t=>cases t;cases a;cases b;cases c;rfl
  subst ew
  have r1:=r.ev e1 o.pw
  have r2:Rs none (fun b=>W b\/b=q0) K H2 L σ τ:=(Rs.wide (W':=fun b=>W b\/b=q0) r1 (fun _ h=>.inl h) fun b hb nb=>(hb.resolve_left nb) ▸ nq).ev (Ev.of s) fun q hq=>by cases hq
  obtain ⟨L',l,r3⟩:=r2.set (v:=.ref q0) (s:=.un) (.inl rfl) i
  have nh:H q0=none:=o1.back e1 nq
  have ql:q0 ∉ L':=fun z=>by obtain ⟨_,y⟩:=r.own_in q0 (l q0 z);rw [nh] at y;cases y
  have e2:Ev (fun b=>W b\/b=q0) H H2:=(e1.mono fun a z=>by cases z).trans (Ev.of s)
  have o2:Ok none (fun b=>W b\/b=q0) H2:=⟨fun q hq=>(by cases hq),fun b hb=>by
    rcases hb with hb | rfl
    . obtain ⟨ys,h⟩:=o1.al b hb;exact ⟨ys,s _ _ h⟩
    . exact ⟨_,hq⟩⟩
  have hn2:∀ a,H2 a=none->H a=none:=fun a ha=>by
    cases z:H a with
    | none=>rfl
    | some u=>rw [s _ _ (e1.keep _ _ (fun y=>by cases y) z)] at ha;cases ha
  have eW:Ev W H H2:=(e1.mono fun a z=>by cases z).trans (Ev.of s)
  have nW:∀ a,(W a\/a=q0)->W a\/H a=none:=fun a ha=>ha.imp id fun z=>by rw [z];exact nh
  rw [e] at r3
  have g1:Go none K W L H nx D.nx:=q1
  have g2:Gr none K W L H rt D.rt:=q2
  have aW:∀ a,W a->∃ ys,H2 a=some ys:=fun a ha=>o2.al a (.inl ha)
  exact m q0 _ L' _ H2 D r3 o2 ⟨.inr rfl,ql,by rw [List.getElem?_set_self (by rw [Rs.slen r];exact hi)],x,y,n,hq,hn.1,by omega⟩ (g1.on eW aW nW fun a ha=>.inl (l a ha)) (g2.on eW aW nW fun a ha=>.inl (l a ha))
end
end
section
noncomputable def spQ (K:PySem.W.Frag) (R:List Dat->(Dat->Prop)->Prop):Sp:=fun vs H Q _=>∃ ds C,Dzs (fun _=>True) K H vs ds/\R ds C/\∀ v H' d,C d->Same H H'->Dz (fun a=>H a=none) K H' v d->Q v H'
section
variable {p:Option Addr} {K:PySem.W.Frag} {W:Addr->Prop} {L:List Addr} {σ:St} {H H1:Hp} {τ τ':List Sl} {tas:TA} {v:V} {s:Sl} {t:TS} {ds:List Dat} {E':XK}
theorem E.callQ {R:List Dat->(Dat->Prop)->Prop} {ss:List Sl} {ds:List Dat} {C:Dat->Prop} (ha:A1 p K tas τ ss) (hr:R ds C) (hd:datsOf ss=some ds:=by rfl):E p K (tCall (spQ K R) [] E' tas) τ (fun s=>∃ d,s = .dat d/\C d):=fun W L σ H Q rs o q=>ha W L σ H _ rs o fun vs H1 ss e e1 o1 rv=>by
  subst e
  rw [List.append_nil]
  exact ⟨ds,C,rv.dz hd,hr,fun v H' d c s z=>q v H' _ ⟨d,rfl,c⟩ (e1.trans (Ev.of s)) (o1.same s) (z.mono fun a ha=>o1.fresh ha)⟩
variable {P:Program} {w:World} {mg:Str->Option Value} {base:Heap}
theorem okQ {x qual:Str} {st:Stmt} {f:Addr} {fd:FuncData} {N ps:List Str} {k:Nat} {R:List Dat->(Dat->Prop)->Prop} (F:Fun K x qual st f fd) (S0:FnScope N ps (defScope st)) (len:∀ ds C,R ds C->ds.length=ps.length)
    (body:∀ (cdv:Value) (A:Around) (outer:List Env) (s:Shared) (H:Hp) (E:XK),Room k (A.deeper (PyProof.Rows.envOfC qual (defScope st) s.heap.objs.size f cdv)) ->
      ∃ t,ZSs (cxOf CX0 P w K mg base N qual (defScope st) f cdv A outer s H E).nox (defBody st) t/\∀ ds C,R ds C->S none K t (ds.map .dat ++ List.replicate (N.length - ps.length) .un) (fun _=>False) (fun s=>∃ d,C d/\Gives d s)):FnOk P w K mg base CX0 (k + 1) f fd ps (spQ K R):=by
  refine F.okZ S0 (fun vs H Q E h=>?_) (fun cdv A outer s H vs Q E hr h=>?_)
  . obtain ⟨ds,C,z,r,_⟩:=h;rw [z.len];exact len ds C r
  . obtain ⟨ds,C,z,r,q⟩:=h
    obtain ⟨t,hz,hs⟩:=body cdv A outer s H E hr
    refine ⟨t,hz,?_⟩
    have l:vs.length=ps.length:=by rw [z.len];exact len ds C r
    have r0:Rs none (fun _=>False) K H [] (L2.start N vs) (ds.map .dat ++ List.replicate (N.length - ps.length) .un):=by
      unfold L2.start
      rw [l]
      exact rs_start _ z fun a _ h=>h
    have same:∀ {H':Hp},Ev (fun _=>False) H H'->Same H H':=fun e b o h=>e.keep b o (fun z=>z) h
    refine hs ds C r (fun _=>False) [] _ H _ r0 ⟨fun q h=>(by cases h),fun a h=>False.elim h⟩ (fun W' L' σ' H' τ' e ev o' al n l r'=>e.elim) (fun W' H' v s e ev o' al n rv=>?_)
    obtain ⟨d,c,e⟩:=e
    cases s with
    | dat d' =>
      obtain ⟨rfl,nl⟩:=e
      exact q v H' _ c (same ev) (Dz.free rv nl)
    | own es =>
      obtain ⟨rfl,nl⟩:=e
      obtain ⟨a,vs,rfl,h1,h2,h3⟩:=rv
      have h0:H a=none:=h1.resolve_left (fun z=>by cases z)
      exact q _ H' _ c (same ev) (.lst (.inl ⟨h0,.inl h2⟩) (Dzs.free h3 nl))
    | _=>exact e.elim
end
noncomputable def In (a b c d e f x y z:Int):Prop:=∃ m1 m2 m3:Int,x=m1 * a + m2 * b + m3 * d/\y=m2 * c + m3 * e/\z=m3 * f
structure Hnf (a b c d e f:Int):Prop where
  a0:0 < a
  c0:0 < c
  f0:0 < f
  b0:0<=b
  b1:b < a
  d0:0<=d
  d1:d < a
  e0:0<=e
  e1:e < c
end
end D
section
namespace L2
open PySem PySem.Spec PyProof.Rows
end L2
namespace D
open PySem L2 K0 Num
open PySem.W (Dat)
noncomputable def units:List (List Int):=[[1,0,0],[0,1,0],[0,0,1]]
noncomputable def Kpt (F:List Int) (x y z:Int):Prop:=∀ a b c e:Int,pl F=[a,b,c,e]->(sop (pl F) (pl F) ∣ sop (rw1 a b c e) [x,y,z])/\(sop (pl F) (pl F) ∣ sop (rw2 a b c e) [x,y,z])/\(sop (pl F) (pl F) ∣ sop (rw3 a b c e) [x,y,z])
noncomputable def KptA (fs:List (List Int)) (x y z:Int):Prop:=∀ F ∈ fs,Kpt F x y z
noncomputable def Rows (fs:List (List Int)) (a b c d e f:Int):Prop:=Hnf a b c d e f/\∀ x y z,In a b c d e f x y z ↔ KptA fs x y z
end D
end
namespace D
open PySem L2 K0 Num
open PySem.W (Dat)
noncomputable def Row3.neg (r:Row3):Row3:=⟨-r.x, -r.y, -r.z⟩
section
noncomputable def Row3.sum (r s:Row3) (p q:Rat):Row3:=⟨r.x * p + s.x * q,r.y * p + s.y * q,r.z * p + s.z * q⟩
noncomputable def Row3.cr (r s:Row3):Row3:=⟨r.y * s.z + r.z * -s.y,r.z * s.x + r.x * -s.z,r.x * s.y + r.y * -s.x⟩
section
variable {r s:Row3}
end
end
end D
section
namespace L2
open PySem PySem.Spec PyProof.Rows
section
end
end L2
namespace D
open PySem L2 K0 Num
open PySem.W (Dat)
section
variable {p:Option Addr} {K:PySem.W.Frag} {W:Addr->Prop} {L:List Addr} {σ:St} {H:Hp} {τ:List Sl}
theorem Rs.unk (r:Rs p W K H L σ τ):∀ (i:Nat),∃ L',(∀ a,a ∈ L'->a ∈ L)/\Rs p W K H L' σ (τ.set i .un):=by
  induction r with
  | nil=>intro i;exact ⟨[],fun _ h=>h,.nil⟩
  | un r ih =>
    intro i
    match i with
    | 0=>exact ⟨_,fun _ h=>h,.un r⟩
    | i + 1=>obtain ⟨L',h1,h2⟩:=ih i;exact ⟨L',h1,.un h2⟩
  | dat y r ih =>
    intro i
    match i with
    | 0=>exact ⟨_,fun _ h=>h,.un r⟩
    | i + 1=>obtain ⟨L',h1,h2⟩:=ih i;exact ⟨L',h1,.dat y h2⟩
  | pu y r ih =>
    intro i
    match i with
    | 0=>exact ⟨_,fun _ h=>h,.un r⟩
    | i + 1=>obtain ⟨L',h1,h2⟩:=ih i;exact ⟨L',h1,.pu y h2⟩
  | own h1 h2 h3 h4 h5 r ih =>
    intro i
    match i with
    | 0=>exact ⟨_,fun _ h=>List.mem_cons_of_mem _ h,.un r⟩
    | i + 1 =>
      obtain ⟨L',g1,g2⟩:=ih i
      refine ⟨_ :: L',fun b hb=>?_,.own h1 h2 (fun z=>h3 (g1 _ z)) h4 h5 g2⟩
      rcases List.mem_cons.mp hb with rfl | hb
      . exact List.mem_cons_self
      . exact List.mem_cons_of_mem _ (g1 b hb)
  | dt h1 h2 h3 h4 r ih =>
    intro i
    match i with
    | 0=>exact ⟨_,fun _ h=>List.mem_append_right _ h,.un r⟩
    | i + 1 =>
      obtain ⟨L',g1,g2⟩:=ih i
      exact ⟨_ ++ L',fun b hb=>(List.mem_append.mp hb).elim (List.mem_append_left _) (fun z=>List.mem_append_right _ (g1 b z)),.dt h1 h2 (fun b hb z=>h3 b hb (g1 _ z)) h4 g2⟩
end
end D
end
namespace D
open PySem L2 K0 Num
open PySem.W (Dat)
section
noncomputable def Row3.sub (r s:Row3):Row3:=⟨r.x - s.x,r.y - s.y,r.z - s.z⟩
noncomputable def Row3.add (r s:Row3):Row3:=⟨r.x + s.x,r.y + s.y,r.z + s.z⟩
noncomputable def Row3.sm (k:Rat) (r:Row3):Row3:=⟨k * r.x,k * r.y,k * r.z⟩
noncomputable def nq (w:Rat) (v:Row3):Rat:=N4 w v.x v.y v.z
section
variable {w:Rat} {v r s:Row3} {k:Rat}
end
noncomputable def r0:Row3:=⟨0,0,0⟩
section
variable {w:Rat} {v r s:Row3} {k:Rat}
end
end
noncomputable def TnQ (w x y z:Int) (r s:Row3):Prop:=Q1 w x y z r.x r.y r.z=s.x/\Q2 w x y z r.x r.y r.z=s.y/\Q3 w x y z r.x r.y r.z=s.z
noncomputable def d2 (a b:Row3):Rat:=(b.sub a).dot (b.sub a)
structure Only (p0 p1 p2 o0 o1 o2:Row3) (w x y z:Int) (u v t:Rat):Prop where
  nz:∃ n ∈ [w,x,y,z],n ≠ 0
  p:pl [w,x,y,z]=[w,x,y,z]
  b:Bd (2 ^ 1000) [w,x,y,z]
  h1:TnQ w x y z (p1.sub p0) (o1.sub o0)
  h2:TnQ w x y z (p2.sub p0) (o2.sub o0)
  su:u=o0.x + -Q1 w x y z p0.x p0.y p0.z
  sv:v=o0.y + -Q2 w x y z p0.x p0.y p0.z
  st:t=o0.z + -Q3 w x y z p0.x p0.y p0.z
section
section
variable {p:Option Addr} {K:PySem.W.Frag} {W W':Addr->Prop} {L:List Addr} {σ:St} {H H':Hp} {τ τ':List Sl} {u:TS} {te:TE} {nx:List Sl->Prop} {rt:Sl->Prop} {o:Own}
theorem Rs.setT (r:Rs p W K H L σ τ) {a:Addr} {l:List Addr} (wa:∀ b,b ∈ l->W b) (np:∀ b,b ∈ l->p ≠ some b) (nl:∀ b,b ∈ l->b ∉ L) (z:o.R (fun a=>¬ W a) K H a l):∀ (i:Nat),∃ L',(∀ b,b ∈ L'->b ∈ l\/b ∈ L)/\Rs p W K H L' (σ.set i (some (.ref a))) (τ.set i (.dt o)):=by
  induction r with
  | nil=>intro i;exact ⟨[],fun _ h=>.inr h,.nil⟩
  | un r ih =>
    intro i
    match i with
    | 0=>exact ⟨_,fun b hb=>List.mem_append.mp hb,.dt wa np nl z r⟩
    | i + 1=>obtain ⟨L',h1,h2⟩:=ih nl i;exact ⟨L',h1,.un h2⟩
  | dat y r ih =>
    intro i
    match i with
    | 0=>exact ⟨_,fun b hb=>List.mem_append.mp hb,.dt wa np nl z r⟩
    | i + 1=>obtain ⟨L',h1,h2⟩:=ih nl i;exact ⟨L',h1,.dat y h2⟩
  | pu y r ih =>
    intro i
    match i with
    | 0=>exact ⟨_,fun b hb=>List.mem_append.mp hb,.dt wa np nl z r⟩
    | i + 1=>obtain ⟨L',h1,h2⟩:=ih nl i;exact ⟨L',h1,.pu y h2⟩
  | own g1 g2 g3 g4 g5 r ih =>
    intro i
    have nl':=fun b hb y=>nl b hb (List.mem_cons_of_mem _ y)
    match i with
    | 0=>exact ⟨_,fun b hb=>(List.mem_append.mp hb).imp id (List.mem_cons_of_mem _),.dt wa np nl' z r⟩
    | i + 1 =>
      obtain ⟨L',h1,h2⟩:=ih nl' i
      refine ⟨_ :: L',fun b hb=>?_,.own g1 g2 (fun y=>?_) g4 g5 h2⟩
      . rcases List.mem_cons.mp hb with rfl | hb
        . exact .inr List.mem_cons_self
        . exact (h1 b hb).imp id (List.mem_cons_of_mem _)
      . rcases h1 _ y with y | y
        . exact nl _ y List.mem_cons_self
        . exact g3 y
  | dt g1 g2 g3 g4 r ih =>
    intro i
    have nl':=fun b hb y=>nl b hb (List.mem_append_right _ y)
    match i with
    | 0=>exact ⟨_,fun b hb=>(List.mem_append.mp hb).imp id (List.mem_append_right _),.dt wa np nl' z r⟩
    | i + 1 =>
      obtain ⟨L',h1,h2⟩:=ih nl' i
      refine ⟨_ ++ L',fun b hb=>?_,.dt g1 g2 (fun b hb y=>?_) g4 h2⟩
      . rcases List.mem_append.mp hb with hb | hb
        . exact .inr (List.mem_append_left _ hb)
        . exact (h1 b hb).imp id (List.mem_append_right _)
      . rcases h1 _ y with y | y
        . exact nl _ y (List.mem_append_left _ hb)
        . exact g3 b hb y
theorem Rs.get_t (r:Rs p W K H L σ τ):∀ {i:Nat} {o:Own},τ[i]?=some (.dt o)->∃ a l,σ[i]?=some (some (.ref a))/\(∀ b,b ∈ l->W b)/\(∀ b,b ∈ l->p ≠ some b)/\(∀ b,b ∈ l->b ∈ L)/\o.R (fun a=>¬ W a) K H a l:=by
  induction r with
  | nil=>intro i ds h;simp at h
  | un _ ih =>
    intro i ds h
    match i,h with
    | 0,h=>simp at h
    | i + 1,h=>exact ih (i:=i) (by simpa using h)
  | dat z _ ih =>
    intro i ds h
    match i,h with
    | 0,h=>simp at h
    | i + 1,h=>exact ih (i:=i) (by simpa using h)
  | pu z _ ih =>
    intro i ds h
    match i,h with
    | 0,h=>simp at h
    | i + 1,h=>exact ih (i:=i) (by simpa using h)
  | own h1 h2 h3 h4 h5 _ ih =>
    intro i ds h
    match i,h with
    | 0,h=>simp at h
    | i + 1,h =>
      obtain ⟨a,l,e1,e2,e3,e4,e5⟩:=ih (i:=i) (by simpa using h)
      exact ⟨a,l,by simpa using e1,e2,e3,fun b hb=>List.mem_cons_of_mem _ (e4 b hb),e5⟩
  | dt h1 h2 h3 h4 _ ih =>
    intro i ds h
    match i,h with
    | 0,h=>simp at h;subst h;exact ⟨_,_,rfl,h1,h2,fun b hb=>List.mem_append_left _ hb,h4⟩
    | i + 1,h =>
      obtain ⟨a,l,e1,e2,e3,e4,e5⟩:=ih (i:=i) (by simpa using h)
      exact ⟨a,l,by simpa using e1,e2,e3,fun b hb=>List.mem_append_right _ (e4 b hb),e5⟩
theorem Own.away {X:Addr->Prop} {a:Addr} {l:List Addr} (z:o.R (fun a=>¬ W a) K H a l) (ev:Ev X H H') (xw:∀ b,X b->W b) (mw:∀ b,W b->W' b) (n:∀ b,W' b->W b\/H b=none) (nl:∀ b,b ∈ l->¬ X b):o.R (fun a=>¬ W' a) K H' a l:=by
  have z1:o.R (fun a=>¬ W' a) K H a l:=o.wide z fun b u nb hb wb=>by
    rcases n b wb with y | y
    . exact nb y
    . rw [y] at hb;cases hb
  exact o.ev z1 ev (fun b nb xb=>nb (mw b (xw b xb))) fun b u hb h=>ev.keep _ _ (nl b hb) h
theorem Rs.away {X:Addr->Prop} (r:Rs p W K H L σ τ) (ev:Ev X H H') (xw:∀ b,X b->W b) (mw:∀ b,W b->W' b) (n:∀ b,W' b->W b\/H b=none):(∀ b,b ∈ L->¬ X b)->Rs p W' K H' L σ τ:=by
  have ew:Ev W H H':=ev.mono xw
  induction r with
  | nil=>intro _;exact .nil
  | un _ ih=>intro l;exact .un (ih l)
  | dat h _ ih=>intro l;exact .dat (dz_old ew n h) (ih l)
  | pu h _ ih=>intro l;exact .pu h (ih l)
  | own h1 h2 h3 h4 h5 _ ih =>
    intro l
    exact .own (mw _ h1) h2 h3 (ev.keep _ _ (l _ List.mem_cons_self) h4) (Dzs.old ew n h5) (ih fun a z=>l a (List.mem_cons_of_mem _ z))
  | dt h1 h2 h3 h4 _ ih =>
    intro l
    exact .dt (fun b hb=>mw _ (h1 b hb)) h2 h3 (Own.away h4 ev xw mw n fun b hb=>l b (List.mem_append_left _ hb)) (ih fun a z=>l a (List.mem_append_right _ z))
theorem Rs.chgX (r:Rs p W K H L σ τ):∀ {i:Nat} {o:Own},τ[i]?=some (.dt o)->∃ a l,σ[i]?=some (some (.ref a))/\(∀ b,b ∈ l->W b)/\(∀ b,b ∈ l->p ≠ some b)/\(∀ b,b ∈ l->b ∈ L)/\o.R (fun a=>¬ W a) K H a l /\
    ∀ (W':Addr->Prop) (H':Hp) (l':List Addr) (o':Own),(∀ b,W b->W' b)->(∀ b,W' b->W b\/H b=none)->Ev (fun b=>b ∈ l) H H'->(∀ b,b ∈ l'->W' b)->(∀ b,b ∈ l'->p ≠ some b)->(∀ b,b ∈ l'->b ∈ l\/b ∉ L)->o'.R (fun a=>¬ W' a) K H' a l' ->
      ∃ L',(∀ b,b ∈ L'->b ∈ L\/b ∈ l')/\(∀ b,b ∈ l'->b ∈ L')/\Rs p W' K H' L' σ (τ.set i (.dt o')):=by
  induction r with
  | nil=>intro i ds h;simp at h
  | un _ ih =>
    intro i ds h
    match i,h with
    | 0,h=>simp at h
    | i + 1,h =>
      obtain ⟨a,l,e1,e2,e3,e4,e5,e6⟩:=ih (i:=i) (by simpa using h)
      refine ⟨a,l,by simpa using e1,e2,e3,e4,e5,fun W' H' l' o' g1 g2 g3 g4 g5 g6 g7=>?_⟩
      obtain ⟨L',k1,k2,k3⟩:=e6 W' H' l' o' g1 g2 g3 g4 g5 g6 g7
      exact ⟨L',k1,k2,.un k3⟩
  | dat z _ ih =>
    intro i ds h
    match i,h with
    | 0,h=>simp at h
    | i + 1,h =>
      obtain ⟨a,l,e1,e2,e3,e4,e5,e6⟩:=ih (i:=i) (by simpa using h)
      refine ⟨a,l,by simpa using e1,e2,e3,e4,e5,fun W' H' l' o' g1 g2 g3 g4 g5 g6 g7=>?_⟩
      obtain ⟨L',k1,k2,k3⟩:=e6 W' H' l' o' g1 g2 g3 g4 g5 g6 g7
      exact ⟨L',k1,k2,.dat (dz_old (g3.mono e2) g2 z) k3⟩
  | pu z _ ih =>
    intro i ds h
    match i,h with
    | 0,h=>simp at h
    | i + 1,h =>
      obtain ⟨a,l,e1,e2,e3,e4,e5,e6⟩:=ih (i:=i) (by simpa using h)
      refine ⟨a,l,by simpa using e1,e2,e3,e4,e5,fun W' H' l' o' g1 g2 g3 g4 g5 g6 g7=>?_⟩
      obtain ⟨L',k1,k2,k3⟩:=e6 W' H' l' o' g1 g2 g3 g4 g5 g6 g7
      exact ⟨L',k1,k2,.pu z k3⟩
  | @own L0 σ0 τ0 a0 vs0 ds0 h1 h2 h3 h4 h5 _ ih =>
    intro i ds h
    match i,h with
    | 0,h=>simp at h
    | i + 1, h =>
      obtain ⟨a,l,e1,e2,e3,e4,e5,e6⟩:=ih (i:=i) (by simpa using h)
      refine ⟨a,l,by simpa using e1,e2,e3,fun b hb=>List.mem_cons_of_mem _ (e4 b hb),e5,fun W' H' l' o' g1 g2 g3 g4 g5 g6 g7=>?_⟩
      obtain ⟨L',k1,k2,k3⟩:=e6 W' H' l' o' g1 g2 g3 g4 g5 (fun b hb=>(g6 b hb).imp id fun n z=>n (List.mem_cons_of_mem _ z)) g7
      refine ⟨a0 :: L',fun b hb=>?_,fun b hb=>List.mem_cons_of_mem _ (k2 b hb),.own (g1 _ h1) h2 (fun z=>?_) (g3.keep _ _ (fun z=>h3 (e4 _ z)) h4) (Dzs.old (g3.mono e2) g2 h5) k3⟩
      . rcases List.mem_cons.mp hb with rfl | hb
        . exact .inl List.mem_cons_self
        . exact (k1 b hb).imp (List.mem_cons_of_mem _) id
      . rcases k1 _ z with y | y
        . exact h3 y
        . rcases g6 _ y with y | y
          . exact h3 (e4 _ y)
          . exact y List.mem_cons_self
  | @dt L0 l0 σ0 τ0 a0 o0 h1 h2 h3 h4 r ih =>
    intro i ds h
    match i,h with
    | 0,h =>
      simp at h;subst h
      refine ⟨_,_,rfl,h1,h2,fun b hb=>List.mem_append_left _ hb,h4,fun W' H' l' o' g1 g2 g3 g4 g5 g6 g7=>⟨l' ++ L0,fun b hb=>?_,fun b hb=>List.mem_append_left _ hb,.dt g4 g5 (fun b hb y=>?_) g7 (r.away g3 h1 g1 g2 fun b hb y=>h3 b y hb)⟩⟩
      . rcases List.mem_append.mp hb with hb | hb
        . exact .inr hb
        . exact .inl (List.mem_append_right _ hb)
      . rcases g6 b hb with z | z
        . exact h3 b z y
        . exact z (List.mem_append_right _ y)
    | i + 1, h =>
      obtain ⟨a,l,e1,e2,e3,e4,e5,e6⟩:=ih (i:=i) (by simpa using h)
      refine ⟨a,l,by simpa using e1,e2,e3,fun b hb=>List.mem_append_right _ (e4 b hb),e5,fun W' H' l' o' g1 g2 g3 g4 g5 g6 g7=>?_⟩
      obtain ⟨L',k1,k2,k3⟩:=e6 W' H' l' o' g1 g2 g3 g4 g5 (fun b hb=>(g6 b hb).imp id fun n z=>n (List.mem_append_right _ z)) g7
      refine ⟨l0 ++ L',fun b hb=>?_,fun b hb=>List.mem_append_right _ (k2 b hb),.dt (fun b hb=>g1 _ (h1 b hb)) h2 (fun b hb z=>?_) (Own.away h4 g3 e2 g1 g2 fun b hb y=>h3 b hb (e4 b y)) k3⟩
      . rcases List.mem_append.mp hb with hb | hb
        . exact .inl (List.mem_append_left _ hb)
        . exact (k1 b hb).imp (List.mem_append_right _) id
      . rcases k1 _ z with y | y
        . exact h3 b hb y
        . rcases g6 _ y with y | y
          . exact h3 b hb (e4 _ y)
          . exact y (List.mem_append_left _ hb)
noncomputable def Own.Self (o:Own):Prop:=∀ (N:Addr->Prop) (K:PySem.W.Frag) (H:Hp) (a:Addr) (l:List Addr),o.R N K H a l->o.R (fun b=>N b/\b ∉ l) K H a l
theorem Rs.finN {H1:Hp} (r:Rs p W K H L σ τ) (ok:Ok p W H) (e:Ev (Pp p) H H1) (ok1:Ok p W H1) {i:Nat} {o:Own} (nb:List Addr) (hnb:∀ b,b ∈ nb->H b=none) (h:τ[i]?=some (.dt o)) :
    ∃ a l,σ[i]?=some (some (.ref a))/\(∀ b,b ∈ l->W b\/b ∈ nb)/\(∀ b,b ∈ l->p ≠ some b)/\(∀ b,b ∈ l->b ∉ nb)/\o.R (fun a=>¬ (W a\/a ∈ nb)) K H1 a l/\∀ (W':Addr->Prop) (H':Hp) (l':List Addr) (o':Own),(∀ b,W' b ↔ W b\/b ∈ l')->(∀ b,b ∈ nb->b ∈ l')->(∀ b,b ∈ l'->b ∈ l\/b ∈ nb\/H1 b=none)->Ev (fun b=>b ∈ l) H1 H'->(∀ b,b ∈ l->∃ u,H' b=some u)->o'.R (fun a=>¬ W' a) K H' a l' ->
      Ev W H H'/\Ok p W' H'/\(∀ a,W a->∃ ys,H' a=some ys)/\(∀ a,W' a->W a\/H a=none)/\∃ L',(∀ a,a ∈ L'->a ∈ L\/H a=none)/\(∀ a,a ∈ l'->a ∈ L')/\Rs p W' K H' L' σ (τ.set i (.dt o')):=by
  have r1:Rs p (fun b=>W b\/b ∈ nb) K H1 L σ τ:=(r.wide (W':=fun b=>W b\/b ∈ nb) (fun _ h=>.inl h) fun b hb n=>hnb b (hb.resolve_left n)).ev e fun q hq=>.inl (ok.pw q hq)
  obtain ⟨a,l,e1,e2,e3,e4,e5,e6⟩:=r1.chgX h
  have ln:∀ b,b ∈ l->b ∉ nb:=fun b hb z=>by
    obtain ⟨u,hu⟩:=r.own_in b (e4 b hb);rw [hnb b z] at hu;cases hu
  refine ⟨a,l,e1,e2,e3,ln,e5,fun W' H' l' o' hw hn hf ev hal hr=>?_⟩
  have lw:∀ b,b ∈ l->W b:=fun b hb=>(e2 b hb).resolve_right (ln b hb)
  have np:∀ b,b ∈ l'->p ≠ some b:=fun b hb=>by
    rcases hf b hb with z | z | z
    . exact e3 b z
    . exact ok.np (hnb b z)
    . exact ok1.np z
  have mw:∀ b,W b\/b ∈ nb->W' b:=fun b hb=>(hw b).mpr (hb.imp id (hn b))
  have nw:∀ b,W' b->(W b\/b ∈ nb)\/H1 b=none:=fun b hb=>by
    rcases (hw b).mp hb with z | z
    . exact .inl (.inl z)
    . rcases hf b z with y | y | y
      . exact .inl (e2 b y)
      . exact .inl (.inr y)
      . exact .inr y
  have nl:∀ b,b ∈ l'->b ∈ l\/b ∉ L:=fun b hb=>by
    rcases hf b hb with z | z | z
    . exact .inl z
    . exact .inr fun y=>by obtain ⟨u,hu⟩:=r.own_in b y;rw [hnb b z] at hu;cases hu
    . exact .inr fun y=>by obtain ⟨u,hu⟩:=r1.own_in b y;rw [z] at hu;cases hu
  obtain ⟨L',k1,k2,k3⟩:=e6 W' H' l' o' mw nw ev (fun b hb=>(hw b).mpr (.inr hb)) np nl hr
  have lo:∀ b,b ∈ l'->b ∈ L\/H b=none:=fun b hb=>by
    rcases hf b hb with z | z | z
    . exact .inl (e4 b z)
    . exact .inr (hnb b z)
    . exact .inr (ok1.back e z)
  have al:∀ b,W b->∃ ys,H' b=some ys:=fun b hb=>by
    by_cases z:b ∈ l
    . exact hal b z
    . obtain ⟨y,hy⟩:=ok1.al b hb;exact ⟨y,ev.keep _ _ z hy⟩
  refine ⟨(e.ofP ok).trans (ev.mono lw),⟨fun q hq=>⟨?_,mw q (.inl (ok.pw q hq))⟩,fun b hb=>((hw b).mp hb).elim (al b) (o'.al hr b)⟩,al,fun b hb=>?_,L',fun b hb=>(k1 b hb).elim .inl (lo b),k2,k3⟩
  . obtain ⟨x,y,hy⟩:=(ok1.pu q hq).1
    exact ⟨x,y,ev.keep _ _ (fun z=>e3 q z hq) hy⟩
  . rcases (hw b).mp hb with z | z
    . exact .inl z
    . rcases hf b z with y | y | y
      . exact .inl (lw b y)
      . exact .inr (hnb b y)
      . exact .inr (ok1.back e y)
theorem Rs.fin {H1:Hp} (r:Rs p W K H L σ τ) (ok:Ok p W H) (e:Ev (Pp p) H H1) (ok1:Ok p W H1) {i:Nat} {o:Own} (h:τ[i]?=some (.dt o)) :
    ∃ a l,σ[i]?=some (some (.ref a))/\(∀ b,b ∈ l->W b)/\(∀ b,b ∈ l->p ≠ some b)/\o.R (fun a=>¬ W a) K H1 a l/\∀ (W':Addr->Prop) (H':Hp) (l':List Addr) (o':Own),(∀ b,W' b ↔ W b\/b ∈ l')->(∀ b,b ∈ l'->b ∈ l\/H1 b=none)->Ev (fun b=>b ∈ l) H1 H'->(∀ b,b ∈ l->∃ u,H' b=some u)->o'.R (fun a=>¬ W' a) K H' a l' ->
      Ev W H H'/\Ok p W' H'/\(∀ a,W a->∃ ys,H' a=some ys)/\(∀ a,W' a->W a\/H a=none)/\∃ L',(∀ a,a ∈ L'->a ∈ L\/H a=none)/\(∀ a,a ∈ l'->a ∈ L')/\Rs p W' K H' L' σ (τ.set i (.dt o')):=by
  obtain ⟨a,l,e1,e2,e3,e4,e5,e6⟩:=r.finN ok e ok1 [] (fun b hb=>by cases hb) h
  refine ⟨a,l,e1,fun b hb=>(e2 b hb).resolve_right (e4 b hb),e3,o.wide e5 fun b u nb _ z=>nb (.inl z),fun W' H' l' o' g1 g2 g3 g4 g5=>e6 W' H' l' o' g1 (fun b hb=>by cases hb) (fun b hb=>(g2 b hb).imp id .inr) g3 g4 g5⟩
theorem S.letTC {C:Own->Prop} {i:Nat} (h:E p K te τ (fun s=>∃ o,s = .dt o/\o.Self/\C o)) (m:∀ o,C o->S p K u (τ.set i (.dt o)) nx rt):S p K (tSeq (tAsg te (gName i)) u) τ nx rt:=by
  refine S.seq (M:=fun τ'=>∃ o,C o/\τ'=τ.set i (.dt o)) (fun W L σ H D r o q1 q2=>?_) fun τ' ⟨ds,c,e⟩=>e ▸ m ds c
  refine h W L σ H _ r o fun v H1 s c e o1 rv=>?_
  obtain ⟨ot,rfl,self,cd⟩:=c
  obtain ⟨a,l,rfl,h1,h2⟩:=rv
  have wid:∀ b,(W b\/b ∈ l)->¬ W b->H b=none:=fun b hb nb=>h1 b (hb.resolve_left nb)
  have r1:Rs p (fun b=>W b\/b ∈ l) K H1 L σ τ:=(r.wide (fun _ h=>.inl h) wid).ev e fun q hq=>.inl (o.pw q hq)
  have al:∀ b,b ∈ l->b ∉ L:=fun b hb z=>by obtain ⟨_,y⟩:=r.own_in b z;rw [h1 b hb] at y;cases y
  have hz:ot.R (fun b=>¬ (W b\/b ∈ l)) K H1 a l:=ot.wide (self _ _ _ _ _ h2) fun b _ nb _ z=>z.elim nb.1 nb.2
  obtain ⟨L',k,r2⟩:=r1.setT (fun b hb=>.inr hb) (fun b hb=>o.np (h1 b hb)) al hz i
  refine q1 _ L' _ H1 _ ⟨ot,cd,rfl⟩ (e.ofP o) ⟨fun q hq=>⟨(o1.pu q hq).1,.inl (o1.pw q hq)⟩,fun b hb=>?_⟩ o1.al (fun b hb=>hb.imp id (h1 b)) (fun b hb=>(k b hb).elim (fun z=>.inr (h1 b z)) .inl) r2
  exact hb.elim (o1.al b) (ot.al h2 b)
end
end
end D
section
namespace L2
open PySem PySem.Spec PyProof.Rows
section
variable {e o k:Expr} {H:Hp} {a b:Addr}
theorem u1 {n:Nat} (h:n + 64 < cLine):n + 1 < cLine:=by omega
end
end L2
namespace D
open PySem L2 K0 Num
open PySem.W (Dat)
noncomputable def dHd (x:List Key × V):Key × V:=(x.1.headD (Sum.inl 0),x.2)
noncomputable def dO:Bool->List (List Key × V)->HO
  | true,vs=>.dT vs
  | false,vs=>.dK (vs.map dHd)
noncomputable def lookD (kd:List (List Int × Dat)) (k:List Int):Option Dat:=(kd.find? fun x=>decide (x.1=k)).map (·.2)
section
variable {K:PySem.W.Frag} {W:Addr->Prop} {H:Hp}
theorem lookD_any (kd:List (List Int × Dat)) (k:List Int):(kd.any fun x=>decide (x.1=k))=(lookD kd k).isSome:=by
  induction kd with
  | nil=>rfl
  | cons y kd ih =>
    unfold lookD at ih ⊢
    rw [List.any_cons,List.find?_cons]
    by_cases e:y.1=k
    . rw [decide_eq_true e];rfl
    . rw [decide_eq_false e,Bool.false_or];exact ih
theorem tm_dO {b:Bool} {H:Hp} {D:Addr} {ys:List (List Key × V)} (h:H D=some (dO b ys)) (o:HO):Tm H (upd H D o):=fun K a xs q=>by
  rcases q with (q | ⟨ob,q⟩) | q
  . exact .inl (.inl (by rw [upd_ne (ne_of q h (fun z=>by cases b <;> cases z))];exact q))
  . exact .inl (.inr ⟨ob,by rw [upd_ne (ne_of q h (fun z=>by cases b <;> cases z))];exact q⟩)
  . exact .inr q
end
end D
end
namespace D
open PySem L2 K0 Num
open PySem.W (Dat)
noncomputable def rq (f g:List Int):Rat:=qv (sop f g * sop f g) (nrm f * nrm g)
noncomputable def rho (fs:List (List Int)) (i j:Nat):Rat:=rq (fs.getD i []) (fs.getD j [])
end D
section
namespace L2
open PySem PySem.Spec PyProof.Rows
noncomputable def rCatS (K:PySem.W.Frag):R2:=fun x y H Q=>∃ l b xs zs,x = .ref l/\y = .ref b/\SqL K H l xs/\SqL K H b zs/\xs.length + zs.length<=sizeLine/\∀ p,H p=none->Q (.ref p) (upd H p (.lst (xs ++ zs)))
section
variable {X:Cx}
theorem op_catS:OpR X (binaryOp .Add) (rCatS X.K):=by
  intro pins s σ H x y v u Q I rx ry h
  obtain ⟨l,b,xs,zs,rfl,rfl,hH,hB,hz,q⟩:=h
  cases (show v=Value.ref l from rx)
  cases (show u=Value.ref b from ry)
  obtain ⟨its,r,pl,z⟩:=I.list hH
  obtain ⟨its2,r2,pl2,z2⟩:=I.list hB
  obtain ⟨⟨cls,dd,data,sl⟩,ho,hc,n,hd⟩:=pl.isList
  obtain ⟨⟨cls2,dd2,data2,sl2⟩,ho2,hc2,n2,hd2⟩:=pl2.isList
  simp only at hc hd hc2 hd2
  subst hc hd hc2 hd2
  have e:its.toArray ++ its2.toArray=(its ++ its2).toArray:=by simp
  have l1:=r.length
  have l2:=r2.length
  refine concat_meets ⟨_,ho,rfl⟩ ⟨_,ho2,rfl⟩ noFill_list_add seq_list_add PySem.F.slot_list_add PySem.F.entry_list_add (PySem.F.args_list_add_2 _ _) (list_addW l b its.toArray its2.toArray n n2 dd dd2 sl sl2 (by rw [List.size_toArray,List.size_toArray];omega)) ⟨ho,ho2,?_⟩
  rw [e]
  exact ⟨.ref _,_,I.lnew (t':=s.toks) (r.append r2) (by rw [List.length_append];omega),rfl,q _ I.fresh⟩
end
end L2
namespace D
open PySem L2 K0 Num
open PySem.W (Dat)
section
variable {p:Option Addr} {K:PySem.W.Frag} {W:Addr->Prop} {σ:St} {H:Hp} {v:V} {s:Sl} {u:TS}
end
end D
end
section
namespace D
open PySem L2 K0 Num
open PySem.W (Dat)
theorem take_snoc {α:Type} {l:List α} {k:Nat} {x:α} (h:l[k]?=some x):l.take (k + 1)=l.take k ++ [x]:=by rw [List.take_add_one,h];rfl
end D
namespace D
open PySem L2 K0 Num
open PySem.W (Dat)
noncomputable def dI:Dat->Int
  | .int i=>i
  | _=>0
end D
namespace D
open PySem L2 K0 Num
open PySem.W (Dat)
end D
end
namespace D
open PySem L2 K0 Num
open PySem.W (Dat)
section
noncomputable def Own.Free (o:Own):Prop:=∀ (N N':Addr->Prop) (K:PySem.W.Frag) (H:Hp) (a:Addr) (l:List Addr),o.R N K H a l->o.R N' K H a l
theorem Own.Free.self {o:Own} (h:o.Free):o.Self:=fun N K H a l z=>h _ _ K H a l z
noncomputable def Own.Reads (o:Own) (d:Dat):Prop:=∀ (N:Addr->Prop) (K:PySem.W.Frag) (H:Hp) (a:Addr) (l:List Addr),o.R N K H a l->Dz (fun _=>True) K H (.ref a) d
noncomputable def spO (K:PySem.W.Frag) (R:List Dat->(Own->Prop)->Prop):Sp:=fun vs H Q _=>∃ ds C,Dzs (fun _=>True) K H vs ds/\R ds C/\∀ a H' o l,C o->Same H H'->(∀ b,b ∈ l->H b=none)->o.R (fun _=>True) K H' a l->Q (.ref a) H'
section
variable {p:Option Addr} {K:PySem.W.Frag} {W:Addr->Prop} {L:List Addr} {σ:St} {H H1:Hp} {τ τ':List Sl} {tas:TA} {v:V} {s:Sl} {t:TS} {ds:List Dat} {E':XK} {o:Own}
theorem E.callO {R:List Dat->(Own->Prop)->Prop} {C:Own->Prop} {ss:List Sl} (ha:A1 p K tas τ ss) (hr:R ds C) (hf:∀ o,C o->o.Free) (hd:datsOf ss=some ds:=by rfl):E p K (tCall (spO K R) [] E' tas) τ (fun s=>∃ o,s = .dt o/\o.Self/\C o):=fun W L σ H Q rs o q=>ha W L σ H _ rs o fun vs H1 ss e e1 o1 rv=>by
  subst e
  show spO K R (vs ++ []) H1 Q E'
  rw [List.append_nil]
  exact ⟨ds,C,rv.dz hd,hr,fun a H' ot l c s hl z=>q _ H' _ ⟨ot,rfl,(hf ot c).self,c⟩ (e1.trans (Ev.of s)) (o1.same s) ⟨a,l,rfl,fun b hb=>o1.back e1 (hl b hb),hf ot c _ _ _ _ _ _ z⟩⟩
variable {P:Program} {w:World} {mg:Str->Option Value} {base:Heap}
theorem okO {x qual:Str} {st:Stmt} {f:Addr} {fd:FuncData} {N ps:List Str} {k:Nat} {R:List Dat->(Own->Prop)->Prop} (F:Fun K x qual st f fd) (S0:FnScope N ps (defScope st)) (len:∀ ds C,R ds C->ds.length=ps.length)
    (body:∀ (cdv:Value) (A:Around) (outer:List Env) (s:Shared) (H:Hp) (E:XK),Room k (A.deeper (PyProof.Rows.envOfC qual (defScope st) s.heap.objs.size f cdv)) ->
      ∃ t,ZSs (cxOf CX0 P w K mg base N qual (defScope st) f cdv A outer s H E).nox (defBody st) t/\∀ ds C,R ds C->S none K t (ds.map .dat ++ List.replicate (N.length - ps.length) .un) (fun _=>False) (fun s=>∃ o,s = .dt o/\C o/\o.Free)):FnOk P w K mg base CX0 (k + 1) f fd ps (spO K R):=by
  refine F.okZ S0 (fun vs H Q E h=>?_) (fun cdv A outer s H vs Q E hr h=>?_)
  . obtain ⟨ds,C,z,r,_⟩:=h;rw [z.len];exact len ds C r
  . obtain ⟨ds,C,z,r,q⟩:=h
    obtain ⟨t,hz,hs⟩:=body cdv A outer s H E hr
    refine ⟨t,hz,?_⟩
    have l:vs.length=ps.length:=by rw [z.len];exact len ds C r
    have r0:Rs none (fun _=>False) K H [] (L2.start N vs) (ds.map .dat ++ List.replicate (N.length - ps.length) .un):=by
      unfold L2.start
      rw [l]
      exact rs_start _ z fun a _ h=>h
    have same:∀ {H':Hp},Ev (fun _=>False) H H'->Same H H':=fun e b o h=>e.keep b o (fun z=>z) h
    refine hs ds C r (fun _=>False) [] _ H _ r0 ⟨fun q h=>(by cases h),fun a h=>False.elim h⟩ (fun W' L' σ' H' τ' e ev o' al n l r'=>e.elim) (fun W' H' v s e ev o' al n rv=>?_)
    obtain ⟨ot,rfl,c,fr⟩:=e
    obtain ⟨a,l,rfl,h1,h2⟩:=rv
    exact q a H' ot l c (same ev) (fun b hb=>(h1 b hb).resolve_left (fun z=>by cases z)) (fr _ _ _ _ _ _ h2)
end
end
end D
section
namespace D
open PySem L2 K0 Num
open PySem.W (Dat)
section
variable {p:Option Addr} {K:PySem.W.Frag} {W:Addr->Prop} {L:List Addr} {σ:St} {H H1 H2:Hp} {τ:List Sl} {ta tb:TE}
theorem E1.catVV {xs ys:List Dat} (ha:E1 p K ta τ (.vw xs)) (hb:E1 p K tb τ (.vw ys)) (hz:xs.length + ys.length<=sizeLine):E1 p K (tOp (rCatS K) ta tb) τ (.own (xs ++ ys)):=fun W L σ H Q rs o q =>
  ha W L σ H _ rs o fun x H1 s e e1 o1 rv1=>hb W L σ H1 _ (rs.ev e1 o.pw) o1 fun y H2 t e' e2 o2 rv2=>by
    subst e e'
    obtain ⟨a,vs,rfl,h1,h2⟩:=rv1.ev e2 o1 o
    obtain ⟨b,us,rfl,h3,h5⟩:=rv2
    refine ⟨a,b,vs,us,rfl,rfl,h1.sq,h3.sq,by rw [h2.len,h5.len];exact hz,fun l hl=>?_⟩
    have s:=Same.new hl (.lst (vs ++ us))
    have e12:=e1.trans e2
    exact q _ _ _ rfl (e12.trans (Ev.of s)) (o2.same s) ⟨l,_,rfl,o2.back e12 hl,upd_same,(h2.app h5).ev (W:=Pp p) (Ev.of s) o2.nw⟩
end
end D
namespace D
open PySem L2 K0 Num
open PySem.W (Dat)
end D
end
namespace D
open PySem L2 K0 Num
open PySem.W (Dat)
section
section
variable {W:Addr->Prop}
end
inductive Con (A:Nat->Nat->Prop):Nat->Nat->Prop
  | refl (i:Nat):Con A i i
  | step {i j k:Nat}:Con A i j->A j k->Con A i k
section
variable {A:Nat->Nat->Prop}
noncomputable def conB (A:Nat->Nat->Prop) (i j:Nat):Bool:=@decide (Con A i j) (Classical.propDecidable _)
noncomputable def cls (A:Nat->Nat->Prop) (n i:Nat):List Nat:=(List.range n).filter (conB A i)
end
end
section
section
variable {p:Option Addr} {W:Addr->Prop}
end
noncomputable def mn (fs:List (List Int)) (ps:List Nat) (r:Rat) (p:Nat):Rat:=if rho fs (ps.getLastD 0) p < r then rho fs (ps.getLastD 0) p else r
section
variable {fs:List (List Int)} {ps:List Nat} {r:Rat}
end
end
section
section
variable {K:PySem.W.Frag} {W:Addr->Prop} {H H0:Hp} {τ:List Sl}
end
noncomputable def SFour (f:List Int):Prop:=f.length=4/\(∃ n ∈ f,n ≠ 0)/\Bd (2 ^ 3) f
noncomputable def pool1:List (List Int):=[[0,1,0,0],[0,0,1,0],[1,1,0,0],[1,0,1,0],[1,0,0,1],[1,1,1,1],[0,1,1,0],[1, -1,1,1],[0,0,1, -1],[1,0, -1,0],[0,0,0,1],[1,0,0,0]]
noncomputable def pool2:List (List Int):=[[3,1,1,1],[1,1,1,1],[0,1,1,1],[0,1, -1,0],[0,1,0, -1],[0,1,1, -2],[0,2, -1, -1],[3, -1, -1, -1],[1,0,0,0]]
instance (f:List Int):Decidable (SFour f):=by unfold SFour Bd;infer_instance
theorem pool1_ok:∀ f ∈ pool1,SFour f:=by decide +kernel
theorem pool2_ok:∀ f ∈ pool2,SFour f:=by decide +kernel
section
variable {q:Addr} {ip N M:Nat} {K:PySem.W.Frag} {τ:List Sl} {ta tb te:TE}
theorem E2.pickD {ms:List Dat} {P:Int->Prop} (hl:E1 none K ta τ (.dat (.list ms))) (hd:EI2 q ip N M K tb τ P) (hp:∀ d,P d->0<=d/\d < (ms.length:Int)):E2 q ip N M K (tOp (rIxL K) ta tb) τ (fun s=>∃ d,s = .dat d/\d ∈ ms) :=
  E2.op2 (E2.of hl) (fun s e=>by rw [<- e];rfl) (fun _ _=>hd) fun s t e1 ⟨j,e2,h2⟩ W H0 H x y R o r1 r2 k=>by
    subst e1 e2
    cases r1 with
    | lst h1 h4 =>
      rename_i a vs
      cases r2.int_inv
      obtain ⟨j0,j1⟩:=hp j h2
      have hj:j.toNat < ms.length:=by omega
      obtain ⟨v,hv,zv⟩:=h4.get (show ms[j.toNat]?=some ms[j.toNat] by simp [hj])
      refine ⟨a,vs,j,v,rfl,rfl,h1.sq,?_,k v _ ⟨_,rfl,List.getElem_mem hj⟩ zv⟩
      unfold atI
      rw [ixN_of j0 (by rw [h4.len];exact j1)]
      exact hv
theorem A2.datL {C:Dat->Prop} {d1:Dat} (ha:E1 none K te τ (.dat d1)) (hb:E2 q ip N M K tb τ (fun s=>∃ d,s = .dat d/\C d)):A2 q ip N M K (tCons te (tCons tb tNil)) τ (fun ss=>∃ ds,ss=ds.map .dat/\∃ d,C d/\ds=[d1,d]) :=
  A2.cons (C1:=fun s=>Sl.dat d1=s) (C2:=fun _ ss=>∃ s,ss=[s]/\∃ d,s = .dat d/\C d) (E2.of ha) (fun s e=>by rw [<- e];rfl) (fun s _=>A2.one hb) (fun s ss e ⟨s2,e2,d,ed,c⟩=>⟨[d1,d],by rw [<- e,e2,ed];rfl,d,c,rfl⟩)
end
noncomputable def Q4 (f:List Int):Prop:=f.length=4/\(∃ n ∈ f,n ≠ 0)/\Bd (2 ^ 30) f
end
structure Fw where
  t:Int
  b:Int
noncomputable def Fw.q (f:Fw):Rat:=qv f.t f.b
noncomputable def Fw.d (f:Fw):Dat:=tI [f.t,f.b]
noncomputable def lf (l:List (List Int)):List Int:=l.foldl (fun P f=>pl (qm f P)) [1,0,0,0]
noncomputable def pQ (v:Rat × Rat × Rat):Dat:=ptQ v.1 v.2.1 v.2.2
section
end
end D
section
namespace L2
open PySem PySem.Spec PyProof.Rows
namespace RvT
section
variable {t:Addr}
noncomputable def Is (h:Heap) (a t:Addr) (i:Int):Prop:=∃ o,h.get? a=some o/\o.cls = .type "reversed" /\ o.data = .fields #[.ref t,rawInt i]
end
end RvT
section
end
end L2
end
namespace D
open PySem L2 K0 Num
open PySem.W (Dat)
section
end
noncomputable abbrev V3:=Rat × Rat × Rat
structure Jt where
  x:Int
  y:Int
  z:Int
  a:V3
  k:Int
  l:Int
noncomputable def Jt.d (j:Jt):Dat:=.tuple [tI [j.x,j.y,j.z],pQ j.a,tI [j.k,j.l]]
noncomputable def Jt.t (j:Jt):List Int:=pl [j.l,j.k * j.x,j.k * j.y,j.k * j.z]
noncomputable def Jt.w (j:Jt):V3:=(j.x,j.y,j.z)
end D
section
namespace L2
open PySem PySem.Spec PyProof.Rows PySem.W PySem.Calls
section
variable {prog:Program} {w:World} {A:Around} {E:Value->Shared->Prop} {s:Shared}
theorem sort_few {a:Addr} {vs:List Value} {n:Nat} {P:PySem.Fin->Shared->Prop} (ho:s.heap.get? a=some (seqObj "list" vs.toArray n)) (h1:vs.length<=1)
    (h:P (.done (.ret .none)) { s with heap:=sortedHeap s.heap a vs vs.toArray }):wpAny (model prog w) A (Builtin.«list.sort» ⟨[.ref a],[]⟩) P E s:=by
  rw [list_sort_plain]
  have ha:a < s.heap.objs.size:=Heap.lt_size ho
  obtain ⟨e1,ho1⟩:∃ e1,(s.heap.update a (Obj.mapSeq fun _ => #[])).get? a=some (seqObj "list" #[] e1):=⟨_,get?_update_seq ho (fun _ => #[])⟩
  have z:vs.toArray.size<=sizeLine:=by rw [List.size_toArray,sizeLine_eq];omega
  refine wpAny_bind (listItems_at ho rfl ?_)
  refine wpAny_bind (listUpdate_at ho rfl ?_ z (Nat.zero_le _))
  refine wpAny_bind (seqEpoch_at ho1 rfl ?_)
  refine wpAny_bind (wpAny_newTuple ?_ (by show vs.length<=_;rw [sizeLine_eq];omega))
  refine wpAny_bind (wpAny_newList ?_ (Nat.zero_le _))
  refine wpAny_holding ?_
  have ho6:=Heap.get?_push_of_some (seqObj "list" #[] 0) (Heap.get?_push_of_some (seqObj "tuple" vs.toArray 0) ho1)
  show wpAny (model prog w) A _ P E { s with heap:=((s.heap.update a (Obj.mapSeq fun _ => #[])).push (seqObj "tuple" vs.toArray 0)).push (seqObj "list" #[] 0) }
  dsimp only
  have h2:vs.toArray.size < 2:=by rw [List.size_toArray];omega
  rw [if_pos h2,if_pos h2]
  refine wpAny_bind (wpAny_pure ?_)
  rw [StateT.run_pure]
  refine wpAny_bind (wpAny_pure ?_)
  dsimp only
  have e:(arrOf (SortSt.mk' general' (vs.toArray.zip vs.toArray) #[] 7 none)).map (·.2)=vs.toArray:=by
    show (vs.toArray.zip vs.toArray).map (·.2)=vs.toArray
    apply Array.ext'
    simp [List.map_snd_zip]
  rw [e]
  refine wpAny_bind (seqEpoch_at ho6 rfl ?_)
  refine wpAny_bind (listUpdate_at ho6 rfl ?_ (Nat.zero_le _) (Nat.le_succ_of_le z))
  simp only [bne_self_eq_false,Bool.false_eq_true,if_false]
  exact wpAny_pure h
end
section
end
end L2
namespace D
open PySem L2 K0 Num
open PySem.W (Dat)
section
variable {W:Addr->Prop}
end
end D
end
namespace D
open PySem L2 K0 Num
open PySem.W (Dat)
noncomputable def low (c:Nat):Prop:=97<=c/\c<=122
section
end
end D
section
namespace L2
open PySem PySem.Spec PyProof.Rows
noncomputable def Fx (C:Value) (e:Addr) (tb:Option Addr) (h:Heap):Prop :=
  ∃ oe vs,h.get? e=some oe/\(oe.cls=C/\oe.dict=none)/\oe.data = .fields vs/\1 < vs.size/\(match tb with
    | none=>vs[1]?=some .none
    | some T=>vs[1]?=some (.ref T)/\T ≠ e/\∃ oT ts,h.get? T=some oT/\oT.data = .fields ts/\3 < ts.size)
section
variable {e:Addr} {C:Value}
end
noncomputable def Fresh (X:Cx) (pins:List (Addr × Obj)) (H:Hp) (e:Addr) (tb:Option Addr):Prop:=∀ a,(a=e\/some a=tb)->X.s₀.heap.get? a=none/\H a=none/\∀ p ∈ X.pn ++ pins,p.1 ≠ a
section
variable {X:Cx} {pins:List (Addr × Obj)} {H:Hp} {C:Value} {e:Addr} {tb:Option Addr}
end
end L2
end
section
namespace L2
open PySem PySem.Spec PyProof.Rows
noncomputable abbrev TX:=St->Hp->(St->Hp->Prop)->Prop
noncomputable def XP (X:Cx) (pins:List (Addr × Obj)) (C:Value) (G:St->Hp->Prop) (v:Value) (s':Shared):Prop :=
  ∃ e tb σ' H',v = .ref e/\Inv X pins σ' H' s'/\G σ' H'/\Fx C e tb s'.heap/\Fresh X pins H' e tb
section
variable {X:Cx} {C:Value} {e:Expr}
end
section
variable {X:Cx} {C:Value} {e:Expr}
end
section
variable {X:Cx} {C:Addr}
end
section
end
end L2
end
namespace D
open PySem L2 K0 Num
open PySem.W (Dat)
noncomputable def l3 (x y z:Int):Dat:=.list [.int x,.int y,.int z]
section
end
end D
section
namespace L2
open PySem PySem.Spec PyProof.Rows
section
end
end L2
namespace D
open PySem L2 K0 Num PyProof.Rows
open PySem.W (Dat)
section
end
section
end
noncomputable def qD (q:Int × Int):Dat:=tI [q.1,q.2]
end D
end
section
namespace L2
open PySem PySem.Spec PyProof.Rows
noncomputable def entX (x:List Int × Addr × Value):DictEntry:=⟨reduceHash (Builtin.Tuple.tupleHashOf (x.1.map hashInt)),.ref x.2.1,x.2.2⟩
noncomputable abbrev KX:List (List Int × Addr × V)->List (List Int × Addr × Value)->Prop:=Paired fun p q=>p.1=q.1/\p.2.1=q.2.1/\RelV p.2.2 q.2.2
noncomputable def kx (a:Addr) (xs:List (List Int × Addr × V)):Heap->Prop:=fun h=>(a == sysModules)=false/\xs.length<=sizeLine/\∃ ys,KX xs ys/\∃ o es ep,h.get? a=some o/\o.ExactDict/\o.data = .dict es ep/\es.toList=ys.map entX/\(ys.map (·.1)).Nodup
theorem kx_ext {P:Program} {w:World} {H:Hp} {h:Heap} {a:Addr} {xs:List (List Int × Addr × V)} (z:kx a xs h):ObjOk P w H h a (.ext (kx a xs)):=by
  refine ⟨z,?_,fun h1 h2 z1 k=>?_⟩
  . obtain ⟨_,_,ys,_,o,_,_,e,_⟩:=z;exact ⟨o,e⟩
  . obtain ⟨z1,z2,ys,z3,o,es,ep,e,r⟩:=z1
    exact ⟨z1,z2,ys,z3,o,es,ep,k _ e,r⟩
section
variable {X:Cx} {e o i value k:Expr} {td ty tv:TE} {pos pos' p:Pos} {pins:List (Addr × Obj)} {σ:St} {H:Hp} {s:Shared} {a b:Addr} {xs:List (List Int × Addr × V)} {ks:List Int}
theorem items_int {P:Program} {w:World}:∀ {ks:List Int} {us:List Value},Vals (ks.map V.int) us->ItemsAre (intKind P w) ks us
  | [],_,r=>by rw [List.map_nil] at r;cases r;exact .nil
  | k :: ks, _, r => by
    rw [List.map_cons] at r
    cases r with
    | cons h t =>
      obtain ⟨t',rfl⟩:=h
      exact .cons (intKind_is _ _ _ _) (items_int t)
theorem keyI_of (I:Inv X pins σ H s) (e:SqT X.K H b (ks.map V.int)):(tupleKind (intKind X.prog X.w)).is s.heap ks b:=by
  obtain ⟨its,r,⟨o,h1,h2,n,h3⟩,_⟩:=I.tuple e
  exact ⟨o,its.toArray,n,h1,h2,h3,by simpa using items_int r⟩
noncomputable def KeysAt (K:PySem.W.Frag) (H:Hp) (xs:List (List Int × Addr × V)):Prop:=∀ x ∈ xs,SqT K H x.2.1 (x.1.map V.int)
noncomputable def hasX (xs:List (List Int × Addr × V)) (ks:List Int):Bool:=xs.any fun x=>decide (x.1=ks)
theorem KX.mem {xs:List (List Int × Addr × V)} {ys:List (List Int × Addr × Value)} (r:KX xs ys):∀ {y},y ∈ ys->∃ x ∈ xs,x.1=y.1/\x.2.1=y.2.1/\RelV x.2.2 y.2.2:=by
  induction r with
  | nil=>intro y h;cases h
  | @cons p q ps qs h t ih =>
    intro y hy
    rcases List.mem_cons.mp hy with rfl | hy
    . exact ⟨p,List.mem_cons_self,h⟩
    . obtain ⟨x,hx,z⟩:=ih hy;exact ⟨x,List.mem_cons_of_mem _ hx,z⟩
theorem KX.has {xs:List (List Int × Addr × V)} {ys:List (List Int × Addr × Value)} (r:KX xs ys) (ks:List Int):(atKey ys ks).isSome=hasX xs ks:=by
  unfold atKey hasX
  rw [Option.isSome_map]
  induction r with
  | nil=>rfl
  | @cons p q ps qs h t ih =>
    rw [List.find?_cons,List.any_cons,h.1]
    by_cases c:q.1=ks
    . rw [decide_eq_true c];rfl
    . rw [decide_eq_false c];simpa using ih
theorem KX.snoc {xs:List (List Int × Addr × V)} {ys:List (List Int × Addr × Value)} (r:KX xs ys) {x:List Int × Addr × V} {y:List Int × Addr × Value} (h:x.1=y.1/\x.2.1=y.2.1/\RelV x.2.2 y.2.2):KX (xs ++ [x]) (ys ++ [y]):=Paired.snoc r h
theorem kx_dict (I:Inv X pins σ H s) (e:H a=some (.ext (kx a xs))) (hk:KeysAt X.K H xs):(a == sysModules)=false/\xs.length<=sizeLine/\∃ ys,KX xs ys/\s.heap.DictOfH (tupleKind (intKind X.prog X.w)) a ys:=by
  obtain ⟨⟨z1,z2,ys,r,o,es,ep,h1,h2,h3,h4,h5⟩,_⟩:=(show ObjOk X.prog X.w H s.heap a (.ext (kx a xs)) from I.hok a _ e)
  refine ⟨z1,z2,ys,r,o,es,ep,h1,h2,h3,h4,fun y hy=>?_,h5⟩
  obtain ⟨x,hx,e1,e2,_⟩:=r.mem hy
  rw [<- e1, <- e2]
  exact keyI_of I (hk x hx)
noncomputable def tKNot (K:PySem.W.Frag) (ty td:TE):TE:=fun σ H Q=>ty σ H fun y H1=>td σ H1 fun x H2=>∃ a b xs ks,x = .ref a/\y = .ref b/\H2 a=some (.ext (kx a xs))/\KeysAt K H2 xs/\SqT K H2 b (ks.map V.int)/\Q (.bl (!hasX xs ks)) H2
noncomputable def tKGet (K:PySem.W.Frag) (td ty:TE):TE:=fun σ H Q=>td σ H fun x H1=>ty σ H1 fun y H2=>∃ a b xs ks,x = .ref a/\y = .ref b/\H2 a=some (.ext (kx a xs))/\KeysAt K H2 xs/\SqT K H2 b (ks.map V.int)/\hasX xs ks=true/\∀ x ∈ xs,x.1=ks->Q x.2.2 H2
noncomputable def sKPut (K:PySem.W.Frag) (td ty tv:TE):TS:=fun D σ H=>tv σ H fun v H1=>td σ H1 fun x H2=>ty σ H2 fun y H3=>∃ a b xs ks,x = .ref a/\y = .ref b/\H3 a=some (.ext (kx a xs))/\KeysAt K H3 xs/\SqT K H3 b (ks.map V.int)/\hasX xs ks=false/\xs.length < sizeLine/\D.nx σ (upd H3 a (.ext (kx a (xs ++ [(ks,b,v)]))))
theorem pc_knot (hu:X.A.units + 1 < cLine) (hi:PE X k ty) (ho:PE X o td):PC X .NotIn k o (tKNot X.K ty td):=by
  intro pins s σ H Q I h
  refine thn (hi pins s σ H _ I h) fun v s1 ⟨y,H1,I1,ry,q1⟩=>thn (ho pins s1 σ H1 _ I1 q1) fun u s2 ⟨x,H2,I2,rx,a,b,xs,ks,ex,ey,e,hk,eb,q⟩=>?_
  subst ex ey
  cases (show v=Value.ref b from ry)
  cases (show u=Value.ref a from rx)
  obtain ⟨z,hz,ys,rel,dd⟩:=kx_dict I2 e hk
  refine wpAny_notIn_heap (tupleKind_room_in1 hu) (keyI_of I2 eb) z dd ?_
  rw [rel.has]
  exact ⟨.bl (!hasX xs ks),H2,I2.tok _,rfl,q⟩
theorem zt_knot (hu:X.A.units + 64 < cLine) (hi:ZE X k ty) (ho:ZE X o td) (h1:behindInMarks .NotIn o=false:=by rfl):ZT X (.Compare k [.NotIn] [o] pos) (tB (tKNot X.K ty td)):=⟨pt_cmp (pc_knot (u1 hu) hi.out ho.out) h1⟩
theorem ze_kget (hu:X.A.units + 64 < cLine) (ho:ZE X o td) (hi:ZE X i ty) (hs:NoSl i):ZE X (.Subscript o i pos) (tKGet X.K td ty):=⟨by
  intro pins s σ H Q I h
  refine subD_of PySem.F.slot_dict_getitem.lookup hs (thn (ho.out pins s σ H _ I h) fun u s1 ⟨x,H1,I1,rx,q1⟩=>thn (hi.out pins s1 σ H1 _ I1 q1) fun iv s2 ⟨y,H2,I2,ry,a,b,xs,ks,ex,ey,e,hk,eb,hh,q⟩=>?_)
  subst ex ey
  cases (show iv=Value.ref b from ry)
  cases (show u=Value.ref a from rx)
  obtain ⟨z,hz,ys,rel,dd⟩:=kx_dict I2 e hk
  refine ⟨dd.typeIs,?_⟩
  have hs':=rel.has ks
  rw [hh] at hs'
  obtain ⟨p,hp⟩:=Option.isSome_iff_exists.mp hs'
  refine wpAny_getItem_heap (tupleKind_room_in1 (u1 hu)) (keyI_of I2 eb) dd hp ?_
  unfold atKey at hp
  obtain ⟨y0,hy,rfl⟩:=Option.map_eq_some_iff.mp hp
  have my:=List.mem_of_find?_eq_some hy
  have ey:y0.1=ks:=by simpa using List.find?_some hy
  obtain ⟨x0,hx,e1,_,rv⟩:=rel.mem my
  exact ⟨x0.2.2,H2,I2.tok _,rv,q x0 hx (e1.trans ey)⟩⟩
theorem zs_kput (hu:X.A.units + 64 < cLine) (ho:ZE X o td) (hi:ZE X i ty) (hv:ZE X value tv) (hs:swapsWith value (some (.Subscript o i pos')) pos.line X.env=pure false:=by rfl):ZS X (.Assign [.Subscript o i pos'] value pos) (sKPut X.K td ty tv):=⟨by
  intro pins s σ H D I h
  refine wpAny_Assign_Subscript (thn (hv.out pins s σ H _ I h) fun r s1 ⟨v,H1,I1,rv,q1⟩=>thn (ho.out pins s1 σ H1 _ I1 q1) fun u s2 ⟨x,H2,I2,rx,q2⟩=>thn (hi.out pins s2 σ H2 _ I2 q2) fun iv s3 ⟨y,H3,I3,ry,a,b,xs,ks,ex,ey,e,hk,eb,hh,hl,q3⟩=>?_) hs
  subst ex ey
  cases (show iv=Value.ref b from ry)
  cases (show u=Value.ref a from rx)
  obtain ⟨z,hz,ys,rel,dd⟩:=kx_dict I3 e hk
  have hzy:ys.length<=sizeLine:=by rw [<- Paired.length rel];exact hz
  refine wpAny_setItem_heap (hsz:=hzy) (tupleKind_room_in1 (u1 hu)) (keyI_of I3 eb) dd fun h' dd' hsb=>?_
  have hn:atKey ys ks=none:=by
    have:=rel.has ks
    rw [hh] at this
    cases c:atKey ys ks with
    | none=>rfl
    | some _=>rw [c] at this;cases this
  rw [storedH_new hn] at dd'
  obtain ⟨q,es,ep,hq,h2,h3,h4,_,h5⟩:=dd'
  refine ⟨σ,_,d_write I3 (by rw [e];exact True.intro) hsb ⟨q,hq⟩ (kx_ext ⟨z,by rw [List.length_append];exact hl,_,rel.snoc ⟨rfl,rfl,rv⟩,q,es,ep,hq,h2,h3,h4,h5⟩),q3⟩⟩
end
end L2
theorem L2.Tm.ext {H:L2.Hp} {D:PySem.Addr} {φ:PySem.Heap->Prop} (h:H D=some (.ext φ)) (o:L2.HO):L2.Tm H (L2.upd H D o):=fun K a xs q=>by
  rcases q with (q | ⟨ob,q⟩) | q
  . exact .inl (.inl (by rw [L2.upd_ne (L2.ne_of q h (fun z=>by cases z))];exact q))
  . exact .inl (.inr ⟨ob,by rw [L2.upd_ne (L2.ne_of q h (fun z=>by cases z))];exact q⟩)
  . exact .inr q
namespace D
open PySem L2 K0 Num
open PySem.W (Dat)
section
variable {K:PySem.W.Frag} {W:Addr->Prop} {σ:St} {H:Hp} {tv ty:TE} {u t:TS} {nx:List Sl->Prop} {φ:List Int->Dat->Prop} {n:Nat} {a:Addr} {ks:List Int}
theorem dz_key {N:Addr->Prop} {y:V} (h:Dz N K H y (tI ks)):∃ b,y = .ref b/\SqT K H b (ks.map V.int):=by
  cases h with
  | tup h1 h2=>rw [Dzs.inv h2] at h1;exact ⟨_,rfl,h1⟩
end
section
variable {K:PySem.W.Frag} {W:Addr->Prop} {H:Hp} {P:Program} {w:World}
end
section
variable {K:PySem.W.Frag} {W:Addr->Prop} {σ:St} {H:Hp} {u:TS} {nx:List Sl->Prop} {φ:List Int->Dat->Prop} {n c i:Nat} {a:Addr}
end
end D
end
namespace D
open PySem L2 K0 Num
open PySem.W (Dat)
section
section
variable {K:PySem.W.Frag} {τ:List Sl} {nx:List Sl->Prop} {rt:Sl->Prop}
end
theorem S.unk {p:Option Addr} {K:PySem.W.Frag} {τ τ':List Sl} {t:TS} {nx:List Sl->Prop} {rt:Sl->Prop} (i:Nat) (m:S p K t τ' nx rt) (e:τ.set i .un=τ':=by rfl):S p K t τ nx rt:=fun W L σ H D r o q1 q2=>by
  obtain ⟨L',l,r'⟩:=r.unk i
  rw [e] at r'
  exact m W L' σ H D r' o (fun W2 L2 σ2 H2 τ2 c e2 o2 w2 n2 l2 r2=>q1 W2 L2 σ2 H2 τ2 c e2 o2 w2 n2 (fun a ha=>(l2 a ha).imp (l a) id) r2) fun W2 H2 v s c e2 o2 w2 n2 rv=>q2 W2 H2 v s c e2 o2 w2 n2 (rv.base (fun a h=>h) fun a ha=>.inl (l a ha))
noncomputable def Four3x (f:List Int):Prop:=f.length=4/\(∃ n ∈ f,n ≠ 0)/\Bd (4 * 10 ^ 28) f
noncomputable def Fours3x (fs:List (List Int)):Prop:=∀ f ∈ fs,Four3x f
theorem q4_fourT {f:List Int} {o:Int} (h:Q4 f) (ho:o ∈ [1, -2,3]):Four3x (f.map (o * ·)):=by
  obtain ⟨l,⟨n,hn,nz⟩,bd⟩:=h
  have o0:o ≠ 0/\o.natAbs<=3:=by
    simp only [List.mem_cons,List.mem_nil_iff,or_false] at ho
    rcases ho with rfl | rfl | rfl <;> decide
  refine ⟨by rw [List.length_map];exact l,⟨o * n,List.mem_map.mpr ⟨n,hn,rfl⟩,Int.mul_ne_zero o0.1 nz⟩,fun x hx=>?_⟩
  obtain ⟨y,hy,rfl⟩:=List.mem_map.mp hx
  have:=bd y hy
  rw [Int.natAbs_mul]
  exact Nat.le_trans (Nat.mul_le_mul o0.2 this) (by decide)
end
end D
section
namespace Srt
open PySem PySem.W PyProof.Rows
structure Ord (lt:Nat->Nat->Bool):Prop where
  irr:∀ a,lt a a=false
  asy:∀ a b,lt a b=true->lt b a=false
  tra:∀ a b c,lt b a=false->lt c b=false->lt c a=false
noncomputable def Gd {α:Type} (lt:Nat->Nat->Bool) (n:Nat):KasT α->(α->Prop)->Prop
  | .ret a,Q=>Q a
  | .ask i j k,Q=>i < n/\j < n/\Gd lt n (k (lt i j)) Q
theorem Gd.bind {α β:Type} {lt:Nat->Nat->Bool} {n:Nat} {f:α->KasT β} {Q:β->Prop}:∀ {t:KasT α},Gd lt n t (fun a=>Gd lt n (f a) Q)->Gd lt n (t.bind f) Q
  | .ret _,h=>h
  | .ask _ _ _,h=>⟨h.1,h.2.1,Gd.bind h.2.2⟩
theorem Gd.mono {α:Type} {lt:Nat->Nat->Bool} {n:Nat} {Q Q':α->Prop} (m:∀ a,Q a->Q' a):∀ {t:KasT α},Gd lt n t Q->Gd lt n t Q'
  | .ret _,h=>m _ h
  | .ask _ _ _,h=>⟨h.1,h.2.1,Gd.mono m h.2.2⟩
theorem Gd.wp {α:Type} {lt:Nat->Nat->Bool} {n:Nat} {cmp:Nat->Nat->(Bool->Shared->Prop)->Shared->Prop} {s:Shared} (hc:∀ i j C,i < n->j < n->C (lt i j) s->cmp i j C s) {Q:α->Prop} {R:α->Shared->Prop} (m:∀ a,Q a->R a s):∀ {t:KasT α},Gd lt n t Q->t.kasWp cmp R s
  | .ret _,h=>m _ h
  | .ask _ _ _,h=>hc _ _ _ h.1 h.2.1 (Gd.wp hc m h.2.2)
section
variable {lt:Nat->Nat->Bool} {n:Nat} {p:Array Nat}
noncomputable abbrev at_ (p:Array Nat) (i:Nat):Nat:=p.getD i 0
structure Ix (n:Nat) (p:Array Nat):Prop where
  sz:p.size=n
  pm:p.Perm (List.range n).toArray
theorem Ix.lo (h:Ix n p) {i:Nat} (hi:i < n):at_ p i < n:=by
  have hs:i < p.size:=by rw [h.sz];exact hi
  have e:at_ p i=p[i]:=by simp [at_,Array.getD,hs]
  have m:p[i] ∈ p:=Array.getElem_mem hs
  have m2:=(h.pm.mem_iff).mp m
  rw [e];simpa using m2
noncomputable def Up (lt:Nat->Nat->Bool) (p:Array Nat) (k:Nat):Prop:=∀ i j,i<=j->j < k->lt (at_ p j) (at_ p i)=false
noncomputable def Dn (lt:Nat->Nat->Bool) (p:Array Nat) (k:Nat):Prop:=∀ i j,i<=j->j < k->lt (at_ p i) (at_ p j)=false
theorem at_congr {q:Array Nat} {i j:Nat} (h:q[i]?=p[j]?):at_ q i=at_ p j:=by
  unfold at_
  rw [Array.getD_eq_getD_getElem?,Array.getD_eq_getD_getElem?,h]
theorem at_bubble {src d:Nat} (hs:src < p.size) (hd:d<=src) (k:Nat):at_ (bubble p src d) k=if k=src - d then at_ p src else if src - d < k/\k<=src then at_ p (k - 1) else at_ p k:=by
  have e:=getElem?_bubble hs d hd k
  by_cases h:k=src - d
  . rw [if_pos h] at e ⊢;exact at_congr e
  . rw [if_neg h] at e ⊢
    by_cases h2:src - d < k/\k<=src
    . rw [if_pos h2] at e ⊢;exact at_congr e
    . rw [if_neg h2] at e ⊢;exact at_congr e
theorem at_rev {i j:Nat} (hj:j<=p.size) (k:Nat):at_ (kas_rev p i j) k=if i<=k/\k < j then at_ p (i + j - 1 - k) else at_ p k:=by
  have e:=getElem?_mirror_all (i:=i) hj k
  unfold kas_rev
  by_cases h:i<=k/\k < j
  . rw [if_pos h] at e ⊢;exact at_congr e
  . rw [if_neg h] at e ⊢;exact at_congr e
theorem Ix.rev (h:Ix n p) (i j:Nat):Ix n (kas_rev p i j):=⟨(mirror_size _ _ _ _).trans h.sz,(mirror_perm _ _ _ _).trans h.pm⟩
theorem Ix.bub (h:Ix n p) (i j:Nat):Ix n (bubble p i j):=⟨(bubble_size _ _ _).trans h.sz,(bubble_perm _ _ _).trans h.pm⟩
theorem Up.one (o:Ord lt):Up lt p 1:=fun i j h1 h2=>by
  have:i=j:=by omega
  subst this;exact o.irr _
theorem Up.snoc {k:Nat} (o:Ord lt) (h:Up lt p k) (hk:1<=k) (c:lt (at_ p k) (at_ p (k - 1))=false):Up lt p (k + 1):=fun i j h1 h2=>by
  by_cases e:j=k
  . subst e
    by_cases e2:i=j
    . subst e2;exact o.irr _
    . exact o.tra _ _ _ (h i (j - 1) (by omega) (by omega)) c
  . exact h i j h1 (by omega)
theorem Dn.snoc {k:Nat} (o:Ord lt) (h:Dn lt p k) (hk:1<=k) (c:lt (at_ p (k - 1)) (at_ p k)=false):Dn lt p (k + 1):=fun i j h1 h2=>by
  by_cases e:j=k
  . subst e
    by_cases e2:i=j
    . subst e2;exact o.irr _
    . exact o.tra _ _ _ c (h i (j - 1) (by omega) (by omega))
  . exact h i j h1 (by omega)
theorem Dn.rev {k:Nat} (h:Dn lt p k) (hz:k<=p.size):Up lt (kas_rev p 0 k) k:=fun i j h1 h2=>by
  rw [at_rev hz,at_rev hz,if_pos ⟨by omega,by omega⟩,if_pos ⟨by omega,by omega⟩]
  exact h _ _ (by omega) (by omega)
theorem asc (o:Ord lt) (x:Ix n p):∀ {f m:Nat},1<=m->m + f<=n->Up lt p m->Gd lt n (kas_asc p f m) (fun k=>m<=k/\k<=m + f/\Up lt p k)
  | 0,m,_,h2,h3=>⟨Nat.le_refl _,Nat.le_refl _,h3⟩
  | f + 1,m,h1,h2,h3=>by
    refine ⟨x.lo (by omega),x.lo (by omega),?_⟩
    cases c:lt (p.getD m 0) (p.getD (m - 1) 0) with
    | true=>dsimp only;rw [if_pos rfl];exact ⟨Nat.le_refl _,by omega,h3⟩
    | false=>dsimp only;rw [if_neg (by decide)];exact (asc o x (by omega) (by omega) (h3.snoc o h1 c)).mono fun k ⟨a,b,c⟩=>⟨by omega,by omega,c⟩
theorem ascX (o:Ord lt) (x:Ix n p):∀ {f m:Nat},1<=m->m + f<=n->Up lt p m->Gd lt n (kas_asc p f m) (fun k=>m<=k/\k<=m + f/\Up lt p k/\(k < m + f->lt (at_ p k) (at_ p (k - 1))=true))
  | 0,m,_,h2,h3=>⟨Nat.le_refl _,Nat.le_refl _,h3,fun h=>absurd h (by omega)⟩
  | f + 1,m,h1,h2,h3=>by
    refine ⟨x.lo (by omega),x.lo (by omega),?_⟩
    cases c:lt (p.getD m 0) (p.getD (m - 1) 0) with
    | true=>dsimp only;rw [if_pos rfl];exact ⟨Nat.le_refl _,by omega,h3,fun _=>c⟩
    | false=>dsimp only;rw [if_neg (by decide)];exact (ascX o x (by omega) (by omega) (h3.snoc o h1 c)).mono fun k ⟨a,b,c,d⟩=>⟨by omega,by omega,c,fun h=>d (by omega)⟩
noncomputable def Lk (lt:Nat->Nat->Bool) (p:Array Nat) (k q:Nat):Prop:=q + 1<=k/\∀ i,k - (q + 1)<=i->i < k->lt (at_ p i) (at_ p (k - 1))=false/\lt (at_ p (k - 1)) (at_ p i)=false
theorem Lk.two (o:Ord lt) {k q:Nat} (h:Lk lt p k q) {i j:Nat} (hi:k - (q + 1)<=i) (hi2:i < k) (hj:k - (q + 1)<=j) (hj2:j < k):lt (at_ p i) (at_ p j)=false:=o.tra _ _ _ (h.2 j hj hj2).2 (h.2 i hi hi2).1
theorem Dn.same (o:Ord lt) {k q m:Nat} (h:Dn lt p m) (l:Lk lt p k q) (hk:k<=m) (hz:m<=p.size):Dn lt (kas_rev p (k - (q + 1)) k) m:=fun i j h1 h2=>by
  have l1:=l.1
  rw [at_rev (by omega),at_rev (by omega)]
  by_cases a:k - (q + 1)<=i/\i < k
  . rw [if_pos a]
    by_cases b:k - (q + 1)<=j/\j < k
    . rw [if_pos b];exact l.two o (by omega) (by omega) (by omega) (by omega)
    . rw [if_neg b]
      exact h _ _ (by omega) (by omega)
  . rw [if_neg a]
    by_cases b:k - (q + 1)<=j/\j < k
    . rw [if_pos b]
      exact h _ _ (by omega) (by omega)
    . rw [if_neg b];exact h _ _ h1 h2
theorem desc (o:Ord lt):∀ {f:Nat} {p:Array Nat} {m q:Nat},Ix n p->1<=m->m + f<=n->Dn lt p m->Lk lt p m q->Gd lt n (kas_desc f p m q) (fun r=>Ix n r.1/\1<=r.2.1/\r.2.1<=n/\Dn lt r.1 r.2.1/\Lk lt r.1 r.2.1 r.2.2)
  | 0,p,m,q,x,h1,h2,h3,h4=>⟨x,h1,h2,h3,h4⟩
  | f + 1, p, m, q, x, h1, h2, h3, h4 => by
    refine ⟨x.lo (by omega),x.lo (by omega),?_⟩
    have lk0:∀ p:Array Nat,Lk lt p (m + 1) 0:=fun p=>⟨by omega,fun i a b=>by
      have:i=m:=by omega
      subst this;exact ⟨o.irr _,o.irr _⟩⟩
    cases c:lt (p.getD m 0) (p.getD (m - 1) 0) with
    | true =>
      dsimp only
      rw [if_pos rfl]
      have d:Dn lt p (m + 1):=h3.snoc o h1 (o.asy _ _ c)
      split
      . exact desc o (x.rev _ _) (by omega) (by omega) (d.same o h4 (by omega) (by rw [x.sz];omega)) (lk0 _)
      . exact desc o x (by omega) (by omega) d (lk0 _)
    | false =>
      dsimp only
      rw [if_neg (by decide)]
      refine ⟨x.lo (by omega),x.lo (by omega),?_⟩
      cases e:lt (p.getD (m - 1) 0) (p.getD m 0) with
      | true=>dsimp only;rw [if_pos rfl];exact ⟨x,h1,show m<=n by omega,h3,h4⟩
      | false =>
        dsimp only
        rw [if_neg (by decide)]
        have l1:=h4.1
        refine desc o x (by omega) (by omega) (h3.snoc o h1 e) ⟨by omega,fun i a b=>?_⟩
        rw [Nat.add_sub_cancel]
        by_cases q:i=m
        . subst q;exact ⟨o.irr _,o.irr _⟩
        . obtain ⟨u,v⟩:=h4.2 i (by omega) (by omega)
          exact ⟨o.tra _ _ _ e u,o.tra _ _ _ v c⟩
noncomputable def Cn (lt:Nat->Nat->Bool) (n:Nat) (r:Nat × Array Nat):Prop:=Ix n r.2/\1<=r.1/\r.1<=n/\Up lt r.2 r.1
theorem tail3 (o:Ord lt) {m:Nat} (x:Ix n p) (h1:1<=m) (h2:m<=n) (d:Dn lt p m):Gd lt n (kas_tail3 m n p) (Cn lt n) :=
  Gd.bind ((asc o (x.rev 0 m) h1 (by omega) (d.rev (by rw [x.sz];exact h2))).mono fun k ⟨a,b,c⟩=>⟨x.rev 0 m,by omega,by omega,c⟩)
theorem descPart (o:Ord lt) {m:Nat} (x:Ix n p) (h1:1<=m) (h2:m + 1<=n) (d:Dn lt p m) (c:lt (at_ p (m - 1)) (at_ p m)=false):Gd lt n (kas_descPart m n p) (Cn lt n):=by
  refine Gd.bind ((desc o x (by omega) (by omega) (d.snoc o h1 c) ⟨by omega,fun i a b=>?_⟩).mono fun r ⟨a,b1,b2,b3,b4⟩=>?_)
  . have:i=m:=by omega
    subst this;exact ⟨o.irr _,o.irr _⟩
  . split
    . exact tail3 o (a.rev _ _) b1 b2 (b3.same o b4 (Nat.le_refl _) (by rw [a.sz];exact b2))
    . exact tail3 o a b1 b2 b3
theorem count (o:Ord lt) (x:Ix n p) (h1:1<=n):Gd lt n (kas_count n p) (Cn lt n):=by
  refine Gd.bind ((ascX o x (f:=n - 1) (Nat.le_refl 1) (by omega) (Up.one o)).mono fun m ⟨a,b,c,d⟩=>?_)
  have mn:m<=n:=by omega
  by_cases e:m=n
  . subst e
    rw [if_pos (by simp)]
    exact ⟨x,h1,Nat.le_refl _,c⟩
  . rw [if_neg (by simpa using e)]
    have d:=d (by omega)
    by_cases g:m > 1
    . rw [if_pos g]
      refine ⟨x.lo (by omega),x.lo (by omega),?_⟩
      dsimp only
      cases q:lt (p.getD 0 0) (p.getD (m - 1) 0) with
      | true=>rw [if_pos rfl];exact ⟨x,by omega,mn,c⟩
      | false =>
        rw [if_neg (by decide)]
        have al:∀ i j,i < m->j < m->lt (at_ p i) (at_ p j)=false:=fun i j hi hj=>by
          have u:lt (at_ p 0) (at_ p j)=false:=o.tra _ _ _ (c j (m - 1) (by omega) (by omega)) q
          exact o.tra _ _ _ u (c 0 i (by omega) hi)
        refine descPart o (x.rev 0 m) (by omega) (by omega) (fun i j _ hj=>?_) ?_
        . rw [at_rev (by rw [x.sz];exact mn),at_rev (by rw [x.sz];exact mn),if_pos ⟨by omega,by omega⟩,if_pos ⟨by omega,hj⟩]
          exact al _ _ (by omega) (by omega)
        . rw [at_rev (by rw [x.sz];exact mn),at_rev (by rw [x.sz];exact mn),if_pos ⟨by omega,by omega⟩,if_neg (by omega)]
          refine o.tra _ _ _ (o.asy _ _ d) ?_
          exact al _ _ (by omega) (by omega)
    . rw [if_neg g]
      have:m=1:=by omega
      subst this
      exact descPart o x (Nat.le_refl _) (by omega) (fun i j h1 h2 => by have : i = j := by omega
                                                                         subst this;exact o.irr _) (o.asy _ _ d)
noncomputable def Pl (lt:Nat->Nat->Bool) (p:Array Nat) (k l:Nat):Prop:=l<=k/\(∀ i,i < l->lt (at_ p k) (at_ p i)=false)/\∀ i,l<=i->i < k->lt (at_ p k) (at_ p i)=true
theorem place (o:Ord lt) (x:Ix n p) {k:Nat} (hk:k < n) (u:Up lt p k):∀ {f l r:Nat},l<=r->r<=k->r - l<=f->(∀ i,i < l->lt (at_ p k) (at_ p i)=false)->(∀ i,r<=i->i < k->lt (at_ p k) (at_ p i)=true)->Gd lt n (kas_place p k f l r) (Pl lt p k)
  | 0,l,r,h1,h2,h3,a,b=>⟨by omega,a,fun i hi hk=>b i (by omega) hk⟩
  | f + 1, l, r, h1, h2, h3, a, b => by
    unfold kas_place
    by_cases e:l ≥ r
    . rw [if_pos e];exact ⟨by omega,a,fun i hi hk=>b i (by omega) hk⟩
    . rw [if_neg e]
      refine ⟨x.lo hk,x.lo (by omega),?_⟩
      dsimp only
      cases c:lt (p.getD k 0) (p.getD ((l + r) / 2) 0) with
      | true =>
        rw [if_pos rfl]
        refine place o x hk u (by omega) (by omega) (by omega) a fun i hi hk'=>?_
        cases q:lt (at_ p k) (at_ p i) with
        | true=>rfl
        | false =>
          have z:=o.tra _ _ _ (u ((l + r) / 2) i hi hk') q
          rw [show lt (at_ p k) (at_ p ((l + r) / 2))=true from c] at z;cases z
      | false =>
        rw [if_neg (by decide)]
        exact place o x hk u (by omega) (by omega) (by omega) (fun i hi=>o.tra _ _ _ (u i ((l + r) / 2) (by omega) (by omega)) c) b
theorem ins (o:Ord lt) {k l:Nat} (hz:k < p.size) (u:Up lt p k) (h:Pl lt p k l):Up lt (bubble p k (k - l)) (k + 1):=fun i j h1 h2=>by
  obtain ⟨l1,l2,l3⟩:=h
  have e:k - (k - l)=l:=by omega
  rw [at_bubble hz (by omega),at_bubble hz (by omega),e]
  by_cases a:j=l
  . rw [if_pos a]
    by_cases b:i=l
    . rw [if_pos b];exact o.irr _
    . rw [if_neg b,if_neg (by omega)];exact l2 i (by omega)
  . rw [if_neg a]
    by_cases b:i=l
    . rw [if_pos b]
      by_cases c:l < j/\j<=k
      . rw [if_pos c];exact o.asy _ _ (l3 (j - 1) (by omega) (by omega))
      . omega
    . rw [if_neg b]
      by_cases c:l < j/\j<=k
      . rw [if_pos c]
        by_cases d:l < i/\i<=k
        . rw [if_pos d];exact u _ _ (by omega) (by omega)
        . rw [if_neg d];exact u _ _ (by omega) (by omega)
      . rw [if_neg c,if_neg (by omega)];exact u _ _ h1 (by omega)
theorem bin (o:Ord lt):∀ {f:Nat} {p:Array Nat} {k:Nat},Ix n p->k + f=n->Up lt p k->Gd lt n (kas_bin f p k) (fun p=>Ix n p/\Up lt p n)
  | 0,p,k,x,h,u=>⟨x,by rw [<- h];exact u⟩
  | f + 1,p,k,x,h,u=>Gd.bind ((place o x (by omega) u (Nat.zero_le _) (Nat.le_refl _) (by omega) (fun i hi=>by omega) (fun i h1 h2=>by omega)).mono fun l hl=>bin o (x.bub _ _) (by omega) (ins o (by rw [x.sz];omega) u hl))
theorem sort (o:Ord lt) (h1:1<=n):Gd lt n (kas_sort n) (fun p=>Ix n p/\Up lt p n):=by
  refine Gd.bind ((count o ⟨by simp,Array.Perm.refl _⟩ h1).mono fun r ⟨a,b1,b2,b3⟩=>?_)
  by_cases e:r.1 < n
  . rw [if_pos e]
    rw [Nat.max_eq_left b1]
    exact bin o a (by omega) b3
  . rw [if_neg e]
    have:r.1=n:=by omega
    exact ⟨a,by rw [<- this];exact b3⟩
end
end Srt
end
section
namespace L2
open PySem PySem.Spec PyProof.Rows PySem.W PySem.Calls
section
variable {prog:Program} {w:World} {A:Around} {E:Value->Shared->Prop} {s:Shared}
theorem sort_many {a:Addr} {vs:List Value} {n:Nat} {κ:SortKind} {lt:Nat->Nat->Bool} {P:PySem.Fin->Shared->Prop} (ho:s.heap.get? a=some (seqObj "list" vs.toArray n)) (g2:2<=vs.length) (g64:vs.length < 64) (od:Srt.Ord lt)
    (hk:∀ (h':Heap) (Q:SortKind->Shared->Prop),(∀ b o,b ≠ a->s.heap.get? b=some o->h'.get? b=some o)->Q κ { s with heap:=h' }->wpAny (model prog w) A (keyKind' vs.toArray) Q (fun _ _=>False) { s with heap:=h' })
    (hc:∀ (i j:Nat) (h':Heap) (Q:Bool->Shared->Prop),i < vs.length->j < vs.length->(∀ b o,b ≠ a->s.heap.get? b=some o->h'.get? b=some o)->Q (lt i j) { s with heap:=h' }->wpAny (model prog w) A (keyLt' κ (vs.getD i .none) (vs.getD j .none)) Q (fun _ _=>False) { s with heap:=h' })
    (h:∀ p,Srt.Ix vs.length p->Srt.Up lt p vs.length->P (.done (.ret .none)) { s with heap:=sortedHeap s.heap a vs (p.toList.map fun i=>vs.getD i .none).toArray }):wpAny (model prog w) A (Builtin.«list.sort» ⟨[.ref a],[]⟩) P E s:=by
  rw [list_sort_plain]
  have ha:a < s.heap.objs.size:=Heap.lt_size ho
  obtain ⟨e1,ho1⟩:∃ e1,(s.heap.update a (Obj.mapSeq fun _ => #[])).get? a=some (seqObj "list" #[] e1):=⟨_,get?_update_seq ho (fun _ => #[])⟩
  have z:vs.toArray.size<=sizeLine:=by rw [List.size_toArray,sizeLine_eq];omega
  refine wpAny_bind (listItems_at ho rfl ?_)
  refine wpAny_bind (listUpdate_at ho rfl ?_ z (Nat.zero_le _))
  refine wpAny_bind (seqEpoch_at ho1 rfl ?_)
  refine wpAny_bind (wpAny_newTuple ?_ (by show vs.length<=_;rw [sizeLine_eq];omega))
  refine wpAny_bind (wpAny_newList ?_ (Nat.zero_le _))
  refine wpAny_holding ?_
  have ho6:=Heap.get?_push_of_some (seqObj "list" #[] 0) (Heap.get?_push_of_some (seqObj "tuple" vs.toArray 0) ho1)
  have kp:∀ b o,b ≠ a->s.heap.get? b=some o->(((s.heap.update a (Obj.mapSeq fun _ => #[])).push (seqObj "tuple" vs.toArray 0)).push (seqObj "list" #[] 0)).get? b=some o:=fun b o hb e =>
    Heap.get?_push_of_some _ (Heap.get?_push_of_some _ (by rw [Heap.get?_update_ne _ _ _ _ hb];exact e))
  show wpAny (model prog w) A _ P E { s with heap:=((s.heap.update a (Obj.mapSeq fun _ => #[])).push (seqObj "tuple" vs.toArray 0)).push (seqObj "list" #[] 0) }
  dsimp only
  have h2:¬ vs.toArray.size < 2:=by rw [List.size_toArray];omega
  rw [if_neg h2,if_neg h2]
  refine wpAny_bind (wpAny_mono (hk _ (fun k s'=>k=κ/\s'={ s with heap:=((s.heap.update a (Obj.mapSeq fun _ => #[])).push (seqObj "tuple" vs.toArray 0)).push (seqObj "list" #[] 0) }) kp ⟨rfl,rfl⟩) (fun k s' hks=>?_) fun _ _ x=>x.elim)
  obtain ⟨rfl,rfl⟩:=hks
  refine wpAny_bind (wpAny_mono (kat_run (ks:=vs) (vs:=vs) (G:=fun p s'=>s'={ s with heap:=((s.heap.update a (Obj.mapSeq fun _ => #[])).push (seqObj "tuple" vs.toArray 0)).push (seqObj "list" #[] 0) }/\Srt.Ix vs.length p/\Srt.Up lt p vs.length)
    (Q:=fun st' s'=>s'={ s with heap:=((s.heap.update a (Obj.mapSeq fun _ => #[])).push (seqObj "tuple" vs.toArray 0)).push (seqObj "list" #[] 0) }/\failedOf st'=none/\∃ p,Srt.Ix vs.length p/\Srt.Up lt p vs.length/\(arrOf st').map (·.2)=(p.toList.map fun i=>vs.getD i .none).toArray)
    rfl g2 g64 (fun p st' s' a1 a2 a3 a4=>⟨a4.1,a3,p,a4.2.1,a4.2.2,kat_snds rfl a2⟩) ?_) ?_ fun _ _ e=>e)
  . exact Srt.Gd.wp (fun i j C hi hj q=>hc i j _ C hi hj kp q) (fun p q=>⟨rfl,q⟩) (Srt.sort od (by omega))
  rintro ⟨⟨⟩,st'⟩ s' ⟨rfl,hf,p,ix,up,hout⟩
  dsimp only at hf hout ⊢
  rw [hout]
  have z':(p.toList.map fun i=>vs.getD i Value.none).toArray.size<=sizeLine:=by rw [List.size_toArray,List.length_map,Array.length_toList,ix.sz,sizeLine_eq];omega
  refine wpAny_bind (seqEpoch_at ho6 rfl ?_)
  refine wpAny_bind (listUpdate_at ho6 rfl ?_ (Nat.zero_le _) (Nat.le_succ_of_le z'))
  rw [hf]
  simp only [bne_self_eq_false,Bool.false_eq_true,if_false]
  exact wpAny_pure (h p ix up)
theorem sorted_byX {l:Addr} {vs:List Value} {O:Array Value->Prop} {Q:Value->Shared->Prop} (hl:s.heap.IsList l vs.toArray) (hz:vs.length<=sizeLine)
    (hs:∀ (h1:Heap) (P:PySem.Fin->Shared->Prop),(∀ b o,s.heap.get? b=some o->h1.get? b=some o)->h1.get? (s.heap.objs.size + 1)=some (seqObj "list" vs.toArray 0) ->
      (∀ out,O out->P (.done (.ret .none)) { s with heap:=sortedHeap h1 (s.heap.objs.size + 1) vs out })->wpAny (model prog w) A.in1.in1 (Builtin.«list.sort» ⟨[.ref (s.heap.objs.size + 1)],[]⟩) P (fun _ _=>False) { s with heap:=h1 })
    (h:∀ out,O out->Q (.ref (s.heap.objs.size + 1)) { s with heap:=sortedAll s.heap vs out }):wpAny (model prog w) A (call (.builtin "sorted") [.ref l]) Q E s:=by
  refine Calls.call_function_entry kind_sorted plain_sorted entry_sorted (args_sorted1 _) ?_
  unfold Builtin.«sorted»
  refine wpAny_bind (m:=checkCount "sorted" 1 1 _) (wpAny_pure ?_)
  refine wpAny_bind (collect_list hl ?_ hz)
  refine wpAny_bind (wpAny_newList ?_ (by exact hz))
  have hsz:((s.heap.push (seqObj "list" #[] 0)).update s.heap.objs.size (Obj.mapSeq (· ++ vs.toArray))).objs.size=s.heap.objs.size + 1:=by
    rw [Heap.size_update,size_push']
  have hoL:(((s.heap.push (seqObj "list" #[] 0)).update s.heap.objs.size (Obj.mapSeq (· ++ vs.toArray))).push (seqObj "list" vs.toArray 0)).get? (s.heap.objs.size + 1)=some (seqObj "list" vs.toArray 0):=by
    rw [<- hsz];exact Heap.get?_push_size _ rfl
  have keep:∀ b o,s.heap.get? b=some o->(((s.heap.push (seqObj "list" #[] 0)).update s.heap.objs.size (Obj.mapSeq (· ++ vs.toArray))).push (seqObj "list" vs.toArray 0)).get? b=some o:=fun b o q=>by
    have hlt:b < s.heap.objs.size:=Heap.lt_size q
    refine Heap.get?_push_of_some _ ?_
    rw [Heap.get?_update_ne _ _ _ _ (Nat.ne_of_lt hlt)]
    exact Heap.get?_push_of_some _ q
  show wpAny _ _ _ _ _ { s with heap:=((s.heap.push (seqObj "list" #[] 0)).update s.heap.objs.size (Obj.mapSeq (· ++ vs.toArray))).push (seqObj "list" vs.toArray 0) }
  rw [hsz]
  refine wpAny_bind (wpAny_holding (wpAny_call_entry slot_list_sort ⟨_,hoL,rfl⟩ entry_list_sort ?body (args_list_sort _)))
  case body =>
    refine wpAny_mono (hs _ _ keep hoL fun out ho=>?_) (fun _ _ x=>x) fun _ _ x=>x.elim
    exact ⟨_,rfl,wpAny_pure ⟨_,rfl,h out ho⟩⟩
noncomputable def ltL (xs ys:List Int):Bool:=decide (xs < ys)
theorem lex_ints {b:Bool} {Q:Bool->Shared->Prop}:∀ {ks ls:List Int} {us vs:List Value} {i:Nat},Vals (ks.map V.int) us->Vals (ls.map V.int) vs->ks.length=ls.length->Q (ltL ks ls) s->KatLex prog w A b false Q (us.zip vs) i s
  | [],[],us,vs,i,r1,r2,_,q=>by cases r1;cases r2;exact kat_nil q
  | [],_ :: _,_,_,_,_,_,l,_=>by cases l
  | _ :: _,[],_,_,_,_,_,l,_=>by cases l
  | k :: ks, m :: ls, us, vs, i, r1, r2, l, q => by
    rw [List.map_cons] at r1 r2
    cases r1 with
    | cons a1 r1 =>
    cases r2 with
    | cons a2 r2 =>
    obtain ⟨t1,rfl⟩:=a1
    obtain ⟨t2,rfl⟩:=a2
    rw [List.zip_cons_cons]
    refine kat_cons (wpAny_eqBool_int ?_)
    unfold ltL at q
    by_cases e:k=m
    . subst e
      rw [beq_self_eq_true]
      refine kat_yes (lex_ints r1 r2 (by simpa using l) ?_)
      unfold ltL
      rw [show decide (ks < ls)=decide (k :: ks < k :: ls) from decide_eq_decide.mpr (by rw [List.cons_lt_cons_iff];simp)]
      exact q
    . rw [beq_false_of_ne e]
      have ed:decide (k :: ks < m :: ls)=decide (k < m):=decide_eq_decide.mpr (by rw [List.cons_lt_cons_iff];simp [e])
      rw [ed] at q
      refine kat_no ?_
      cases (b && i == 0) with
      | true=>exact oneLt_int q
      | false=>exact kat_one _ _ (PyProof.Rows.lt_int q)
theorem ltL_ord (f:Nat->List Int):Srt.Ord (fun i j=>ltL (f i) (f j)):=⟨fun a=>decide_eq_false (List.lt_irrefl _),fun a b h=>decide_eq_false fun z=>List.lt_asymm (of_decide_eq_true h) z,fun a b c h1 h2=>decide_eq_false fun z=>by
  have x:=of_decide_eq_false h1
  have y:=of_decide_eq_false h2
  exact absurd z (List.not_lt.mpr (List.le_trans (List.not_lt.mp x) (List.not_lt.mp y)))⟩
end
end L2
end
section
namespace L2
open PySem PySem.Spec PyProof.Rows PySem.W PySem.Calls
noncomputable abbrev TupsI (K:PySem.W.Frag) (H:Hp) (m:Nat):List V->List (List Int)->Prop:=Paired fun v ks=>∃ a,v=V.ref a/\SqT K H a (ks.map V.int)/\ks.length=m
noncomputable def rSortN (K:PySem.W.Frag):List V->Hp->VK->Prop:=fun xs H Q=>∃ (p:Addr) (vs:List V) (kss:List (List Int)) (m:Nat),xs=[.ref p]/\SqL K H p vs/\TupsI K H (m + 1) vs kss/\vs.length < 64 /\
  ∀ (l:Addr) (q:List Nat),H l=none->q.Perm (List.range vs.length)->(q.map fun i=>kss.getD i []).Pairwise (fun x y=>ltL y x=false)->Q (.ref l) (upd H l (.lst (q.map fun i=>vs.getD i .non)))
noncomputable abbrev RawT (h:Heap) (m:Nat):List Value->List (List Int)->Prop:=Paired fun v ks=>∃ a o xs n,v=Value.ref a/\h.get? a=some o/\o.cls = .type "tuple" /\ o.data = .seq xs n/\Vals (ks.map V.int) xs.toList/\ks.length=m
section
variable {X:Cx}
theorem raw_of {pins:List (Addr × Obj)} {σ:St} {H:Hp} {s:Shared} {m:Nat} (I:Inv X pins σ H s):∀ {vs:List V} {kss:List (List Int)} {us:List Value},TupsI X.K H m vs kss->Vals vs us->RawT s.heap m us kss
  | _,_,_,.nil,r=>by cases r;exact .nil
  | _,_,_,.cons h t,r=>by
    cases r with
    | cons a r =>
    obtain ⟨b,rfl,st,l⟩:=h
    cases (show _=Value.ref b from a)
    obtain ⟨its,rv,⟨o,e1,e2,n,e3⟩,_⟩:=I.tuple st
    exact .cons ⟨b,o,its.toArray,n,rfl,e1,e2,e3,by simpa using rv,l⟩ (raw_of I t r)
theorem RawT.keeps {h h':Heap} {m:Nat} {a:Addr}:∀ {us:List Value} {kss:List (List Int)},RawT h m us kss->(∀ b o,b < a->h.get? b=some o->h'.get? b=some o)->(h.objs.size<=a)->RawT h' m us kss
  | _,_,.nil,_,_=>.nil
  | _,_,.cons ⟨b,o,xs,n,e1,e2,r⟩ t,k,z=>.cons ⟨b,o,xs,n,e1,k b o (Nat.lt_of_lt_of_le (Heap.lt_size e2) z) e2,r⟩ (RawT.keeps t k z)
theorem RawT.firsts {h:Heap} {m:Nat}:∀ {us:List Value} {kss:List (List Int)},RawT h (m + 1) us kss->∃ fs,KatTups h us fs/\fs.length=us.length/\∀ f ∈ fs,∃ i t,f=Value.int i t
  | _,_,.nil=>⟨[],trivial,rfl,fun f hf=>by cases hf⟩
  | _,_,.cons (b:=ks) ⟨b,o,xs,n,e1,e2,e3,e4,rv,l⟩ t=>by
    obtain ⟨fs,kt,lf,hf⟩:=RawT.firsts t
    match ks,l with
    | k :: ks, _ =>
      rw [List.map_cons] at rv
      generalize hx:xs.toList=us at rv
      cases rv with
      | cons a r =>
      obtain ⟨t,rfl⟩:=a
      have x0:xs[0]?=some (Value.int k t):=by rw [<- Array.getElem?_toList,hx];rfl
      subst e1
      exact ⟨_,KatTups.cons e2 e3 e4 x0 kt,by rw [List.length_cons,List.length_cons,lf],fun f hf'=>by
        rcases List.mem_cons.mp hf' with rfl | hf'
        . exact ⟨k,t,rfl⟩
        . exact hf f hf'⟩
theorem RawT.at_ {h:Heap} {m:Nat}:∀ {us:List Value} {kss:List (List Int)} {i:Nat},RawT h m us kss->i < us.length->∃ a o xs n,us.getD i .none=Value.ref a/\h.get? a=some o/\o.cls = .type "tuple" /\ o.data = .seq xs n/\Vals ((kss.getD i []).map V.int) xs.toList/\(kss.getD i []).length=m
  | _,_,i,.nil,hi=>by cases hi
  | _,_,0,.cons h _,_=>h
  | _,_,i + 1,.cons _ t,hi=>by
    obtain ⟨a,o,xs,n,r⟩:=RawT.at_ (i:=i) t (by simpa using hi)
    exact ⟨a,o,xs,n,by simpa using r⟩
theorem few_pw {kss:List (List Int)} {R:List Int->List Int->Prop}:∀ {n:Nat},n<=1->((List.range n).map fun i=>kss.getD i []).Pairwise R
  | 0,_=>.nil
  | 1,_=>List.pairwise_singleton _ _
  | n + 2,h=>by omega
theorem few_map:∀ {its:List Value},its.length<=1->its.toArray=((List.range its.length).map fun i=>its.getD i Value.none).toArray
  | [],_=>rfl
  | [_],_=>rfl
  | _ :: _ :: _,h=>by rw [List.length_cons,List.length_cons] at h;omega
theorem up_pw {q:Array Nat} {n:Nat} {f:Nat->List Int} (ix:Srt.Ix n q) (up:Srt.Up (fun i j=>ltL (f i) (f j)) q n):(q.toList.map f).Pairwise (fun x y=>ltL y x=false):=by
  refine List.pairwise_map.mpr (List.pairwise_iff_getElem.mpr fun i j hi hj hij=>?_)
  have hj2:j < q.size:=by simpa using hj
  have hi2:i < q.size:=by simpa using hi
  have e:=up i j (Nat.le_of_lt hij) (by rw [<- ix.sz];exact hj2)
  have g1:∀ k (hk:k < q.size),Srt.at_ q k=q.toList[k]:=fun k hk=>by simp [Srt.at_,Array.getD,hk]
  rw [g1 i hi2,g1 j hj2] at e
  exact e
theorem sel_vals {vs:List V} {its:List Value} (rv:Vals vs its):∀ q:List Nat,(∀ i ∈ q,i < vs.length)->Vals (q.map fun i=>vs.getD i .non) (q.map fun i=>its.getD i Value.none)
  | [],_=>.nil
  | i :: q,hq=>by
    refine .cons ?_ (sel_vals rv q fun j hj=>hq j (List.mem_cons_of_mem _ hj))
    have hi:=hq i List.mem_cons_self
    obtain ⟨u,hu,ru⟩:=Vals.get rv (List.getElem?_eq_getElem hi)
    dsimp only
    rw [List.getD_eq_getElem?_getD,List.getD_eq_getElem?_getD,hu,List.getElem?_eq_getElem hi]
    exact ru
theorem size_eq {k l:List Int} {xa xb:Array Value} {m:Nat} (va:Vals (k.map V.int) xa.toList) (vb:Vals (l.map V.int) xb.toList) (la:k.length=m) (lb:l.length=m):decide (xa.size < xb.size)=false:=by
  have e1:=va.length
  have e2:=vb.length
  rw [List.length_map] at e1 e2
  refine decide_eq_false ?_
  show ¬ xa.toList.length < xb.toList.length
  rw [<- e1, <- e2,la,lb]
  exact Nat.lt_irrefl _
theorem call_sortedN:CallR X (.builtin "sorted") (rSortN X.K):=by
  intro pins s σ H xs us Q I r h
  obtain ⟨p,vs,kss,m,rfl,hq,ht,h64,h⟩:=h
  obtain ⟨u,rfl,rx⟩:=vals1 r
  cases rx
  obtain ⟨its,rv,pl,hz⟩:=I.list hq
  have hl:=rv.length
  have raw:=raw_of I ht rv
  have lk:=Paired.length ht
  refine sorted_byX (O:=fun out=>∃ q:List Nat,q.Perm (List.range vs.length)/\(q.map fun i=>kss.getD i []).Pairwise (fun x y=>ltL y x=false)/\out=(q.map fun i=>its.getD i .none).toArray) pl.isList (by omega) (fun h1 P kp ho hP=>?_) (fun out ⟨q,hq1,hq2,eo⟩=>?_)
  . by_cases g:its.length<=1
    . refine sort_few ho g ?_
      exact hP its.toArray ⟨List.range vs.length,List.Perm.refl _,few_pw (by rw [hl];exact g),by rw [hl];exact few_map g⟩
    . refine sort_many (s:={ s with heap:=h1 }) (κ:=tuples' (Value.type "int" != Value.type "tuple")) (lt:=fun i j=>ltL (kss.getD i []) (kss.getD j [])) ho (by omega) (by omega) (ltL_ord fun i=>kss.getD i []) (fun h' Q' k2 hQ=>?_) (fun i j h' Q' hi hj k2 hQ=>?_) (fun q ix up=>?_)
      . have raw':RawT h' (m + 1) its kss:=raw.keeps (a:=s.heap.objs.size) (fun b o hb e=>k2 b o (Nat.ne_of_lt (Nat.lt_succ_of_lt hb)) (kp b o e)) (Nat.le_refl _)
        obtain ⟨fs,kt,lf,hf⟩:=raw'.firsts
        refine kat_kind kt (by omega) (T:=Value.type "int") (fun v hv=>?_) (by decide +kernel) hQ
        obtain ⟨i,t,rfl⟩:=hf v hv
        exact Looks.of_pure rfl
      . have raw':RawT h' (m + 1) its kss:=raw.keeps (a:=s.heap.objs.size) (fun b o hb e=>k2 b o (Nat.ne_of_lt (Nat.lt_succ_of_lt hb)) (kp b o e)) (Nat.le_refl _)
        obtain ⟨a,oa,xa,na,ea,ea2,_,ea3,va,la⟩:=raw'.at_ hi
        obtain ⟨b,ob,xb,nb,eb,eb2,_,eb3,vb,lb⟩:=raw'.at_ hj
        rw [ea,eb]
        refine kat_lt ea2 ea3 eb2 eb3 ?_
        rw [size_eq va vb la lb]
        exact lex_ints va vb (by rw [la,lb]) hQ
      . refine hP _ ⟨q.toList,?_,?_,rfl⟩
        . have:=ix.pm
          rw [<- hl] at this
          simpa using Array.Perm.toList this
        . exact up_pw ix up
  . subst eo
    obtain ⟨e,he⟩:=sortedAll_at s.heap its (q.map fun i=>its.getD i Value.none).toArray
    have lq:q.length=vs.length:=by rw [hq1.length_eq,List.length_range]
    have r2:=sel_vals rv q fun i hi=>List.mem_range.mp (hq1.mem_iff.mp hi)
    exact ⟨.ref _,_,I.laid (t':=s.toks) (fun b o e=>sortedAll_old e) (Nat.le_succ _) (show ObjOk X.prog X.w _ (sortedAll s.heap its (q.map fun i=>its.getD i Value.none).toArray) _ (.lst (q.map fun i=>vs.getD i .non)) from ⟨by rw [List.length_map,lq];exact hz,_,e,r2,he⟩),rfl,h _ q (I.hok.fresh (Nat.le_succ _)) hq1 hq2⟩
end
end L2
end
namespace D
open PySem L2 K0 Num
open PySem.W (Dat)
section
noncomputable def srtI (kss:List (List Int)):List (List Int):=kss.mergeSort (fun x y => !ltL y x)
theorem ltL_tot {x y:List Int} (h1:ltL x y=false) (h2:ltL y x=false):x=y:=List.le_antisymm (List.not_lt.mp (of_decide_eq_false h2)) (List.not_lt.mp (of_decide_eq_false h1))
theorem srtI_perm (kss:List (List Int)):(srtI kss).Perm kss:=List.mergeSort_perm _ _
theorem srtI_pw (kss:List (List Int)):(srtI kss).Pairwise (fun x y=>ltL y x=false):=by
  have h:=List.pairwise_mergeSort (le:=fun x y:List Int => !ltL y x) (fun a b c h1 h2=>by
    rw [Bool.not_eq_true'] at *
    exact (ltL_ord fun i=>[a,b,c].getD i []).tra 0 1 2 h1 h2) (fun a b=>by
    rw [Bool.or_eq_true,Bool.not_eq_true',Bool.not_eq_true']
    by_cases z:ltL b a=true
    . exact .inr (decide_eq_false fun y=>List.lt_asymm (of_decide_eq_true z) y)
    . exact .inl (by simpa using z)) kss
  exact h.imp fun h=>by simpa using h
theorem srtI_one {kss lss:List (List Int)} (h:lss.Pairwise (fun x y=>ltL y x=false)) (p:lss.Perm kss):lss=srtI kss:=List.Perm.eq_of_pairwise (fun a b _ _ h1 h2=>ltL_tot h2 h1) h (srtI_pw kss) (p.trans (srtI_perm kss).symm)
theorem srtI_congr {kss lss:List (List Int)} (p:kss.Perm lss):srtI kss=srtI lss:=srtI_one (srtI_pw kss) ((srtI_perm kss).trans p)
theorem sel_perm {kss:List (List Int)} {q:List Nat} (h:q.Perm (List.range kss.length)):(q.map fun i=>kss.getD i []).Perm kss:=by
  refine (h.map _).trans ?_
  rw [show ((List.range kss.length).map fun i=>kss.getD i [])=kss from ?_]
  refine List.ext_getElem (by simp) fun i h1 h2=>?_
  simp [List.getElem?_eq_getElem h2]
section
variable {p:Option Addr} {K:PySem.W.Frag} {W:Addr->Prop} {H:Hp} {N:Addr->Prop}
theorem tups_of {m:Nat}:∀ {vs:List V} {kss:List (List Int)},Dzs N K H vs (kss.map tI)->(∀ ks ∈ kss,ks.length=m)->TupsI K H m vs kss
  | _,[],h,_=>by cases h;exact .nil
  | _,ks :: kss,h,hm=>by
    rw [List.map_cons] at h
    cases h with
    | cons z r =>
    obtain ⟨b,rfl,hb⟩:=dz_key z
    exact .cons ⟨b,rfl,hb,hm ks List.mem_cons_self⟩ (tups_of r fun x hx=>hm x (List.mem_cons_of_mem _ hx))
theorem sel_dz {vs:List V} {kss:List (List Int)} (h:Dzs N K H vs (kss.map tI)):∀ q:List Nat,(∀ i ∈ q,i < vs.length)->Dzs N K H (q.map fun i=>vs.getD i .non) ((q.map fun i=>kss.getD i []).map tI)
  | [],_=>.nil
  | i :: q,hq=>by
    have hi:=hq i List.mem_cons_self
    have hl:=h.len
    rw [List.length_map] at hl
    obtain ⟨e,he,z⟩:=h.get' (List.getElem?_eq_getElem hi)
    rw [List.getElem?_map,List.getElem?_eq_getElem (by omega)] at he
    cases he
    refine .cons ?_ (sel_dz h q fun j hj=>hq j (List.mem_cons_of_mem _ hj))
    dsimp only
    rw [List.getD_eq_getElem?_getD,List.getD_eq_getElem?_getD,List.getElem?_eq_getElem hi,List.getElem?_eq_getElem (by omega)]
    exact z
end
end
end D
section
namespace L2
open PySem PySem.Spec PyProof.Rows
theorem draws_lstE {prog:Program} {w:World} {A:Around} (hh:A.handled=none) (it l:Addr) (hne:l ≠ it) (items:Array Value) :
    Draws prog w A it [it,l] items.size (fun i v=>items[i]?=some v) (fun i h=>h.IsListIter it l i/\h.IsList l items) where
  live:=fun _ _ st=>let ⟨o,ho,_⟩:=st.1;⟨o,ho⟩
  frame:=fun _ _ _ st hk=>⟨st.1.at fun o e=>hk it (by simp) o e,st.2.at fun o e=>hk l (by simp) o e⟩
  item:=fun i s Q E hi st hQ=>by
    refine wpAny_nextOf_list_item st.1 st.2 (x:=items[i]) (by simp [hi]) fun h' hit' hs'=>?_
    exact hQ _ h' s.toks (by simp [hi]) ⟨hit',st.2.extBut hs'.extBut hne⟩ hs'
  done:=fun s Q E st hE=>wpAny_nextOf_list_end hh st.1 st.2 (by simp) hE
noncomputable abbrev ehL (h:Heap) (l:Addr):Heap:=h.push { cls:=.type "list_iterator",data:=.fields #[.ref l,.int 0 0] }
theorem enumNewMeetsL (l:Addr) (xs:Array Value) :
    Meets (Builtin.«enumerate.__new__» ⟨[.type "enumerate",.ref l],[]⟩) (fun _ R s=>s.heap.IsList l xs /\
      R (.ok (.ret (.ref (ehL s.heap l).objs.size)))
        { s with heap:=(ehL s.heap l).push { cls:=.type "enumerate",data:=.fields #[.none,.bool false,.ref s.heap.objs.size,rawInt 0,.none,.none] } }) :=
  .of_wp fun prog w A R s h=>by
    obtain ⟨hp,g,d,tk,os⟩:=s;obtain ⟨hl,h⟩:=h
    have hsub:=sub_enumerate
    have hL:Heap.IsList (Shared.heap ⟨hp,g,d,tk,os⟩) l xs:=hl
    wp_walk using wpAny_pyIter_list hL
    refine wpAny_stack_any fun st=>wpAny_pure ?_
    split
    . rename_i c _ _ _ _ _
      cases (c == Value.type "enumerate")
      . wp_walk using wpAny_pyIter_list hL
        exact ⟨_,rfl,h⟩
      . wp_walk using wpAny_pyIter_list hL
        exact ⟨_,rfl,h⟩
    . wp_walk using wpAny_pyIter_list hL
      exact ⟨_,rfl,h⟩
end L2
namespace L2
open PySem PySem.Spec PyProof.Rows
section
variable {prog:Program} {w:World} {A:Around} {E:Value->Shared->Prop} {s:Shared}
theorem callEnumL {l:Addr} {xs:Array Value} {Q:Value->Shared->Prop} (hL:s.heap.IsList l xs)
    (h:∀ h',IsEnum h' (s.heap.objs.size + 1) s.heap.objs.size 0 .none->h'.IsListIter s.heap.objs.size l 0->(∀ b o,s.heap.get? b=some o->h'.get? b=some o)->Q (.ref (s.heap.objs.size + 1)) { s with heap:=h' }) :
    wpAny (model prog w) A (call (.type "enumerate") [.ref l]) Q E s:=by
  refine callType_new F.called_enumerate (by decide) (F.typeCall_enumerate_1 _) (F.newCall_enumerate_1 _) (fun obj=>F.args_object_init_2 obj _) F.entry_enumerate_new (enumNewMeetsL l xs) ⟨hL,?_⟩
  have hz:(ehL s.heap l).objs.size=s.heap.objs.size + 1:=Heap.size_push ..
  show _/\_
  rw [hz]
  have he:IsEnum ((ehL s.heap l).push { cls:=.type "enumerate",data:=.fields #[.none,.bool false,.ref s.heap.objs.size,rawInt 0,.none,.none] }) (s.heap.objs.size + 1) s.heap.objs.size 0 .none:=by
    have:=Heap.get?_push_size (ehL s.heap l) (o:={ cls:=.type "enumerate",data:=.fields #[.none,.bool false,.ref s.heap.objs.size,rawInt 0,.none,.none] }) rfl
    rw [hz] at this;exact this
  exact ⟨⟨_,he,rfl⟩,h _ he ⟨_,Heap.get?_push_of_some _ (Heap.get?_push_size _ rfl),rfl,rfl⟩ fun b o x=>Heap.get?_push_of_some _ (Heap.get?_push_of_some _ x)⟩
end
noncomputable def IteL (K:PySem.W.Frag) (l:Addr):It :=
  ⟨fun i H=>∃ xs x,SqL K H l xs/\xs[i]?=some x,
   fun i H v H'=>∃ p,H p=none/\v = .ref p/\∀ xs x,SqL K H l xs->xs[i]?=some x->H'=upd H p (.tup [.int i,x]),
   fun i H=>∃ xs,SqL K H l xs/\xs.length<=i⟩
noncomputable def entL (e it l:Addr) (i:Nat) (h:Heap):Prop:=(∃ old,IsEnum h e it i old)/\h.IsListIter it l i
theorem turn_enumL {P:Program} {w:World} {K:PySem.W.Frag} {elts:List Expr} {x1} {pos:Pos} {e it l:Addr} (ei:e ≠ it) (el:e ≠ l) (li:l ≠ it):Turn P w K (.Tuple elts x1 pos) (IteL K l) [e,it] e (entL e it l) where
  mem:=by simp
  obj:=fun i h st c hc=>by
    obtain ⟨⟨old,h1⟩,⟨o4,h4,_,d4⟩⟩:=st
    simp only [List.mem_cons,List.mem_nil_iff,or_false] at hc
    rcases hc with rfl | rfl
    . exact ⟨_,h1,fun v z=>by cases z⟩
    . exact ⟨_,h4,fun v z=>by rw [d4] at z;cases z⟩
  keep:=fun i h h' st k=>by
    obtain ⟨⟨old,h1⟩,h4⟩:=st
    exact ⟨⟨old,k _ (by simp) _ h1⟩,h4.at fun o e=>k _ (by simp) o e⟩
  item := by
    intro X hP hw hK hc i pins s σ H E I hf st hg
    subst hP hw hK
    obtain ⟨xs,x,q1,hx⟩:=hg
    obtain ⟨its,rv,p0,hz⟩:=I.list q1
    have p:=p0.isList
    obtain ⟨u,hu,ru⟩:=rv.get hx
    obtain ⟨⟨old,h1⟩,h4⟩:=id st
    have hlt:i < its.toArray.size:=by
      have:=(List.getElem?_eq_some_iff.mp hu).1
      simpa using this
    refine wpAny_pyNext_enum_itemD (draws_lstE (A:=X.A.in1) (I.ok.hd hc) it l li its.toArray) h1 ⟨h4,p⟩ hlt ei (by simp [ei,el]) fun u' g tk hP' ho hst' pr hsz all=>⟨_,rfl,?_⟩
    have eu:u'=u:=by
      have h:=hP'
      have h2:its.toArray[i]?=some u:=by simpa using hu
      rw [h2] at h;cases h;rfl
    subst eu
    refine wpAny_letOwnedTupleGo_enum (s:={ s with heap:=g,toks:=tk + 1 }) ho fun g2 e2 s2=>?_
    have hn:H s.heap.objs.size=none:=I.hok.fresh (Nat.le_refl _)
    have lt:∀ c ∈ [e,it],c < s.heap.objs.size:=fun c hc=>by
      obtain ⟨⟨_,w1⟩,⟨_,w4,_⟩⟩:=st
      simp only [List.mem_cons,List.mem_nil_iff,or_false] at hc
      rcases hc with rfl | rfl
      . exact Heap.lt_size w1
      . exact Heap.lt_size w4
    have kp:∀ c o,c ∉ [e,it]->s.heap.get? c=some o->g2.get? c=some o:=fun c o hc e=>by
      simp only [List.mem_cons,List.mem_nil_iff,or_false,not_or] at hc
      exact s2.extBut _ _ hc.1 (all c o hc.1 hc.2 e)
    have trk:∀ c u,H c=some u->c ∉ [e,it]:=fun c u e hc=>by rw [(hf c hc).1] at e;cases e
    have pr2:g2.get? s.heap.objs.size=some { cls:=.type "tuple",data:=.seq #[.int i tk,u'] }:=s2.extBut _ _ (Nat.ne_of_gt (lt e (by simp))) pr
    have I2:Inv X pins σ (upd H s.heap.objs.size (.tup [.int i,x])) { s with heap:=g2,toks:=tk + 1 }:=by
      refine I.step (g':=s.gens) (d':=s.drawn) (t':=tk + 1) (ch:=[e,it]) (fun c hc=>?_) (fun c o _ _ hc e _=>kp c o hc e) (fun c o _ _ hc e _=>⟨o.slots,kp c o hc e⟩) (fun c o _ e n=>?_)
        (fun c o hc e=>⟨o,kp c o hc e⟩) (fun c vs e=>?_) (fun c o vs e=>?_) (fun c ps e=>⟨#[],?_⟩) (fun m hm=>?_) (fun c v e=>?_) I.bare
      . obtain ⟨f0,f1,f2,f3,f4,f5⟩:=hf c hc
        exact ⟨f3,f1,f4,f5⟩
      . rw [upd_ne (Nat.ne_of_lt (Heap.lt_size e))];exact n
      . rw [upd_ne (ne_of_none e hn)];exact e
      . rw [upd_ne (ne_of_none e hn)];exact e
      . rw [upd_ne (ne_of_none e hn),e];simp
      . obtain ⟨o,es,ep,ho,r⟩:=hm
        exact ⟨o,es,ep,kp _ o (fun hc=>(hf _ hc).2.1 rfl) ho,r⟩
      . by_cases hb:c=s.heap.objs.size
        . subst hb
          rw [upd_same] at e;cases e
          exact ⟨by show 2<=sizeLine;decide,[.int i tk,u'],.cons ⟨tk,rfl⟩ (.cons ru .nil),⟨_,pr2,rfl,_,rfl⟩⟩
        . rw [upd_ne hb] at e
          refine (I.hok c v e).stay (fun d o hd q=>kp d o ?_ q) (fun d q=>by rw [upd_ne (ne_of_none q hn)];exact q) fun d ts q=>by rw [upd_ne (ne_of_none q hn)];exact q
          rcases hd with rfl | hd
          . exact trk _ _ e
          . exact trk _ _ hd
    refine ⟨.ref s.heap.objs.size,_,I2,rfl,⟨_,hn,rfl,fun xs' x' a1 a3=>?_⟩,⟨⟨_,by simpa using e2⟩,hst'.1.extBut s2.extBut ei.symm⟩,fun c hc=>?_⟩
    . rw [I.list_inj a1 q1,hx] at a3
      cases a3;rfl
    . rw [upd_ne (Nat.ne_of_lt (lt c hc))];exact (hf c hc).1
  done:=by
    intro X hP hw hK hc i pins s σ H E I hf st hg
    subst hP hw hK
    obtain ⟨xs,q1,hx⟩:=hg
    obtain ⟨its,rv,p0,hz⟩:=I.list q1
    have p:=p0.isList
    obtain ⟨⟨old,h1⟩,h4⟩:=id st
    have hl:=rv.length
    have kp0:∀ g:Heap,Heap.ExtBut it s.heap g->∀ c o,c ∉ [e,it]->s.heap.get? c=some o->g.get? c=some o:=fun g x c o hc h=>by
      simp only [List.mem_cons,List.mem_nil_iff,or_false,not_or] at hc
      exact x c o hc.2 h
    have hT:s.TypeIs (.ref e) "enumerate" := ⟨_,h1,rfl⟩
    unfold pyNext
    refine wpAny_bind (wpAny_attempt (wpAny_callSpecial?_slot (name:=Str.ofString "__next__") hT F.slot_enumerate_next (wpAny_call_entry F.slot_enumerate_next hT F.entry_enumerate_next ?_ (F.args_enumerate_next_1 _))))
    show wpAny _ _ (field (.ref e) 2 >>= _) _ _ _
    refine wpAny_bind (wpAny_field h1 rfl (x:=.ref it) rfl ?_)
    refine wpAny_bind (wpAny_nextOf_list_end (show X.A.in1.handled=none from I.ok.hd hc) h4 p (by simp;omega) fun g x he' hx'=>?_)
    obtain ⟨o,ho,hc'⟩:=hx'
    refine wpAny_bind (wpAny_isInstance (T := "StopIteration") (b:=true) ⟨o,ho,hc'⟩ isSubtype_stop ?_)
    refine wpAny_pure ⟨rfl,?_⟩
    have kp:=kp0 g he'
    have trk:∀ c u,H c=some u->c ∉ [e,it]:=fun c u e hc=>by rw [(hf c hc).1] at e;cases e
    refine I.step (g':=s.gens) (d':=s.drawn) (t':=s.toks) (ch:=[e,it]) (fun c hc=>?_) (fun c o _ _ hc e _=>kp c o hc e) (fun c o _ _ hc e _=>⟨o.slots,kp c o hc e⟩) (fun c o _ e n=>n)
        (fun c o hc e=>⟨o,kp c o hc e⟩) (fun c vs e=>e) (fun c o vs e=>e) (fun c ps e=>⟨#[],by rw [e];simp⟩) (fun m hm=>?_) (fun c v e=>?_) I.bare
    . obtain ⟨f0,f1,f2,f3,f4,f5⟩:=hf c hc
      exact ⟨f3,f1,f4,f5⟩
    . obtain ⟨o,es,ep,ho,r⟩:=hm
      exact ⟨o,es,ep,kp _ o (fun hc=>(hf _ hc).2.1 rfl) ho,r⟩
    . refine (I.hok c v e).stay (fun d o hd q=>kp d o ?_ q) (fun d q=>q) fun d ts q=>q
      rcases hd with rfl | hd
      . exact trk _ _ e
      . exact trk _ _ hd
  self:=fun _ _ _ _ _ st h=>by obtain ⟨⟨old,h1⟩,_⟩:=st;exact wpAny_pyIter_enum h1 h
section
variable {X:Cx}
noncomputable def iEnumL (K:PySem.W.Frag) (ta:TA):TI:=fun σ H R=>ta σ H fun vs H1=>∃ l,vs=[.ref l]/\(∃ xs,SqL K H1 l xs)/\R (IteL K l) H1
theorem pi_enumL {a:Expr} {ta:TA} {p pos pt:Pos} {elts:List Expr} {x1} (hg:Gl X "enumerate") (hm:X.mg "enumerate" = none) (ha:PA X [a] ta) (hs:starEach [a] X.env=[(false,eval a X.env)]:=by rfl) :
    PI X (.Tuple elts x1 pt) (.Call (.Name "enumerate" p) [a] [] pos) (iEnumL X.K ta):=by
  intro pins s σ H R I h
  refine Call_ (ld_blt I hg hm (u:=.type "enumerate") (by rfl) (PyProof.Rows.callWith_type1 (thn (ha pos pins s σ H _ I h) fun us s1 ⟨vs,H1,I1,r1,q1⟩=>?_) hs rfl))
  obtain ⟨l,e,⟨xs,q1⟩,q⟩:=q1
  subst e
  obtain ⟨u,rfl,ru⟩:=vals1 r1
  cases (show _=Value.ref l from ru)
  obtain ⟨its,rv,p0,_⟩:=I1.list q1
  have p1:=p0.isList
  have a1:l < s1.heap.objs.size:=by obtain ⟨_,e,_⟩:=p1;exact Heap.lt_size e
  refine callEnumL (show s1.heap.IsList l its.toArray from p1) fun g E4 T4 all=>?_
  refine wpAny_pyIter_enum (s:={ s1 with heap:=g }) E4 ?_
  refine ⟨_,_,_,_,H1,rfl,I1.kept (t':=s1.toks) all,turn_enumL (e:=s1.heap.objs.size + 1) (it:=s1.heap.objs.size) (l:=l) (Nat.ne_of_gt (Nat.lt_succ_self _)) (Nat.ne_of_gt (Nat.lt_succ_of_lt a1)) (Nat.ne_of_lt a1),⟨⟨_,E4⟩,T4⟩,fun b hb=>?_,q⟩
  have ge:s1.heap.objs.size<=b:=by
    simp only [List.mem_cons,List.mem_nil_iff,or_false] at hb
    rcases hb with rfl | rfl
    . exact Nat.le_add_right _ 1
    . exact Nat.le_refl _
  exact I1.fpOk ge (I1.hok.fresh ge)
theorem zi_enumL {a:Expr} {ta:TA} {p pos pt:Pos} {elts:List Expr} {x1} (hg:Gl X "enumerate") (hm:X.mg "enumerate" = none) (ha:ZA X [a] ta) (hs:starEach [a] X.env=[(false,eval a X.env)]:=by rfl):ZI X (.Tuple elts x1 pt) (.Call (.Name "enumerate" p) [a] [] pos) (iEnumL X.K ta):=⟨pi_enumL hg hm ha.out hs⟩
end
end L2
end
section
namespace L2
open PySem PySem.Spec PyProof.Rows
section
variable {e o i k v:Expr} {ty tv:TE}
end
end L2
namespace D
open PySem L2 K0 Num
open PySem.W (Dat)
section
variable {p:Option Addr} {K:PySem.W.Frag} {τ:List Sl} {tas:TA} {ds:List Dat}
theorem Wk.enumL (h:A1 p K tas τ [.dat (.list ds)]):Wk p K (iEnumL K tas) τ (enumD ds):=fun W L σ H R r o q=>h W L σ H _ r o fun vs H1 ss e e1 o1 rv=>by
  subst e
  cases rv with
  | cons a t =>
    cases t
    cases a with
    | lst h1 h2 =>
      rename_i a1 x1
      refine ⟨a1,rfl,⟨_,h1.sq⟩,q _ H1 e1 o1 fun W' H' ev n=>?_⟩
      have g1:SqL K H' a1 x1:=by
        rcases h1 with ⟨nn,h1⟩ | h1
        . exact .inl (h1.imp (ev.keep _ _ nn) fun ⟨o,h⟩=>⟨o,ev.keep _ _ nn h⟩)
        . exact SqN.sq (N:=fun _=>True) (.inr h1)
      have g2:=Dzs.old ev n h2
      refine ⟨⟨_,g1,by rw [g2.len,enumD_len];exact Nat.le_refl _⟩,fun i d hd=>?_⟩
      obtain ⟨x,ex,rfl⟩:=enumD_get hd
      obtain ⟨vx,ux,zx⟩:=g2.get ex
      refine ⟨⟨_,vx,g1,ux⟩,fun z H2 ⟨a,ha,e,q⟩=>?_⟩
      have:=q _ _ g1 ux
      subst this e
      have s:=Same.new ha (.tup [.int i,vx])
      have e:Ev (fun _=>False) H' (upd H' a (.tup [.int i,vx])):=Ev.of s
      exact ⟨s,.tup (SqT.of upd_same) (.cons (.int _) (.cons (zx.ev e fun _ _ h=>h) .nil))⟩
end
noncomputable def KnD (kd:List (List Int × Dat)) (K:PySem.W.Frag) (H:Hp) (a:Addr):Prop:=∃ xs,H a=some (.ext (kx a xs))/\xs.map (·.1)=kd.map (·.1)/\(kd.map (·.1)).Nodup/\KeysAt K H xs/\Dzs (fun _=>False) K H (xs.map (·.2.2)) (kd.map (·.2))
theorem KnD.ev {kd:List (List Int × Dat)} {K:PySem.W.Frag} {H H':Hp} {a:Addr} {W:Addr->Prop} (h:KnD kd K H a) (e:Ev W H H') (ha:∀ o,H a=some o->H' a=some o):KnD kd K H' a:=by
  obtain ⟨xs,h1,h2,h3,h4,h5⟩:=h
  exact ⟨xs,ha _ h1,h2,h3,fun x hx=>e.tm _ _ _ (h4 x hx),h5.ev e fun _ h=>h.elim⟩
noncomputable def knD (a:Addr) (kd:List (List Int × Dat)):Own where
  R N K H a' l:=a'=a/\l=[a]/\KnD kd K H a
  ev:=fun ⟨e,el,h⟩ ev nw hl=>⟨e,el,h.ev ev fun o ho=>hl _ _ (by rw [el];exact List.mem_singleton_self _) ho⟩
  wide:=fun h _=>h
  al:=fun ⟨e,el,xs,h,_⟩ b hb=>by rw [el,List.mem_singleton] at hb;subst hb;exact ⟨_,h⟩
theorem knD_self {a:Addr} {kd:List (List Int × Dat)}:(knD a kd).Self:=fun _ _ _ _ _ h=>h
theorem hasX_look {xs:List (List Int × Addr × V)} {kd:List (List Int × Dat)} (e:xs.map (·.1)=kd.map (·.1)) (ks:List Int):hasX xs ks=(lookD kd ks).isSome:=by
  rw [<- lookD_any]
  unfold hasX
  have h1:(xs.any fun x=>decide (x.1=ks))=(xs.map (·.1)).any fun k=>decide (k=ks):=by rw [List.any_map];rfl
  have h2:(kd.any fun x=>decide (x.1=ks))=(kd.map (·.1)).any fun k=>decide (k=ks):=by rw [List.any_map];rfl
  rw [h1,h2,e]
theorem look_at {N:Addr->Prop} {K:PySem.W.Frag} {H:Hp}:∀ {xs:List (List Int × Addr × V)} {kd:List (List Int × Dat)} {ks:List Int} {d:Dat},xs.map (·.1)=kd.map (·.1)->(kd.map (·.1)).Nodup->Dzs N K H (xs.map (·.2.2)) (kd.map (·.2))->lookD kd ks=some d->∀ x ∈ xs,x.1=ks->Dz N K H x.2.2 d
  | [],_,_,_,_,_,_,_,x,hx,_=>by cases hx
  | _ :: _,[],_,_,e,_,_,_,_,_,_=>by cases e
  | x :: xs, y :: kd, ks, d, e, nd, z, h, x', hx, ex => by
    rw [List.map_cons,List.map_cons] at e z
    injection e with e1 e2
    rw [List.map_cons,List.nodup_cons] at nd
    cases z with
    | cons z1 z2 =>
    unfold lookD at h
    by_cases c:y.1=ks
    . rw [List.find?_cons,decide_eq_true c] at h
      cases h
      rcases List.mem_cons.mp hx with rfl | hx
      . exact z1
      . exact absurd (List.mem_map.mpr ⟨x',hx,ex⟩) (by rw [e2, <- c];exact nd.1)
    . rw [List.find?_cons,decide_eq_false c] at h
      rcases List.mem_cons.mp hx with rfl | hx
      . exact absurd (e1.symm.trans ex) c
      . exact look_at e2 nd.2 z2 h x' hx ex
theorem nodup_put {kd:List (List Int × Dat)} {ks:List Int} {d:Dat} (x3:(kd.map (·.1)).Nodup) (hl:lookD kd ks=none):((kd ++ [(ks,d)]).map (·.1)).Nodup:=by
  rw [List.map_append,List.nodup_append]
  refine ⟨x3,by simp,fun x hx y hy=>?_⟩
  simp at hy
  subst hy
  intro e
  subst e
  have:(lookD kd x).isSome=true:=by
    rw [<- lookD_any,List.any_eq_true]
    obtain ⟨z,hz,ez⟩:=List.mem_map.mp hx
    exact ⟨z,hz,decide_eq_true ez⟩
  rw [hl] at this;cases this
section
variable {K:PySem.W.Frag} {τ:List Sl} {tv ty:TE} {t:TS} {nx:List Sl->Prop} {rt:Sl->Prop} {j:Nat} {a:Addr} {ks:List Int} {d:Dat} {kd:List (List Int × Dat)}
theorem T1.kNotD (hj:τ[j]?=some (.dt (knD a kd))) (hk:E1 none K ty τ (.dat (tI ks))):T1 none K (tB (tKNot K ty (tVar j))) τ (!(lookD kd ks).isSome):=fun W L σ H Q r o q=>by
  refine hk W L σ H _ r o fun y H1 s c1 e1 o1 r1=>?_
  subst c1
  obtain ⟨b,rfl,hb⟩:=dz_key r1
  obtain ⟨a',l,g1,_,_,_,ea,el,xs,x1,x2,x3,x4,x5⟩:=(r.ev e1 o.pw).get_t hj
  subst ea
  exact ⟨_,g1,a',b,xs,ks,rfl,rfl,x1,x4,hb,_,rfl,q _ H1 (by rw [hasX_look x2]) e1 o1⟩
theorem E1.kGetD (hj:τ[j]?=some (.dt (knD a kd))) (hk:E1 none K ty τ (.dat (tI ks))) (hl:lookD kd ks=some d):E1 none K (tKGet K (tVar j) ty) τ (.dat d):=fun W L σ H Q r o q=>by
  obtain ⟨a0,_,g1,_⟩:=r.get_t hj
  refine ⟨_,g1,?_⟩
  refine hk W L σ H _ r o fun y H1 s c1 e1 o1 r1=>?_
  subst c1
  obtain ⟨b,rfl,hb⟩:=dz_key r1
  obtain ⟨a',l,g2,_,_,_,ea,el,xs,x1,x2,x3,x4,x5⟩:=(r.ev e1 o.pw).get_t hj
  rw [g1] at g2
  cases g2
  subst ea
  exact ⟨a0,b,xs,ks,rfl,rfl,x1,x4,hb,by rw [hasX_look x2,hl];rfl,fun x hx ex=>q _ H1 _ rfl e1 o1 ((look_at x2 x3 x5 hl x hx ex).mono fun _ h=>h.elim)⟩
theorem S.kPutD (hj:τ[j]?=some (.dt (knD a kd))) (hk:E1 none K ty τ (.dat (tI ks))) (hv:E1 none K tv τ (.dat d)) (nl:noL d=true) (hl:lookD kd ks=none) (hn:kd.length < 2000) (m:nx (τ.set j (.dt (knD a (kd ++ [(ks,d)]))))):S none K (sKPut K (tVar j) ty tv) τ nx rt:=fun W L σ H D r o q1 q2=>by
  refine hv W L σ H _ r o fun v H1 s c2 e1 o1 zv=>?_
  subst c2
  have r1:=r.ev e1 o.pw
  obtain ⟨a0,_,g1,_⟩:=r1.get_t hj
  refine ⟨_,g1,?_⟩
  refine hk W L σ H1 _ r1 o1 fun y H3 s c3 e3 o3 r3=>?_
  subst c3
  obtain ⟨b,rfl,hb⟩:=dz_key r3
  obtain ⟨a',l,y1,g2,y3,⟨ea,el,xs,x1,x2,x3,x4,x5⟩,fin⟩:=r.fin o (e1.trans e3) o3 hj
  rw [g1] at y1
  cases y1
  subst ea el
  have hl':hasX xs ks=false:=by rw [hasX_look x2,hl];rfl
  have lx:xs.length=kd.length:=by have:=congrArg List.length x2;rwa [List.length_map,List.length_map] at this
  have zv3:Dz (fun _=>False) K H3 v d:=Dz.free (Dz.ev e3 o1.nw zv) nl
  refine ⟨a0,b,xs,ks,rfl,rfl,x1,x4,hb,hl',Nat.lt_of_le_of_lt (show xs.length<=2000 by omega) (by decide),?_⟩
  have ev:Ev (fun b=>b=a0) H3 (upd H3 a0 (.ext (kx a0 (xs ++ [(ks,b,v)])))):=⟨fun b o n h=>by rw [upd_ne n];exact h,Tm.ext x1 _⟩
  obtain ⟨k1,k2,k3,k4,L',k5,k6,k7⟩:=fin W _ [a0] (knD a0 (kd ++ [(ks,d)])) (fun c=>⟨.inl,fun z=>z.elim id (g2 c)⟩) (fun c hc=>.inl hc) (ev.mono fun c hc=>by rw [hc];exact List.mem_singleton_self _) (fun c hc=>by rw [List.mem_singleton] at hc;subst hc;exact ⟨_,upd_same⟩)
    ⟨rfl,rfl,_,upd_same,by rw [List.map_append,List.map_append,x2];rfl,nodup_put x3 hl,fun x hx=>ev.tm _ _ _ (by
      rcases List.mem_append.mp hx with hx | hx
      . exact x4 x hx
      . rw [List.mem_singleton] at hx;subst hx;exact hb),by
      rw [List.map_append,List.map_append]
      exact (x5.ev ev fun _ h=>h.elim).app (.cons (zv3.ev ev fun _ h=>h.elim) .nil)⟩
  exact q1 W L' σ _ _ m k1 k2 k3 k4 k5 k7
end
end D
end
namespace D
open PySem L2 K0 Num
open PySem.W (Dat)
section
noncomputable def cg (g h:List Int):List Int:=qm (qm g h) (cj g)
noncomputable abbrev Nz (f:List Int):Prop:=∃ n ∈ f,n ≠ 0
section
variable {g h p:List Int} {o:Int}
theorem cg_len (lg:g.length=4) (lh:h.length=4):(cg g h).length=4:=qm_len (qm_len lg lh) (cj_len lg)
theorem cg_nz (lg:g.length=4) (lh:h.length=4) (zg:Nz g) (zh:Nz h):Nz (cg g h):=nz_qm (qm_len lg lh) (cj_len lg) (nz_qm lg lh zg zh) (nz_cj lg zg)
theorem cg_mul (lg:g.length=4) (lp:p.length=4) (lh:h.length=4):qm (cg g p) (cg g h)=(cg g (qm p h)).map (nrm g * ·):=by
  have lc:=cj_len lg
  have e1:qm (cj g) (qm (qm g h) (cj g))=(qm h (cj g)).map (nrm g * ·):=by
    rw [<- qm_assoc lc (qm_len lg lh) lc, <- qm_assoc lc lg lh,qm_cjL lg,qm_mulL rfl lh,qm_oneL lh,qm_mulL lh lc]
  unfold cg
  rw [qm_assoc (qm_len lg lp) lc (qm_len (qm_len lg lh) lc),e1,qm_mulR (qm_len lg lp) (qm_len lh lc), <- qm_assoc (qm_len lg lp) lh lc,qm_assoc lg lp lh]
theorem cg_pl (lg:g.length=4) (lh:h.length=4) (zg:Nz g) (zh:Nz h):pl (cg g (pl h))=pl (cg g h):=by
  have lc:=cj_len lg
  have zc:=nz_cj lg zg
  have lp:(pl h).length=4:=by rw [pl_length];exact lh
  unfold cg
  rw [<- pl_qmL (qm_len lg lp) lc (nz_qm lg lp zg (nz_pl zh)) zc,pl_qmR lg lh zg zh,pl_qmL (qm_len lg lh) lc (nz_qm lg lh zg zh) zc]
theorem th_cg (lg:g.length=4) (lp:p.length=4) (lh:h.length=4) (zg:Nz g) (zp:Nz p) (zh:Nz h) (o0:o ≠ 0):pl (qm ((cg g p).map (o * ·)) (pl (cg g h)))=pl (cg g (pl (qm p h))):=by
  have l1:=cg_len lg lp
  have l2:=cg_len lg lh
  have z1:=cg_nz lg lp zg zp
  have z2:=cg_nz lg lh zg zh
  have lq:=qm_len lp lh
  have zq:=nz_qm lp lh zp zh
  rw [qm_mulL l1 (by rw [pl_length];exact l2),pl_scale o0 (nz_qm l1 (by rw [pl_length];exact l2) z1 (nz_pl z2)),pl_qmR l1 l2 z1 z2,cg_mul lg lp lh,pl_scale (Int.ne_of_gt (nrm_pos lg zg)) (cg_nz lg lq zg zq),cg_pl lg lq zg zq]
theorem cg_one (lg:g.length=4) (zg:Nz g):pl (cg g [1,0,0,0])=[1,0,0,0]:=by
  unfold cg
  rw [qm_oneR lg,qm_cjR lg,pl_one (Int.ne_of_gt (nrm_pos lg zg))]
theorem rs_cg (lg:g.length=4) (lh:h.length=4) (zg:Nz g) (zh:Nz h):rs (pl (cg g h))=rs h:=by
  have lc:=cj_len lg
  have zc:=nz_cj lg zg
  rw [<- rs_turned lg lh zg zh]
  unfold cg
  rw [pl_qmR lh lc zh zc,pl_qmR lg (qm_len lh lc) zg (nz_qm lh lc zh zc),qm_assoc lg lh lc]
end
inductive Gen (fs:List (List Int)):List Int->Prop
  | one:Gen fs [1,0,0,0]
  | step {x f:List Int}:Gen fs x->f ∈ fs->Gen fs (pl (qm f x))
noncomputable def Pooled (fs:List (List Int)):Prop:=∃ (g:List Int) (pool:List (List Int)),g.length=4/\Nz g/\Bd (2 ^ 5) g/\(pool=pool1\/pool=pool2)/\∀ f ∈ fs,∃ (o:Int) (p:List Int),o ≠ 0/\p ∈ pool/\f=(cg g p).map (o * ·)
noncomputable def grp1:List (List Int):=[[1,0,0,0],[0,1,0,0],[0,0,1,0],[1,1,0,0],[1,0,1,0],[1,0,0,1],[1,1,1,1],[0,1,1,0],[1, -1,1,1],[0,0,1, -1],[1,0, -1,0],[0,0,0,1],[1, -1,0,0],[0,1,0, -1],[1, -1, -1,1],[1,1,1, -1],[0,0,1,1],[0,1,0,1],[0,1, -1,0],[1,1, -1, -1],[1,0,0, -1],[1,1, -1,1],[1, -1, -1, -1],[1, -1,1, -1]]
noncomputable def grp2:List (List Int):=[[1,0,0,0],[3,1,1,1],[1,1,1,1],[0,1,1,1],[0,1, -1,0],[0,1,0, -1],[0,1,1, -2],[0,2, -1, -1],[3, -1, -1, -1],[1, -1, -1, -1],[0,1, -2,1],[0,0,1, -1]]
noncomputable def GrOk (gr pool:List (List Int)):Prop:=[1,0,0,0] ∈ gr/\gr.length<=24/\(∀ h ∈ gr,h.length=4/\(∃ n ∈ h,n ≠ 0)/\(cts.lookup (rs h)).isSome=true/\Bd (2 ^ 3) h)/\(∀ p ∈ pool,p.length=4/\∃ n ∈ p,n ≠ 0)/\∀ h ∈ gr,∀ p ∈ pool,pl (qm p h) ∈ gr
noncomputable instance (gr pool:List (List Int)):Decidable (GrOk gr pool):=by unfold GrOk Bd;infer_instance
theorem gr1_ok:GrOk grp1 pool1:=by decide +kernel
theorem gr2_ok:GrOk grp2 pool2:=by decide +kernel
theorem pooled_in {fs:List (List Int)} (h:Pooled fs):∃ gs:List (List Int),gs.length<=24/\∀ x,Gen fs x->x ∈ gs/\(cts.lookup (rs x)).isSome=true/\x.length=4/\Nz x/\Bd (2 ^ 17) x:=by
  obtain ⟨g,pool,lg,zg,bg,hp,hf⟩:=h
  obtain ⟨gr,o1,o2,o3,o4,o5⟩:∃ gr,GrOk gr pool:=by
    rcases hp with rfl | rfl
    . exact ⟨_,gr1_ok⟩
    . exact ⟨_,gr2_ok⟩
  refine ⟨gr.map fun h=>pl (cg g h),by rw [List.length_map];exact o2,fun x hx=>?_⟩
  have key:∃ h ∈ gr,x=pl (cg g h):=by
    induction hx with
    | one=>exact ⟨_,o1,(cg_one lg zg).symm⟩
    | step hx hfm ih =>
      obtain ⟨h,hh,rfl⟩:=ih
      obtain ⟨o,p,o0,pm,rfl⟩:=hf _ hfm
      obtain ⟨lh,zh,_⟩:=o3 h hh
      obtain ⟨lp,zp⟩:=o4 p pm
      exact ⟨_,o5 h hh p pm,th_cg lg lp lh zg zp zh o0⟩
  obtain ⟨h,hh,rfl⟩:=key
  obtain ⟨lh,zh,ch,bh⟩:=o3 h hh
  refine ⟨List.mem_map.mpr ⟨h,hh,rfl⟩,?_,by rw [pl_length];exact cg_len lg lh,nz_pl (cg_nz lg lh zg zh),bd_pl (cg_nz lg lh zg zh) (bd_mono (bd_qm (qm_len lg lh) (cj_len lg) (bd_qm lg lh bg bh) (bd_cj lg bg)) (by decide))⟩
  rw [rs_cg lg lh zg zh];exact ch
theorem gen_closed {fs L:List (List Int)} (h1:[1,0,0,0] ∈ L) (h2:∀ x ∈ L,∀ f ∈ fs,pl (qm f x) ∈ L):∀ {x},Gen fs x->x ∈ L:=fun hx=>by
  induction hx with
  | one=>exact h1
  | step _ hf ih=>exact h2 _ ih _ hf
theorem nodup_sub:∀ {l m:List (List Int)},l.Nodup->(∀ x ∈ l,x ∈ m)->l.length<=m.length
  | [],m,_,_=>Nat.zero_le _
  | x :: l,m,nd,h=>by
    have hx:=h x List.mem_cons_self
    have nd':=List.nodup_cons.mp nd
    have:=nodup_sub (m:=m.erase x) nd'.2 fun y hy=>(List.mem_erase_of_ne (fun e=>nd'.1 (by rw [<- e];exact hy))).mpr (h y (List.mem_cons_of_mem _ hy))
    rw [List.length_erase_of_mem hx] at this
    have:=List.length_pos_of_mem hx
    rw [List.length_cons];omega
theorem gen_perm {fs L M:List (List Int)} (l1:[1,0,0,0] ∈ L) (l2:∀ x ∈ L,∀ f ∈ fs,pl (qm f x) ∈ L) (l3:L.Nodup) (l4:∀ x ∈ L,Gen fs x) (m1:[1,0,0,0] ∈ M) (m2:∀ x ∈ M,∀ f ∈ fs,pl (qm f x) ∈ M) (m3:M.Nodup) (m4:∀ x ∈ M,Gen fs x):L.Perm M :=
  (List.perm_ext_iff_of_nodup l3 m3).mpr fun x=>⟨fun h=>gen_closed m1 m2 (l4 x h),fun h=>gen_closed l1 l2 (m4 x h)⟩
end
end D
section
namespace L2
open PySem PySem.Spec PyProof.Rows PySem.W PySem.Calls
noncomputable def DRaw (h:Heap) (d:Addr) (es:Array DictEntry) (ep:Nat):Prop:=∃ o,h.get? d=some o/\o.ExactDict/\o.data = .dict es ep
theorem DRaw.at {h h':Heap} {d:Addr} {es:Array DictEntry} {ep:Nat} (x:DRaw h d es ep) (e:∀ o,h.get? d=some o->h'.get? d=some o):DRaw h' d es ep:=let ⟨o,ho,r⟩:=x;⟨o,e _ ho,r⟩
theorem DRaw.lt {h:Heap} {d:Addr} {es:Array DictEntry} {ep:Nat} (x:DRaw h d es ep):d < h.objs.size:=let ⟨_,ho,_⟩:=x;Heap.lt_size ho
theorem DRaw.typeIs {s:Shared} {d:Addr} {es:Array DictEntry} {ep:Nat} (x:DRaw s.heap d es ep):s.TypeIs (.ref d) "dict" := let ⟨o,ho,hc,_⟩:=x;⟨o,ho,hc.1⟩
section
variable {prog:Program} {w:World} {A:Around} {E:Value->Shared->Prop} {s:Shared} {d it:Addr} {es:Array DictEntry} {ep i:Nat}
theorem raw_iter {Q:Value->Shared->Prop} (lo:(d == sysModules)=false) (x:DRaw s.heap d es ep) (q:Q (.ref s.heap.objs.size) { s with heap:=s.heap.push { cls:=.type "dict_keyiterator",data:=.fields #[.ref d,.int 0 0,.int es.size 0,.int ep 0] } }):wpAny (model prog w) A (pyIter (.ref d)) Q E s:=by
  have hT:=x.typeIs
  obtain ⟨o,ho,hc,hdat⟩:=x
  refine wpAny_pyIter_slot hT F.slot_dict_iter (wpAny_call_entry F.slot_dict_iter hT F.entry_dict_iter ?_ (F.args_dict_iter_1 _))
  unfold Builtin.«dict.__iter__» Builtin.Dict.dictSlotNone
  refine wpAny_bind (wpAny_bind (wpAny_notOrdered_dict hT (wpAny_pure ?_)))
  show wpAny _ _ (Builtin.Dict.showsAll d >>= _) _ _ s
  unfold Builtin.Dict.showsAll
  rw [if_neg (by rw [lo];exact Bool.false_ne_true)]
  refine wpAny_bind (wpAny_pure (wpAny_bind (wpAny_dictEntries ho hdat (wpAny_bind (wpAny_dictEpoch ho hdat ?_)))))
  refine wpAny_bind (wpAny_newObj_type (wpAny_pure ⟨_,rfl,"dict_keyiterator",_,⟨_,Heap.get?_push_size _ rfl,rfl⟩,F.slot_dict_keyiterator_next.lookup,?_⟩))
  simpa [rawInt] using q
theorem raw_next {Q:Option Value->Shared->Prop} (hh:A.handled=none) (hit:s.heap.IsKeyIter it d i es.size ep) (x:DRaw s.heap d es ep)
    (k:∀ e h',es[i]?=some e->h'.IsKeyIter it d (i + 1) es.size ep->Heap.SameBut it s.heap h'->Q (some e.key) { s with heap:=h' }) (kn:es[i]?=none->∀ h',Heap.ExtBut it s.heap h'->Q none { s with heap:=h' }):wpAny (model prog w) A (pyNext (.ref it)) Q E s:=by
  have hTi:=hit.typeIs
  obtain ⟨o,ho,hc,hd⟩:=id hit
  obtain ⟨od,hod,hcd,hdd⟩:=x
  unfold pyNext
  refine wpAny_bind (wpAny_attempt (wpAny_callSpecial?_slot (name:=Str.ofString "__next__") hTi F.slot_dict_keyiterator_next (wpAny_call_entry F.slot_dict_keyiterator_next hTi F.entry_dict_keyiterator_next ?_ (F.args_dict_keyiterator_next_1 _))))
  refine wpAny_bind (wpAny_pure (wpAny_bind (wpAny_bind ?_)))
  first | refine wpAny_bind (wpAny_typeNameOfWhole_keyiter hTi (wpAny_pure ?_)) | refine wpAny_bind (wpAny_typeNameOf_keyiter hTi (wpAny_pure ?_))
  refine wpAny_bind (wpAny_fieldsOf ho hd ?_)
  simp only [show Builtin.Dict_items.ownsTuple "dict_keyiterator" = false from by decide,Bool.false_eq_true,if_false]
  show wpAny _ _ (if (Value.ref d == Value.none)=true then _ else _) _ _ s
  rw [if_neg (show ¬ ((Value.ref d == Value.none)=true) from Bool.false_ne_true)]
  refine wpAny_bind (wpAny_pure (wpAny_bind (wpAny_dictEntries hod hdd ?_)))
  rw [if_neg (by simp)]
  refine wpAny_bind (wpAny_pure (wpAny_bind (wpAny_dictEpoch hod hdd ?_)))
  rw [if_neg (by simp)]
  refine wpAny_pure ?_
  cases c:es[i]? with
  | some e =>
    simp only [show ¬ ((i:Int) < 0) from by omega,if_false,Int.toNat_natCast,c]
    refine wpAny_bind ?_
    first | refine wpAny_bind (wpAny_typeNameOfWhole_keyiter hTi (wpAny_pure ?_)) | refine wpAny_bind (wpAny_typeNameOf_keyiter hTi (wpAny_pure ?_))
    refine wpAny_bind (wpAny_isOneOf_keyiter hTi ?_)
    show wpAny _ _ (setField (.ref it) 1 (rawInt ((i:Int) + 1)) >>= _) _ _ s
    refine wpAny_bind (wpAny_setField ho hd (by simp) ?_)
    have hit':(s.heap.update it (Obj.mapFields (·.setIfInBounds 1 (rawInt ((i:Int) + 1))))).IsKeyIter it d (i + 1) es.size ep :=
      ⟨_,Heap.get?_update_self _ ho (Obj.isFreed_of_fields (Obj.data_mapFields hd _)),(Obj.cls_mapFields ..).trans hc,by rw [Obj.data_mapFields hd];simp [rawInt]⟩
    refine wpAny_bind (wpAny_holding (wpAny_bind (wpAny_isOneOf_keyiter (s:={ s with heap:=s.heap.update it (Obj.mapFields (·.setIfInBounds 1 (rawInt ((i:Int) + 1)))) }) hit'.typeIs ?_)))
    show wpAny _ _ (pure e.key) _ _ _
    exact wpAny_pure (wpAny_pure ⟨_,rfl,wpAny_pure (k e _ c hit' (Heap.SameBut.update ..))⟩)
  | none =>
    simp only [show ¬ ((i:Int) < 0) from by omega,if_false,Int.toNat_natCast,c]
    refine wpAny_bind ?_
    first | refine wpAny_bind (wpAny_typeNameOfWhole_keyiter hTi (wpAny_pure ?_)) | refine wpAny_bind (wpAny_typeNameOf_keyiter hTi (wpAny_pure ?_))
    show wpAny _ _ (setField (.ref it) 0 .none >>= _) _ _ s
    refine wpAny_bind (wpAny_setField ho hd (by simp) ?_)
    show wpAny _ _ (newExc (.type "StopIteration") [] >>= _) _ _ _
    refine wpAny_bind ?_
    simp only [newExc,newTuple]
    refine wpAny_bind (wpAny_newObj_type ?_ (by size_fits))
    refine wpAny_bind (m:=firstArgMember _ _) (wpAny_of_eq (a:=Value.none) (by first | rfl | (simp only [firstArgMember];rfl)) ?_)
    refine wpAny_newObj_type ?_ (by size_fits)
    simp only [raiseNew]
    refine wpAny_bind (wpAny_handled ?_)
    rw [show A.in1.handled=none from hh]
    refine wpAny_bind (wpAny_pure (wpAny_throw ?_))
    refine wpAny_bind (wpAny_isInstance (T := "StopIteration") (b:=true) ⟨_,Heap.get?_push_size _ rfl,rfl⟩ isSubtype_stop ?_)
    exact wpAny_pure (kn c _ (((Heap.SameBut.update ..).extBut.push _).push _))
theorem raw_walk (hh:A.handled=none) (I d:Addr) (hne:d ≠ I) (es:Array DictEntry) (ep:Nat):Walks prog w A I [I,d] [I] es.size (fun i v=>∃ e,es[i]?=some e/\v=e.key) (fun i h=>h.IsKeyIter I d i es.size ep/\DRaw h d es ep) where
  sub:=fun b hb=>by simp at hb;simp [hb]
  frame:=fun _ _ _ st hk=>⟨st.1.at fun o e=>hk I (by simp) o e,st.2.at fun o e=>hk d (by simp) o e⟩
  item:=fun i s Q E hi st hQ=>raw_next hh st.1 st.2 (fun e h' c hit' hs'=>hQ e.key h' s.toks ⟨e,c,rfl⟩ ⟨hit',st.2.at fun o ho=>hs'.extBut d o hne ho⟩ fun b o hb e=>hs'.extBut b o (fun h=>hb (by simp [h])) e) (fun c=>by rw [Array.getElem?_eq_none_iff] at c;omega)
  done:=fun s Q E st hQ=>raw_next hh st.1 st.2 (fun e h' c=>by rw [Array.getElem?_eq_none (Nat.le_refl _)] at c;cases c) fun _ h' he'=>hQ h' s.toks fun b o hb e=>he' b o (fun h=>hb (by simp [h])) e
  self:=fun _ _ _ _ st hQ=>wpAny_pyIter_keyiter st.1 hQ
theorem raw_src (lo:(d == sysModules)=false):KdlSrc prog w "dict" d d es.size (fun i v=>∃ e,es[i]?=some e/\v=e.key) (fun h=>DRaw h d es ep) where
  type:=fun _ x=>x.typeIs
  there:=fun _ x=>⟨x.lt,x.lt⟩
  keep:=fun _ _ x hk=>x.at fun o e=>hk d (.inl rfl) o e
  notList:=by decide
  notTuple:=by decide
  hint:=fun _ _ _ _ x hq=>kdl_hint_dict x.typeIs hq
  iter:=fun _ _ hh x=>⟨_,_,(fun _ _ hq=>raw_iter lo x hq),raw_walk hh _ d (Nat.ne_of_lt x.lt) es ep,⟨⟨_,Heap.get?_push_size _ rfl,rfl,rfl⟩,x.at fun _ e=>Heap.get?_push_of_some _ e⟩⟩
end
end L2
end
section
namespace L2
open PySem PySem.Spec PyProof.Rows PySem.W PySem.Calls
section
variable {prog:Program} {w:World} {A:Around} {E:Value->Shared->Prop} {s:Shared} {d:Addr} {es:Array DictEntry} {ep:Nat}
theorem sorted_raw {O:List Value->Array Value->Prop} {Q:Value->Shared->Prop} (hh:A.handled=none) (lo:(d == sysModules)=false) (x:DRaw s.heap d es ep) (hz:es.size<=sizeLine)
    (hs:∀ (h1:Heap) (tk:Nat) (P:PySem.Fin->Shared->Prop),(∀ b o,s.heap.get? b=some o->h1.get? b=some o) ->
      (∀ out,O (es.toList.map (·.key)) out->P (.done (.ret .none)) { s with heap:=sortedHeap (h1.push (seqObj "list" (es.toList.map (·.key)).toArray 0)) h1.objs.size (es.toList.map (·.key)) out,toks:=tk })->wpAny (model prog w) A.in1.in1 (Builtin.«list.sort» ⟨[.ref h1.objs.size],[]⟩) P (fun _ _=>False) { s with heap:=h1.push (seqObj "list" (es.toList.map (·.key)).toArray 0),toks:=tk })
    (h:∀ (out:Array Value) (h1 h':Heap) (tk e:Nat),O (es.toList.map (·.key)) out->(∀ b o,s.heap.get? b=some o->h1.get? b=some o)->(∀ b o,h1.get? b=some o->h'.get? b=some o)->h'.get? h1.objs.size=some (seqObj "list" out e)->Q (.ref h1.objs.size) { s with heap:=h',toks:=tk }):wpAny (model prog w) A (call (.builtin "sorted") [.ref d]) Q E s:=by
  refine call_function_entry kind_sorted plain_sorted entry_sorted (args_sorted1 _) ?_
  unfold Builtin.«sorted»
  refine wpAny_bind (m:=checkCount "sorted" 1 1 _) (wpAny_pure ?_)
  refine wpAny_bind (kdu_collect (A:=A.in1) (raw_src lo) hh x hz fun h1 tk acc hk hacc=>?_)
  have ea:acc.toList=es.toList.map (·.key):=by
    refine List.ext_getElem? fun i=>?_
    by_cases hi:i < es.size
    . have la:acc.size=es.size:=hacc.1
      obtain ⟨e,he,hv⟩:=hacc.2 i acc[i] (by simp [la,hi])
      rw [List.getElem?_map,Array.getElem?_toList,Array.getElem?_toList,he,Array.getElem?_eq_getElem (by omega),hv]
      rfl
    . have la:acc.size=es.size:=hacc.1
      rw [List.getElem?_map,Array.getElem?_toList,Array.getElem?_toList,Array.getElem?_eq_none (by omega),Array.getElem?_eq_none (by omega)]
      rfl
  rw [ea]
  refine wpAny_bind (wpAny_newList ?_ (by rw [List.length_map,Array.length_toList];exact hz))
  have hoL:(h1.push (seqObj "list" (es.toList.map (·.key)).toArray 0)).get? h1.objs.size=some (seqObj "list" (es.toList.map (·.key)).toArray 0):=Heap.get?_push_size _ rfl
  refine wpAny_bind (wpAny_holding (wpAny_call_entry slot_list_sort ⟨_,hoL,rfl⟩ entry_list_sort ?body (args_list_sort _)))
  case body =>
    refine wpAny_mono (hs h1 tk _ hk fun out ho=>?_) (fun _ _ x=>x) fun _ _ x=>x.elim
    obtain ⟨e,he⟩:=sortedHeap_at (out:=out) hoL
    exact ⟨_,rfl,wpAny_pure ⟨_,rfl,h out h1 _ tk e ho hk (fun b o q=>by
      have hb1:=Heap.lt_size q
      rw [sortedHeap_old (Nat.ne_of_lt hb1) (by rw [size_push'];exact Nat.lt_succ_of_lt hb1)]
      exact Heap.get?_push_of_some _ q) he⟩⟩
end
noncomputable def rSortD (K:PySem.W.Frag):List V->Hp->VK->Prop:=fun xs H Q=>∃ (a:Addr) (ys:List (List Int × Addr × V)) (m:Nat),xs=[.ref a]/\H a=some (.ext (kx a ys))/\KeysAt K H ys/\(∀ y ∈ ys,y.1.length=m + 1)/\ys.length < 64 /\
  ∀ (l:Addr) (q:List Nat),H l=none->q.Perm (List.range ys.length)->(q.map fun i=>(ys.map (·.1)).getD i []).Pairwise (fun x y=>ltL y x=false)->Q (.ref l) (upd H l (.lst (q.map fun i=>(ys.map fun y=>V.ref y.2.1).getD i .non)))
section
variable {X:Cx}
theorem keys_tups {K:PySem.W.Frag} {H:Hp} {m:Nat}:∀ {ys:List (List Int × Addr × V)},KeysAt K H ys->(∀ y ∈ ys,y.1.length=m)->TupsI K H m (ys.map fun y=>V.ref y.2.1) (ys.map (·.1))
  | [],_,_=>.nil
  | y :: ys,hk,hm=>.cons ⟨y.2.1,rfl,hk y List.mem_cons_self,hm y List.mem_cons_self⟩ (keys_tups (fun x hx=>hk x (List.mem_cons_of_mem _ hx)) fun x hx=>hm x (List.mem_cons_of_mem _ hx))
theorem keys_vals:∀ {ys:List (List Int × Addr × V)} {zs:List (List Int × Addr × Value)},KX ys zs->Vals (ys.map fun y=>V.ref y.2.1) ((zs.map entX).map (·.key))
  | _,_,.nil=>.nil
  | _,_,.cons h t=>.cons (by show Value.ref _=Value.ref _;rw [h.2.1]) (keys_vals t)
theorem call_sortedD (hc:X.calm=true):CallR X (.builtin "sorted") (rSortD X.K):=by
  intro pins s σ H xs us Q I r h
  obtain ⟨a,ys,m,rfl,he,hk,hm,h64,h⟩:=h
  obtain ⟨u,rfl,rx⟩:=vals1 r
  cases rx
  obtain ⟨⟨z1,z2,zs,rel,o,es,ep,g1,g2,g3,g4,g5⟩,_⟩:=(show ObjOk X.prog X.w H s.heap a (.ext (kx a ys)) from I.hok a _ he)
  have raw:DRaw s.heap a es ep:=⟨o,g1,g2,g3⟩
  have ek:es.toList.map (·.key)=(zs.map entX).map (·.key):=by rw [g4]
  have rv:Vals (ys.map fun y=>V.ref y.2.1) (es.toList.map (·.key)):=by rw [ek];exact keys_vals rel
  have ht:=keys_tups (m:=m + 1) hk hm
  have rw0:=raw_of I ht rv
  have hl:=rv.length
  rw [List.length_map] at hl
  have lz:es.size=ys.length:=by rw [hl,List.length_map,Array.length_toList]
  refine sorted_raw (O:=fun its out=>∃ q:List Nat,q.Perm (List.range ys.length)/\(q.map fun i=>(ys.map (·.1)).getD i []).Pairwise (fun x y=>ltL y x=false)/\out=(q.map fun i=>its.getD i .none).toArray) (I.ok.hd hc) z1 raw (by rw [lz];exact z2) (fun h1 tk P kp hP=>?_) (fun out h1 h' tk e ⟨q,hq1,hq2,eo⟩ k1 k2 hg=>?_)
  . have ho:(h1.push (seqObj "list" (es.toList.map (·.key)).toArray 0)).get? h1.objs.size=some (seqObj "list" (es.toList.map (·.key)).toArray 0):=Heap.get?_push_size _ rfl
    have keepR:∀ {h':Heap},(∀ b o,b ≠ h1.objs.size->(h1.push (seqObj "list" (es.toList.map (·.key)).toArray 0)).get? b=some o->h'.get? b=some o)->RawT h' (m + 1) (es.toList.map (·.key)) (ys.map (·.1)):=fun {h'} k2 =>
      Paired.mapP rw0 fun v ks ⟨b,o,xs,n,e1,e2,r⟩=>⟨b,o,xs,n,e1,k2 b o (Nat.ne_of_lt (Heap.lt_size (kp b o e2))) (Heap.get?_push_of_some _ (kp b o e2)),r⟩
    by_cases g:(es.toList.map (·.key)).length<=1
    . refine sort_few ho g ?_
      exact hP _ ⟨List.range ys.length,List.Perm.refl _,few_pw (by rw [hl];exact g),by rw [hl];exact few_map g⟩
    . have e2:2<=(es.toList.map (·.key)).length:=by omega
      have e64:(es.toList.map (·.key)).length < 64:=by rw [<- hl];exact h64
      refine sort_many (s:={ s with heap:=h1.push (seqObj "list" (es.toList.map (·.key)).toArray 0),toks:=tk }) (κ:=tuples' (Value.type "int" != Value.type "tuple")) (lt:=fun i j=>ltL ((ys.map (·.1)).getD i []) ((ys.map (·.1)).getD j [])) ho e2 e64 (ltL_ord fun i=>(ys.map (·.1)).getD i []) (fun h' Q' k2 hQ=>?_) (fun i j h' Q' hi hj k2 hQ=>?_) (fun q ix up=>?_)
      . obtain ⟨fs,kt,lf,hf⟩:=(keepR k2).firsts
        refine kat_kind kt (by rw [lf];omega) (T:=Value.type "int") (fun v hv=>?_) (by decide +kernel) hQ
        obtain ⟨i,t,rfl⟩:=hf v hv
        exact Looks.of_pure rfl
      . obtain ⟨a,oa,xa,na,ea,ea2,_,ea3,va,la⟩:=(keepR k2).at_ hi
        obtain ⟨b,ob,xb,nb,eb,eb2,_,eb3,vb,lb⟩:=(keepR k2).at_ hj
        rw [ea,eb]
        refine kat_lt ea2 ea3 eb2 eb3 ?_
        rw [size_eq va vb la lb]
        exact lex_ints va vb (by rw [la,lb]) hQ
      . refine hP _ ⟨q.toList,?_,up_pw ix up,rfl⟩
        have:=ix.pm
        rw [<- hl] at this
        simpa using Array.Perm.toList this
  . subst eo
    have lq:q.length=ys.length:=by rw [hq1.length_eq,List.length_range]
    have r2:=sel_vals rv q fun i hi=>by rw [List.length_map];exact List.mem_range.mp (hq1.mem_iff.mp hi)
    have I1:Inv X pins σ H { s with heap:=h1,toks:=tk }:=I.kept (t':=tk) k1
    exact ⟨.ref _,_,I1.laid (t':=tk) (fun b o e=>k2 b o e) (Nat.le_refl _) (show ObjOk X.prog X.w _ h' _ (.lst (q.map fun i=>(ys.map fun y=>V.ref y.2.1).getD i .non)) from ⟨by rw [List.length_map,lq];exact z2,_,e,r2,hg⟩),rfl,h _ q (I1.hok.fresh (Nat.le_refl _)) hq1 hq2⟩
end
end L2
end
section
namespace L2
open PySem PySem.Spec PyProof.Rows
section
variable {X:Cx} {k v:Expr} {ty tv:TE} {pos:Pos}
noncomputable def tKDisp (K:PySem.W.Frag) (ty tv:TE):TE:=fun σ H Q=>∀ p,H p=none->ty σ (upd H p (.dT [])) fun y H1=>tv σ H1 fun x H2=>H2 p=some (.dT [])/\∃ b ks,y = .ref b/\SqT K H2 b (ks.map V.int)/\Q (.ref p) (upd H2 p (.ext (kx p [(ks,b,x)])))
theorem ze_kdisp (hu:X.A.units + 64 < cLine) (hk:ZE X k ty) (hv:ZE X v tv):ZE X (.Dict [some k] [v] pos) (tKDisp X.K ty tv):=⟨by
  intro pins s σ H Q I q
  have hn:=I.hok.fresh (Nat.le_refl s.heap.objs.size)
  have I1:=I.laid (a:=s.heap.objs.size) (o:=.dT []) (h':=s.heap.push { cls:=.type "dict",data:=.dict #[] }) (t':=s.toks) (fun _ _ q=>Heap.get?_push_of_some _ q) (Nat.le_refl _) (dt_empty s.heap I.big)
  refine wpAny_Dict_any rfl rfl (by simp) (show 1<=15 by decide) (thn (pps_cons (pos:=pos) hk.out hv.out pps_nil pins _ σ _ (fun ps H2=>match ps with
    | [(y,x)]=>H2 s.heap.objs.size=some (.dT [])/\∃ b ks,y = .ref b/\SqT X.K H2 b (ks.map V.int)/\Q (.ref s.heap.objs.size) (upd H2 s.heap.objs.size (.ext (kx s.heap.objs.size [(ks,b,x)])))
    | _=>False) I1 (q _ hn)) fun ws s2 ⟨ps,H2,I2,rel,q2⟩=>?_)
  obtain ⟨y,x,u,w2,eps,ews,h1,h2,e,b,ks,ey,sq,q3⟩:∃ y x u w2,ps=[(y,x)]/\ws=[(u,w2)]/\RelV y u/\RelV x w2/\H2 s.heap.objs.size=some (.dT [])/\∃ b ks,y = .ref b/\SqT X.K H2 b (ks.map V.int)/\Q (.ref s.heap.objs.size) (upd H2 s.heap.objs.size (.ext (kx s.heap.objs.size [(ks,b,x)]))):=by
    match ps,rel,q2 with
    | [(y,x)],.cons (b:=(u,w2)) h .nil,⟨e,b,ks,r⟩=>exact ⟨y,x,u,w2,rfl,rfl,h.1,h.2,e,b,ks,r⟩
  subst eps ews ey
  cases (show u=Value.ref b from h1)
  obtain ⟨z,hd,xs,r0,dd⟩:=dt_of I2.hok e
  cases r0
  obtain ⟨o,es,ep,g1,g2,g3,g4,_,_⟩:=dd
  have dI:s2.heap.DictOfH (tupleKind (intKind X.prog X.w)) s.heap.objs.size []:=⟨o,es,ep,g1,g2,g3,g4,fun x hx=>(by cases hx),List.nodup_nil⟩
  unfold storeAll
  rw [List.forIn_cons]
  refine wpAny_bind (wpAny_bind (wpAny_dictSet_heap (knd:=tupleKind (intKind X.prog X.w)) (show X.A.units < cLine by omega) (keyI_of I2 sq) dI (fun h' dd' hs=>?_) (Nat.zero_le _)))
  refine wpAny_pure ?_
  dsimp only
  rw [List.forIn_nil]
  refine wpAny_pure ?_
  obtain ⟨o',es',ep',k1,k2,k3,k4,_,k5⟩:=dd'
  exact ⟨.ref s.heap.objs.size,_,d_write I2 (by rw [e];exact True.intro) hs ⟨o',k1⟩ (kx_ext ⟨hd,by show 1<=sizeLine;decide,[(ks,b,w2)],.cons ⟨rfl,rfl,h2⟩ .nil,o',es',ep',k1,k2,k3,k4,k5⟩),rfl,q3⟩⟩
end
end L2
namespace D
open PySem L2 K0 Num
open PySem.W (Dat)
section
variable {K:PySem.W.Frag} {τ:List Sl} {j:Nat} {a:Addr} {kd:List (List Int × Dat)}
theorem E1.sortD {m:Nat} (hj:τ[j]?=some (.dt (knD a kd))) (hm:∀ x ∈ kd,x.1.length=m + 1) (h64:kd.length < 64):E1 none K (tCB (rSortD K) (tCons (tVar j) tNil)) τ (.own ((srtI (kd.map (·.1))).map tI)):=fun W L σ H Q r o q=>by
  obtain ⟨a',l,g1,_,_,_,ea,el,xs,x1,x2,x3,x4,x5⟩:=r.get_t hj
  subst ea
  refine ⟨_,g1,?_⟩
  show rSortD K [V.ref a'] H Q
  have lx:xs.length=kd.length:=by have:=congrArg List.length x2;rwa [List.length_map,List.length_map] at this
  refine ⟨a',xs,m,rfl,x1,x4,fun y hy=>?_,by rw [lx];exact h64,fun l qs hln hp hw=>?_⟩
  . have my:y.1 ∈ kd.map (·.1):=by rw [<- x2];exact List.mem_map.mpr ⟨y,hy,rfl⟩
    obtain ⟨z,hz,e⟩:=List.mem_map.mp my
    rw [<- e];exact hm z hz
  . have hz:Dzs (fun a=>¬ W a) K H (xs.map fun y=>V.ref y.2.1) ((xs.map (·.1)).map tI):=keys_dz x4
    have s:=Same.new hln (.lst (qs.map fun i=>(xs.map fun y=>V.ref y.2.1).getD i .non))
    have e:(qs.map fun i=>(xs.map (·.1)).getD i [])=srtI (kd.map (·.1)):=by
      rw [<- x2]
      exact srtI_one hw (sel_perm (by rw [List.length_map];exact hp))
    refine q _ _ _ rfl (Ev.of s) (o.same s) ⟨l,_,rfl,hln,upd_same,?_⟩
    rw [<- e]
    exact (sel_dz hz qs fun i hi=>by rw [List.length_map];exact List.mem_range.mp (hp.mem_iff.mp hi)).ev (W:=fun _=>False) (Ev.of s) fun _ _ h=>h
where
  keys_dz {N:Addr->Prop} {H:Hp}:∀ {xs:List (List Int × Addr × V)},KeysAt K H xs->Dzs N K H (xs.map fun y=>V.ref y.2.1) ((xs.map (·.1)).map tI)
    | [],_=>.nil
    | x :: xs,h=>.cons (.tup (h x List.mem_cons_self) (Dzs.ints _)) (keys_dz fun y hy=>h y (List.mem_cons_of_mem _ hy))
end
noncomputable def tgO (x:Str) (ds:List Dat):Own where
  R N K H a l:=∃ b vs,l=[b]/\SqT K H a [.str x,.ref b]/\H b=some (.lst vs)/\Dzs N K H vs ds
  ev:=fun ⟨b,vs,el,h1,h2,h3⟩ ev nw hl=>⟨b,vs,el,ev.tm _ _ _ h1,hl _ _ (by rw [el];exact List.mem_singleton_self _) h2,h3.ev ev nw⟩
  wide:=fun ⟨b,vs,el,h1,h2,h3⟩ n=>⟨b,vs,el,h1,h2,h3.widen n⟩
  al:=fun ⟨b,vs,el,h1,h2,h3⟩ c hc=>by rw [el,List.mem_singleton] at hc;subst hc;exact ⟨_,h2⟩
theorem tgO_free {x:Str} {ds:List Dat} (nl:noLs ds=true):(tgO x ds).Free:=fun N N' K H a l ⟨b,vs,el,h1,h2,h3⟩=>⟨b,vs,el,h1,h2,h3.free nl⟩
end D
end
namespace D
open PySem L2 K0 Num
open PySem.W (Dat)
section
section
variable {p:Option Addr} {K:PySem.W.Frag} {W:Addr->Prop} {L:List Addr} {σ:St} {H:Hp} {τ τ':List Sl} {te tv ty:TE} {tas:TA} {tt:TT} {nx:List Sl->Prop} {rt:Sl->Prop} {i:Nat} {ks:List Int} {d:Dat} {o:Own} {x:Str} {ds:List Dat}
theorem E.kDisp (hk:E1 none K ty τ (.dat (tI ks))) (hv:E1 none K tv τ (.dat d)) (nl:noL d=true):E none K (tKDisp K ty tv) τ (fun s=>∃ o,s = .dt o/\o.Self/\∃ a,o=knD a [(ks,d)]):=fun W L σ H Q r ok q=>by
  intro a ha
  have s0:Same H (upd H a (.dT [])):=Same.new ha _
  have ok0:=ok.same s0
  refine hk W L σ _ _ (r.ev (Ev.of s0) ok.pw) ok0 fun y H1 s c1 e1 o1 r1=>?_
  subst c1
  refine hv W L σ H1 _ ((r.ev (Ev.of s0) ok.pw).ev e1 ok0.pw) o1 fun v H2 s c2 e2 o2 zv=>?_
  subst c2
  obtain ⟨b,rfl,hb⟩:=dz_key (Dz.ev e2 o1.nw r1)
  have h2:H2 a=some (.dT []):=e2.keep _ _ (fun z=>by cases z) (e1.keep _ _ (fun z=>by cases z) upd_same)
  have ev:Ev (fun b=>b=a) H2 (upd H2 a (.ext (kx a [(ks,b,v)]))):=⟨fun b o n h=>by rw [upd_ne n];exact h,tm_dO (b:=true) (ys:=[]) h2 _⟩
  have e:Ev (Pp none) H (upd H2 a (.ext (kx a [(ks,b,v)]))):=⟨fun c u nc hc=>by
    have:c ≠ a:=fun z=>by rw [z,ha] at hc;cases hc
    rw [upd_ne this]
    exact e2.keep _ _ (fun z=>by cases z) (e1.keep _ _ (fun z=>by cases z) (s0 c u hc)),((Ev.of (W:=fun _=>False) s0).tm.trans (e1.tm.trans (e2.tm.trans ev.tm)))⟩
  refine ⟨h2,b,ks,rfl,hb,q _ _ _ ⟨knD a [(ks,d)],rfl,knD_self,a,rfl⟩ e ⟨fun q h=>(by cases h),fun c hc=>?_⟩ ⟨a,[a],rfl,fun c hc=>by rw [List.mem_singleton] at hc;rw [hc];exact ha,rfl,rfl,_,upd_same,rfl,by simp,fun y hy=>?_,.cons ?_ .nil⟩⟩
  . obtain ⟨u,hu⟩:=ok.al c hc;exact ⟨u,e.keep _ _ (fun z=>by cases z) hu⟩
  . rw [List.mem_singleton] at hy;subst hy;exact ev.tm _ _ _ hb
  . exact (Dz.free zv nl).ev ev fun _ h=>h.elim
noncomputable def Own.Rd (o:Own) (d:Dat):Prop:=∀ (N:Addr->Prop) (K:PySem.W.Frag) (H:Hp) (a:Addr) (l:List Addr),o.R N K H a l->Dz (fun b=>N b\/b ∈ l) K H (.ref a) d
theorem tgO_rd:(tgO x ds).Rd (.tuple [.str x,.list ds]):=fun N K H a l ⟨b,vs,el,h1,h2,h3⟩=>.tup h1 (.cons (.str x) (.cons (.lst (.inl ⟨.inr (by rw [el];exact List.mem_singleton_self _),.inl h2⟩) (h3.mono fun _ h=>.inl h)) .nil))
theorem Rs.lessL {l:List Addr} (r:Rs p W K H L σ τ):(∀ b,b ∈ L->b ∉ l)->Rs p (fun b=>W b/\b ∉ l) K H L σ τ:=by
  induction r with
  | nil=>intro _;exact .nil
  | un _ ih=>intro h;exact .un (ih h)
  | dat z _ ih=>intro h;exact .dat (z.mono fun _ nb z=>nb z.1) (ih h)
  | pu z _ ih=>intro h;exact .pu z (ih h)
  | own h1 h2 h3 h4 h5 _ ih=>intro h;exact .own ⟨h1,h _ List.mem_cons_self⟩ h2 h3 h4 (h5.mono fun _ nb z=>nb z.1) (ih fun b hb=>h b (List.mem_cons_of_mem _ hb))
  | dt h1 h2 h3 h4 _ ih=>intro h;exact .dt (fun b hb=>⟨h1 b hb,h b (List.mem_append_left _ hb)⟩) h2 h3 (Own.wide _ h4 fun _ _ nb _ z=>nb z.1) (ih fun b hb=>h b (List.mem_append_right _ hb))
theorem Rs.frzT (r:Rs p W K H L σ τ) (hd:o.Rd d):∀ {i:Nat},τ[i]?=some (.dt o)->∃ (l L':List Addr),(∀ b,b ∈ L'->b ∈ L)/\(∀ b,b ∈ l->b ∈ L)/\(∀ b,b ∈ l->p ≠ some b)/\(∀ b,b ∈ l->∃ u,H b=some u)/\Rs p (fun b=>W b/\b ∉ l) K H L' σ (τ.set i (.dat d)):=by
  induction r with
  | nil=>exact fun h=>by simp at h
  | un r ih =>
    intro i h
    cases i with
    | zero=>cases h
    | succ i=>obtain ⟨l,L',h1,h2,h3,h4,h5⟩:=ih (i:=i) h;exact ⟨l,L',h1,h2,h3,h4,.un h5⟩
  | dat z r ih =>
    intro i h
    cases i with
    | zero=>cases h
    | succ i=>obtain ⟨l,L',h1,h2,h3,h4,h5⟩:=ih (i:=i) h;exact ⟨l,L',h1,h2,h3,h4,.dat (z.mono fun _ nb z=>nb z.1) h5⟩
  | pu z r ih =>
    intro i h
    cases i with
    | zero=>cases h
    | succ i=>obtain ⟨l,L',h1,h2,h3,h4,h5⟩:=ih (i:=i) h;exact ⟨l,L',h1,h2,h3,h4,.pu z h5⟩
  | own g1 g2 g3 g4 g5 r ih =>
    intro i h
    cases i with
    | zero=>cases h
    | succ i =>
      obtain ⟨l,L',h1,h2,h3,h4,h5⟩:=ih (i:=i) h
      refine ⟨l,_ :: L',fun b hb=>?_,fun b hb=>List.mem_cons_of_mem _ (h2 b hb),h3,h4,.own ⟨g1,fun z=>g3 (h2 _ z)⟩ g2 (fun z=>g3 (h1 _ z)) g4 (g5.mono fun _ nb z=>nb z.1) h5⟩
      rcases List.mem_cons.mp hb with rfl | hb
      . exact List.mem_cons_self
      . exact List.mem_cons_of_mem _ (h1 b hb)
  | @dt L l0 σ τ a o0 g1 g2 g3 g4 r ih =>
    intro i h
    cases i with
    | zero =>
      cases h
      refine ⟨l0,L,fun b hb=>List.mem_append_right _ hb,fun b hb=>List.mem_append_left _ hb,g2,o.al g4,.dat ((hd _ _ _ _ _ g4).mono fun b hb z=>?_) (r.lessL fun b hb z=>g3 b z hb)⟩
      rcases hb with hb | hb
      . exact hb z.1
      . exact z.2 hb
    | succ i =>
      obtain ⟨l,L',h1,h2,h3,h4,h5⟩:=ih (i:=i) h
      refine ⟨l,l0 ++ L',fun b hb=>?_,fun b hb=>List.mem_append_right _ (h2 b hb),h3,h4,.dt (fun b hb=>⟨g1 b hb,fun z=>g3 b hb (h2 _ z)⟩) g2 (fun b hb z=>g3 b hb (h1 _ z)) (Own.wide _ g4 fun _ _ nb _ z=>nb z.1) h5⟩
      rcases List.mem_append.mp hb with hb | hb
      . exact List.mem_append_left _ hb
      . exact List.mem_append_right _ (h1 b hb)
theorem T1.rdO {b:Bool} (h:τ[i]?=some (.dt o)) (hd:o.Rd d) (ht:T1 none K tt τ' b) (e:τ.set i (.dat d)=τ':=by rfl):T1 none K tt τ b:=fun W L σ H Q r ok q=>by
  subst e
  obtain ⟨l,L',h1,h2,h3,h4,r'⟩:=r.frzT hd h
  refine ht _ L' σ H _ r' ⟨fun q hq=>(by cases hq),fun c hc=>ok.al c hc.1⟩ fun b H' e ev o'=>q b H' e ev ⟨fun q hq=>(by cases hq),fun c hc=>?_⟩
  obtain ⟨u,hu⟩:=ok.al c hc
  exact ⟨u,ev.keep _ _ (fun z=>by cases z) hu⟩
theorem E1.tuTg (ha:A1 none K tas τ [.dat (.str x),.own ds]):E1 none K (tTup tas) τ (.dt (tgO x ds)):=fun W L σ H Q r ok q=>by
  refine ha W L σ H _ r ok fun vs H1 ss e e1 o1 rv=>?_
  subst e
  cases rv with
  | cons a1 t =>
  cases t with
  | cons a2 t =>
  cases t
  cases a1
  obtain ⟨b,us,rfl,hb,hb1,z⟩:=a2
  refine ⟨by show 2<=sizeLine;decide,fun a ha=>?_⟩
  have s1:=Same.new ha (.tup [.str x,.ref b])
  exact q _ _ _ rfl (e1.trans (Ev.of s1)) (o1.same s1) ⟨a,[b],rfl,fun c hc=>by rw [List.mem_singleton] at hc;rw [hc];exact hb,b,us,rfl,SqT.of upd_same,s1 _ _ hb1,z.ev (W:=fun _=>False) (Ev.of s1) fun _ _ h=>h⟩
theorem S.appTg (h:τ[i]?=some (.dt (tgO x ds))) (hte:E1 none K te τ (.dat d)) (nl:noL d=true) (hz:ds.length < sizeLine) (m:nx τ') (e0:τ.set i (.dt (tgO x (ds ++ [d])))=τ':=by rfl):S none K (tDrop (tBM K "list" rAppend (tOp (rIxT K) (tVar i) (tC (.int 1))) (tCons te tNil))) τ nx rt:=fun W L σ H D r ok q1 q2=>by
  subst e0
  obtain ⟨a,l,g1,g2,g3,g4,⟨b,vs,el,y1,y2,y3⟩,fin⟩:=r.chgX h
  subst el
  have wb:W b:=g2 b (List.mem_singleton_self _)
  refine ⟨_,g1,_,_,1,.ref b,rfl,rfl,y1,atI_nat (j:=1) rfl,.inl ⟨rfl,_,SqL.of y2⟩,?_⟩
  refine hte W L σ H _ r ok fun v H1 s c e1 o1 zv=>?_
  subst c
  have w2:=e1.keep _ _ (fun z=>by cases z) y2
  refine ⟨b,vs,v,rfl,rfl,w2,by rw [y3.len];exact hz,?_⟩
  have ev:Ev (fun y=>y=b) H1 (upd H1 b (.lst (vs ++ [v]))):=⟨fun y o n h=>by rw [upd_ne n];exact h,Tm.lst w2 _⟩
  have e2:Ev (fun y=>y=b) H (upd H1 b (.lst (vs ++ [v]))):=(e1.mono fun c hc=>by cases hc).trans ev
  have al:∀ c,W c->∃ ys,upd H1 b (.lst (vs ++ [v])) c=some ys:=fun c hc=>by
    by_cases z:c=b
    . rw [z];exact ⟨_,upd_same⟩
    . obtain ⟨ys,hy⟩:=o1.al c hc;exact ⟨ys,by rw [upd_ne z];exact hy⟩
  obtain ⟨L',m1,m2,m3⟩:=fin W _ [b] (tgO x (ds ++ [d])) (fun _ h=>h) (fun _ h=>.inl h) (e2.mono fun c hc=>by rw [hc];exact List.mem_singleton_self _) g2 g3 (fun c hc=>.inl hc)
    ⟨b,_,rfl,e2.tm _ _ _ y1,upd_same,((y3.ev e1 ok.nw).app (.cons zv .nil)).ev ev fun c nc z=>nc (by rw [z];exact wb)⟩
  exact q1 W L' σ _ _ m (e2.mono fun c hc=>by rw [hc];exact wb) ⟨fun q h=>(by cases h),al⟩ al (fun _ h=>.inl h) (fun c hc=>.inl ((m1 c hc).elim id (g4 c))) m3
end
end
section
noncomputable def GenL (fs L:List (List Int)):Prop:=[1,0,0,0] ∈ L/\(∀ x ∈ L,∀ f ∈ fs,pl (qm f x) ∈ L)/\L.Nodup/\∀ x ∈ L,Gen fs x
theorem GenL.perm {fs L M:List (List Int)} (h:GenL fs L) (g:GenL fs M):L.Perm M:=gen_perm h.1 h.2.1 h.2.2.1 h.2.2.2 g.1 g.2.1 g.2.2.1 g.2.2.2
theorem Gen.le {fs L:List (List Int)} (hp:Pooled fs) (nd:L.Nodup) (h:∀ x ∈ L,Gen fs x):L.length<=24:=by
  obtain ⟨gs,l,q⟩:=pooled_in hp
  exact Nat.le_trans (nodup_sub nd fun x hx=>(q x (h x hx)).1) l
theorem Gen.ok {fs:List (List Int)} (hp:Pooled fs) {x:List Int} (h:Gen fs x):(cts.lookup (rs x)).isSome=true/\x.length=4/\Nz x/\Bd (2 ^ 17) x:=by
  obtain ⟨gs,l,q⟩:=pooled_in hp
  exact (q x h).2
noncomputable def RPool4:List Dat->(Dat->Prop)->Prop:=fun ds C=>ds=[]/\C=fun d=>∃ fs:List (List Int),d = .list (fs.map tI)/\(fs=pool1\/fs=pool2)
noncomputable def RSome5:List Dat->(Dat->Prop)->Prop:=fun ds C=>∃ m:Int,ds=[.int m]/\0<=m/\m<=16/\C=fun d=>∃ fs:List (List Int),d = .list (fs.map tI)/\Fours3x fs/\(fs.length:Int)=m/\Pooled fs
noncomputable def RClos:List Dat->(Dat->Prop)->Prop:=fun ds C=>∃ fs:List (List Int),ds=[stD fs,.int 24]/\Fours3x fs/\Pooled fs/\fs.length<=16/\C=fun d=>∃ L,d = .list (L.map tI)/\GenL fs L
noncomputable def RGrp:List Dat->(Own->Prop)->Prop:=fun ds C=>∃ fs:List (List Int),ds=[stD fs]/\Fours3x fs/\Pooled fs/\fs.length<=16/\C=fun o=>∃ L,GenL fs L/\o=tgO "group" ((srtI L).map tI)
structure CI (fs L:List (List Int)) (k:Nat):Prop where
  nd:L.Nodup
  one:[1,0,0,0] ∈ L
  gen:∀ x ∈ L,Gen fs x
  cl:∀ i x,i < k->L[i]?=some x->∀ f ∈ fs,pl (qm f x) ∈ L
section
variable {fs L es bs:List (List Int)} {k n0:Nat} {x f:List Int}
theorem CI.start:CI fs [[1,0,0,0]] 0:=⟨by simp,List.mem_singleton_self _,fun x hx=>by rw [List.mem_singleton] at hx;subst hx;exact .one,fun i x h=>by omega⟩
theorem CI.add (h:CI fs L k) (hk:k<=L.length) (hx:x ∈ L) (hf:f ∈ fs) (hn:pl (qm f x) ∉ L):CI fs (L ++ [pl (qm f x)]) k:=by
  refine ⟨?_,List.mem_append_left _ h.one,fun y hy=>?_,fun i y hi hy g hg=>?_⟩
  . rw [List.nodup_append]
    refine ⟨h.nd,by simp,fun y hy z hz=>?_⟩
    rw [List.mem_singleton] at hz
    subst hz
    exact fun e=>hn (e ▸ hy)
  . rcases List.mem_append.mp hy with hy | hy
    . exact h.gen y hy
    . rw [List.mem_singleton] at hy;subst hy;exact .step (h.gen x hx) hf
  . rw [List.getElem?_append_left (by omega)] at hy
    exact List.mem_append_left _ (h.cl i y hi hy g hg)
theorem CI.next (h:CI fs L k) (hx:L[k]?=some x) (hs:∀ f ∈ fs,pl (qm f x) ∈ L):CI fs L (k + 1):=⟨h.nd,h.one,h.gen,fun i y hi hy g hg=>by
  by_cases z:i=k
  . subst z;rw [hx] at hy;cases hy;exact hs g hg
  . exact h.cl i y (by omega) hy g hg⟩
theorem CI.fin (h:CI fs L k) (hk:L.length<=k):GenL fs L:=⟨h.one,fun x hx f hf=>by
  obtain ⟨i,hi,e⟩:=List.getElem_of_mem hx
  exact h.cl i x (by omega) (by rw [List.getElem?_eq_getElem hi,e]) f hf,h.nd,h.gen⟩
structure GI (fs:List (List Int)) (kd:List (List Int × Dat)) (es bs:List (List Int)) (n0:Nat):Prop where
  nd:(kd.map (·.1)).Nodup
  one:[1,0,0,0] ∈ kd.map (·.1)
  gen:∀ x ∈ kd.map (·.1),Gen fs x
  wd:∀ x ∈ kd,∃ w:List Int,x.2=tI w/\w.length < kd.length
  he:∀ x ∈ es,x ∈ kd.map (·.1)
  hb:∀ x ∈ bs,x ∈ kd.map (·.1)
  cl:∀ x ∈ kd.map (·.1),x ∈ es\/x ∈ bs\/∀ f ∈ fs,pl (qm f x) ∈ kd.map (·.1)
  len:kd.length=n0 + bs.length
variable {kd:List (List Int × Dat)} {d:Dat} {w:List Int}
theorem GI.start:GI fs [([1,0,0,0],tI [])] [[1,0,0,0]] [] 1 where
  nd:=by simp
  one:=List.mem_singleton_self _
  gen:=fun x hx=>by have:x=[1,0,0,0]:=List.mem_singleton.mp hx;subst this;exact .one
  wd:=fun x hx=>⟨[],by rw [List.mem_singleton.mp hx],by decide⟩
  he:=fun x hx=>hx
  hb:=fun x hx=>by cases hx
  cl:=fun x hx=>.inl hx
  len:=rfl
theorem GI.turn (h:GI fs kd [] bs n0):GI fs kd bs [] kd.length:=⟨h.nd,h.one,h.gen,h.wd,h.hb,fun x hx=>(by cases hx),fun x hx=>(h.cl x hx).elim (fun z=>by cases z) fun z=>z.elim .inl fun y=>.inr (.inr y),rfl⟩
theorem GI.re (h:GI fs kd es [] n0):GI fs kd es [] kd.length:=⟨h.nd,h.one,h.gen,h.wd,h.he,h.hb,h.cl,rfl⟩
theorem GI.next (h:GI fs kd (x :: es) bs n0) (hs:∀ f ∈ fs,pl (qm f x) ∈ kd.map (·.1)):GI fs kd es bs n0:=⟨h.nd,h.one,h.gen,h.wd,fun y hy=>h.he y (List.mem_cons_of_mem _ hy),h.hb,fun y hy=>(h.cl y hy).elim (fun z=>(List.mem_cons.mp z).elim (fun e=>.inr (.inr (e ▸ hs))) .inl) .inr,h.len⟩
theorem GI.fin (h:GI fs kd [] [] n0):GenL fs (kd.map (·.1)):=⟨h.one,fun x hx=>(h.cl x hx).elim (fun z=>by cases z) fun z=>z.elim (fun y=>by cases y) id,h.nd,h.gen⟩
theorem GI.le (h:GI fs kd es bs n0) (hp:Pooled fs):kd.length<=24:=by
  have:=Gen.le hp h.nd h.gen
  rwa [List.length_map] at this
theorem look_mem (h:x ∈ kd.map (·.1)):∃ d,lookD kd x=some d/\(x,d) ∈ kd:=by
  have:(lookD kd x).isSome=true:=by
    rw [<- lookD_any,List.any_eq_true]
    obtain ⟨z,hz,ez⟩:=List.mem_map.mp h
    exact ⟨z,hz,decide_eq_true ez⟩
  obtain ⟨d,e⟩:=Option.isSome_iff_exists.mp this
  refine ⟨d,e,?_⟩
  unfold lookD at e
  cases hf:kd.find? (fun x_1=>decide (x_1.1=x)) with
  | none=>rw [hf] at e;cases e
  | some y =>
    rw [hf] at e
    cases e
    have h1:=List.mem_of_find?_eq_some hf
    have h3:=List.find?_some hf
    have h2:y.1=x:=of_decide_eq_true (show decide (y.1=x)=true from h3)
    rw [<- h2];exact h1
theorem mem_of_look (h:(lookD kd x).isSome=true):x ∈ kd.map (·.1):=by
  rw [<- lookD_any,List.any_eq_true] at h
  obtain ⟨z,hz,ez⟩:=h
  exact List.mem_map.mpr ⟨z,hz,of_decide_eq_true ez⟩
theorem GI.word (h:GI fs kd es bs n0) (hx:x ∈ kd.map (·.1)):∃ w:List Int,lookD kd x=some (tI w)/\w.length < kd.length:=by
  obtain ⟨d,e,m⟩:=look_mem hx
  obtain ⟨w,ew,lw⟩:=h.wd _ m
  exact ⟨w,by rw [e];exact congrArg some ew,lw⟩
theorem GI.add {j:Int} (h:GI fs kd es bs n0) (hx:x ∈ kd.map (·.1)) (hf:f ∈ fs) (hw:w.length < kd.length) (hn:lookD kd (pl (qm f x))=none):GI fs (kd ++ [(pl (qm f x),tI (w ++ [j]))]) es (bs ++ [pl (qm f x)]) n0:=by
  have ek:(kd ++ [(pl (qm f x),tI (w ++ [j]))]).map (·.1)=kd.map (·.1) ++ [pl (qm f x)]:=by rw [List.map_append];rfl
  refine ⟨nodup_put h.nd hn,?_,?_,fun y hy=>?_,?_,?_,?_,?_⟩
  . rw [ek];exact List.mem_append_left _ h.one
  . rw [ek];intro y hy
    rcases List.mem_append.mp hy with hy | hy
    . exact h.gen y hy
    . rw [List.mem_singleton] at hy;subst hy;exact .step (h.gen x hx) hf
  . rw [List.length_append]
    rcases List.mem_append.mp hy with hy | hy
    . obtain ⟨v,e,l⟩:=h.wd y hy;exact ⟨v,e,by omega⟩
    . rw [List.mem_singleton] at hy;subst hy;exact ⟨_,rfl,by rw [List.length_append,List.length_singleton,List.length_singleton];omega⟩
  . rw [ek];exact fun y hy=>List.mem_append_left _ (h.he y hy)
  . rw [ek];intro y hy
    rcases List.mem_append.mp hy with hy | hy
    . exact List.mem_append_left _ (h.hb y hy)
    . exact List.mem_append_right _ hy
  . rw [ek];intro y hy
    rcases List.mem_append.mp hy with hy | hy
    . exact (h.cl y hy).imp id fun z=>z.imp (List.mem_append_left _) fun z g hg=>List.mem_append_left _ (z g hg)
    . exact .inr (.inl (List.mem_append_right _ hy))
  . rw [List.length_append,List.length_append,h.len];rfl
theorem GI.new (h:GI fs kd es bs n0) (hx:x ∈ kd.map (·.1)) (hf:f ∈ fs):Gen fs (pl (qm f x)):=.step (h.gen x hx) hf
end
theorem tI_mem (x:List Int) (L:List (List Int)):decide (x ∈ L)=true ↔ tI x ∈ L.map tI:=by
  rw [decide_eq_true_iff]
  exact ⟨fun h=>List.mem_map.mpr ⟨x,h,rfl⟩,fun h=>by
    obtain ⟨y,hy,e⟩:=List.mem_map.mp h
    rwa [<- tI_inj e]⟩
noncomputable def PF (g:List Int) (pool gs:List (List Int)):Prop:=∀ f ∈ gs,∃ (o:Int) (p:List Int),o ≠ 0/\p ∈ pool/\f=(cg g p).map (o * ·)
theorem pf_pooled {g:List Int} {pool gs:List (List Int)} (lg:g.length=4) (nz:∃ n ∈ g,n ≠ 0) (bd:Bd (2 ^ 5) g) (hp:pool=pool1\/pool=pool2) (h:PF g pool gs):Pooled gs:=⟨g,pool,lg,nz,bd,hp,h⟩
theorem cb_some {ns:List Int} (h:(cts.lookup (rs ns)).isSome=true):∃ n,cbD ns = .int n:=by
  obtain ⟨n,e⟩:=Option.isSome_iff_exists.mp h
  exact ⟨n,by unfold cbD;rw [e];rfl⟩
section
variable {p:Option Addr} {K:PySem.W.Frag} {τ:List Sl} {te:TE} {P:List (List Int)->Prop}
theorem E.sortQ {m:Nat} (h:E p K te τ (fun s=>∃ d,s = .dat d/\∃ L,d = .list (L.map tI)/\P L)) (hm:∀ L,P L->∀ ks ∈ L,ks.length=m + 1) (h64:∀ L,P L->L.length < 64):E p K (tCB (rSortN K) (tCons te tNil)) τ (fun s=>∃ ds,s = .own ds/\noLs ds=true/\∃ L,P L/\ds=(srtI L).map tI):=fun W L σ H Q r o q =>
  h W L σ H _ r o fun x H1 s c e1 o1 rv=>by
    obtain ⟨d,rfl,L0,rfl,hP⟩:=c
    cases rv with
    | lst h1 h2 =>
    rename_i a vs
    have hl:=h2.len
    rw [List.length_map] at hl
    have hq:=h64 L0 hP
    refine ⟨a,vs,L0,m,rfl,h1.sq,tups_of h2 (hm L0 hP),by omega,fun l qs hln hp hw=>?_⟩
    have s:=Same.new hln (.lst (qs.map fun i=>vs.getD i .non))
    have e:(qs.map fun i=>L0.getD i [])=srtI L0:=srtI_one hw (sel_perm (by rw [<- hl];exact hp))
    refine q _ _ (.own ((srtI L0).map tI)) ⟨_,rfl,noLs_fs _,L0,hP,rfl⟩ (e1.trans (Ev.of s)) (o1.same s) ⟨l,_,rfl,o1.back e1 hln,upd_same,?_⟩
    rw [<- e]
    exact (sel_dz h2 qs fun i hi=>List.mem_range.mp (hp.mem_iff.mp hi)).ev (W:=Pp p) (Ev.of s) o1.nw
theorem GenL.l4 {fs L:List (List Int)} (hp:Pooled fs) (h:GenL fs L):∀ x ∈ L,x.length=3 + 1:=fun x hx=>((h.2.2.2 x hx).ok hp).2.1
theorem GenL.le {fs L:List (List Int)} (hp:Pooled fs) (h:GenL fs L):L.length<=24:=Gen.le hp h.2.2.1 h.2.2.2
theorem GenL.srt {fs L:List (List Int)} (hp:Pooled fs) (h:GenL fs L):(∀ x ∈ srtI L,x.length=4)/\(srtI L).length<=24:=⟨fun x hx=>h.l4 hp x ((srtI_perm L).mem_iff.mp hx),by rw [(srtI_perm L).length_eq];exact h.le hp⟩
end
end
end D
section
namespace K66
open PySem L2 Num K0 D
open PySem.W (Dat)
noncomputable def top (i:Nat):Stmt:=PySem.Challenge.pw_hangrings_k66_groups_told.main.body.getD i (.Pass ⟨0,0,0,0⟩)
noncomputable abbrev sCD:Stmt:=top 1
noncomputable abbrev sRed:Stmt:=top 2
noncomputable abbrev sNeg:Stmt:=top 3
noncomputable abbrev sPlain:Stmt:=top 7
noncomputable abbrev sSize:Stmt:=top 8
noncomputable abbrev sProd:Stmt:=top 9
noncomputable abbrev sThen:Stmt:=top 10
noncomputable abbrev sRest:Stmt:=top 13
noncomputable abbrev sCBack:Stmt:=top 14
noncomputable abbrev sGroupOf:Stmt:=top 17
noncomputable abbrev sAt3:Stmt:=top 20
noncomputable abbrev sWholes3:Stmt:=top 21
noncomputable abbrev sMix3:Stmt:=top 22
noncomputable abbrev sPur3:Stmt:=top 23
noncomputable abbrev sDraw3:Stmt:=top 24
noncomputable abbrev sSm3:Stmt:=top 25
noncomputable abbrev sFour3:Stmt:=top 26
noncomputable abbrev sGcd3:Stmt:=top 27
noncomputable abbrev sShr3:Stmt:=top 28
noncomputable abbrev sPl3:Stmt:=top 29
noncomputable abbrev sQm3:Stmt:=top 30
noncomputable abbrev sThen3:Stmt:=top 31
noncomputable abbrev sPool4:Stmt:=top 32
noncomputable abbrev sSome5:Stmt:=top 33
noncomputable abbrev sClos:Stmt:=top 34
noncomputable abbrev sLaw:Stmt:=top 35
noncomputable abbrev sSop:Stmt:=top 4
local macro_rules | `(tactic| walk_at "bt") => `(tactic| (repeat' (first | assumption | exact bt2 | apply Bt.mul | apply Bt.add' | apply Bt.sub' | apply Bt.neg' | exact bd_lit (k := 64) (by decide))))
local macro_rules | `(tactic| walk_at "au3") => `(tactic| (repeat' (first | exact E1.var rfl | exact E1.varP rfl | exact E1.int | exact E1.bl | exact E1.non | exact E1.str | exact A1.nil | exact O1.none | exact E1.ty | exact T1.all | exact E1.varO rfl | exact E1.varL rfl | apply A1.cons | apply E1.add | apply E1.sub | apply E1.mul | apply E1.neg | apply E1.pow | apply E1.ixT | apply E1.tu | apply E1.li | apply E1.sl1 | apply O1.some | apply T1.test | apply T1.val | apply T1.not | apply T1.and1 | apply T1.or1 | apply E1.eq | apply E1.ne | apply E1.lt | apply E1.le | apply E1.gt | apply E1.ge | apply E1.cSop | apply E1.tupleL | apply E1.su | apply E1.vwo | apply E1.comp3 | apply Wk.r3 | apply Wk.tup | rfl | exact lsz (n := 2) rfl z2 | exact lsz (n := 3) rfl z3 | exact lsz (n := 4) rfl z4 | exact lsz (n := 1) rfl z1 | exact lsz (n := 0) rfl z0 | exact cpow10 (by decide) (by decide) | exact Bt.mulOk (x := _) (y := _) (by walk_at "bt") (by walk_at "bt") (by decide) (by decide))))
section
variable {P:Program} {w:World} {K:PySem.W.Frag} {mg:Str->Option Value} {base:Heap} {C:Addr} {dCOUNTS f g g2 g3 g4 g5 g6:Addr} {fd gd gd2 gd3 gd4 gd5 gd6:FuncData}
theorem scCD:FnScope ["numbers","divisor","number","other","left"] ["numbers"] (defScope sCD):=⟨rfl,rfl,rfl,by decide +kernel,rfl,by decide +kernel,by decide +kernel⟩
theorem ok_cd (F:Fun K "common_divisor" "common_divisor" sCD f fd) (ma:mg "abs" = none):FnOk P w K mg base CX0 1 f fd ["numbers"] (spCD K):=by
  refine F.okZ scCD (fun vs H Q E h=>?_) (fun cdv A outer s H vs Q E hr h=>?_)
  . obtain ⟨a,ns,rfl,_⟩:=h;rfl
  obtain ⟨a,ns,rfl,hS,q⟩:=h
  refine ⟨_,zss_cons (zs_set (i:=1) scCD.nd rfl (Or.inl rfl) ze_int) (zss_cons (zs_for PassesOwn.never rfl (zi_tup (zv 0)) (zg_name (i:=2) scCD.nd rfl (Or.inl rfl))
      (zss_cons (zs_set (i:=3) scCD.nd rfl (Or.inl rfl) (ze_callB call_abs rfl ma (by rfl) (za_cons (zv 2) za_nil)))
        (zss_one (zs_while PassesOwn.never (zt_cmpR op_ne (zv 3) ze_int (nomark _)) (zss_cons (zs_set (i:=4) scCD.nd rfl (Or.inl rfl) (ze_op op_mod (zv 1) (zv 3)))
          (zss_cons (zs_set (i:=1) scCD.nd rfl (Or.inl rfl) (zv 3)) (zss_one (zs_set (i:=3) scCD.nd rfl (Or.inl rfl) (zv 4)))))))))
      (zss_one (zs_ret (zv 1)))),?_⟩
  refine ⟨_,rfl,a,rfl,⟨_,hS⟩,for_tup (xs:=ns.map V.int) (fun i σ H'=>H=H'/\∃ nn o l,σ=[some (.ref a),some (.int (gcdN (ns.take i))),nn,o,l])
    ⟨rfl,_,_,_,rfl⟩ (fun i σ H' _ h=>h.1 ▸ hS) (fun i x σ H' hx h=>?_) (fun σ H' h=>?_)⟩
  . obtain ⟨rfl,nn,o,l,rfl⟩:=h
    rw [List.getElem?_map] at hx
    cases hn:ns[i]? with
    | none=>rw [hn] at hx;cases hx
    | some n =>
      rw [hn] at hx
      cases hx
      refine ⟨_,rfl,n,rfl,?_⟩
      have tk:ns.take (i + 1)=ns.take i ++ [n]:=by rw [List.take_add_one,hn];rfl
      refine while_by (fun σ H'=>H=H'/\∃ (d o:Int) (l:Option V),0<=d/\0<=o/\Nat.gcd d.toNat o.toNat=gcdN (ns.take (i + 1))/\σ=[some (.ref a),some (.int d),some (.int n),some (.int o),l])
        (fun σ _=>match σ with | [_,_,_,some (.int o),_]=>o.toNat | _=>0) ⟨rfl,_,_,_,by omega,by split <;> omega,?_,rfl⟩ (fun σ H' h=>?_) (fun σ H Q Q' hq h=>?_)
      . rw [tk,gcdN_snoc]
        congr 1
        split <;> omega
      . obtain ⟨rfl,d,o,l,hd,ho,hg,rfl⟩:=h
        refine ⟨_,rfl,rfl,_,rfl,?_⟩
        refine ite2 (fun c=>?_) (fun c=>?_)
        . have hne:o ≠ 0:=by
            intro z;subst z;exact absurd c (by decide)
          refine ⟨_,rfl,_,rfl,_,_,rfl,rfl,by omega,_,rfl,_,rfl,⟨rfl,_,_,_,ho,Int.emod_nonneg _ hne,?_,rfl⟩,?_⟩
          . rw [<- hg];exact gcd_step hd (by omega)
          . show (d % o).toNat < o.toNat
            have:=Int.emod_lt_of_pos d (show 0 < o by omega)
            have:=Int.emod_nonneg d hne
            omega
        . have h0:o=0:=by
            by_cases z:o=0
            . exact z
            . exact absurd (by show (!decide (V.int o=V.int 0))=true;rw [decide_eq_false (fun e=>z (by injection e))];rfl) c
          subst h0
          refine ⟨rfl,some (.int n),some (.int 0),l,?_⟩
          have e:(d.toNat:Int)=d:=by omega
          rw [<- hg]
          simp only [Int.toNat_zero,Nat.gcd_zero_right,e]
      . obtain ⟨v,e1,e2,b,e3,q⟩:=h
        exact ⟨v,e1,e2,b,e3,hq _ _ q⟩
  . obtain ⟨rfl,nn,o,l,rfl⟩:=h
    rw [List.length_map,List.take_length]
    exact ⟨_,rfl,q⟩
theorem scRed:FnScope ["numbers","divisor"] ["numbers"] (defScope sRed):=⟨rfl,rfl,rfl,by decide +kernel,rfl,by decide +kernel,by decide +kernel⟩
theorem ok_red (F:Fun K "reduced" "reduced" sRed f fd) (G:FnOk P w K mg base CX0 1 g gd ["numbers"] (spCD K)) (bG:Binds K gd ["numbers"] []) (kG:PySem.W.keepIn K (.ref g)=true) (mG:mg "common_divisor" = some (.ref g)) (mt:mg "tuple" = none) :
    FnOk P w K mg base CX0 2 f fd ["numbers"] (spT K (fun ns=>(∃ n ∈ ns,n ≠ 0)/\Sm ns) red):=by
  refine F.okZ scRed (fun vs H Q E h=>?_) (fun cdv A outer s H vs Q E hr h=>?_)
  . obtain ⟨a,ns,rfl,_⟩:=h;rfl
  obtain ⟨a,ns,rfl,hS,hl,⟨hnz,hsm⟩,q⟩:=h
  refine ⟨_,zss_cons (zs_set (i:=1) scRed.nd rfl (Or.inr rfl) (ze_call G hr rfl mG kG bG .nil pass0 (za_cons (zv 0) za_nil)))
    (zss_one (zs_ret (ze_callTy call_tuple_of rfl mt (by rfl) (za_cons (ze_comp (own:=["number"]) scRed rfl ⟨by decide +kernel,rfl,by decide +kernel,by decide +kernel,by decide +kernel,by decide +kernel,by decide +kernel,by decide +kernel,by decide +kernel⟩ (zi_tup (zv 0))
      (fun C fp s H nd=>zg_name (i:=0) nd rfl (Or.inl rfl)) (fun C fp s H=>zts_nil) (fun C fp s H=>ze_op op_fdivB (zv 0) (zv 2))) za_nil)))),?_⟩
  refine ⟨_,rfl,a,ns,rfl,hS,?_⟩
  refine ⟨_,rfl,a,rfl,⟨_,hS⟩,?_⟩
  have gp:=gcdN_pos hnz
  refine comp_tup (K:=K) (((red ns).map PySem.W.Dat.int)) hS (by simp [red]) (by rw [List.length_map];exact Nat.le_of_lt (small1000 hl)) (fun i x H' d hx hd hs=>?_) (fun σ' H2 Q1 Q2 hq h=>?_) (fun D H' ys hs hy hD hf=>?_)
  . rw [List.getElem?_map] at hx hd
    unfold red at hd
    rw [List.getElem?_map] at hd
    cases e:ns[i]? with
    | none=>rw [e] at hx;cases hx
    | some n =>
      rw [e] at hx hd
      cases hx;cases hd
      refine ⟨_,rfl,_,rfl,n,_,rfl,rfl,⟨by omega,gcd_small hnz hsm⟩,Same.refl _,?_⟩
      dsimp only
      rw [Int.fdiv_eq_ediv_of_nonneg _ (by omega)]
      exact .int _
  . obtain ⟨v1,e1,v2,e2,i,j,e3,e4,e5,q⟩:=h
    exact ⟨v1,e1,v2,e2,i,j,e3,e4,e5,hq _ _ q⟩
  . refine ⟨D,ys,rfl,.inl ⟨SqL.of hy,fun l hl'=>?_⟩⟩
    refine q l _ (hs.trans (Same.new hl' _)) ?_
    rw [Fzs.ints_inv hf]
    exact upd_same
theorem scNeg:FnScope ["numbers"] ["numbers"] (defScope sNeg):=⟨rfl,rfl,rfl,by decide +kernel,rfl,by decide +kernel,by decide +kernel⟩
theorem ok_neg (F:Fun K "negated" "negated" sNeg f fd) (mt:mg "tuple" = none):FnOk P w K mg base CX0 1 f fd ["numbers"] (spT K (fun _=>True) (fun ns=>ns.map fun n => -n)):=by
  refine F.okZ scNeg (fun vs H Q E h=>?_) (fun cdv A outer s H vs Q E hr h=>?_)
  . obtain ⟨a,ns,rfl,_⟩:=h;rfl
  obtain ⟨a,ns,rfl,hS,hl,_,q⟩:=h
  refine ⟨_,zss_one (zs_ret (ze_callTy call_tuple_of rfl mt (by rfl) (za_cons (ze_comp (own:=["number"]) scNeg rfl ⟨by decide +kernel,rfl,by decide +kernel,by decide +kernel,by decide +kernel,by decide +kernel,by decide +kernel,by decide +kernel,by decide +kernel⟩ (zi_tup (zv 0))
      (fun C fp s H nd=>zg_name (i:=0) nd rfl (Or.inl rfl)) (fun C fp s H=>zts_nil) (fun C fp s H=>ze_un un_neg (zv 0))) za_nil))),?_⟩
  refine ⟨_,rfl,a,rfl,⟨_,hS⟩,?_⟩
  refine comp_tup (K:=K) ((ns.map fun n => -n).map PySem.W.Dat.int) hS (by simp) (by rw [List.length_map];exact Nat.le_of_lt (small1000 hl)) (fun i x H' d hx hd hs=>?_) (fun σ' H2 Q1 Q2 hq h=>?_) (fun D H' ys hs hy hD hf=>?_)
  . rw [List.getElem?_map] at hx hd
    rw [List.getElem?_map] at hd
    cases e:ns[i]? with
    | none=>rw [e] at hx;cases hx
    | some n =>
      rw [e] at hx hd
      cases hx;cases hd
      exact ⟨_,rfl,n,rfl,Same.refl _,.int _⟩
  . obtain ⟨v1,e1,i,e3,q⟩:=h
    exact ⟨v1,e1,i,e3,hq _ _ q⟩
  . refine ⟨D,ys,rfl,.inl ⟨SqL.of hy,fun l hl'=>?_⟩⟩
    refine q l _ (hs.trans (Same.new hl' _)) ?_
    rw [Fzs.ints_inv hf]
    exact upd_same
theorem scPlain:FnScope ["four","lowest"] ["four"] (defScope sPlain):=⟨rfl,rfl,rfl,by decide +kernel,rfl,by decide +kernel,by decide +kernel⟩
theorem ok_plain (F:Fun K "plain" "plain" sPlain f fd) (G:FnOk P w K mg base CX0 2 g gd ["numbers"] (spT K (fun ns=>(∃ n ∈ ns,n ≠ 0)/\Sm ns) red)) (bG:Binds K gd ["numbers"] []) (kG:PySem.W.keepIn K (.ref g)=true) (mG:mg "reduced" = some (.ref g))
    (G2:FnOk P w K mg base CX0 1 g2 gd2 ["numbers"] (spT K (fun _=>True) (fun ns=>ns.map fun n => -n))) (bG2:Binds K gd2 ["numbers"] []) (kG2:PySem.W.keepIn K (.ref g2)=true) (mG2:mg "negated" = some (.ref g2)) :
    FnOk P w K mg base CX0 3 f fd ["four"] (spT K PlainPre pl):=by
  refine F.okZ scPlain (fun vs H Q E h=>?_) (fun cdv A outer s H vs Q E hr h=>?_)
  . obtain ⟨a,ns,rfl,_⟩:=h;rfl
  obtain ⟨a,ns,rfl,hS,hl,⟨h4,hnz,hsm⟩,q⟩:=h
  refine ⟨_,zss_cons (zs_set (i:=1) scPlain.nd rfl (Or.inl rfl) (ze_call G hr rfl mG kG bG .nil pass0 (za_cons (zv 0) za_nil)))
    (zss_cons (zs_if (zt_cmpR (op_ltT hr.units0) (zv 1) (ze_tup (za_cons ze_int (za_cons ze_int (za_cons ze_int (za_cons ze_int za_nil))))) (nomark _)) (zss_one (zs_ret (ze_call G2 (hr.mono (by decide)) rfl mG2 kG2 bG2 .nil pass0 (za_cons (zv 1) za_nil)))) zss_nil)
    (zss_one (zs_ret (zv 1)))),?_⟩
  refine ⟨_,rfl,a,ns,rfl,hS,hl,⟨hnz,hsm⟩,fun r H1 s1 h1=>?_⟩
  refine ⟨_,rfl,(by show 4<=sizeLine;decide),fun p hp=>?_⟩
  have s2:Same H1 (upd H1 p (.tup [.int 0,.int 0,.int 0,.int 0])):=Same.new hp _
  refine ⟨r,p,red ns,[0,0,0,0],rfl,rfl,SqT.of (s2 _ _ h1),SqT.of upd_same,_,rfl,?_⟩
  have hl4:(red ns).length=4:=by unfold red;rw [List.length_map];exact h4
  have lx:HT.lexLt (red ns) [0,0,0,0]=decide (fst0 (red ns) < 0):=lex_fst0 (n:=4) hl4
  rw [lx]
  have pe:=plain_eq hnz
  refine ite2 (fun c=>?_) (fun c=>?_)
  . rw [if_pos (of_decide_eq_true c)] at pe
    refine ⟨_,rfl,r,red ns,rfl,SqT.of (s2 _ _ h1),by omega,trivial,fun r2 H2 s3 h2=>?_⟩
    exact q r2 H2 (s1.trans (s2.trans s3)) (by rw [<- pe];exact h2)
  . rw [if_neg (fun z=>c (decide_eq_true z))] at pe
    exact ⟨_,rfl,q r _ (s1.trans s2) (by rw [<- pe];exact s2 _ _ h1)⟩
theorem scSize:FnScope ["four"] ["four"] (defScope sSize):=⟨rfl,rfl,rfl,by decide +kernel,rfl,by decide +kernel,by decide +kernel⟩
theorem ok_size (F:Fun K "size" "size" sSize f fd) (G:FnOk P w K mg base CX0 1 g gd ["one","other"] (spSop K)) (bG:Binds K gd ["one","other"] []) (kG:PySem.W.keepIn K (.ref g)=true) (mG:mg "sum_of_products" = some (.ref g)):FnOk P w K mg base CX0 2 f fd ["four"] (spSize K):=by
  refine F.okZ scSize (fun vs H Q E h=>?_) (fun cdv A outer s H vs Q E hr h=>?_)
  . obtain ⟨a,ns,rfl,_⟩:=h;rfl
  obtain ⟨a,ns,rfl,hS,hl,sm,q⟩:=h
  refine ⟨_,zss_one (zs_ret (ze_call G hr rfl mG kG bG .nil pass0 (za_cons (zv 0) (za_cons (zv 0) za_nil)))),?_⟩
  exact ⟨_,rfl,_,rfl,a,a,ns,ns,rfl,hS,hS,hl,rfl,sm,sm,q⟩
theorem scProd:FnScope ["one","other"] ["one","other"] (defScope sProd):=⟨rfl,rfl,rfl,by decide +kernel,rfl,by decide +kernel,by decide +kernel⟩
theorem ok_prod (F:Fun K "product" "product" sProd f fd) :
    FnOk P w K mg base CX0 1 f fd ["one","other"] (sp2 K qm):=by
  refine F.okZ scProd (fun vs H Q E h=>?_) (fun cdv A outer s H vs Q E hr h=>?_)
  . obtain ⟨x,y,ns,ms,rfl,_⟩:=h;rfl
  obtain ⟨x,y,ns,ms,rfl,hS,hT,l1,l2,s1,s2,q⟩:=h
  obtain ⟨a,b,c,d,rfl⟩:=four_of l1
  obtain ⟨e,f,g,i,rfl⟩:=four_of l2
  refine ⟨_,(zss_one (zs_ret (ze_tup (za_b (ze_op op_sub (ze_op op_sub (ze_op op_sub (ze_op op_mulB (ze_ix ix_tup (zv 0) ze_int (fun _ _=>rfl)) (ze_ix ix_tup (zv 1) ze_int (fun _ _=>rfl))) (ze_op op_mulB (ze_ix ix_tup (zv 0) ze_int (fun _ _=>rfl)) (ze_ix ix_tup (zv 1) ze_int (fun _ _=>rfl)))) (ze_op op_mulB (ze_ix ix_tup (zv 0) ze_int (fun _ _=>rfl)) (ze_ix ix_tup (zv 1) ze_int (fun _ _=>rfl)))) (ze_op op_mulB (ze_ix ix_tup (zv 0) ze_int (fun _ _=>rfl)) (ze_ix ix_tup (zv 1) ze_int (fun _ _=>rfl)))) (za_b (ze_op op_sub (ze_op op_add (ze_op op_add (ze_op op_mulB (ze_ix ix_tup (zv 0) ze_int (fun _ _=>rfl)) (ze_ix ix_tup (zv 1) ze_int (fun _ _=>rfl))) (ze_op op_mulB (ze_ix ix_tup (zv 0) ze_int (fun _ _=>rfl)) (ze_ix ix_tup (zv 1) ze_int (fun _ _=>rfl)))) (ze_op op_mulB (ze_ix ix_tup (zv 0) ze_int (fun _ _=>rfl)) (ze_ix ix_tup (zv 1) ze_int (fun _ _=>rfl)))) (ze_op op_mulB (ze_ix ix_tup (zv 0) ze_int (fun _ _=>rfl)) (ze_ix ix_tup (zv 1) ze_int (fun _ _=>rfl)))) (za_b (ze_op op_add (ze_op op_add (ze_op op_sub (ze_op op_mulB (ze_ix ix_tup (zv 0) ze_int (fun _ _=>rfl)) (ze_ix ix_tup (zv 1) ze_int (fun _ _=>rfl))) (ze_op op_mulB (ze_ix ix_tup (zv 0) ze_int (fun _ _=>rfl)) (ze_ix ix_tup (zv 1) ze_int (fun _ _=>rfl)))) (ze_op op_mulB (ze_ix ix_tup (zv 0) ze_int (fun _ _=>rfl)) (ze_ix ix_tup (zv 1) ze_int (fun _ _=>rfl)))) (ze_op op_mulB (ze_ix ix_tup (zv 0) ze_int (fun _ _=>rfl)) (ze_ix ix_tup (zv 1) ze_int (fun _ _=>rfl)))) (za_b (ze_op op_add (ze_op op_sub (ze_op op_add (ze_op op_mulB (ze_ix ix_tup (zv 0) ze_int (fun _ _=>rfl)) (ze_ix ix_tup (zv 1) ze_int (fun _ _=>rfl))) (ze_op op_mulB (ze_ix ix_tup (zv 0) ze_int (fun _ _=>rfl)) (ze_ix ix_tup (zv 1) ze_int (fun _ _=>rfl)))) (ze_op op_mulB (ze_ix ix_tup (zv 0) ze_int (fun _ _=>rfl)) (ze_ix ix_tup (zv 1) ze_int (fun _ _=>rfl)))) (ze_op op_mulB (ze_ix ix_tup (zv 0) ze_int (fun _ _=>rfl)) (ze_ix ix_tup (zv 1) ze_int (fun _ _=>rfl)))) za_nil))))))),?_⟩
  refine ⟨_,rfl,x,_,_,_,rfl,rfl,hS,at40,_,rfl,y,_,_,_,rfl,rfl,hT,at40,_,_,rfl,rfl,mulSm s1 s2 (by simp) (by simp),_,rfl,x,_,_,_,rfl,rfl,hS,at41,_,rfl,y,_,_,_,rfl,rfl,hT,at41,_,_,rfl,rfl,mulSm s1 s2 (by simp) (by simp),_,_,rfl,rfl,_,rfl,x,_,_,_,rfl,rfl,hS,at42,_,rfl,y,_,_,_,rfl,rfl,hT,at42,_,_,rfl,rfl,mulSm s1 s2 (by simp) (by simp),_,_,rfl,rfl,_,rfl,x,_,_,_,rfl,rfl,hS,at43,_,rfl,y,_,_,_,rfl,rfl,hT,at43,_,_,rfl,rfl,mulSm s1 s2 (by simp) (by simp),_,_,rfl,rfl,?_⟩
  refine ⟨_,rfl,x,_,_,_,rfl,rfl,hS,at40,_,rfl,y,_,_,_,rfl,rfl,hT,at41,_,_,rfl,rfl,mulSm s1 s2 (by simp) (by simp),_,rfl,x,_,_,_,rfl,rfl,hS,at41,_,rfl,y,_,_,_,rfl,rfl,hT,at40,_,_,rfl,rfl,mulSm s1 s2 (by simp) (by simp),_,_,rfl,rfl,_,rfl,x,_,_,_,rfl,rfl,hS,at42,_,rfl,y,_,_,_,rfl,rfl,hT,at43,_,_,rfl,rfl,mulSm s1 s2 (by simp) (by simp),_,_,rfl,rfl,_,rfl,x,_,_,_,rfl,rfl,hS,at43,_,rfl,y,_,_,_,rfl,rfl,hT,at42,_,_,rfl,rfl,mulSm s1 s2 (by simp) (by simp),_,_,rfl,rfl,?_⟩
  refine ⟨_,rfl,x,_,_,_,rfl,rfl,hS,at40,_,rfl,y,_,_,_,rfl,rfl,hT,at42,_,_,rfl,rfl,mulSm s1 s2 (by simp) (by simp),_,rfl,x,_,_,_,rfl,rfl,hS,at41,_,rfl,y,_,_,_,rfl,rfl,hT,at43,_,_,rfl,rfl,mulSm s1 s2 (by simp) (by simp),_,_,rfl,rfl,_,rfl,x,_,_,_,rfl,rfl,hS,at42,_,rfl,y,_,_,_,rfl,rfl,hT,at40,_,_,rfl,rfl,mulSm s1 s2 (by simp) (by simp),_,_,rfl,rfl,_,rfl,x,_,_,_,rfl,rfl,hS,at43,_,rfl,y,_,_,_,rfl,rfl,hT,at41,_,_,rfl,rfl,mulSm s1 s2 (by simp) (by simp),_,_,rfl,rfl,?_⟩
  refine ⟨_,rfl,x,_,_,_,rfl,rfl,hS,at40,_,rfl,y,_,_,_,rfl,rfl,hT,at43,_,_,rfl,rfl,mulSm s1 s2 (by simp) (by simp),_,rfl,x,_,_,_,rfl,rfl,hS,at41,_,rfl,y,_,_,_,rfl,rfl,hT,at42,_,_,rfl,rfl,mulSm s1 s2 (by simp) (by simp),_,_,rfl,rfl,_,rfl,x,_,_,_,rfl,rfl,hS,at42,_,rfl,y,_,_,_,rfl,rfl,hT,at41,_,_,rfl,rfl,mulSm s1 s2 (by simp) (by simp),_,_,rfl,rfl,_,rfl,x,_,_,_,rfl,rfl,hS,at43,_,rfl,y,_,_,_,rfl,rfl,hT,at40,_,_,rfl,rfl,mulSm s1 s2 (by simp) (by simp),_,_,rfl,rfl,?_⟩
  refine ⟨(by show 4<=sizeLine;decide),fun r hr'=>q r _ (Same.new hr' _) upd_same⟩
theorem scThen:FnScope ["one","other"] ["one","other"] (defScope sThen):=⟨rfl,rfl,rfl,by decide +kernel,rfl,by decide +kernel,by decide +kernel⟩
theorem ok_then (F:Fun K "then" "then" sThen f fd)
    (G:FnOk P w K mg base CX0 3 g gd ["four"] (spT K PlainPre pl)) (bG:Binds K gd ["four"] []) (kG:PySem.W.keepIn K (.ref g)=true) (mG:mg "plain" = some (.ref g))
    (G2:FnOk P w K mg base CX0 1 g2 gd2 ["one","other"] (sp2 K qm)) (bG2:Binds K gd2 ["one","other"] []) (kG2:PySem.W.keepIn K (.ref g2)=true) (mG2:mg "product" = some (.ref g2)) :
    FnOk P w K mg base CX0 4 f fd ["one","other"] (spThen K):=by
  refine F.okZ scThen (fun vs H Q E h=>?_) (fun cdv A outer s H vs Q E hr h=>?_)
  . obtain ⟨x,y,ns,ms,rfl,_⟩:=h;rfl
  obtain ⟨x,y,ns,ms,rfl,hS,hT,l1,l2,z1,z2,b1,b2,q⟩:=h
  have r:=hr.mono (show 3<=3 by decide)
  have r2:=hr.mono (show 1<=3 by decide)
  refine ⟨_,(zss_one (zs_ret (ze_call G r rfl mG kG bG .nil pass0 (za_c (ze_call G2 r2 rfl mG2 kG2 bG2 .nil pass0 (za_n (zv 1) (za_n (zv 0) za_nil))) za_nil)))),?_⟩
  refine ⟨_,rfl,_,rfl,y,x,ms,ns,rfl,hT,hS,l2,l1,sm4000 b2,sm4000 b1,fun p H1 t1 h1=>?_⟩
  refine ⟨p,_,rfl,SqT.of h1,by rw [qm_len l2 l1];decide,⟨qm_len l2 l1,nz_qm l2 l1 z2 z1,sm_bd (bd_qm l2 l1 b2 b1) two8002⟩,fun p2 H2 t2 h2=>?_⟩
  exact q p2 H2 (t1.trans t2) h2
theorem scRest:FnScope ["four"] ["four"] (defScope sRest):=⟨rfl,rfl,rfl,by decide +kernel,rfl,by decide +kernel,by decide +kernel⟩
theorem ok_rest (F:Fun K "rest" "rest" sRest f fd)
    (G:FnOk P w K mg base CX0 2 g gd ["numbers"] (spT K (fun ns=>(∃ n ∈ ns,n ≠ 0)/\Sm ns) red)) (bG:Binds K gd ["numbers"] []) (kG:PySem.W.keepIn K (.ref g)=true) (mG:mg "reduced" = some (.ref g))
    (G2:FnOk P w K mg base CX0 2 g2 gd2 ["four"] (spSize K)) (bG2:Binds K gd2 ["four"] []) (kG2:PySem.W.keepIn K (.ref g2)=true) (mG2:mg "size" = some (.ref g2)) :
    FnOk P w K mg base CX0 3 f fd ["four"] (spRest K):=by
  refine F.okZ scRest (fun vs H Q E h=>?_) (fun cdv A outer s H vs Q E hr h=>?_)
  . obtain ⟨x,ns,rfl,_⟩:=h;rfl
  obtain ⟨x,ns,rfl,hS,l4,nz,bd,q⟩:=h
  have r:=hr.mono (show 2<=2 by decide)
  have r2:=hr.mono (show 2<=2 by decide)
  refine ⟨_,(zss_one (zs_ret (ze_call G r rfl mG kG bG .nil pass0 (za_t (ze_tup (za_b (ze_op op_mulB (ze_ix ix_tup (zv 0) ze_int (fun _ _=>rfl)) (ze_ix ix_tup (zv 0) ze_int (fun _ _=>rfl))) (za_c (ze_call G2 r2 rfl mG2 kG2 bG2 .nil pass0 (za_n (zv 0) za_nil)) za_nil))) za_nil)))),?_⟩
  obtain ⟨a,b,c,d,rfl⟩:=four_of l4
  have ha:Bt a 1000:=bd a (by simp)
  have np:=nrm_pos (ns:=[a,b,c,d]) rfl nz
  refine ⟨_,rfl,x,_,_,_,rfl,rfl,hS,at40,_,rfl,x,_,_,_,rfl,rfl,hS,at40,_,_,rfl,rfl,ha.mulOk ha,_,rfl,x,[a,b,c,d],rfl,hS,(by show 4<=1000;decide),bts (k:=1000) (fun n hn=>bd n hn),fun H1 s1=>?_⟩
  refine ⟨(by show 2<=sizeLine;decide),fun t ht=>?_⟩
  rw [sop4] at *
  have s2:=Same.new ht (.tup ([a * a,nrm [a,b,c,d]].map V.int))
  refine ⟨t,[a * a,nrm [a,b,c,d]],rfl,SqT.of upd_same,(by show 2<=1000;decide),⟨⟨nrm [a,b,c,d],by simp,by omega⟩,sm2 (x:=2003) ((ha.mul ha).up (by decide)) (nrm_bt bd)⟩,fun r H2 s3 h3=>?_⟩
  exact q r H2 (s1.trans (s2.trans s3)) h3
theorem scCBack:FnScope ["four"] ["four"] (defScope sCBack):=⟨rfl,rfl,rfl,by decide +kernel,rfl,by decide +kernel,by decide +kernel⟩
theorem ok_cback (F:Fun K "comes_back" "comes_back" sCBack f fd)
    (G:FnOk P w K mg base CX0 3 g gd ["four"] (spRest K)) (bG:Binds K gd ["four"] []) (kG:PySem.W.keepIn K (.ref g)=true) (mG:mg "rest" = some (.ref g)) (m_COUNTS:mg "COUNTS" = some (.ref dCOUNTS)) (t_COUNTS:TabD K dCOUNTS cts) :
    FnOk P w K mg base CX0 4 f fd ["four"] (spP K RCB):=by
  refine okP F scCBack (fun ds d h=>?_) (fun cdv A0 outer s0 H0 E0 hr=>?_)
  . obtain ⟨ns,rfl,_⟩:=h;rfl
  have r:=hr.mono (show 3<=3 by decide)
  refine ⟨_,(zss_one (zs_ret (ze_tget hr.units (ze_glob (v:=.ref dCOUNTS) rfl m_COUNTS rfl) (ze_call G r rfl mG kG bG .nil pass0 (za_n (zv 0) za_nil))))),fun ds d h=>?_⟩
  obtain ⟨ns,rfl,l4,nz,bd,rfl⟩:=h
  exact S.ret1 (s:=.dat (cbD ns)) (E1.tget t_COUNTS (E1.cRest (A1.cons (E1.var rfl) A1.nil) l4 nz bd)) ⟨rfl,noL_cb⟩
theorem scGroupOf:FnScope ["fours","words","edge","beyond","turn","place","four","made"] ["fours"] (defScope sGroupOf):=⟨rfl,rfl,rfl,by decide +kernel,rfl,by decide +kernel,by decide +kernel⟩
theorem ok_groupof (F:Fun K "group_of" "group_of" sGroupOf f fd)
    (G:FnOk P w K mg base CX0 4 g gd ["one","other"] (spThen K)) (bG:Binds K gd ["one","other"] []) (kG:PySem.W.keepIn K (.ref g)=true) (mG:mg "then" = some (.ref g))
    (G2:FnOk P w K mg base CX0 4 g2 gd2 ["four"] (spP K RCB)) (bG2:Binds K gd2 ["four"] []) (kG2:PySem.W.keepIn K (.ref g2)=true) (mG2:mg "comes_back" = some (.ref g2)) (m_len:mg "len" = none) (m_enumerate:mg "enumerate" = none) (m_sorted:mg "sorted" = none) (m_NOTHING:mg "NOTHING" = some (.ref dNOTHING)) (t_NOTHING:TupT K dNOTHING [1,0,0,0]) :
    FnOk P w K mg base CX0 5 f fd ["fours"] (spO K RGrp):=by
  refine okO F scGroupOf (fun ds d h=>?_) (fun cdv A0 outer s0 H0 E0 hr=>?_)
  . obtain ⟨fs,rfl,_⟩:=h;rfl
  have r:=hr.mono (show 4<=4 by decide)
  have r2:=hr.mono (show 4<=4 by decide)
  refine ⟨_,(zss_cons (zs_set (i:=1) scGroupOf.nd rfl (Or.inl rfl) (ze_kdisp hr.units (ze_glob (v:=.ref dNOTHING) rfl m_NOTHING rfl) (ze_tup za_nil)))
    (zss_cons (zs_set (i:=2) scGroupOf.nd rfl (Or.inl rfl) (ze_lst (za_n (ze_glob (v:=.ref dNOTHING) rfl m_NOTHING rfl) za_nil)))
    (zss_cons (zs_while PassesOwn.never (zt_cmpR op_gt (ze_callB call_len_seq rfl m_len PySem.boot_len (za_n (zv 2) za_nil)) ze_int (nomark _)) (zss_cons (zs_set (i:=3) scGroupOf.nd rfl (Or.inl rfl) (ze_lst za_nil))
    (zss_cons (zs_for PassesOwn.never rfl (zi_list (zv 2)) (zg_name (i:=4) scGroupOf.nd rfl (Or.inl rfl)) (zss_one (zs_for PassesOwn.never rfl (zi_enumL rfl m_enumerate (za_n (zv 0) za_nil)) (zg_tup rfl (zgs_cons (zg_name (i:=5) scGroupOf.nd rfl (Or.inl rfl)) (zgs_cons (zg_name (i:=6) scGroupOf.nd rfl (Or.inl rfl)) zgs_nil))) (zss_cons (zs_set (i:=7) scGroupOf.nd rfl (Or.inl rfl) (ze_call G r rfl mG kG bG .nil pass0 (za_n (zv 4) (za_n (zv 6) za_nil))))
    (zss_one (zs_if (zt_knot hr.units (zv 7) (zv 1)) (zss_cons (zs_kput hr.units (zv 1) (zv 7) (ze_op op_catW (ze_kget hr.units (zv 1) (zv 4) (fun _ _=>rfl)) (ze_tup (za_n (zv 5) za_nil))))
    (zss_cons (zs_expr (ze_append (zv 3) (zv 7)))
    (zss_one (zs_if (zt_cmpR op_isN (ze_call G2 r2 rfl mG2 kG2 bG2 .nil pass0 (za_n (zv 7) za_nil)) ze_non (nomark _)) (zss_one zs_never) zss_nil)))) zss_nil))))))
    (zss_one (zs_set (i:=2) scGroupOf.nd rfl (Or.inl rfl) (zv 3))))))
    (zss_one (zs_ret (ze_tup (za_cons ze_str (za_c (ze_callB (call_sortedD rfl) rfl m_sorted (by rfl) (za_n (zv 1) za_nil)) za_nil)))))))),fun ds C h=>?_⟩
  obtain ⟨fs,rfl,hf,hp,l16,rfl⟩:=h
  refine S.letTC (E.kDisp (ks:=[1,0,0,0]) (d:=tI []) (E1.gT t_NOTHING) (E1.tu A1.nil rfl (lsz (n:=0) rfl z0)) rfl) fun o ⟨a,eo⟩=>?_
  subst eo
  refine S.letO (ds:=([[1,0,0,0]]:List (List Int)).map tI) (E1.li (A1.cons (E1.gT t_NOTHING) A1.nil) rfl (lsz (n:=1) rfl z1)) rfl ?_
  refine S.frz (i:=2) rfl ?_
  refine S.seq (M:=fun τ'=>∃ (kd:List (List Int × Dat)) (n0:Nat) (es:List (List Int)) (o3 o4 o5 o6 o7:Sl),GI fs kd es [] n0/\es=[]/\τ'=[.dat (stD fs),.dt (knD a kd),.dat (.list (es.map tI)),o3,o4,o5,o6,o7]) ?_ fun τ' ⟨kd,n0,es,o3,o4,o5,o6,o7,gi,ee,eτ⟩=>?_
  . refine S.while (fun m τ'=>∃ (kd:List (List Int × Dat)) (n0:Nat) (es:List (List Int)) (o3 o4 o5 o6 o7:Sl),GI fs kd es [] n0/\m=2 * (25 - kd.length) + (if es.length=0 then 0 else 1)/\τ'=[.dat (stD fs),.dt (knD a kd),.dat (.list (es.map tI)),o3,o4,o5,o6,o7]) (m0:=_) ⟨[([1,0,0,0],tI [])],1,[[1,0,0,0]],_,_,_,_,_,GI.start,rfl,rfl⟩ (fun m τ1 ⟨kd,n0,es,o3,o4,o5,o6,o7,gi,em,e1⟩=>?_)
    subst e1
    refine ⟨_,T1.test (E1.gt (E1.to (E1.lenL (A1.cons (E1.varL (ds:=es.map tI) rfl) A1.nil)) (by rw [List.length_map])) E1.int),fun c=>?_,fun c=>⟨kd,n0,es,_,_,_,_,_,gi,?_,rfl⟩⟩
    . rw [decide_eq_true_iff] at c
      have e0:es.length ≠ 0:=by omega
      rw [if_neg e0] at em
      refine S.letO (ds:=([]:List (List Int)).map tI) (E1.li A1.nil rfl (lsz (n:=0) rfl z0)) (by rw [List.map_nil,noLs]) ?_
      have g0:=gi.re
      generalize kd.length=n1 at g0 em
      refine S.seq (M:=fun τ'=>∃ (kd:List (List Int × Dat)) (bs:List (List Int)) (o4 o5 o6 o7:Sl),GI fs kd [] bs n1/\τ'=[.dat (stD fs),.dt (knD a kd),.dat (.list (es.map tI)),.own (bs.map tI),o4,o5,o6,o7]) ?_ fun τ' ⟨kd,bs,o4,o5,o6,o7,gi,eτ⟩=>?_
      . refine S.for (Wk.lst (ds:=es.map tI) (E1.var rfl)) (fun i τ'=>∃ (kd:List (List Int × Dat)) (bs:List (List Int)) (o4 o5 o6 o7:Sl),GI fs kd (es.drop i) bs n1/\τ'=[.dat (stD fs),.dt (knD a kd),.dat (.list (es.map tI)),.own (bs.map tI),o4,o5,o6,o7]) ⟨kd,[],_,_,_,_,g0,rfl⟩ (fun i d τ1 hd ⟨kd,bs,o4,o5,o6,o7,gi,e1⟩=>?_) (fun τ1 ⟨kd,bs,o4,o5,o6,o7,gi,e1⟩=>⟨kd,bs,o4,o5,o6,o7,by rw [List.length_map,List.drop_length] at gi;exact gi,e1⟩)
        subst e1
        rw [List.getElem?_map] at hd
        cases hi:es[i]? with
        | none=>rw [hi] at hd;cases hd
        | some x =>
        rw [hi] at hd
        cases hd
        obtain ⟨il,ei⟩:=List.getElem?_eq_some_iff.mp hi
        have ex:es.drop i=x :: es.drop (i + 1):=by rw [List.drop_eq_getElem_cons il,ei]
        rw [ex] at gi
        generalize es.drop (i + 1)=es1 at gi ex
        refine ⟨_,Gd.name,?_⟩
        refine S.for (Wk.enumL (ds:=fs.map tI) (A1.cons (E1.var rfl) A1.nil)) (fun j τ'=>∃ (kd:List (List Int × Dat)) (bs:List (List Int)) (o5 o6 o7:Sl),GI fs kd (x :: es1) bs n1/\(∀ f ∈ fs.take j,pl (qm f x) ∈ kd.map (·.1))/\τ'=[.dat (stD fs),.dt (knD a kd),.dat (.list (es.map tI)),.own (bs.map tI),.dat (tI x),o5,o6,o7]) ⟨kd,bs,_,_,_,gi,fun f h=>(by rw [List.take_zero] at h;cases h),rfl⟩ (fun j d τ1 hd ⟨kd,bs,o5,o6,o7,gi,hs,e1⟩=>?_) (fun τ1 ⟨kd,bs,o5,o6,o7,gi,hs,e1⟩=>⟨kd,bs,_,o5,o6,o7,gi.next (by rw [enumD_len,List.length_map,List.take_length] at hs;exact hs),e1⟩)
        subst e1
        obtain ⟨y,hy,rfl⟩:=enumD_get hd
        rw [List.getElem?_map] at hy
        cases hj:fs[j]? with
        | none=>rw [hj] at hy;cases hy
        | some f =>
        rw [hj] at hy
        cases hy
        have fm:=List.mem_of_getElem? hj
        have F4:=hf f fm
        have xm:x ∈ kd.map (·.1):=gi.he x List.mem_cons_self
        obtain ⟨_,q1,q2,q3⟩:=(gi.gen x xm).ok hp
        obtain ⟨gc,g1,g2,g3⟩:=(gi.new xm fm).ok hp
        have k24:=gi.le hp
        have bl:(bs.map tI).length < sizeLine:=by rw [List.length_map];have:=gi.len;exact Nat.lt_of_le_of_lt (show bs.length<=24 by omega) (by decide)
        refine ⟨_,Gd.pair (x:=.int j) (y:=tI f),?_⟩
        refine S.let1 (s:=.dat (tI (pl (qm f x)))) (E1.cThen (A1.cons (E1.var rfl) (A1.cons (E1.var rfl) A1.nil)) q1 F4.1 q2 F4.2.1 (bd_mono q3 (by decide)) (bd_mono F4.2.2 (by decide))) ?_
        refine S.if1 (T1.kNotD (j:=1) (ks:=pl (qm f x)) rfl (E1.var rfl)) (fun h=>?_) (fun h=>S.next ⟨kd,bs,_,_,_,gi,fun g hg=>?_,rfl⟩)
        . have hn:lookD kd (pl (qm f x))=none:=by
            cases z:lookD kd (pl (qm f x)) with
            | none=>rfl
            | some d=>rw [z] at h;cases h
          obtain ⟨w,hw,lw⟩:=gi.word xm
          refine S.seq (M:=fun t=>t=[.dat (stD fs),.dt (knD a (kd ++ [(pl (qm f x),tI (w ++ [(j:Int)]))])),.dat (.list (es.map tI)),.own (bs.map tI),.dat (tI x),.dat (.int j),.dat (tI f),.dat (tI (pl (qm f x)))]) (S.kPutD (d:=tI (w ++ [(j:Int)])) rfl (E1.var rfl) (E1.to (E1.catT (xs:=w.map .int) (ys:=[.int j]) (E1.kGetD (j:=1) rfl (E1.var rfl) hw) (E1.tu (A1.cons (E1.var rfl) A1.nil) rfl (lsz (n:=1) rfl z1)) ?_) ?_) (noLs_ints _) hn (by omega) rfl) fun t et=>?_
          . rw [List.length_map];exact Nat.le_trans (show w.length + 1<=100 by omega) (by decide)
          . unfold tI;rw [List.map_append];rfl
          subst et
          refine S.seq (M:=fun t=>t=[.dat (stD fs),.dt (knD a (kd ++ [(pl (qm f x),tI (w ++ [(j:Int)]))])),.dat (.list (es.map tI)),.own ((bs ++ [pl (qm f x)]).map tI),.dat (tI x),.dat (.int j),.dat (tI f),.dat (tI (pl (qm f x)))]) (S.append1 (d:=tI (pl (qm f x))) rfl (E1.var rfl) (noLs_ints _) bl (by rw [List.map_append];try rfl)) fun t et=>?_
          subst et
          obtain ⟨n,en⟩:=cb_some gc
          refine S.ifF (T1.eqn (T1.test (E1.isNo (E1.call (R:=RCB) (ds:=[tI (pl (qm f x))]) (A1.cons (E1.var rfl) A1.nil) ⟨_,rfl,g1,g2,bd_mono g3 (Nat.pow_le_pow_right (by decide) (by decide)),rfl⟩) E1.non)) (by rw [en];rfl)) (S.next ⟨(kd ++ [(pl (qm f x),tI (w ++ [(j:Int)]))]),bs ++ [pl (qm f x)],_,_,_,gi.add xm fm lw hn,fun g hg=>?_,rfl⟩)
          rw [List.map_append]
          rw [take_snoc hj] at hg
          rcases List.mem_append.mp hg with hg | hg
          . exact List.mem_append_left _ (hs g hg)
          . rw [List.mem_singleton] at hg;subst hg;exact List.mem_append_right _ (List.mem_singleton_self _)
        . rw [take_snoc hj] at hg
          rcases List.mem_append.mp hg with hg | hg
          . exact hs g hg
          . rw [List.mem_singleton] at hg;subst hg;exact mem_of_look (by simpa using h)
      subst eτ
      refine S.frz (i:=3) rfl ?_
      have k24:=gi.le hp
      have kl:=gi.len
      exact S.asg1 (s:=.dat (.list (bs.map tI))) (E1.var rfl) ⟨2 * (25 - kd.length) + (if bs.length=0 then 0 else 1),by rw [em];split <;> omega,kd,_,bs,_,_,_,_,_,gi.turn,rfl,rfl⟩
    . rw [decide_eq_false_iff_not] at c
      exact List.eq_nil_of_length_eq_zero (by omega)
  subst eτ
  subst ee
  have k24:=gi.le hp
  exact S.ret1 (s:=.dt (tgO "group" ((srtI (kd.map (·.1))).map tI))) (E1.tuTg (A1.cons E1.str (A1.cons (E1.sortD (j:=1) (m:=3) rfl (fun x hx=>((gi.gen x.1 (List.mem_map.mpr ⟨x,hx,rfl⟩)).ok hp).2.1) (by omega)) A1.nil))) ⟨_,rfl,⟨_,gi.fin,rfl⟩,tgO_free (noLs_fs _)⟩
theorem scAt3:FnScope ["_law_script","_law_k"] ["_law_script","_law_k"] (defScope sAt3):=⟨rfl,rfl,rfl,by decide +kernel,rfl,by decide +kernel,by decide +kernel⟩
theorem ok_at3 (F:Fun K "_law_at" "_law_at" sAt3 f fd) (m_len:mg "len" = none) :
    FnOk P w K mg base CX0 1 f fd ["_law_script","_law_k"] (spP K RAt3):=by
  refine okP F scAt3 (fun ds d h=>?_) (fun cdv A0 outer s0 H0 E0 hr=>?_)
  . obtain ⟨sc,k,rfl,_⟩:=h;rfl
  refine ⟨_,(zss_cons (zs_if (zt_cmpR op_lt (zv 1) (ze_callB call_len_seq rfl m_len PySem.boot_len (za_n (zv 0) za_nil)) (nomark _)) (zss_one (zs_ret (ze_ix ix_list (zv 0) (zv 1) (fun _ _=>rfl)))) zss_nil)
    (zss_one (zs_ret ze_int))),fun ds d h=>?_⟩
  obtain ⟨sc,k,rfl,k0,rfl⟩:=h
  refine S.ifs (b:=decide (k < (sc.length:Int))) (T1.test (E1.to (E1.lt (E1.var rfl) (E1.lenL (ds:=sc.map .int) (A1.cons (E1.varL rfl) A1.nil))) (by rw [List.length_map]))) (fun h=>?_) (fun h=>?_)
  . have h:=of_decide_eq_true h
    exact S.ret1 (s:=.dat (.int (cellAt sc k))) (E1.ixL (ds:=sc.map .int) (E1.varL rfl) (E1.var rfl) (by
      unfold atI cellAt
      rw [ixN_of k0 (by rw [List.length_map];exact h),Option.bind_some,List.getElem?_map,List.getD_eq_getElem?_getD,List.getElem?_eq_getElem (by omega)]
      rfl)) ⟨rfl,rfl⟩
  . have h:=of_decide_eq_false h
    have e:cellAt sc k=0:=by
      unfold cellAt
      rw [List.getD_eq_getElem?_getD,List.getElem?_eq_none (by omega)]
      rfl
    rw [e]
    exact S.ret1 (s:=.dat (.int 0)) E1.int ⟨rfl,rfl⟩
theorem scWholes3:FnScope ["_law_found","_law_many"] ["_law_found","_law_many"] (defScope sWholes3):=⟨rfl,rfl,rfl,by decide +kernel,rfl,by decide +kernel,by decide +kernel⟩
theorem ok_wholes3 (F:Fun K "_law_wholes" "_law_wholes" sWholes3 f fd) (m_len:mg "len" = none) (m_isinstance:mg "isinstance" = none) (m_tuple:mg "tuple" = none) (m_bool:mg "bool" = none) (m_int:mg "int" = none) :
    FnOk P w K mg base CX0 1 f fd ["_law_found","_law_many"] (spP K RWholes):=by
  refine okP F scWholes3 (fun ds d h=>?_) (fun cdv A0 outer s0 H0 E0 hr=>?_)
  . obtain ⟨ns,k,rfl,_⟩:=h;rfl
  refine ⟨_,(zss_cons (zs_if (ZW.pt (zw_or (zt_not (zt_val (ze_callB (call_isiD (T := "tuple")) rfl m_isinstance (by rfl) (za_n (zv 0) (za_n (ze_tyn rfl m_tuple (by rfl)) za_nil))))) (zw_or1 (zt_cmpR op_ne (ze_callB call_len_seq rfl m_len PySem.boot_len (za_n (zv 0) za_nil)) (zv 1) (nomark _))))) (zss_one (zs_ret ze_bl)) zss_nil)
    (zss_one (zs_ret (ze_cmpR op_eq (ze_callB call_len_seq rfl m_len PySem.boot_len (za_cons (ze_comp (own:=["_law_one"]) scWholes3 rfl ⟨by decide +kernel,rfl,by decide +kernel,by decide +kernel,by decide +kernel,by decide +kernel,by decide +kernel,by decide +kernel,by decide +kernel⟩ (zi_tup (zv 0)) (fun C fp s H nd=>zg_name (i:=0) nd rfl (Or.inl rfl)) (fun C fp s H=>zts_one (ZW.pt (zw_and (zt_val (ze_callB (call_isiDC (T := "int")) rfl m_isinstance (by rfl) (za_n (zv 0) (za_n (ze_tyn rfl m_int (by rfl)) za_nil)))) (zw_and1 (zt_not (zt_val (ze_callB (call_isiDC (T := "bool")) rfl m_isinstance (by rfl) (za_n (zv 0) (za_n (ze_tyn rfl m_bool (by rfl)) za_nil))))))))) (fun C fp s H=>(zv 0))) za_nil)) (zv 1) (nomark _))))),fun ds d h=>?_⟩
  obtain ⟨ns,k,rfl,hk,k4,rfl⟩:=h
  refine S.ifsF (T1.orF (T1.notT (T1.val (E1.isiT (E1.var rfl)))) (T1.neT (E1.lenT (ds:=ns.map .int) (A1.cons (E1.var rfl) A1.nil)) (E1.var rfl) (by rw [List.length_map];exact hk))) ?_
  exact S.ret1 (s:=.dat (.bool true)) (E1.to (E1.eq (E1.lenL (ds:=(ns.filter fun _=>true).map .int) (A1.cons (E1.vwo (E1.compIF (ns:=ns) (kp:=fun _=>true) (Wk.tup (E1.var rfl)) (fun n hn=>T1.andT (T1.val (E1.isi (E1.var rfl) rfl (fun K=>rfl))) (T1.notF (T1.val (E1.isi (E1.var rfl) rfl (fun K=>rfl))))) (fun n hn=>(E1.var rfl)) (Nat.le_trans (show ns.length<=4 by omega) z4))) A1.nil)) (E1.var rfl)) (by rw [show (ns.filter fun _=>true)=ns from List.filter_eq_self.mpr fun _ _=>rfl,List.length_map,hk,decide_eq_true rfl])) ⟨rfl,rfl⟩
theorem scMix3:FnScope ["_law_cell","_law_k","_law_number"] ["_law_cell","_law_k"] (defScope sMix3):=⟨rfl,rfl,rfl,by decide +kernel,rfl,by decide +kernel,by decide +kernel⟩
theorem ok_mix3 (F:Fun K "_law_mixed" "_law_mixed" sMix3 f fd) :
    FnOk P w K mg base CX0 1 f fd ["_law_cell","_law_k"] (spP K RMix3):=by
  refine okP F scMix3 (fun ds d h=>?_) (fun cdv A0 outer s0 H0 E0 hr=>?_)
  . obtain ⟨c,k,rfl,_⟩:=h;rfl
  refine ⟨_,(zss_cons (zs_set (i:=2) scMix3.nd rfl (Or.inl rfl) (ze_op op_mod (ze_op op_add (ze_op op_add (ze_op op_mulB (zv 0) ze_int) (ze_op op_mulB (ze_op op_mulB ze_int (zv 1)) (zv 1))) (zv 1)) ze_int))
    (zss_cons (zs_set (i:=2) scMix3.nd rfl (Or.inl rfl) (ze_op op_mod (ze_op op_mulB (zv 2) (zv 2)) ze_int))
    (zss_one (zs_ret (ze_op op_mod (ze_op op_mulB (zv 2) ze_int) ze_int))))),fun ds d h=>?_⟩
  obtain ⟨c,k,rfl,k0,k1,rfl⟩:=h
  have m1:IntMulOk c 1103515245:=K0.okR (by decide) (by decide)
  have m2:IntMulOk 7919 k:=K0.okL (by decide) (by decide)
  have m3:IntMulOk (7919 * k) k:=K0.okR (by omega) (by omega)
  refine S.let1 (s:=.dat (.int ((c * 1103515245 + 7919 * k * k + k) % 2147483647))) (E1.mod (E1.add (E1.add (E1.mul (E1.var rfl) E1.int m1) (E1.mul (E1.mul E1.int (E1.var rfl) m2) (E1.var rfl) m3)) (E1.var rfl)) E1.int (by decide)) ?_
  have x0:(0:Int)<=(c * 1103515245 + 7919 * k * k + k) % 2147483647:=Int.emod_nonneg _ (by decide)
  have x1:(c * 1103515245 + 7919 * k * k + k) % 2147483647 < (2147483647:Int):=Int.emod_lt_of_pos _ (by decide)
  unfold mx3
  generalize (c * 1103515245 + 7919 * k * k + k) % 2147483647=n at *
  refine S.let1 (s:=.dat (.int (n * n % 2147483629))) (E1.mod (E1.mul (E1.var rfl) (E1.var rfl) (K0.okL (by omega) (by omega))) E1.int (by decide)) ?_
  have y0:(0:Int)<=n * n % 2147483629:=Int.emod_nonneg _ (by decide)
  have y1:n * n % 2147483629 < (2147483629:Int):=Int.emod_lt_of_pos _ (by decide)
  exact S.ret1 (s:=.dat (.int (n * n % 2147483629 * 69621 % 2147483587))) (E1.mod (E1.mul (E1.var rfl) E1.int (K0.okR (by decide) (by decide))) E1.int (by decide)) ⟨rfl,rfl⟩
theorem scPur3:FnScope ["_law_script","_law_at_here","_law_cell"] ["_law_script","_law_at_here"] (defScope sPur3):=⟨rfl,rfl,rfl,by decide +kernel,rfl,by decide +kernel,by decide +kernel⟩
theorem ok_pur3 (F:Fun K "_law_purse" "_law_purse" sPur3 f fd)
    (G:FnOk P w K mg base CX0 1 g gd ["_law_script","_law_k"] (spP K RAt3)) (bG:Binds K gd ["_law_script","_law_k"] []) (kG:PySem.W.keepIn K (.ref g)=true) (mG:mg "_law_at" = some (.ref g)) (m_max:mg "max" = none) :
    FnOk P w K mg base CX0 2 f fd ["_law_script","_law_at_here"] (spN K RPur3):=by
  refine okN F scPur3 (fun ds d h=>?_) (fun cdv A0 outer s0 H0 E0 hr=>?_)
  . obtain ⟨sc,k,rfl,_⟩:=h;rfl
  have r:=hr.mono (show 1<=1 by decide)
  refine ⟨_,(zss_cons (zs_set (i:=2) scPur3.nd rfl (Or.inl rfl) (ze_call G r rfl mG kG bG .nil pass0 (za_n (zv 0) (za_n (zv 1) za_nil))))
    (zss_one (zs_ret (ze_lst (za_c (ze_callB (call_max2 rfl) rfl m_max (by rfl) (za_b (ze_op op_sub (zv 2) (ze_op op_pow ze_int ze_int)) (za_i za_nil))) (za_n (zv 2) (za_b (ze_op op_mulB ze_int (zv 1)) za_nil))))))),fun ds es h=>?_⟩
  obtain ⟨sc,k,rfl,k0,k1,rfl⟩:=h
  refine S.let1 (s:=.dat (.int (cellAt sc k))) (E1.call (R:=RAt3) (A1.cons (E1.var rfl) (A1.cons (E1.var rfl) A1.nil)) ⟨sc,k,rfl,k0,rfl⟩) ?_
  exact S.ret1 (s:=.own [.int (if 0 > cellAt sc k - 10 ^ 18 then 0 else cellAt sc k - 10 ^ 18),.int (cellAt sc k),.int (1000 * k)]) (E1.li (A1.cons (E1.max2 (A1.cons (E1.sub (E1.var rfl) (E1.pow E1.int E1.int (cpow10 (by decide) (by decide)))) (A1.cons E1.int A1.nil))) (A1.cons (E1.var rfl) (A1.cons (E1.mul E1.int (E1.var rfl) (K0.okL (by decide) (by decide))) A1.nil))) rfl (lsz (n:=3) rfl z3)) rfl
theorem scDraw3:FnScope ["_law_purse_here","_law_out_of","_law_drawn","_law_number","_law_k"] ["_law_purse_here","_law_out_of"] (defScope sDraw3):=⟨rfl,rfl,rfl,by decide +kernel,rfl,by decide +kernel,by decide +kernel⟩
theorem ok_draw3 (F:Fun K "_law_draw" "_law_draw" sDraw3 f fd)
    (G:FnOk P w K mg base CX0 1 g gd ["_law_cell","_law_k"] (spP K RMix3)) (bG:Binds K gd ["_law_cell","_law_k"] []) (kG:PySem.W.keepIn K (.ref g)=true) (mG:mg "_law_mixed" = some (.ref g)) (m_range:mg "range" = none) (m_int:mg "int" = none) :
    FnOk P w K mg base CX0 2 f fd ["_law_purse_here","_law_out_of"] (spD K 4 RDraw3):=by
  refine okD F scDraw3 (fun ds d h=>?_) (fun cdv A0 outer s0 H0 E0 hr=>?_)
  . obtain ⟨m,rfl,_⟩:=h;rfl
  have r:=hr.mono (show 1<=1 by decide)
  refine ⟨_,(zss_cons (zs_if (zt_cmpR op_gt (ze_ix ix_list (zv 0) ze_int (fun _ _=>rfl)) ze_int (nomark _)) (zss_cons (zs_set (i:=2) scDraw3.nd rfl (Or.inl rfl) (ze_op op_mod (ze_ix ix_list (zv 0) ze_int (fun _ _=>rfl)) (zv 1)))
    (zss_cons (zs_asg (ze_op op_fdivB (ze_ix ix_list (zv 0) ze_int (fun _ _=>rfl)) (zv 1)) (zg_sub (zv 0) ze_int set_list (fun _=>rfl)))
    (zss_one (zs_ret (zv 2))))) zss_nil)
    (zss_cons (zs_set (i:=3) scDraw3.nd rfl (Or.inl rfl) ze_int)
    (zss_cons (zs_for PassesOwn.never rfl (zi_range1 rfl m_range (za_s (ze_ix ix_list (ze_lst (za_i (za_i za_nil))) (ze_callTy call_int1 rfl m_int (by rfl) (za_cons (ze_cmpR op_gt (zv 1) (ze_op op_pow ze_int ze_int) (nomark _)) za_nil)) pix_call) za_nil)) (zg_name (i:=4) scDraw3.nd rfl (Or.inl rfl)) (zss_cons (zs_asg (ze_op op_add (ze_ix ix_list (zv 0) ze_int (fun _ _=>rfl)) ze_int) (zg_sub (zv 0) ze_int set_list (fun _=>rfl)))
    (zss_one (zs_set (i:=3) scDraw3.nd rfl (Or.inl rfl) (ze_op op_add (ze_op op_mulB (zv 3) ze_int) (ze_call G r rfl mG kG bG .nil pass0 (za_s (ze_ix ix_list (zv 0) ze_int (fun _ _=>rfl)) (za_s (ze_ix ix_list (zv 0) ze_int (fun _ _=>rfl)) za_nil))))))))
    (zss_one (zs_ret (ze_op op_mod (zv 3) (zv 1))))))),fun q n ds C hc h=>?_⟩
  obtain ⟨m,rfl,m0,m1,rfl⟩:=h
  have ml:CDivB 0 m:=⟨by omega,(Nat.log2_lt (by omega)).mpr (Nat.lt_of_lt_of_le (show m.natAbs < 2 ^ 200 by omega) (Nat.pow_le_pow_right (by decide) (by decide)))⟩
  refine S2.ifs2 (M1:=n) (T2.cmp (EI2.p0) (EI2.of (P:=fun j=>j=0) E1.int rfl)) (fun _=>?_) (fun _=>?_)
  . refine S2.letI (P:=fun d=>0<=d/\d < m) (EI2.mono (EI2.opC (EI2.p0) (EI2.of (P:=fun j=>j=m) (E1.var rfl) rfl) (fun i j _ hj=>by subst hj;exact m0)) (fun k ⟨i,j,_,hj,e⟩=>by subst hj e;exact ⟨Int.emod_nonneg _ (by omega),Int.emod_lt_of_pos _ m0⟩)) (fun d hd=>?_)
    refine S2.seq (M1:=n) (X:=fun τ'=>τ'=[.un,.dat (.int m),.dat (.int d),.un,.un]) (S2.setP0 (P:=fun _=>True) (EI2.mono (EI2.opC (EI2.p0) (EI2.of (P:=fun j=>j=m) (E1.var rfl) rfl) (fun i j _ hj=>by subst hj;exact ml)) (fun _ _=>trivial)) rfl) (fun τ' e=>?_)
    subst e
    exact S2.ret1 (s:=.dat (.int d)) (E1.var rfl) ⟨_,⟨d,rfl,hd⟩,rfl,rfl⟩
  refine S2.let1 (d:=.int 0) E1.int ?_
  obtain ⟨r,hr,r4⟩:∃ r:Nat,atI [Dat.int 1,Dat.int 4] (if decide ((10:Int) ^ Int.toNat 9 < m) then 1 else 0)=some (.int (r:Int))/\r<=4:=by
    by_cases h:(10:Int) ^ Int.toNat 9 < m
    . rw [decide_eq_true h];exact ⟨4,rfl,by decide⟩
    . rw [decide_eq_false h];exact ⟨1,rfl,by decide⟩
  refine S2.seq (M1:=n + 4) (X:=fun τ'=>∃ (a:Int) (o:Sl),τ'=[.un,.dat (.int m),.un,.dat (.int a),o]) (S2.for (c:=1) (Wk.rng (n:=r) (A1.cons (E1.ixL (ds:=[.int 1,.int 4]) (d:=.int (r:Int)) (E1.vwo (E1.li (by walk_at "au3") rfl (lsz (n:=2) rfl z2))) (E1.b2i (A1.cons (E1.gt (E1.var rfl) (E1.pow E1.int E1.int (cpow10 (by decide) (by decide)))) A1.nil)) hr) A1.nil) (Int.toNat_natCast r) (by omega) (by omega)) (fun _ τ'=>∃ (a:Int) (o:Sl),τ'=[.un,.dat (.int m),.un,.dat (.int a),o]) ⟨0,_,rfl⟩ (fun k d τ1 hd ⟨a,o,e1⟩=>?_) (fun τ1 h=>h) (by decide) (by rw [rangeD_len];omega)) (fun τ' ⟨a,o,e⟩=>?_)
  . subst e1
    have hk:k < r:=by
      have:=(List.getElem?_eq_some_iff.mp hd).1
      rw [rangeD_len] at this;exact this
    refine S2.seq (M1:=n + (k + 1) * 1) (X:=fun τ'=>τ'=[.un,.dat (.int m),.un,.dat (.int a),.dat d]) (S2.setP2 (EI2.op (EI2.p2) EI2.lit) (fun j ⟨i,l,hi,hl,ej⟩=>by subst hl ej;omega) rfl) (fun τ' e=>?_)
    subst e
    exact S2.asg (EI2.op (Q:=fun _=>True) (EI2.opC (EI2.of (P:=fun j=>j=a) (E1.var rfl) rfl) EI2.lit (fun i j _ hj=>by subst hj;exact K0.okR (by decide) (by decide))) (E2.mono (E2.callP (C:=fun d=>∃ i,d = .int i/\True) (A2.ints2 (EI2.p1) (EI2.p2)) (fun ds ⟨i,j,e,_,hj⟩=>⟨_,⟨i,j,e,hj.1,by omega,rfl⟩,_,rfl,trivial⟩)) (fun s ⟨d,e,i,ei,_⟩=>⟨i,by rw [e,ei],trivial⟩))) (fun s ⟨i,e,_⟩=>by rw [e];exact ⟨rfl,fun z=>by cases z⟩) (fun s ⟨i,e,_⟩=>⟨i,.dat d,by subst e;rfl⟩)
  . subst e
    exact S2.ret (EI2.opC (P:=fun j=>j=a) (Q:=fun j=>j=m) (EI2.of (E1.var rfl) rfl) (EI2.of (E1.var rfl) rfl) (fun i j _ hj=>by subst hj;exact m0)) (fun s ⟨k,e,i,j,_,hj,ek⟩=>by subst hj ek e;exact ⟨_,⟨_,rfl,Int.emod_nonneg _ (by omega),Int.emod_lt_of_pos _ m0⟩,rfl,rfl⟩)
theorem scSm3:FnScope ["_law_purse_here","_law_most"] ["_law_purse_here","_law_most"] (defScope sSm3):=⟨rfl,rfl,rfl,by decide +kernel,rfl,by decide +kernel,by decide +kernel⟩
theorem ok_sm3 (F:Fun K "_law_small" "_law_small" sSm3 f fd)
    (G:FnOk P w K mg base CX0 2 g gd ["_law_purse_here","_law_out_of"] (spD K 4 RDraw3)) (bG:Binds K gd ["_law_purse_here","_law_out_of"] []) (kG:PySem.W.keepIn K (.ref g)=true) (mG:mg "_law_draw" = some (.ref g)) :
    FnOk P w K mg base CX0 3 f fd ["_law_purse_here","_law_most"] (spD K 4 RSm3):=by
  refine okD F scSm3 (fun ds d h=>?_) (fun cdv A0 outer s0 H0 E0 hr=>?_)
  . obtain ⟨m,rfl,_⟩:=h;rfl
  have r:=hr.mono (show 2<=2 by decide)
  refine ⟨_,(zss_one (zs_ret (ze_op op_sub (ze_call G r rfl mG kG bG .nil pass0 (za_n (zv 0) (za_b (ze_op op_add (ze_op op_mulB ze_int (zv 1)) ze_int) za_nil))) (zv 1)))),fun q n ds C hc h=>?_⟩
  obtain ⟨m,rfl,m0,m1,rfl⟩:=h
  exact S2.ret (EI2.op (E2.drawn (m:=2 * m + 1) (A1.cons (E1.add (E1.mul E1.int (E1.var rfl) (K0.okL (by decide) (by decide))) E1.int) A1.nil) (by omega) (by omega)) (EI2.of (P:=fun j=>j=m) (E1.var rfl) rfl)) (fun s ⟨k,e,i,j,hi,hj,ek⟩=>by subst hj e;exact ⟨_,⟨k,rfl,by omega⟩,rfl,rfl⟩)
theorem scFour3:FnScope ["_law_purse_here","_law_most","_law_found"] ["_law_purse_here","_law_most"] (defScope sFour3):=⟨rfl,rfl,rfl,by decide +kernel,rfl,by decide +kernel,by decide +kernel⟩
theorem ok_four3 (F:Fun K "_law_four" "_law_four" sFour3 f fd)
    (G:FnOk P w K mg base CX0 3 g gd ["_law_purse_here","_law_most"] (spD K 4 RSm3)) (bG:Binds K gd ["_law_purse_here","_law_most"] []) (kG:PySem.W.keepIn K (.ref g)=true) (mG:mg "_law_small" = some (.ref g)) (m_tuple:mg "tuple" = none) (m_range:mg "range" = none) :
    FnOk P w K mg base CX0 4 f fd ["_law_purse_here","_law_most"] (spD K 16 RFour3):=by
  refine okD F scFour3 (fun ds d h=>?_) (fun cdv A0 outer s0 H0 E0 hr=>?_)
  . obtain ⟨m,rfl,_⟩:=h;rfl
  have r:=hr.mono (show 3<=3 by decide)
  refine ⟨_,(zss_cons (zs_set (i:=2) scFour3.nd rfl (Or.inl rfl) (ze_callTy call_tuple_of rfl m_tuple (by rfl) (za_cons (ze_comp (own:=["_law_k"]) scFour3 rfl ⟨by decide +kernel,rfl,by decide +kernel,by decide +kernel,by decide +kernel,by decide +kernel,by decide +kernel,by decide +kernel,by decide +kernel⟩ (zi_range1 rfl m_range (za_i za_nil)) (fun C fp s H nd=>zg_name (i:=0) nd rfl (Or.inl rfl)) (fun C fp s H=>zts_nil) (fun C fp s H=>(ze_call G r rfl mG kG bG .nil pass0 (za_n (zv 1) (za_n (zv 2) za_nil))))) za_nil)))
    (zss_cons (zs_if (zt_cmpR (op_eqD hr.units) (zv 2) (ze_tup (za_i (za_i (za_i (za_i za_nil))))) (nomark _)) (zss_one (zs_ret (ze_tup (za_i (za_i (za_i (za_i za_nil))))))) zss_nil)
    (zss_one (zs_ret (zv 2))))),fun q n ds C hc h=>?_⟩
  obtain ⟨m,rfl,m0,m1,rfl⟩:=h
  refine S2.letC (M1:=n + 16) (E2.up (E2.tupC (E2.comp (c:=4) (Cd:=fun e=>∃ i:Int,e = .int i /\ -m<=i/\i<=m) (Wk.r4 (A1.cons E1.int A1.nil)) (fun i d hd=>E2.up (E2.call1 (ds:=[.int m]) (A1.cons (E1.var rfl) A1.nil) ⟨m,rfl,m0,m1,rfl⟩ (by have:i < 4:=(List.getElem?_eq_some_iff.mp hd).1;omega)) (by omega)) (lsz (n:=4) rfl z4))) (by show n + 4 * 4<=n + 16;omega)) (fun d ⟨es,ed,le,he⟩=>?_)
  have nb:∀ {k:Int}, -m<=k->k<=m->k.natAbs<=m.toNat:=fun h1 h2=>by omega
  subst ed
  match es,le with
  | [ea,eb,ec,ee],_ =>
  obtain ⟨a,rfl,a0,a1⟩:=he ea (by simp)
  obtain ⟨b,rfl,b0,b1⟩:=he eb (by simp)
  obtain ⟨c,rfl,c0,c1⟩:=he ec (by simp)
  obtain ⟨e,rfl,e0,e1⟩:=he ee (by simp)
  refine S2.ifs (C:=fun bb=>bb=decide ([a,b,c,e]=[0,0,0,0])) (T1.ofB ((T1.test (E1.eqD (d:=tI [a,b,c,e]) (e:=tI [0,0,0,0]) (E1.var rfl) (by walk_at "au3") rfl rfl kqd_tup kqd_tup)).eqn deq_tup)) (M1:=n + 16) (fun _=>?_) (fun h=>?_)
  . exact S2.ret1 (s:=.dat (tI [1,0,0,0])) (by walk_at "au3") ⟨_,⟨1,0,0,0,rfl,by decide,fun k hk=>by simp only [List.mem_cons,List.mem_nil_iff,or_false] at hk;omega⟩,rfl,rfl⟩
  . have nz:[a,b,c,e] ≠ [0,0,0,0]:=of_decide_eq_false h.symm
    exact S2.ret1 (s:=.dat (tI [a,b,c,e])) (E1.var rfl) ⟨_,⟨a,b,c,e,rfl,(nz_of_ne4 rfl nz),fun k hk=>by simp only [List.mem_cons,List.mem_nil_iff,or_false] at hk;rcases hk with rfl | rfl | rfl | rfl <;> first | exact nb a0 a1 | exact nb b0 b1 | exact nb c0 c1 | exact nb e0 e1⟩,rfl,rfl⟩
theorem scGcd3:FnScope ["_law_numbers","_law_found","_law_number","_law_one","_law_other"] ["_law_numbers"] (defScope sGcd3):=⟨rfl,rfl,rfl,by decide +kernel,rfl,by decide +kernel,by decide +kernel⟩
theorem ok_gcd3 (F:Fun K "_law_divisor" "_law_divisor" sGcd3 f fd) (m_abs:mg "abs" = none) :
    FnOk P w K mg base CX0 1 f fd ["_law_numbers"] (spP K RGcd):=by
  refine okP F scGcd3 (fun ds d h=>?_) (fun cdv A0 outer s0 H0 E0 hr=>?_)
  . obtain ⟨ns,rfl,_⟩:=h;rfl
  refine ⟨_,(zss_cons (zs_set (i:=1) scGcd3.nd rfl (Or.inl rfl) ze_int)
    (zss_cons (zs_for PassesOwn.never rfl (zi_tup (zv 0)) (zg_name (i:=2) scGcd3.nd rfl (Or.inl rfl)) (zss_cons (zs_par (i:=3) (j:=4) rfl scGcd3.nd rfl rfl (by decide) rfl rfl (za_c (ze_callB call_abs rfl m_abs (by rfl) (za_n (zv 1) za_nil)) (za_c (ze_callB call_abs rfl m_abs (by rfl) (za_n (zv 2) za_nil)) za_nil)) rfl)
    (zss_cons (zs_while PassesOwn.never (zt_cmpR op_gt (zv 4) ze_int (nomark _)) (zss_one (zs_par (i:=3) (j:=4) rfl scGcd3.nd rfl rfl (by decide) rfl rfl (za_n (zv 4) (za_b (ze_op op_mod (zv 3) (zv 4)) za_nil)) rfl)))
    (zss_one (zs_set (i:=1) scGcd3.nd rfl (Or.inl rfl) (zv 3))))))
    (zss_one (zs_ret (zv 1))))),fun ds d h=>?_⟩
  obtain ⟨ns,rfl,rfl⟩:=h
  refine S.let1 (s:=.dat (.int 0)) E1.int ?_
  refine S.seq (M:=fun τ'=>∃ o1 o2 o3:Sl,τ'=[.dat (tI ns),.dat (.int (gcdN ns)),o1,o2,o3]) ?_ fun τ' ⟨o1,o2,o3,eτ⟩=>?_
  . refine S.for (Wk.tup (ds:=ns.map .int) (E1.var rfl)) (fun i τ'=>∃ o1 o2 o3:Sl,τ'=[.dat (tI ns),.dat (.int (gcdN (ns.take i))),o1,o2,o3]) ⟨_,_,_,rfl⟩ (fun i d τ1 hd ⟨o1,o2,o3,e1⟩=>?_) (fun τ1 ⟨o1,o2,o3,e1⟩=>⟨o1,o2,o3,by rw [e1,List.length_map,List.take_length]⟩)
    subst e1
    rw [List.getElem?_map] at hd
    cases hn:ns[i]? with
    | none=>rw [hn] at hd;cases hd
    | some n =>
      rw [hn] at hd
      cases hd
      have tk:ns.take (i + 1)=ns.take i ++ [n]:=by rw [List.take_add_one,hn];rfl
      refine ⟨_,Gd.name,?_⟩
      refine S.seq (M:=fun τ'=>τ'=[.dat (tI ns),.dat (.int (gcdN (ns.take i))),.dat (.int n),.dat (.int (gcdN (ns.take i))),.dat (.int n.natAbs)]) (S.par (d1:=.int (gcdN (ns.take i))) (d2:=.int n.natAbs) (A1.cons (E1.to (E1.abs (A1.cons (E1.var rfl) A1.nil)) (by congr 2)) (A1.cons (E1.to (E1.abs (A1.cons (E1.var rfl) A1.nil)) (by congr 2;split <;> omega)) A1.nil)) rfl) fun τ' e=>?_
      subst e
      refine S.seq (M:=fun τ'=>τ'=[.dat (tI ns),.dat (.int (gcdN (ns.take i))),.dat (.int n),.dat (.int (gcdN (ns.take (i + 1)))),.dat (.int 0)]) ?_ fun τ' e=>?_
      . refine S.while (fun m τ'=>∃ c d:Nat,Nat.gcd c d=gcdN (ns.take (i + 1))/\d=m/\τ'=[.dat (tI ns),.dat (.int (gcdN (ns.take i))),.dat (.int n),.dat (.int c),.dat (.int d)]) (m0:=n.natAbs) ⟨gcdN (ns.take i),n.natAbs,by rw [tk,gcdN_snoc],rfl,rfl⟩ (fun m τ1 ⟨c,d,hg,hm,e1⟩=>?_)
        subst e1 hm
        refine ⟨fun b=>decide ((0:Int) < d)=b,T1.test (E1.gt (E1.var rfl) E1.int),fun h=>?_,fun h=>?_⟩
        . have h0:(0:Int) < d:=of_decide_eq_true h
          have hlt:c % d < d:=Nat.mod_lt _ (by omega)
          exact S.par (d1:=.int (d:Int)) (d2:=.int ((c % d:Nat):Int)) (A1.cons (E1.var rfl) (A1.cons (E1.to (E1.mod (E1.var rfl) (E1.var rfl) h0) (by rw [Int.natCast_emod])) A1.nil)) ⟨c % d,hlt,d,c % d,by rw [<- hg,Nat.gcd_comm c d,Nat.gcd_rec d c,Nat.gcd_comm],rfl,rfl⟩
        . have h0:d=0:=by have:=of_decide_eq_false h;omega
          subst h0
          rw [Nat.gcd_zero_right] at hg
          rw [hg];rfl
      subst e
      exact S.asg1 (s:=.dat (.int (gcdN (ns.take (i + 1))))) (E1.var rfl) ⟨_,_,_,rfl⟩
  subst eτ
  exact S.ret1 (s:=.dat (.int (gcdN ns))) (E1.var rfl) ⟨rfl,rfl⟩
theorem scShr3:FnScope ["_law_numbers","_law_by"] ["_law_numbers"] (defScope sShr3):=⟨rfl,rfl,rfl,by decide +kernel,rfl,by decide +kernel,by decide +kernel⟩
theorem ok_shr3 (F:Fun K "_law_shrunk" "_law_shrunk" sShr3 f fd)
    (G:FnOk P w K mg base CX0 1 g gd ["_law_numbers"] (spP K RGcd)) (bG:Binds K gd ["_law_numbers"] []) (kG:PySem.W.keepIn K (.ref g)=true) (mG:mg "_law_divisor" = some (.ref g)) (m_tuple:mg "tuple" = none) :
    FnOk P w K mg base CX0 2 f fd ["_law_numbers"] (spP K RShr):=by
  refine okP F scShr3 (fun ds d h=>?_) (fun cdv A0 outer s0 H0 E0 hr=>?_)
  . obtain ⟨ns,rfl,_⟩:=h;rfl
  have r:=hr.mono (show 1<=1 by decide)
  refine ⟨_,(zss_cons (zs_set (i:=1) scShr3.nd rfl (Or.inr rfl) (ze_call G r rfl mG kG bG .nil pass0 (za_n (zv 0) za_nil)))
    (zss_one (zs_ret (ze_callTy call_tuple_of rfl m_tuple (by rfl) (za_cons (ze_comp (own:=["_law_number"]) scShr3 rfl ⟨by decide +kernel,rfl,by decide +kernel,by decide +kernel,by decide +kernel,by decide +kernel,by decide +kernel,by decide +kernel,by decide +kernel⟩ (zi_tup (zv 0)) (fun C fp s H nd=>zg_name (i:=0) nd rfl (Or.inl rfl)) (fun C fp s H=>zts_nil) (fun C fp s H=>(ze_op op_fdivB (zv 0) (zv 2)))) za_nil))))),fun ds d h=>?_⟩
  obtain ⟨ns,rfl,ln,nz,sm,rfl⟩:=h
  refine S.let1 (s:=.dat (.int (gcdN ns))) (E1.call (R:=RGcd) (A1.cons (E1.var rfl) A1.nil) ⟨ns,rfl,rfl⟩) ?_
  have gp:0 < gcdN ns:=gcdN_pos nz
  exact S.ret1 (s:=.dat (tI (red ns))) (E1.tupleL (A1.cons (E1.vwo (E1.compI (ns:=ns) (g:=fun n=>n / (gcdN ns:Int)) (Wk.tup (E1.var rfl)) (fun n hn=>E1.to (E1.fdiv (E1.var rfl) (E1.var rfl) ⟨by omega,gcd_small nz sm⟩) (by rw [Int.fdiv_eq_ediv_of_nonneg _ (by omega)])) (Nat.le_trans ln z4))) A1.nil)) ⟨rfl,noLs_ints _⟩
theorem scPl3:FnScope ["_law_four_here","_law_found","_law_number"] ["_law_four_here"] (defScope sPl3):=⟨rfl,rfl,rfl,by decide +kernel,rfl,by decide +kernel,by decide +kernel⟩
theorem ok_pl3 (F:Fun K "_law_plain" "_law_plain" sPl3 f fd)
    (G:FnOk P w K mg base CX0 2 g gd ["_law_numbers"] (spP K RShr)) (bG:Binds K gd ["_law_numbers"] []) (kG:PySem.W.keepIn K (.ref g)=true) (mG:mg "_law_shrunk" = some (.ref g)) (m_tuple:mg "tuple" = none) (m_int:mg "int" = none) :
    FnOk P w K mg base CX0 3 f fd ["_law_four_here"] (spP K RPl3):=by
  refine okP F scPl3 (fun ds d h=>?_) (fun cdv A0 outer s0 H0 E0 hr=>?_)
  . obtain ⟨ns,rfl,_⟩:=h;rfl
  have r:=hr.mono (show 2<=2 by decide)
  refine ⟨_,(zss_cons (zs_set (i:=1) scPl3.nd rfl (Or.inl rfl) (ze_call G r rfl mG kG bG .nil pass0 (za_n (zv 0) za_nil)))
    (zss_cons (zs_for PassesOwn.never rfl (zi_tup (zv 1)) (zg_name (i:=2) scPl3.nd rfl (Or.inr rfl)) (zss_one (zs_if (zt_cmpR op_ne (zv 2) ze_int (nomark _)) (zss_one (zs_ret (ze_callTy call_tuple_of rfl m_tuple (by rfl) (za_cons (ze_comp (own:=["_law_part"]) scPl3 rfl ⟨by decide +kernel,rfl,by decide +kernel,by decide +kernel,by decide +kernel,by decide +kernel,by decide +kernel,by decide +kernel,by decide +kernel⟩ (zi_tup (zv 1)) (fun C fp s H nd=>zg_name (i:=0) nd rfl (Or.inl rfl)) (fun C fp s H=>zts_nil) (fun C fp s H=>(ze_ix ix_listC (ze_lst (za_n (zv 0) (za_b (ze_op op_sub ze_int (zv 0)) za_nil))) (ze_callTy call_int1 rfl m_int (by rfl) (za_cons (ze_cmpR op_lt (zv 3) ze_int (nomark _)) za_nil)) pix_call))) za_nil)))) zss_nil)))
    (zss_one (zs_ret (zv 1))))),fun ds d h=>?_⟩
  obtain ⟨ns,rfl,ln,nz,sm,rfl⟩:=h
  refine S.let1 (s:=.dat (tI (red ns))) (E1.call (R:=RShr) (A1.cons (E1.var rfl) A1.nil) ⟨ns,rfl,ln,nz,sm,rfl⟩) ?_
  have nr:∃ n ∈ red ns,n ≠ 0:=nz_red nz
  have lr:(red ns).length<=4:=by unfold red;rw [List.length_map];exact ln
  rw [<- plain_eq nz]
  generalize red ns=rs at nr lr ⊢
  refine S.seq (M:=fun τ'=>False) ?_ fun τ' h=>h.elim
  refine S.for (Wk.tup (ds:=rs.map .int) (E1.var rfl)) (fun i τ'=>(∀ k ∈ rs.take i,k=0)/\∃ o:Sl,τ'=[.dat (tI ns),.dat (tI rs),o]) ⟨fun k hk=>(by cases hk),_,rfl⟩ (fun i d τ1 hd ⟨hz,o,e1⟩=>?_) (fun τ1 ⟨hz,_⟩=>?_)
  . subst e1
    rw [List.getElem?_map] at hd
    cases hn:rs[i]? with
    | none=>rw [hn] at hd;cases hd
    | some n =>
      rw [hn] at hd
      cases hd
      refine ⟨_,Gd.name,?_⟩
      refine S.if1 (b := !decide (n=0)) (T1.test (E1.ne (E1.var rfl) E1.int)) (fun h=>?_) (fun h=>?_)
      . have n0:n ≠ 0:=by simpa using h
        have ef:fst0 rs=n:=fst0_at hz hn n0
        have eg:(if fst0 rs < 0 then rs.map (fun n => -n) else rs)=rs.map (fun k=>if n < 0 then 0 - k else k):=by
          rw [ef]
          by_cases c:n < 0
          . rw [if_pos c];apply List.map_congr_left;intro k _;rw [if_pos c];omega
          . rw [if_neg c];conv=>lhs;rw [<- List.map_id rs]
            apply List.map_congr_left;intro k _;rw [if_neg c];rfl
        rw [eg]
        exact S.ret1 (s:=.dat (tI (rs.map fun k=>if n < 0 then 0 - k else k))) (E1.tupleL (A1.cons (E1.vwo (E1.compI (ns:=rs) (g:=fun k=>if n < 0 then 0 - k else k) (Wk.tup (E1.var rfl)) (fun k hk=>E1.ixL (ds:=[.int k,.int (0 - k)]) (E1.vwo (E1.li (A1.cons (E1.var rfl) (A1.cons (E1.sub E1.int (E1.var rfl)) A1.nil)) rfl (lsz (n:=2) rfl z2))) (E1.b2i (A1.cons (E1.lt (E1.var rfl) E1.int) A1.nil)) (by by_cases c:n < 0 <;> simp [c] <;> rfl)) (Nat.le_trans lr z4))) A1.nil)) ⟨rfl,noLs_ints _⟩
      . have n0:n=0:=by simpa using h
        subst n0
        refine S.next ⟨fun k hk=>?_,_,rfl⟩
        rw [List.take_add_one,hn] at hk
        rcases List.mem_append.mp hk with hk | hk
        . exact hz k hk
        . simpa using hk
  . rw [List.length_map,List.take_length] at hz
    obtain ⟨n,hn,n0⟩:=nr
    exact n0 (hz n hn)
theorem scQm3:FnScope ["_law_one","_law_other","_law_p","_law_q","_law_r","_law_s","_law_t","_law_u","_law_v","_law_o","_law_x","_law_y"] ["_law_one","_law_other"] (defScope sQm3):=⟨rfl,rfl,rfl,by decide +kernel,rfl,by decide +kernel,by decide +kernel⟩
theorem ok_qm3 (F:Fun K "_law_product" "_law_product" sQm3 f fd) :
    FnOk P w K mg base CX0 1 f fd ["_law_one","_law_other"] (spP K RQm):=by
  refine okP F scQm3 (fun ds d h=>?_) (fun cdv A0 outer s0 H0 E0 hr=>?_)
  . obtain ⟨ns,ms,rfl,_⟩:=h;rfl
  refine ⟨_,(zss_cons (zs_asg (zv 0) (zg_tup rfl (zgs_cons (zg_name (i:=2) scQm3.nd rfl (Or.inl rfl)) (zgs_cons (zg_name (i:=3) scQm3.nd rfl (Or.inl rfl)) (zgs_cons (zg_name (i:=4) scQm3.nd rfl (Or.inl rfl)) (zgs_cons (zg_name (i:=5) scQm3.nd rfl (Or.inl rfl)) zgs_nil))))))
    (zss_cons (zs_asg (zv 1) (zg_tup rfl (zgs_cons (zg_name (i:=6) scQm3.nd rfl (Or.inl rfl)) (zgs_cons (zg_name (i:=7) scQm3.nd rfl (Or.inl rfl)) (zgs_cons (zg_name (i:=8) scQm3.nd rfl (Or.inl rfl)) (zgs_cons (zg_name (i:=9) scQm3.nd rfl (Or.inl rfl)) zgs_nil))))))
    (zss_cons (zs_set (i:=10) scQm3.nd rfl (Or.inl rfl) (ze_op op_sub (ze_op op_add (ze_op op_add (ze_op op_mulB (zv 2) (zv 7)) (ze_op op_mulB (zv 3) (zv 6))) (ze_op op_mulB (zv 4) (zv 9))) (ze_op op_mulB (zv 5) (zv 8))))
    (zss_cons (zs_set (i:=11) scQm3.nd rfl (Or.inl rfl) (ze_op op_add (ze_op op_add (ze_op op_sub (ze_op op_mulB (zv 2) (zv 8)) (ze_op op_mulB (zv 3) (zv 9))) (ze_op op_mulB (zv 4) (zv 6))) (ze_op op_mulB (zv 5) (zv 7))))
    (zss_one (zs_ret (ze_tup (za_b (ze_op op_sub (ze_op op_sub (ze_op op_sub (ze_op op_mulB (zv 2) (zv 6)) (ze_op op_mulB (zv 3) (zv 7))) (ze_op op_mulB (zv 4) (zv 8))) (ze_op op_mulB (zv 5) (zv 9))) (za_n (zv 10) (za_n (zv 11) (za_b (ze_op op_add (ze_op op_sub (ze_op op_add (ze_op op_mulB (zv 2) (zv 9)) (ze_op op_mulB (zv 3) (zv 8))) (ze_op op_mulB (zv 4) (zv 7))) (ze_op op_mulB (zv 5) (zv 6))) za_nil))))))))))),fun ds d h=>?_⟩
  obtain ⟨ns,ms,rfl,l1,l2,b1,b2,rfl⟩:=h
  obtain ⟨a,b,c,e,rfl⟩:=four_of l1
  obtain ⟨f,g,h,i,rfl⟩:=four_of l2
  obtain ⟨ba,bb,bc,be⟩:=bd_bt4 b1
  obtain ⟨bf,bg,bh,bi⟩:=bd_bt4 b2
  refine S.letG (E1.var rfl) (Gd.four (d1:=.int a) (d2:=.int b) (d3:=.int c) (d4:=.int e)) ?_
  refine S.letG (E1.var rfl) (Gd.four (d1:=.int f) (d2:=.int g) (d3:=.int h) (d4:=.int i)) ?_
  refine S.let1 (s:=.dat (.int (a * g + b * f + c * i - e * h))) (by (walk_at "au3")) ?_
  refine S.let1 (s:=.dat (.int (a * h - b * i + c * f + e * g))) (by (walk_at "au3")) ?_
  exact S.ret1 (s:=.dat (tI [a * f - b * g - c * h - e * i,a * g + b * f + c * i - e * h,a * h - b * i + c * f + e * g,a * i + b * h - c * g + e * f])) (by (walk_at "au3")) ⟨rfl,rfl⟩
theorem scThen3:FnScope ["_law_one","_law_other"] ["_law_one","_law_other"] (defScope sThen3):=⟨rfl,rfl,rfl,by decide +kernel,rfl,by decide +kernel,by decide +kernel⟩
theorem ok_then3 (F:Fun K "_law_then" "_law_then" sThen3 f fd)
    (G:FnOk P w K mg base CX0 3 g gd ["_law_four_here"] (spP K RPl3)) (bG:Binds K gd ["_law_four_here"] []) (kG:PySem.W.keepIn K (.ref g)=true) (mG:mg "_law_plain" = some (.ref g))
    (G2:FnOk P w K mg base CX0 1 g2 gd2 ["_law_one","_law_other"] (spP K RQm)) (bG2:Binds K gd2 ["_law_one","_law_other"] []) (kG2:PySem.W.keepIn K (.ref g2)=true) (mG2:mg "_law_product" = some (.ref g2)) :
    FnOk P w K mg base CX0 4 f fd ["_law_one","_law_other"] (spP K RThen3):=by
  refine okP F scThen3 (fun ds d h=>?_) (fun cdv A0 outer s0 H0 E0 hr=>?_)
  . obtain ⟨ns,ms,rfl,_⟩:=h;rfl
  have r:=hr.mono (show 3<=3 by decide)
  have r2:=hr.mono (show 1<=3 by decide)
  refine ⟨_,(zss_one (zs_ret (ze_call G r rfl mG kG bG .nil pass0 (za_c (ze_call G2 r2 rfl mG2 kG2 bG2 .nil pass0 (za_n (zv 1) (za_n (zv 0) za_nil))) za_nil)))),fun ds d h=>?_⟩
  obtain ⟨ns,ms,rfl,l1,l2,n1,n2,b1,b2,rfl⟩:=h
  have lq:=qm_len l2 l1
  have bq:Bd (2 ^ 8002) (qm ms ns):=bd_mono (bd_qm l2 l1 b2 b1) (by rw [<- Nat.pow_add,show (4:Nat)=2 ^ 2 from rfl, <- Nat.pow_add];exact Nat.pow_le_pow_right (by decide) (by decide))
  exact S.ret1 (s:=.dat (tI (pl (qm ms ns)))) (E1.call (R:=RPl3) (A1.cons (E1.call (R:=RQm) (A1.cons (E1.var rfl) (A1.cons (E1.var rfl) A1.nil)) ⟨ms,ns,rfl,l2,l1,b2,b1,rfl⟩) A1.nil) ⟨_,rfl,by rw [lq];decide,nz_qm l2 l1 n2 n1,sm_bd' bq,rfl⟩) ⟨rfl,noLs_ints _⟩
theorem scPool4:FnScope ["_law_purse_here","_law_some_here"] ["_law_purse_here"] (defScope sPool4):=⟨rfl,rfl,rfl,by decide +kernel,rfl,by decide +kernel,by decide +kernel⟩
theorem ok_pool4 (F:Fun K "_law_pool" "_law_pool" sPool4 f fd)
    (G:FnOk P w K mg base CX0 2 g gd ["_law_purse_here","_law_out_of"] (spD K 4 RDraw3)) (bG:Binds K gd ["_law_purse_here","_law_out_of"] []) (kG:PySem.W.keepIn K (.ref g)=true) (mG:mg "_law_draw" = some (.ref g)) :
    FnOk P w K mg base CX0 3 f fd ["_law_purse_here"] (spD K 4 RPool4):=by
  refine okD F scPool4 (fun ds d h=>?_) (fun cdv A0 outer s0 H0 E0 hr=>?_)
  . obtain ⟨rfl,_⟩:=h;rfl
  have r:=hr.mono (show 2<=2 by decide)
  refine ⟨_,(zss_cons (zs_if (zt_cmpR op_eq (ze_call G r rfl mG kG bG .nil pass0 (za_n (zv 0) (za_i za_nil))) ze_int (nomark _)) (zss_cons (zs_set (i:=1) scPool4.nd rfl (Or.inl rfl) (ze_lst (za_t (ze_tup (za_i (za_i (za_i (za_i za_nil))))) (za_t (ze_tup (za_i (za_i (za_i (za_i za_nil))))) (za_t (ze_tup (za_i (za_i (za_i (za_i za_nil))))) (za_t (ze_tup (za_i (za_i (za_i (za_i za_nil))))) (za_t (ze_tup (za_i (za_i (za_i (za_i za_nil))))) (za_t (ze_tup (za_i (za_i (za_i (za_i za_nil))))) (za_t (ze_tup (za_i (za_i (za_i (za_i za_nil))))) za_nil)))))))))
    (zss_one (zs_ret (ze_op op_catS (zv 1) (ze_lst (za_t (ze_tup (za_i (za_u (ze_un un_neg ze_int) (za_i (za_i za_nil))))) (za_t (ze_tup (za_i (za_i (za_i (za_u (ze_un un_neg ze_int) za_nil))))) (za_t (ze_tup (za_i (za_i (za_u (ze_un un_neg ze_int) (za_i za_nil))))) (za_t (ze_tup (za_i (za_i (za_i (za_i za_nil))))) (za_t (ze_tup (za_i (za_i (za_i (za_i za_nil))))) za_nil)))))))))) zss_nil)
    (zss_cons (zs_set (i:=1) scPool4.nd rfl (Or.inl rfl) (ze_lst (za_t (ze_tup (za_i (za_i (za_i (za_i za_nil))))) (za_t (ze_tup (za_i (za_i (za_i (za_i za_nil))))) (za_t (ze_tup (za_i (za_i (za_i (za_i za_nil))))) (za_t (ze_tup (za_i (za_i (za_u (ze_un un_neg ze_int) (za_i za_nil))))) (za_t (ze_tup (za_i (za_i (za_i (za_u (ze_un un_neg ze_int) za_nil))))) (za_t (ze_tup (za_i (za_i (za_i (za_u (ze_un un_neg ze_int) za_nil))))) za_nil))))))))
    (zss_one (zs_ret (ze_op op_catS (zv 1) (ze_lst (za_t (ze_tup (za_i (za_i (za_u (ze_un un_neg ze_int) (za_u (ze_un un_neg ze_int) za_nil))))) (za_t (ze_tup (za_i (za_u (ze_un un_neg ze_int) (za_u (ze_un un_neg ze_int) (za_u (ze_un un_neg ze_int) za_nil))))) (za_t (ze_tup (za_i (za_i (za_i (za_i za_nil))))) za_nil))))))))),fun q n ds C hc h=>?_⟩
  obtain ⟨rfl,rfl⟩:=h
  refine S2.ifs2 (M1:=n + 4) (T2.eq (E2.drawn (m:=2) (A1.cons E1.int A1.nil) (by decide) (by decide)) (EI2.of (P:=fun j=>j=0) E1.int rfl)) (fun h=>?_) (fun h=>?_)
  . refine S2.letO (ds:=([[0,1,0,0],[0,0,1,0],[1,1,0,0],[1,0,1,0],[1,0,0,1],[1,1,1,1],[0,1,1,0]]:List (List Int)).map tI) (E1.li (A1.cons (E1.tu (A1.cons E1.int (A1.cons E1.int (A1.cons E1.int (A1.cons E1.int A1.nil)))) rfl (lsz (n:=4) rfl z4)) (A1.cons (E1.tu (A1.cons E1.int (A1.cons E1.int (A1.cons E1.int (A1.cons E1.int A1.nil)))) rfl (lsz (n:=4) rfl z4)) (A1.cons (E1.tu (A1.cons E1.int (A1.cons E1.int (A1.cons E1.int (A1.cons E1.int A1.nil)))) rfl (lsz (n:=4) rfl z4)) (A1.cons (E1.tu (A1.cons E1.int (A1.cons E1.int (A1.cons E1.int (A1.cons E1.int A1.nil)))) rfl (lsz (n:=4) rfl z4)) (A1.cons (E1.tu (A1.cons E1.int (A1.cons E1.int (A1.cons E1.int (A1.cons E1.int A1.nil)))) rfl (lsz (n:=4) rfl z4)) (A1.cons (E1.tu (A1.cons E1.int (A1.cons E1.int (A1.cons E1.int (A1.cons E1.int A1.nil)))) rfl (lsz (n:=4) rfl z4)) (A1.cons (E1.tu (A1.cons E1.int (A1.cons E1.int (A1.cons E1.int (A1.cons E1.int A1.nil)))) rfl (lsz (n:=4) rfl z4)) A1.nil))))))) rfl (lsz (n:=7) rfl (by decide))) rfl ?_
    exact S2.ret1 (s:=.own (pool1.map tI)) (E1.to (E1.catVV (xs:=([[0,1,0,0],[0,0,1,0],[1,1,0,0],[1,0,1,0],[1,0,0,1],[1,1,1,1],[0,1,1,0]]:List (List Int)).map tI) (ys:=([[1, -1,1,1],[0,0,1, -1],[1,0, -1,0],[0,0,0,1],[1,0,0,0]]:List (List Int)).map tI) (E1.varO rfl) (E1.vwo (E1.li (A1.cons (E1.tu (A1.cons E1.int (A1.cons (E1.neg E1.int) (A1.cons E1.int (A1.cons E1.int A1.nil)))) rfl (lsz (n:=4) rfl z4)) (A1.cons (E1.tu (A1.cons E1.int (A1.cons E1.int (A1.cons E1.int (A1.cons (E1.neg E1.int) A1.nil)))) rfl (lsz (n:=4) rfl z4)) (A1.cons (E1.tu (A1.cons E1.int (A1.cons E1.int (A1.cons (E1.neg E1.int) (A1.cons E1.int A1.nil)))) rfl (lsz (n:=4) rfl z4)) (A1.cons (E1.tu (A1.cons E1.int (A1.cons E1.int (A1.cons E1.int (A1.cons E1.int A1.nil)))) rfl (lsz (n:=4) rfl z4)) (A1.cons (E1.tu (A1.cons E1.int (A1.cons E1.int (A1.cons E1.int (A1.cons E1.int A1.nil)))) rfl (lsz (n:=4) rfl z4)) A1.nil))))) rfl (lsz (n:=5) rfl (by decide)))) (by decide)) rfl) ⟨_,⟨pool1,rfl,.inl rfl⟩,rfl,noLs_fs _⟩
  . refine S2.letO (ds:=([[3,1,1,1],[1,1,1,1],[0,1,1,1],[0,1, -1,0],[0,1,0, -1],[0,1,1, -2]]:List (List Int)).map tI) (E1.li (A1.cons (E1.tu (A1.cons E1.int (A1.cons E1.int (A1.cons E1.int (A1.cons E1.int A1.nil)))) rfl (lsz (n:=4) rfl z4)) (A1.cons (E1.tu (A1.cons E1.int (A1.cons E1.int (A1.cons E1.int (A1.cons E1.int A1.nil)))) rfl (lsz (n:=4) rfl z4)) (A1.cons (E1.tu (A1.cons E1.int (A1.cons E1.int (A1.cons E1.int (A1.cons E1.int A1.nil)))) rfl (lsz (n:=4) rfl z4)) (A1.cons (E1.tu (A1.cons E1.int (A1.cons E1.int (A1.cons (E1.neg E1.int) (A1.cons E1.int A1.nil)))) rfl (lsz (n:=4) rfl z4)) (A1.cons (E1.tu (A1.cons E1.int (A1.cons E1.int (A1.cons E1.int (A1.cons (E1.neg E1.int) A1.nil)))) rfl (lsz (n:=4) rfl z4)) (A1.cons (E1.tu (A1.cons E1.int (A1.cons E1.int (A1.cons E1.int (A1.cons (E1.neg E1.int) A1.nil)))) rfl (lsz (n:=4) rfl z4)) A1.nil)))))) rfl (lsz (n:=6) rfl (by decide))) rfl ?_
    exact S2.ret1 (s:=.own (pool2.map tI)) (E1.to (E1.catVV (xs:=([[3,1,1,1],[1,1,1,1],[0,1,1,1],[0,1, -1,0],[0,1,0, -1],[0,1,1, -2]]:List (List Int)).map tI) (ys:=([[0,2, -1, -1],[3, -1, -1, -1],[1,0,0,0]]:List (List Int)).map tI) (E1.varO rfl) (E1.vwo (E1.li (A1.cons (E1.tu (A1.cons E1.int (A1.cons E1.int (A1.cons (E1.neg E1.int) (A1.cons (E1.neg E1.int) A1.nil)))) rfl (lsz (n:=4) rfl z4)) (A1.cons (E1.tu (A1.cons E1.int (A1.cons (E1.neg E1.int) (A1.cons (E1.neg E1.int) (A1.cons (E1.neg E1.int) A1.nil)))) rfl (lsz (n:=4) rfl z4)) (A1.cons (E1.tu (A1.cons E1.int (A1.cons E1.int (A1.cons E1.int (A1.cons E1.int A1.nil)))) rfl (lsz (n:=4) rfl z4)) A1.nil))) rfl (lsz (n:=3) rfl (by decide)))) (by decide)) rfl) ⟨_,⟨pool2,rfl,.inr rfl⟩,rfl,noLs_fs _⟩
theorem scSome5:FnScope ["_law_purse_here","_law_many","_law_pool_here","_law_by","_law_way_back","_law_found","_law_k","_law_often","_law_four_here"] ["_law_purse_here","_law_many"] (defScope sSome5):=⟨rfl,rfl,rfl,by decide +kernel,rfl,by decide +kernel,by decide +kernel⟩
theorem ok_some5 (F:Fun K "_law_some" "_law_some" sSome5 f fd)
    (G:FnOk P w K mg base CX0 3 g gd ["_law_purse_here"] (spD K 4 RPool4)) (bG:Binds K gd ["_law_purse_here"] []) (kG:PySem.W.keepIn K (.ref g)=true) (mG:mg "_law_pool" = some (.ref g))
    (G2:FnOk P w K mg base CX0 4 g2 gd2 ["_law_purse_here","_law_most"] (spD K 16 RFour3)) (bG2:Binds K gd2 ["_law_purse_here","_law_most"] []) (kG2:PySem.W.keepIn K (.ref g2)=true) (mG2:mg "_law_four" = some (.ref g2))
    (G3:FnOk P w K mg base CX0 2 g3 gd3 ["_law_purse_here","_law_out_of"] (spD K 4 RDraw3)) (bG3:Binds K gd3 ["_law_purse_here","_law_out_of"] []) (kG3:PySem.W.keepIn K (.ref g3)=true) (mG3:mg "_law_draw" = some (.ref g3))
    (G4:FnOk P w K mg base CX0 1 g4 gd4 ["_law_one","_law_other"] (spP K RQm)) (bG4:Binds K gd4 ["_law_one","_law_other"] []) (kG4:PySem.W.keepIn K (.ref g4)=true) (mG4:mg "_law_product" = some (.ref g4)) (m_range:mg "range" = none) (m_len:mg "len" = none) (m_tuple:mg "tuple" = none) :
    FnOk P w K mg base CX0 5 f fd ["_law_purse_here","_law_many"] (spD K 200 RSome5):=by
  refine okD F scSome5 (fun ds d h=>?_) (fun cdv A0 outer s0 H0 E0 hr=>?_)
  . obtain ⟨m,rfl,_⟩:=h;rfl
  have r:=hr.mono (show 3<=4 by decide)
  have r2:=hr.mono (show 4<=4 by decide)
  have r3:=hr.mono (show 2<=4 by decide)
  have r4:=hr.mono (show 1<=4 by decide)
  refine ⟨_,(zss_cons (zs_set (i:=2) scSome5.nd rfl (Or.inl rfl) (ze_call G r rfl mG kG bG .nil pass0 (za_n (zv 0) za_nil)))
    (zss_cons (zs_set (i:=3) scSome5.nd rfl (Or.inl rfl) (ze_call G2 r2 rfl mG2 kG2 bG2 .nil pass0 (za_n (zv 0) (za_s (ze_ix ix_list (ze_lst (za_i (za_i (za_i za_nil)))) (ze_call G3 r3 rfl mG3 kG3 bG3 .nil pass0 (za_n (zv 0) (za_i za_nil))) pix_call) za_nil))))
    (zss_cons (zs_set (i:=4) scSome5.nd rfl (Or.inl rfl) (ze_tup (za_s (ze_ix ix_tup (zv 3) ze_int (fun _ _=>rfl)) (za_b (ze_op op_sub ze_int (ze_ix ix_tup (zv 3) ze_int (fun _ _=>rfl))) (za_b (ze_op op_sub ze_int (ze_ix ix_tup (zv 3) ze_int (fun _ _=>rfl))) (za_b (ze_op op_sub ze_int (ze_ix ix_tup (zv 3) ze_int (fun _ _=>rfl))) za_nil))))))
    (zss_cons (zs_set (i:=5) scSome5.nd rfl (Or.inl rfl) (ze_lst za_nil))
    (zss_cons (zs_for PassesOwn.never rfl (zi_range1 rfl m_range (za_n (zv 1) za_nil)) (zg_name (i:=6) scSome5.nd rfl (Or.inl rfl)) (zss_cons (zs_set (i:=7) scSome5.nd rfl (Or.inr rfl) (ze_ix ix_list (ze_lst (za_i (za_u (ze_un un_neg ze_int) (za_i za_nil)))) (ze_call G3 r3 rfl mG3 kG3 bG3 .nil pass0 (za_n (zv 0) (za_i za_nil))) pix_call) sw_sub)
    (zss_cons (zs_set (i:=8) scSome5.nd rfl (Or.inl rfl) (ze_call G4 r4 rfl mG4 kG4 bG4 .nil pass0 (za_c (ze_call G4 r4 rfl mG4 kG4 bG4 .nil pass0 (za_n (zv 3) (za_s (ze_ix ix_list (zv 2) (ze_call G3 r3 rfl mG3 kG3 bG3 .nil pass0 (za_n (zv 0) (za_c (ze_callB call_len_seq rfl m_len PySem.boot_len (za_n (zv 2) za_nil)) za_nil))) pix_call) za_nil))) (za_n (zv 4) za_nil))))
    (zss_one (zs_expr (ze_append (zv 5) (ze_callTy call_tuple_of rfl m_tuple (by rfl) (za_cons (ze_comp (own:=["_law_number"]) scSome5 rfl ⟨by decide +kernel,rfl,by decide +kernel,by decide +kernel,by decide +kernel,by decide +kernel,by decide +kernel,by decide +kernel,by decide +kernel⟩ (zi_tup (zv 8)) (fun C fp s H nd=>zg_name (i:=0) nd rfl (Or.inl rfl)) (fun C fp s H=>zts_nil) (fun C fp s H=>(ze_op op_mulB (zv 8) (zv 0)))) za_nil))))))))
    (zss_one (zs_ret (zv 5)))))))),fun q n ds C hc h=>?_⟩
  obtain ⟨m,rfl,m1,m2,rfl⟩:=h
  refine S2.letC (M1:=n + 4) (E2.call1 (R:=RPool4) (ds:=[]) A1.nil ⟨rfl,rfl⟩ (by omega)) fun d ⟨fs,ed,hfs⟩=>?_
  subst ed
  have sf:∀ f ∈ fs,SFour f:=by rcases hfs with rfl | rfl;exact pool1_ok;exact pool2_ok
  have l1:0 < fs.length:=by rcases hfs with rfl | rfl <;> decide
  have l2:fs.length<=12:=by rcases hfs with rfl | rfl <;> decide
  refine S2.letC (M1:=n + 24) (C:=fun d=>∃ a b c e:Int,d=tI [a,b,c,e]/\(∃ n ∈ [a,b,c,e],n ≠ 0)/\Bd (2 ^ 5) [a,b,c,e]) (E2.up (E2.mono (E2.call (C:=fun d=>∃ a b c e:Int,d=tI [a,b,c,e]/\(∃ n ∈ [a,b,c,e],n ≠ 0)/\Bd (2 ^ 5) [a,b,c,e]) (A2.int1 (EI2.pick (ms:=[1,3,30]) (by walk_at "au3") (E2.drawn (m:=3) (A1.cons E1.int A1.nil) (by decide) (by decide)) (fun d hd=>hd))) (fun ds ⟨i,ei,hi⟩=>by
      have i0:0 < i/\i<=30:=by
        simp only [List.mem_cons,List.mem_nil_iff,or_false] at hi
        rcases hi with rfl | rfl | rfl <;> decide
      exact ⟨_,⟨i,ei,i0.1,by omega,rfl⟩,fun d ⟨a,b,c,e,ed,nz,bd⟩=>⟨a,b,c,e,ed,nz,bd_mono bd (by omega)⟩⟩) (by omega)) (fun s h=>h)) (by omega)) fun d ⟨a,b,c,e,ed,nz,bd⟩=>?_
  subst ed
  refine S2.let1 (d:=tI (cj [a,b,c,e])) (E1.to (s:=.dat (tI [a,0 - b,0 - c,0 - e])) (E1.tu (A1.cons (E1.ixT (E1.var rfl) E1.int rfl) (A1.cons (E1.sub E1.int (E1.ixT (E1.var rfl) E1.int rfl)) (A1.cons (E1.sub E1.int (E1.ixT (E1.var rfl) E1.int rfl)) (A1.cons (E1.sub E1.int (E1.ixT (E1.var rfl) E1.int rfl)) A1.nil)))) rfl (lsz (n:=4) rfl z4)) (by rw [Int.zero_sub,Int.zero_sub,Int.zero_sub];try rfl)) ?_
  refine S2.letO (ds:=([]:List (List Int)).map tI) (E1.li A1.nil rfl (lsz (n:=0) rfl z0)) (by rw [List.map_nil,noLs]) ?_
  refine S2.seq (M1:=n + 24 + 16 * 8) (X:=fun τ'=>∃ (gs:List (List Int)) (o6 o7 o8:Sl),Fours3x gs/\PF [a,b,c,e] fs gs/\(gs.length:Int)=m/\τ'=[.un,.dat (.int m),.dat (.list (fs.map tI)),.dat (tI [a,b,c,e]),.dat (tI (cj [a,b,c,e])),.own (gs.map tI),o6,o7,o8]) (S2.for (c:=8) (Wk.rng (j:=m) (n:=m.toNat) (A1.cons (E1.var rfl) A1.nil) rfl (by omega) (by omega)) (fun k τ'=>∃ (gs:List (List Int)) (o6 o7 o8:Sl),Fours3x gs/\PF [a,b,c,e] fs gs/\gs.length=k/\τ'=[.un,.dat (.int m),.dat (.list (fs.map tI)),.dat (tI [a,b,c,e]),.dat (tI (cj [a,b,c,e])),.own (gs.map tI),o6,o7,o8]) ⟨[],_,_,_,fun _ h=>(by cases h),fun _ h=>(by cases h),rfl,rfl⟩ (fun k d τ1 hd ⟨gs,o6,o7,o8,hg,pg,lg,e1⟩=>?_) (fun τ1 ⟨gs,o6,o7,o8,hg,pg,lg,e1⟩=>⟨gs,o6,o7,o8,hg,pg,by rw [lg,rangeD_len];omega,e1⟩) (by decide) (by rw [rangeD_len];omega)) (fun τ' ⟨gs,o6,o7,o8,hg,pg,lg,e1⟩=>?_) (by omega)
  . subst e1
    have hk:k < 16:=by have:=(rangeD_get hd).1;omega
    refine S2.letI (M1:=n + 24 + k * 8 + 4) (P:=fun o=>o ∈ [1, -2,3]) (EI2.pick (ms:=[1, -2,3]) (E1.li (A1.cons E1.int (A1.cons (E1.neg E1.int) (A1.cons E1.int A1.nil))) rfl (lsz (n:=3) rfl z3)) (E2.drawn (m:=3) (A1.cons E1.int A1.nil) (by decide) (by decide)) (fun d hd=>hd)) (fun o ho=>?_) (by decide) (by omega)
    refine S2.letC (M1:=n + 24 + (k + 1) * 8) (C:=fun d=>∃ f,d=tI f/\Q4 f/\∃ p ∈ fs,f=cg [a,b,c,e] p) (E2.up (E2.callP (R:=RQm) (A2.datR (ds2:=[tI (cj [a,b,c,e])]) (C:=fun d=>∃ f,d=tI f/\f.length=4/\(∃ n ∈ f,n ≠ 0)/\Bd (2 ^ 10) f/\∃ p ∈ fs,f=qm [a,b,c,e] p) (E2.callP (R:=RQm) (A2.datL (d1:=tI [a,b,c,e]) (E1.var rfl) (E2.pickD (E1.var rfl) (E2.drawn (m:=(fs.length:Int)) (A1.cons (E1.to (E1.lenL (A1.cons (E1.varL rfl) A1.nil)) (by rw [List.length_map])) A1.nil) (by omega) (by omega)) (fun d hd=>by rw [List.length_map];exact hd))) (fun ds ⟨d,hd,eds⟩=>?_)) (A1.cons (E1.var rfl) A1.nil)) (fun ds ⟨d,hd,eds⟩=>?_)) (by omega)) (fun d ⟨f,ed,qf4,pf,pm,ef⟩=>?_) (by decide) (by omega)
    . obtain ⟨g,hg,rfl⟩:=List.mem_map.mp hd
      obtain ⟨lg,ng,bg⟩:=sf g hg
      exact ⟨_,⟨_,g,eds,rfl,lg,bd_mono bd (Nat.pow_le_pow_right (by decide) (by decide)),bd_mono bg (Nat.pow_le_pow_right (by decide) (by decide)),rfl⟩,_,rfl,qm_len rfl lg,nz_qm rfl lg nz ng,bd_mono (bd_qm rfl lg bd bg) (by decide),g,hg,rfl⟩
    . obtain ⟨f,rfl,lf,nf,bf,pf,pm,ef⟩:=hd
      have lc:(cj [a,b,c,e]).length=4:=rfl
      have bc:=bd_cj rfl bd
      exact ⟨_,⟨f,_,eds,lf,lc,bd_mono bf (Nat.pow_le_pow_right (by decide) (by decide)),bd_mono bc (Nat.pow_le_pow_right (by decide) (by decide)),rfl⟩,_,rfl,⟨qm_len lf lc,nz_qm lf lc nf (nz_cj rfl nz),bd_mono (bd_qm lf lc bf bc) (by decide)⟩,pf,pm,by rw [ef];rfl⟩
    subst ed
    have of1 : -(2 ^ 64) < o/\o < 2 ^ 64:=by
      simp only [List.mem_cons,List.mem_nil_iff,or_false] at ho
      rcases ho with rfl | rfl | rfl <;> decide
    have o0:o ≠ 0:=by
      simp only [List.mem_cons,List.mem_nil_iff,or_false] at ho
      rcases ho with rfl | rfl | rfl <;> decide
    exact S2.append (C:=fun d=>d=tI (f.map (o * ·))) rfl (E2.mono (E2.of (E1.tupleL (A1.cons (E1.vwo (E1.compI (ns:=f) (g:=fun n=>o * n) (Wk.tup (E1.var rfl)) (fun n hn=>(E1.mul (E1.var rfl) (E1.var rfl) (okL of1.1 of1.2))) (by rw [qf4.1];decide))) A1.nil))) (fun s e=>⟨_,e.symm,rfl⟩)) (fun d ed=>by rw [ed];exact noLs_ints _) (by rw [List.length_map,lg];exact Nat.lt_of_lt_of_le hk (by decide)) (fun d' ed=>⟨gs ++ [f.map (o * ·)],.dat d,.dat (.int o),.dat (tI f),fun x hx=>(List.mem_append.mp hx).elim (hg x) fun z=>by rcases List.mem_singleton.mp z with rfl;exact q4_fourT qf4 ho,fun x hx=>(List.mem_append.mp hx).elim (pg x) fun z=>by rcases List.mem_singleton.mp z with rfl;exact ⟨o,pf,o0,pm,by rw [ef]⟩,by rw [List.length_append,lg];rfl,by rw [ed,List.map_append];rfl⟩) (by omega)
  . subst e1
    exact S2.retO rfl ⟨_,⟨gs,rfl,hg,lg,pf_pooled rfl nz bd hfs pg⟩,rfl,noLs_fs gs⟩
theorem scClos:FnScope ["_law_fours","_law_most","_law_found","_law_at_here","_law_four_here","_law_new"] ["_law_fours","_law_most"] (defScope sClos):=⟨rfl,rfl,rfl,by decide +kernel,rfl,by decide +kernel,by decide +kernel⟩
theorem ok_clos (F:Fun K "_law_closure" "_law_closure" sClos f fd)
    (G:FnOk P w K mg base CX0 4 g gd ["_law_one","_law_other"] (spP K RThen3)) (bG:Binds K gd ["_law_one","_law_other"] []) (kG:PySem.W.keepIn K (.ref g)=true) (mG:mg "_law_then" = some (.ref g)) (m_len:mg "len" = none) :
    FnOk P w K mg base CX0 5 f fd ["_law_fours","_law_most"] (spQ K RClos):=by
  refine okQ F scClos (fun ds d h=>?_) (fun cdv A0 outer s0 H0 E0 hr=>?_)
  . obtain ⟨fs,rfl,_⟩:=h;rfl
  have r:=hr.mono (show 4<=4 by decide)
  refine ⟨_,(zss_cons (zs_set (i:=2) scClos.nd rfl (Or.inl rfl) (ze_lst (za_t (ze_tup (za_i (za_i (za_i (za_i za_nil))))) za_nil)))
    (zss_cons (zs_set (i:=3) scClos.nd rfl (Or.inl rfl) ze_int)
    (zss_cons (zs_while PassesOwn.never (ZW.pt (zw_and (zt_cmpR op_lt (zv 3) (ze_callB call_len_seq rfl m_len PySem.boot_len (za_n (zv 2) za_nil)) (nomark _)) (zw_and1 (zt_cmpR op_le (ze_callB call_len_seq rfl m_len PySem.boot_len (za_n (zv 2) za_nil)) (zv 1) (nomark _))))) (zss_cons (zs_for PassesOwn.never rfl (zi_list (zv 0)) (zg_name (i:=4) scClos.nd rfl (Or.inl rfl)) (zss_cons (zs_set (i:=5) scClos.nd rfl (Or.inl rfl) (ze_call G r rfl mG kG bG .nil pass0 (za_s (ze_ix ix_list (zv 2) (zv 3) (fun _ _=>rfl)) (za_n (zv 4) za_nil))))
    (zss_one (zs_if (zt_cmpR (op_notInD hr.units) (zv 5) (zv 2) (by with_unfolding_all rfl)) (zss_one (zs_expr (ze_append (zv 2) (zv 5)))) zss_nil))))
    (zss_one (zs_set (i:=3) scClos.nd rfl (Or.inl rfl) (ze_op op_add (zv 3) ze_int)))))
    (zss_one (zs_ret (zv 2)))))),fun ds C h=>?_⟩
  obtain ⟨fs,rfl,hf,hp,l16,rfl⟩:=h
  refine S.letO (ds:=([[1,0,0,0]]:List (List Int)).map tI) (E1.li (A1.cons (E1.tu (A1.cons E1.int (A1.cons E1.int (A1.cons E1.int (A1.cons E1.int A1.nil)))) rfl (lsz (n:=4) rfl z4)) A1.nil) rfl (lsz (n:=1) rfl z1)) rfl ?_
  refine S.let1 (s:=.dat (.int (0:Nat))) E1.int ?_
  refine S.seq (M:=fun τ'=>∃ (L:List (List Int)) (k:Nat) (o4 o5:Sl),GenL fs L/\τ'=[.dat (stD fs),.dat (.int 24),.own (L.map tI),.dat (.int (k:Nat)),o4,o5]) ?_ fun τ' ⟨L,k,o4,o5,gl,eτ⟩=>?_
  . refine S.while (fun m τ'=>∃ (L:List (List Int)) (k:Nat) (o4 o5:Sl),CI fs L k/\k<=L.length/\m=25 - k/\τ'=[.dat (stD fs),.dat (.int 24),.own (L.map tI),.dat (.int (k:Nat)),o4,o5]) (m0:=_) ⟨[[1,0,0,0]],0,_,_,CI.start,by decide,rfl,rfl⟩ (fun m τ1 ⟨L,k,o4,o5,ci,kl,em,e1⟩=>?_)
    subst e1
    have l24:=Gen.le hp ci.nd ci.gen
    refine ⟨_,T1.and1 (T1.test (E1.lt (E1.var rfl) (E1.to (E1.lenL (A1.cons (E1.varO (ds:=L.map tI) rfl) A1.nil)) (by rw [List.length_map])))) (T1.test (E1.le (E1.to (E1.lenL (A1.cons (E1.varO (ds:=L.map tI) rfl) A1.nil)) (by rw [List.length_map])) (E1.var rfl))),fun c=>?_,fun c=>⟨L,k,o4,o5,ci.fin ?_,rfl⟩⟩
    . rw [Bool.and_eq_true,decide_eq_true_iff,decide_eq_true_iff] at c
      have a1:k < L.length:=by omega
      refine S.seq (M:=fun τ'=>∃ (L:List (List Int)) (o4 o5:Sl),CI fs L (k + 1)/\k < L.length/\τ'=[.dat (stD fs),.dat (.int 24),.own (L.map tI),.dat (.int (k:Nat)),o4,o5]) ?_ fun τ' ⟨L,o4,o5,ci,kl,eτ⟩=>?_
      . refine S.for (Wk.lst (ds:=fs.map tI) (E1.var rfl)) (fun j τ'=>∃ (L:List (List Int)) (x:List Int) (o4 o5:Sl),CI fs L k/\L[k]?=some x/\(∀ f ∈ fs.take j,pl (qm f x) ∈ L)/\τ'=[.dat (stD fs),.dat (.int 24),.own (L.map tI),.dat (.int (k:Nat)),o4,o5]) ⟨L,L[k],_,_,ci,List.getElem?_eq_getElem a1,fun f h=>(by rw [List.take_zero] at h;cases h),rfl⟩ (fun j d τ1 hd ⟨L,x,o4,o5,ci,hx,hs,e1⟩=>?_) (fun τ1 ⟨L,x,o4,o5,ci,hx,hs,e1⟩=>⟨L,o4,o5,ci.next hx (by rw [List.length_map,List.take_length] at hs;exact hs),(List.getElem?_eq_some_iff.mp hx).1,e1⟩)
        subst e1
        rw [List.getElem?_map] at hd
        cases hj:fs[j]? with
        | none=>rw [hj] at hd;cases hd
        | some f =>
        rw [hj] at hd
        cases hd
        have fm:=List.mem_of_getElem? hj
        have xm:=List.mem_of_getElem? hx
        have F4:=hf f fm
        obtain ⟨_,q1,q2,q3⟩:=(ci.gen x xm).ok hp
        have kl:=(List.getElem?_eq_some_iff.mp hx).1
        refine ⟨_,Gd.name,?_⟩
        refine S.let1 (s:=.dat (tI (pl (qm f x)))) (E1.call (R:=RThen3) (ds:=[tI x,tI f]) (A1.cons (E1.ixL (ds:=L.map tI) (E1.varO rfl) (E1.var rfl) (atI_nat (by rw [List.getElem?_map,hx];rfl))) (A1.cons (E1.var rfl) A1.nil)) ⟨_,_,rfl,q1,F4.1,q2,F4.2.1,bd_mono q3 (by decide),bd_mono F4.2.2 (by decide),rfl⟩) ?_
        refine S.if1 (T1.test (E1.notInD (d:=tI (pl (qm f x))) (ds:=L.map tI) (r:=decide (pl (qm f x) ∈ L)) (E1.var rfl) (E1.varO rfl) rfl rfl (kqd_ints _ 7) (fun e he=>by obtain ⟨x,_,rfl⟩:=List.mem_map.mp he;exact kqd_ints x 7) (tI_mem _ _))) (fun h=>?_) (fun h=>S.next ⟨L,x,_,_,ci,hx,fun g hg=>?_,rfl⟩)
        . have hn:pl (qm f x) ∉ L:=by simpa using h
          have l24:=Gen.le hp ci.nd ci.gen
          have ci':=ci.add (Nat.le_of_lt kl) xm fm hn
          refine S.append1 (d:=tI (pl (qm f x))) rfl (E1.var rfl) (noLs_ints _) (by rw [List.length_map];exact Nat.lt_of_le_of_lt l24 (by decide)) ⟨L ++ [pl (qm f x)],x,.dat (tI f),.dat (tI (pl (qm f x))),ci',by rw [List.getElem?_append_left kl];exact hx,fun g hg=>?_,by rw [List.map_append];try rfl⟩
          rw [take_snoc hj] at hg
          rcases List.mem_append.mp hg with hg | hg
          . exact List.mem_append_left _ (hs g hg)
          . rw [List.mem_singleton] at hg;subst hg;exact List.mem_append_right _ (List.mem_singleton_self _)
        . rw [take_snoc hj] at hg
          rcases List.mem_append.mp hg with hg | hg
          . exact hs g hg
          . rw [List.mem_singleton] at hg;subst hg;simpa using h
      subst eτ
      exact S.asg1 (s:=.dat (.int (k + 1:Nat))) (E1.to (E1.add (E1.var rfl) E1.int) (by rw [Int.natCast_add];rfl)) ⟨25 - (k + 1),by omega,L,k + 1,_,_,ci,kl,rfl,rfl⟩
    . rw [Bool.and_eq_false_iff,decide_eq_false_iff_not,decide_eq_false_iff_not] at c
      omega
  subst eτ
  exact S.retO rfl ⟨_,⟨L,rfl,gl⟩,rfl,noLs_fs L⟩
theorem scLaw:FnScope ["_law_script","_law_k","_law_purse_here","_law_fours","_law_handed","_law_due","_law_turn","_law_found"] ["_law_script"] (defScope sLaw):=⟨rfl,rfl,rfl,by decide +kernel,rfl,by decide +kernel,by decide +kernel⟩
theorem ok_law (F:Fun K "law" "law" sLaw f fd)
    (G:FnOk P w K mg base CX0 2 g gd ["_law_script","_law_at_here"] (spN K RPur3)) (bG:Binds K gd ["_law_script","_law_at_here"] []) (kG:PySem.W.keepIn K (.ref g)=true) (mG:mg "_law_purse" = some (.ref g))
    (G2:FnOk P w K mg base CX0 5 g2 gd2 ["_law_purse_here","_law_many"] (spD K 200 RSome5)) (bG2:Binds K gd2 ["_law_purse_here","_law_many"] []) (kG2:PySem.W.keepIn K (.ref g2)=true) (mG2:mg "_law_some" = some (.ref g2))
    (G3:FnOk P w K mg base CX0 2 g3 gd3 ["_law_purse_here","_law_out_of"] (spD K 4 RDraw3)) (bG3:Binds K gd3 ["_law_purse_here","_law_out_of"] []) (kG3:PySem.W.keepIn K (.ref g3)=true) (mG3:mg "_law_draw" = some (.ref g3))
    (G4:FnOk P w K mg base CX0 5 g4 gd4 ["_law_fours","_law_most"] (spQ K RClos)) (bG4:Binds K gd4 ["_law_fours","_law_most"] []) (kG4:PySem.W.keepIn K (.ref g4)=true) (mG4:mg "_law_closure" = some (.ref g4))
    (G5:FnOk P w K mg base CX0 5 g5 gd5 ["fours"] (spO K RGrp)) (bG5:Binds K gd5 ["fours"] []) (kG5:PySem.W.keepIn K (.ref g5)=true) (mG5:mg "group_of" = some (.ref g5))
    (G6:FnOk P w K mg base CX0 1 g6 gd6 ["_law_found","_law_many"] (spP K RWholes)) (bG6:Binds K gd6 ["_law_found","_law_many"] []) (kG6:PySem.W.keepIn K (.ref g6)=true) (mG6:mg "_law_wholes" = some (.ref g6)) (m_range:mg "range" = none) (m_list:mg "list" = none) (m_sorted:mg "sorted" = none) (m_len:mg "len" = none) (m_isinstance:mg "isinstance" = none) (m_tuple:mg "tuple" = none) :
    FnOk P w K mg base CX0 6 f fd ["_law_script"] (spLaw K):=by
  refine okL F scLaw rfl (fun cdv A0 outer s0 H0 E0 hr=>?_)
  have r:=hr.mono (show 2<=5 by decide)
  have r2:=hr.mono (show 5<=5 by decide)
  have r3:=hr.mono (show 2<=5 by decide)
  have r4:=hr.mono (show 5<=5 by decide)
  have r5:=hr.mono (show 5<=5 by decide)
  have r6:=hr.mono (show 1<=5 by decide)
  refine ⟨_,(zss_cons (zs_for PassesOwn.never rfl (zi_range1 rfl m_range (za_i za_nil)) (zg_name (i:=1) scLaw.nd rfl (Or.inl rfl)) (zss_cons (zs_set (i:=2) scLaw.nd rfl (Or.inl rfl) (ze_call G r rfl mG kG bG .nil pass0 (za_n (zv 0) (za_n (zv 1) za_nil))))
    (zss_cons (zs_set (i:=3) scLaw.nd rfl (Or.inl rfl) (ze_call G2 r2 rfl mG2 kG2 bG2 .nil pass0 (za_n (zv 2) (za_c (ze_call G3 r3 rfl mG3 kG3 bG3 .nil pass0 (za_n (zv 2) (za_i za_nil))) za_nil))))
    (zss_cons (zs_set (i:=4) scLaw.nd rfl (Or.inl rfl) (ze_callTy call_list_of rfl m_list (by rfl) (za_n (zv 3) za_nil)))
    (zss_cons (zs_set (i:=5) scLaw.nd rfl (Or.inl rfl) (ze_callB call_sortedN rfl m_sorted (by rfl) (za_c (ze_call G4 r4 rfl mG4 kG4 bG4 .nil pass0 (za_n (zv 3) (za_i za_nil))) za_nil)))
    (zss_one (zs_for PassesOwn.never rfl (zi_range1 rfl m_range (za_i za_nil)) (zg_name (i:=6) scLaw.nd rfl (Or.inl rfl)) (zss_cons (zs_set (i:=7) scLaw.nd rfl (Or.inl rfl) (ze_call G5 r5 rfl mG5 kG5 bG5 .nil pass0 (za_n (zv 4) za_nil)))
    (zss_cons (zs_if (ZW.pt (zw_or (zt_not (zt_val (ze_callB (call_isiD (T := "tuple")) rfl m_isinstance (by rfl) (za_n (zv 7) (za_n (ze_tyn rfl m_tuple (by rfl)) za_nil))))) (zw_or (zt_cmpR op_ne (ze_callB call_len_seq rfl m_len PySem.boot_len (za_n (zv 7) za_nil)) ze_int (nomark _)) (zw_or1 (zt_cmpR op_ne (ze_ix ix_tup (zv 7) ze_int (fun _ _=>rfl)) ze_str (nomark _)))))) (zss_one (zs_ret ze_bl)) zss_nil)
    (zss_cons (zs_if (ZW.pt (zw_or (zt_not (zt_val (ze_callB (call_isiD (T := "list")) rfl m_isinstance (by rfl) (za_s (ze_ix ix_tup (zv 7) ze_int (fun _ _=>rfl)) (za_n (ze_tyn rfl m_list (by rfl)) za_nil))))) (zw_or (zt_cmpR (op_neD hr.units) (ze_ix ix_tup (zv 7) ze_int (fun _ _=>rfl)) (zv 5) (nomark _)) (zw_or1 (zt_cmpR (op_neD hr.units) (zv 4) (zv 3) (nomark _)))))) (zss_one (zs_ret ze_bl)) zss_nil)
    (zss_cons (zs_if (zt_cmpR op_ne (ze_callB call_len_seq rfl m_len PySem.boot_len (za_cons (ze_comp (own:=["_law_four_here"]) scLaw rfl ⟨by decide +kernel,rfl,by decide +kernel,by decide +kernel,by decide +kernel,by decide +kernel,by decide +kernel,by decide +kernel,by decide +kernel⟩ (zi_list (ze_ix ix_tup (zv 7) ze_int (fun _ _=>rfl))) (fun C fp s H nd=>zg_name (i:=0) nd rfl (Or.inl rfl)) (fun C fp s H=>zts_one (zt_val (ze_call G6 r6 rfl mG6 kG6 bG6 .nil pass0 (za_n (zv 0) (za_i za_nil))))) (fun C fp s H=>(zv 0))) za_nil)) (ze_callB call_len_seq rfl m_len PySem.boot_len (za_n (zv 5) za_nil)) (nomark _)) (zss_one (zs_ret ze_bl)) zss_nil)
    (zss_one (zs_expr (ze_append (ze_ix ix_tup (zv 7) ze_int (fun _ _=>rfl)) (ze_tup (za_i (za_i (za_i (za_i za_nil)))))))))))))))))))
    (zss_one (zs_ret ze_bl))),fun sc hl hb=>?_⟩
  refine S.seq (M:=fun τ'=>∃ o1 o2 o3 o4 o5 o6 o7:Sl,τ'=[.dat (.list (sc.map .int)),o1,o2,o3,o4,o5,o6,o7]) ?_ fun τ' ⟨o1,o2,o3,o4,o5,o6,o7,eτ⟩=>?_
  . refine S.for (Wk.rng (n:=6) (A1.cons E1.int A1.nil) rfl) (fun _ τ'=>∃ o1 o2 o3 o4 o5 o6 o7:Sl,τ'=[.dat (.list (sc.map .int)),o1,o2,o3,o4,o5,o6,o7]) ⟨_,_,_,_,_,_,_,rfl⟩ (fun n dd τ1 hd ⟨o1,o2,o3,o4,o5,o6,o7,e1⟩=>?_) (fun τ1 h=>h)
    subst e1
    obtain ⟨hn,ed⟩:=rangeD_get hd
    subst ed
    clear hd
    refine ⟨_,Gd.name,?_⟩
    refine S.unk 3 (S.unk 4 (S.unk 5 (S.unk 6 (S.unk 7 ?_))))
    refine S.purse3N (R0:=RPur3) (ds:=[.list (sc.map .int),.int (0 + (n:Int))]) (A1.cons (E1.var rfl) (A1.cons (E1.var rfl) A1.nil)) ⟨sc,0 + (n:Int),rfl,by omega,by omega,rfl⟩ (by omega) (fun q=>?_) (show 2 < 8 by decide)
    refine S2N.letC (M1:=2 ^ 20 + 300) (C:=(fun d=>∃ fs:List (List Int),d = .list (fs.map tI)/\Fours3x fs/\fs.length<=6/\Pooled fs)) (E2.up (E2.call (c:=200) (R:=RSome5) (C:=(fun d=>∃ fs:List (List Int),d = .list (fs.map tI)/\Fours3x fs/\fs.length<=6/\Pooled fs)) (A2.int1 (E2.drawn (m:=7) (A1.cons E1.int A1.nil) (by decide) (by decide))) (fun ds ⟨i,ei,hi⟩=>?_) (by decide)) (by decide)) (fun d ⟨fs,ed,hF,l6,hP⟩=>?_)
    . exact ⟨_,⟨i,ei,by omega,by omega,rfl⟩,fun d ⟨fs,e,hF,lf,hP⟩=>⟨fs,e,hF,by omega,hP⟩⟩
    subst ed
    refine S2N.of ?_
    refine S.let1 (s:=.dat (stD fs)) (E1.frz (E1.listL (A1.cons (E1.varL rfl) A1.nil))) ?_
    refine S.letOC (C:=fun ds=>∃ L,GenL fs L/\ds=(srtI L).map tI) (E.sortQ (m:=3) (P:=GenL fs) (E.callQ (R:=RClos) (ds:=[stD fs,.int 24]) (A1.cons (E1.var rfl) (A1.cons E1.int A1.nil)) ⟨fs,rfl,hF,hP,by omega,rfl⟩) (fun L h=>h.l4 hP) (fun L h=>Nat.lt_of_le_of_lt (h.le hP) (by decide))) fun ds ⟨L,gl,eds⟩=>?_
    subst eds
    obtain ⟨z4',zl⟩:=gl.srt hP
    have zs:∀ M,GenL fs M->srtI M=srtI L:=fun M gm=>srtI_congr (gm.perm gl)
    generalize srtI L=Z at *
    refine S.frz (i:=5) (ds:=Z.map tI) rfl ?_
    refine S.for (Wk.rng (n:=2) (A1.cons E1.int A1.nil) rfl) (fun _ τ'=>∃ o6 o7:Sl,τ'=[.dat (.list (sc.map .int)),.dat (.int (0 + (n:Int))),.un,.dat (stD fs),.dat (stD fs),.dat (.list (Z.map tI)),o6,o7]) ⟨_,_,rfl⟩ (fun t dd τ1 hd ⟨o6,o7,e1⟩=>?_) (fun τ1 ⟨o6,o7,e1⟩=>⟨_,_,_,_,_,_,_,e1⟩)
    subst e1
    obtain ⟨ht,ed⟩:=rangeD_get hd
    subst ed
    clear hd
    refine ⟨_,Gd.name,?_⟩
    refine S.letTC (C:=fun o=>o=tgO "group" (Z.map tI)) (E.mono (E.callO (R:=RGrp) (ds:=[stD fs]) (A1.cons (E1.var rfl) A1.nil) ⟨fs,rfl,hF,hP,by omega,rfl⟩ (fun o ⟨M,_,e⟩=>e ▸ tgO_free (noLs_fs _))) (fun s ⟨o,es,so,M,gm,eo⟩=>⟨o,es,so,by rw [eo,zs M gm]⟩)) fun o eo=>?_
    subst eo
    refine S.ifsF (T1.rdO (i:=7) (τ':=[.dat (.list (sc.map .int)),.dat (.int (0 + (n:Int))),.un,.dat (stD fs),.dat (stD fs),.dat (.list (Z.map tI)),.dat (.int (0 + (t:Int))),.dat (.tuple [.str (Str.ofString "group"),.list (Z.map tI)])]) rfl tgO_rd (T1.orF (T1.notT (T1.val (E1.isi' true (E1.var rfl) (fun K=>rfl)))) (T1.orF (T1.neT (E1.lenT (A1.cons (E1.var rfl) A1.nil)) E1.int rfl) (T1.eqn (b := !decide (Str.ofString "group" = Str.ofString "group")) (T1.test (E1.neS (E1.ixT (E1.var rfl) E1.int rfl) E1.str)) (by decide))))) ?_
    refine S.ifsF (T1.rdO (i:=7) (τ':=[.dat (.list (sc.map .int)),.dat (.int (0 + (n:Int))),.un,.dat (stD fs),.dat (stD fs),.dat (.list (Z.map tI)),.dat (.int (0 + (t:Int))),.dat (.tuple [.str (Str.ofString "group"),.list (Z.map tI)])]) rfl tgO_rd (T1.orF (T1.notT (T1.val (E1.isi' true (E1.ixT (E1.var rfl) E1.int rfl) (fun K=>rfl)))) (T1.orF (T1.neDT (d:=.list (Z.map tI)) (E1.ixT (E1.var rfl) E1.int rfl) (E1.var rfl) rfl rfl (kqd_fs Z)) (T1.neDT (d:=stD fs) (E1.var rfl) (E1.var rfl) rfl rfl (kqd_fs fs))))) ?_
    refine S.ifsF (T1.rdO (i:=7) (τ':=[.dat (.list (sc.map .int)),.dat (.int (0 + (n:Int))),.un,.dat (stD fs),.dat (stD fs),.dat (.list (Z.map tI)),.dat (.int (0 + (t:Int))),.dat (.tuple [.str (Str.ofString "group"),.list (Z.map tI)])]) rfl tgO_rd (T1.neT (E1.lenL (A1.cons (E1.vwo (E1.compF (ds:=Z.map tI) (f:=fun d=>d) (kp:=fun _=>true) (Wk.lst (E1.ixT (E1.var rfl) E1.int rfl)) (fun d hd=>?_) (fun d hd _=>(E1.var rfl)) ?_)) A1.nil)) (E1.lenL (A1.cons (E1.varL rfl) A1.nil)) ?_)) ?_
    . obtain ⟨x,hx,rfl⟩:=List.mem_map.mp hd
      exact T1.val (E1.call (R:=RWholes) (ds:=[tI x,.int 4]) (A1.cons (E1.var rfl) (A1.cons E1.int A1.nil)) ⟨x,4,rfl,by rw [z4' x hx];rfl,by decide,rfl⟩)
    . rw [List.length_map];exact Nat.le_trans zl (by decide)
    . rw [List.map_id',List.filter_eq_self.mpr fun _ _=>rfl]
    exact S.appTg (i:=7) (d:=tI [0,0,0,0]) rfl (E1.tu (A1.cons E1.int (A1.cons E1.int (A1.cons E1.int (A1.cons E1.int A1.nil)))) rfl (lsz (n:=4) rfl z4)) rfl (by rw [List.length_map];exact Nat.lt_of_le_of_lt zl (by decide)) ⟨_,_,rfl⟩
  subst eτ
  exact S.ret1 (s:=.dat (.bool true)) E1.bl rfl
theorem scSop:FnScope ["one","other"] ["one","other"] (defScope sSop):=⟨rfl,rfl,rfl,by decide +kernel,rfl,by decide +kernel,by decide +kernel⟩
theorem ok_sop (F:Fun K "sum_of_products" "sum_of_products" sSop f fd) (ms:mg "sum" = none) (mz:mg "zip" = none):FnOk P w K mg base CX0 1 f fd ["one","other"] (spSop K):=by
  refine F.okZ scSop (fun vs H Q E h=>?_) (fun cdv A outer s H vs Q E hr h=>?_)
  . obtain ⟨a,b,ns,ms,rfl,_⟩:=h;rfl
  obtain ⟨a,b,ns,ms,rfl,hS,hT,hl,hl2,s1,s2,q⟩:=h
  refine ⟨_,zss_one (zs_ret (ze_callB (call_sumL rfl) rfl ‹_› (by rfl) (za_cons (ze_comp (own:=["left","right"]) scSop rfl ⟨by decide +kernel,rfl,by decide +kernel,by decide +kernel,by decide +kernel,by decide +kernel,by decide +kernel,by decide +kernel,by decide +kernel⟩
      (zi_zip rfl mz (za_cons (zv 0) (za_cons (zv 1) za_nil)))
      (fun C fp s H nd=>zg_pair rfl nd rfl rfl rfl rfl) (fun C fp s H=>zts_nil) (fun C fp s H=>ze_op op_mulB (zv 0) (zv 1))) za_nil))),?_⟩
  refine ⟨_,rfl,_,rfl,a,b,rfl,⟨_,hS⟩,⟨_,hT⟩,?_⟩
  refine comp_zip (K:=K) ((List.zipWith (· * ·) ns ms).map PySem.W.Dat.int) hS hT (by simp [hl2]) (by simp [hl2]) (by rw [List.length_map];exact Nat.le_of_lt (small1000 hl)) (fun i x y H' d hx hy hd hs=>?_) (fun σ' H2 Q1 Q2 hq h=>?_) (fun D H' ys hs hy hD hf=>?_)
  . rw [List.getElem?_map] at hx hy hd
    rw [List.getElem?_zipWith] at hd
    cases e:ns[i]? with
    | none=>rw [e] at hx;cases hx
    | some n =>
      cases e2:ms[i]? with
      | none=>rw [e2] at hy;cases hy
      | some m =>
        rw [e] at hx hd
        rw [e2] at hy hd
        cases hx;cases hy;cases hd
        exact ⟨_,rfl,_,rfl,n,m,rfl,rfl,mulOk_of (pow_lift (s1 n (List.mem_of_getElem? e))) (pow_lift (s2 m (List.mem_of_getElem? e2))),Same.refl _,.int _⟩
  . obtain ⟨v1,e1,v2,e2,i,j,e3,e4,e5,q⟩:=h
    exact ⟨v1,e1,v2,e2,i,j,e3,e4,e5,hq _ _ q⟩
  . refine ⟨D,_,rfl,?_,q _ hs⟩
    rw [Fzs.ints_inv hf] at hy
    exact SqL.of hy
end
end K66
end
section
namespace K66
open PySem L2 Num K0 D
open PySem.W (Dat)
theorem us1 {P:List Value->Prop} (h:∀ a,P [a]):∀ (us:List Value),us.length=1->P us:=fun us l=>by
  cases us with
  | nil=>cases l
  | cons x0 us =>
  cases us with
  | cons _ _=>simp at l
  | nil=>exact h x0
theorem us2 {P:List Value->Prop} (h:∀ a b,P [a,b]):∀ (us:List Value),us.length=2->P us:=fun us l=>by
  cases us with
  | nil=>cases l
  | cons x0 us =>
  cases us with
  | nil=>cases l
  | cons x1 us =>
  cases us with
  | cons _ _=>simp at l
  | nil=>exact h x0 x1
theorem all_mk {l:PySem.W.OpenLaw} {w:World} {K:PySem.W.Frag} {h:Heap} {mg:Str->Option Value} {fa:Addr} (X:K.In h) (G:h.Ns mainGlobals mg) (hfa:mg "law" = some (.ref fa))
       (d1:DefAt K "common_divisor" sCD) (d2:DefAt K "reduced" sRed) (d3:DefAt K "negated" sNeg) (d7:DefAt K "plain" sPlain) (d8:DefAt K "size" sSize) (d9:DefAt K "product" sProd) (d10:DefAt K "then" sThen) (d13:DefAt K "rest" sRest) (d14:DefAt K "comes_back" sCBack) (d17:DefAt K "group_of" sGroupOf) (d20:DefAt K "_law_at" sAt3) (d21:DefAt K "_law_wholes" sWholes3) (d22:DefAt K "_law_mixed" sMix3) (d23:DefAt K "_law_purse" sPur3) (d24:DefAt K "_law_draw" sDraw3) (d25:DefAt K "_law_small" sSm3) (d26:DefAt K "_law_four" sFour3) (d27:DefAt K "_law_divisor" sGcd3) (d28:DefAt K "_law_shrunk" sShr3) (d29:DefAt K "_law_plain" sPl3) (d30:DefAt K "_law_product" sQm3) (d31:DefAt K "_law_then" sThen3) (d32:DefAt K "_law_pool" sPool4) (d33:DefAt K "_law_some" sSome5) (d34:DefAt K "_law_closure" sClos) (d35:DefAt K "law" sLaw) (d4:DefAt K "sum_of_products" sSop)
    (tb_COUNTS:TabAt K "COUNTS" cts) (tb_NOTHING:TupTAt K "NOTHING" [1,0,0,0]) (z_abs:PySem.W.nsIn K mainGlobals "abs" = some none) (z_tuple:PySem.W.nsIn K mainGlobals "tuple" = some none) (z_len:PySem.W.nsIn K mainGlobals "len" = some none) (z_enumerate:PySem.W.nsIn K mainGlobals "enumerate" = some none) (z_sorted:PySem.W.nsIn K mainGlobals "sorted" = some none) (z_isinstance:PySem.W.nsIn K mainGlobals "isinstance" = some none) (z_bool:PySem.W.nsIn K mainGlobals "bool" = some none) (z_int:PySem.W.nsIn K mainGlobals "int" = some none) (z_max:PySem.W.nsIn K mainGlobals "max" = some none) (z_range:PySem.W.nsIn K mainGlobals "range" = some none) (z_list:PySem.W.nsIn K mainGlobals "list" = some none) (z_sum:PySem.W.nsIn K mainGlobals "sum" = some none) (z_zip:PySem.W.nsIn K mainGlobals "zip" = some none) :
    ∃ fd:FuncData,(∀ (s:Shared) (v:Value),BindsTo s fd ⟨[v],[]⟩ [("_law_script",v)])/\∀ base:Heap,K.In base->base.Ns mainGlobals mg->FnOk l.prog w K mg base CX0 6 fa fd ["_law_script"] (spLaw K):=by
  obtain ⟨f1,fd1,F1,m1,k1⟩:=d1.get X G
  have b1:=F1.binds (ps:=["numbers"]) (by refine fun _ _ _ _ _ _=>us1 ?_;intros;rfl)
  obtain ⟨f2,fd2,F2,m2,k2⟩:=d2.get X G
  have b2:=F2.binds (ps:=["numbers"]) (by refine fun _ _ _ _ _ _=>us1 ?_;intros;rfl)
  obtain ⟨f3,fd3,F3,m3,k3⟩:=d3.get X G
  have b3:=F3.binds (ps:=["numbers"]) (by refine fun _ _ _ _ _ _=>us1 ?_;intros;rfl)
  obtain ⟨f7,fd7,F7,m7,k7⟩:=d7.get X G
  have b7:=F7.binds (ps:=["four"]) (by refine fun _ _ _ _ _ _=>us1 ?_;intros;rfl)
  obtain ⟨f8,fd8,F8,m8,k8⟩:=d8.get X G
  have b8:=F8.binds (ps:=["four"]) (by refine fun _ _ _ _ _ _=>us1 ?_;intros;rfl)
  obtain ⟨f9,fd9,F9,m9,k9⟩:=d9.get X G
  have b9:=F9.binds (ps:=["one","other"]) (by refine fun _ _ _ _ _ _=>us2 ?_;intros;rfl)
  obtain ⟨f10,fd10,F10,m10,k10⟩:=d10.get X G
  have b10:=F10.binds (ps:=["one","other"]) (by refine fun _ _ _ _ _ _=>us2 ?_;intros;rfl)
  obtain ⟨f13,fd13,F13,m13,k13⟩:=d13.get X G
  have b13:=F13.binds (ps:=["four"]) (by refine fun _ _ _ _ _ _=>us1 ?_;intros;rfl)
  obtain ⟨f14,fd14,F14,m14,k14⟩:=d14.get X G
  have b14:=F14.binds (ps:=["four"]) (by refine fun _ _ _ _ _ _=>us1 ?_;intros;rfl)
  obtain ⟨f17,fd17,F17,m17,k17⟩:=d17.get X G
  have b17:=F17.binds (ps:=["fours"]) (by refine fun _ _ _ _ _ _=>us1 ?_;intros;rfl)
  obtain ⟨f20,fd20,F20,m20,k20⟩:=d20.get X G
  have b20:=F20.binds (ps:=["_law_script","_law_k"]) (by refine fun _ _ _ _ _ _=>us2 ?_;intros;rfl)
  obtain ⟨f21,fd21,F21,m21,k21⟩:=d21.get X G
  have b21:=F21.binds (ps:=["_law_found","_law_many"]) (by refine fun _ _ _ _ _ _=>us2 ?_;intros;rfl)
  obtain ⟨f22,fd22,F22,m22,k22⟩:=d22.get X G
  have b22:=F22.binds (ps:=["_law_cell","_law_k"]) (by refine fun _ _ _ _ _ _=>us2 ?_;intros;rfl)
  obtain ⟨f23,fd23,F23,m23,k23⟩:=d23.get X G
  have b23:=F23.binds (ps:=["_law_script","_law_at_here"]) (by refine fun _ _ _ _ _ _=>us2 ?_;intros;rfl)
  obtain ⟨f24,fd24,F24,m24,k24⟩:=d24.get X G
  have b24:=F24.binds (ps:=["_law_purse_here","_law_out_of"]) (by refine fun _ _ _ _ _ _=>us2 ?_;intros;rfl)
  obtain ⟨f25,fd25,F25,m25,k25⟩:=d25.get X G
  have b25:=F25.binds (ps:=["_law_purse_here","_law_most"]) (by refine fun _ _ _ _ _ _=>us2 ?_;intros;rfl)
  obtain ⟨f26,fd26,F26,m26,k26⟩:=d26.get X G
  have b26:=F26.binds (ps:=["_law_purse_here","_law_most"]) (by refine fun _ _ _ _ _ _=>us2 ?_;intros;rfl)
  obtain ⟨f27,fd27,F27,m27,k27⟩:=d27.get X G
  have b27:=F27.binds (ps:=["_law_numbers"]) (by refine fun _ _ _ _ _ _=>us1 ?_;intros;rfl)
  obtain ⟨f28,fd28,F28,m28,k28⟩:=d28.get X G
  have b28:=F28.binds (ps:=["_law_numbers"]) (by refine fun _ _ _ _ _ _=>us1 ?_;intros;rfl)
  obtain ⟨f29,fd29,F29,m29,k29⟩:=d29.get X G
  have b29:=F29.binds (ps:=["_law_four_here"]) (by refine fun _ _ _ _ _ _=>us1 ?_;intros;rfl)
  obtain ⟨f30,fd30,F30,m30,k30⟩:=d30.get X G
  have b30:=F30.binds (ps:=["_law_one","_law_other"]) (by refine fun _ _ _ _ _ _=>us2 ?_;intros;rfl)
  obtain ⟨f31,fd31,F31,m31,k31⟩:=d31.get X G
  have b31:=F31.binds (ps:=["_law_one","_law_other"]) (by refine fun _ _ _ _ _ _=>us2 ?_;intros;rfl)
  obtain ⟨f32,fd32,F32,m32,k32⟩:=d32.get X G
  have b32:=F32.binds (ps:=["_law_purse_here"]) (by refine fun _ _ _ _ _ _=>us1 ?_;intros;rfl)
  obtain ⟨f33,fd33,F33,m33,k33⟩:=d33.get X G
  have b33:=F33.binds (ps:=["_law_purse_here","_law_many"]) (by refine fun _ _ _ _ _ _=>us2 ?_;intros;rfl)
  obtain ⟨f34,fd34,F34,m34,k34⟩:=d34.get X G
  have b34:=F34.binds (ps:=["_law_fours","_law_most"]) (by refine fun _ _ _ _ _ _=>us2 ?_;intros;rfl)
  obtain ⟨fd35,F35,b35⟩:=d35.law (y := "_law_script") X G hfa fun _ _ _ _ _ _ _=>rfl
  obtain ⟨f4,fd4,F4,m4,k4⟩:=d4.get X G
  have b4:=F4.binds (ps:=["one","other"]) (by refine fun _ _ _ _ _ _=>us2 ?_;intros;rfl)
  obtain ⟨dCOUNTS,m_COUNTS,t_COUNTS⟩:=tb_COUNTS.get X G
  obtain ⟨dNOTHING,m_NOTHING,t_NOTHING⟩:=tb_NOTHING.get X G
  have m_abs:=PySem.W.mg_none_of X G z_abs
  have m_tuple:=PySem.W.mg_none_of X G z_tuple
  have m_len:=PySem.W.mg_none_of X G z_len
  have m_enumerate:=PySem.W.mg_none_of X G z_enumerate
  have m_sorted:=PySem.W.mg_none_of X G z_sorted
  have m_isinstance:=PySem.W.mg_none_of X G z_isinstance
  have m_bool:=PySem.W.mg_none_of X G z_bool
  have m_int:=PySem.W.mg_none_of X G z_int
  have m_max:=PySem.W.mg_none_of X G z_max
  have m_range:=PySem.W.mg_none_of X G z_range
  have m_list:=PySem.W.mg_none_of X G z_list
  have m_sum:=PySem.W.mg_none_of X G z_sum
  have m_zip:=PySem.W.mg_none_of X G z_zip
  refine ⟨fd35,b35,fun base _ _=>?_⟩
  have o1_CD:=ok_cd (P:=l.prog) (w:=w) (mg:=mg) (base:=base) F1      m_abs 
  have o2_Red:=ok_red (P:=l.prog) (w:=w) (mg:=mg) (base:=base) F2     o1_CD b1 k1 m1 m_tuple 
  have o3_Neg:=ok_neg (P:=l.prog) (w:=w) (mg:=mg) (base:=base) F3      m_tuple 
  have o7_Plain:=ok_plain (P:=l.prog) (w:=w) (mg:=mg) (base:=base) F7     o2_Red b2 k2 m2 o3_Neg b3 k3 m3  
  have o9_Prod:=ok_prod (P:=l.prog) (w:=w) (mg:=mg) (base:=base) F9       
  have o10_Then:=ok_then (P:=l.prog) (w:=w) (mg:=mg) (base:=base) F10     o7_Plain b7 k7 m7 o9_Prod b9 k9 m9  
  have o20_At3:=ok_at3 (P:=l.prog) (w:=w) (mg:=mg) (base:=base) F20      m_len 
  have o21_Wholes3:=ok_wholes3 (P:=l.prog) (w:=w) (mg:=mg) (base:=base) F21      m_len m_isinstance m_tuple m_bool m_int 
  have o22_Mix3:=ok_mix3 (P:=l.prog) (w:=w) (mg:=mg) (base:=base) F22       
  have o23_Pur3:=ok_pur3 (P:=l.prog) (w:=w) (mg:=mg) (base:=base) F23     o20_At3 b20 k20 m20 m_max 
  have o24_Draw3:=ok_draw3 (P:=l.prog) (w:=w) (mg:=mg) (base:=base) F24     o22_Mix3 b22 k22 m22 m_range m_int 
  have o25_Sm3:=ok_sm3 (P:=l.prog) (w:=w) (mg:=mg) (base:=base) F25     o24_Draw3 b24 k24 m24  
  have o26_Four3:=ok_four3 (P:=l.prog) (w:=w) (mg:=mg) (base:=base) F26     o25_Sm3 b25 k25 m25 m_tuple m_range 
  have o27_Gcd3:=ok_gcd3 (P:=l.prog) (w:=w) (mg:=mg) (base:=base) F27      m_abs 
  have o28_Shr3:=ok_shr3 (P:=l.prog) (w:=w) (mg:=mg) (base:=base) F28     o27_Gcd3 b27 k27 m27 m_tuple 
  have o29_Pl3:=ok_pl3 (P:=l.prog) (w:=w) (mg:=mg) (base:=base) F29     o28_Shr3 b28 k28 m28 m_tuple m_int 
  have o30_Qm3:=ok_qm3 (P:=l.prog) (w:=w) (mg:=mg) (base:=base) F30       
  have o31_Then3:=ok_then3 (P:=l.prog) (w:=w) (mg:=mg) (base:=base) F31     o29_Pl3 b29 k29 m29 o30_Qm3 b30 k30 m30  
  have o32_Pool4:=ok_pool4 (P:=l.prog) (w:=w) (mg:=mg) (base:=base) F32     o24_Draw3 b24 k24 m24  
  have o33_Some5:=ok_some5 (P:=l.prog) (w:=w) (mg:=mg) (base:=base) F33     o32_Pool4 b32 k32 m32 o26_Four3 b26 k26 m26 o24_Draw3 b24 k24 m24 o30_Qm3 b30 k30 m30 m_range m_len m_tuple 
  have o34_Clos:=ok_clos (P:=l.prog) (w:=w) (mg:=mg) (base:=base) F34     o31_Then3 b31 k31 m31 m_len 
  have o4_Sop:=ok_sop (P:=l.prog) (w:=w) (mg:=mg) (base:=base) F4      m_sum m_zip 
  have o8_Size:=ok_size (P:=l.prog) (w:=w) (mg:=mg) (base:=base) F8     o4_Sop b4 k4 m4  
  have o13_Rest:=ok_rest (P:=l.prog) (w:=w) (mg:=mg) (base:=base) F13     o2_Red b2 k2 m2 o8_Size b8 k8 m8  
  have o14_CBack:=ok_cback (P:=l.prog) (w:=w) (mg:=mg) (base:=base) F14     o13_Rest b13 k13 m13  m_COUNTS t_COUNTS
  have o17_GroupOf:=ok_groupof (P:=l.prog) (w:=w) (mg:=mg) (base:=base) F17     o10_Then b10 k10 m10 o14_CBack b14 k14 m14 m_len m_enumerate m_sorted m_NOTHING t_NOTHING
  exact ok_law (P:=l.prog) (w:=w) (mg:=mg) (base:=base) F35     o23_Pur3 b23 k23 m23 o33_Some5 b33 k33 m33 o24_Draw3 b24 k24 m24 o34_Clos b34 k34 m34 o17_GroupOf b17 k17 m17 o21_Wholes3 b21 k21 m21 m_range m_list m_sorted m_len m_isinstance m_tuple 
theorem walk {l:PySem.W.OpenLaw} {q:Program} {loose:List Str} {XP:(Str->Option Value)->Heap->Prop} {YP:World->Heap->Prop} {d:DefRec} {K:Params->PySem.W.Frag} (hn:l.most=some 63) (hdf:d.params.defaults=[])
    (hY:∀ (w:World) (h:Heap),YP w h->(K w.params).In h)
    (F:∀ (w:World) (mg:Str->Option Value) (fa:Addr) (h:Heap),(K w.params).In h->h.Ns mainGlobals mg->mg d.name=some (.ref fa) ->
      ∃ fd:FuncData,(∀ (s:Shared) (u:Value),BindsTo s fd ⟨[u],[]⟩ [("_law_script",u)])/\∀ base:Heap,(K w.params).In base->base.Ns mainGlobals mg->FnOk l.prog w (K w.params) mg base CX0 6 fa fd ["_law_script"] (spLaw (K w.params))) :
    PySem.W.WalkO q loose XP YP l.row.toRowW d [] (fun f vs=>PySem.call f vs) :=
  L2.walkB (n:=63) (k:=6) (x := "_law_script") (sp:=spLaw) hn (by decide) hdf ⟨rfl,by decide,by decide⟩ hY F (fun K H a ns hl hb hS=>⟨a,ns,rfl,hS,hl,hb,fun _=>rfl⟩)
end K66
open PySem PySem.W PyProof.Rows
namespace K66
noncomputable def vw:PySem.Program:={ PySem.Challenge.pw_hangrings_k66_groups_told with main:={ PySem.Challenge.pw_hangrings_k66_groups_told.main with body:=(PySem.Challenge.pw_hangrings_k66_groups_told.main.body.zipIdx.filter fun x => !([0,5,11,15,19].contains x.2)).map (·.1) } }
noncomputable def hRun (T:PySem.W.BT) (w:PySem.World) (os:PySem.OsState):Option PySem.W.SharedT:=TopT.goes PySem.Challenge.pw_hangrings_k66_groups_told 20000 T w os
noncomputable def hA (h0:PySem.Heap) (s:PySem.W.SharedT):Bool:=PySem.W.staticsOk (PySem.importedModules PySem.Challenge.pw_hangrings_k66_groups_told.main.body) h0 s.abs.heap && PySem.W.namesBound PySem.Challenge.pw_hangrings_k66_groups_told s.abs.heap && PySem.W.gensDone s.abs && PySem.W.laidKept h0 s.abs.heap
noncomputable def hB (s:PySem.W.SharedT):=PySem.W.openSeen vw [PySem.Str.ofString "COUNTS"] (PySem.importedModules PySem.Challenge.pw_hangrings_k66_groups_told.main.body) (fun s=>PySem.W.xlAt vw [] s && PySem.W.recOk [] s) true s.abs
noncomputable def hG:=PySem.W.openGood vw [PySem.Str.ofString "COUNTS"]
end K66
lay_quick K66.hRun K66.hA K66.hB K66.hG
theorem K66.lookAf:∀ (w:PySem.World) os,(PySem.W.Fast.tw7450400838751530964 (TopT.bt (w.withFollow "special-get-raises" false).params) (w.withFollow "special-get-raises" false) os).map (K66.hA (PySem.W.boot_heap (w.withFollow "special-get-raises" false).params))=some true:=by
  rw [PySem.W.Fast.te13322875097189212142]
  intro w os
  kernel_rfl
theorem K66.lookAt:∀ (w:PySem.World) os,(PySem.W.Fast.tw7450400838751530964 (TopT.bt (w.withFollow "special-get-raises" true).params) (w.withFollow "special-get-raises" true) os).map (K66.hA (PySem.W.boot_heap (w.withFollow "special-get-raises" true).params))=some true:=by
  rw [PySem.W.Fast.te13322875097189212142]
  intro w os
  kernel_rfl
theorem K66.lookA:∀ w os,(PySem.W.Fast.tw7450400838751530964 (TopT.bt w.params) w os).map (K66.hA (PySem.W.boot_heap w.params))=some true:=TopT.byR "special-get-raises" K66.lookAf K66.lookAt
theorem K66.lookBf:∀ (w:PySem.World) os,(PySem.W.Fast.tw7450400838751530964 (TopT.bt (w.withFollow "special-get-raises" false).params) (w.withFollow "special-get-raises" false) os).map K66.hB=some K66.hG:=by
  rw [PySem.W.Fast.te4650783930272614326,PySem.W.Fast.te5324659258109822143]
  intro w os
  kernel_rfl
theorem K66.lookBt:∀ (w:PySem.World) os,(PySem.W.Fast.tw7450400838751530964 (TopT.bt (w.withFollow "special-get-raises" true).params) (w.withFollow "special-get-raises" true) os).map K66.hB=some K66.hG:=by
  rw [PySem.W.Fast.te4650783930272614326,PySem.W.Fast.te5324659258109822143]
  intro w os
  kernel_rfl
theorem K66.lookB:∀ w os,(PySem.W.Fast.tw7450400838751530964 (TopT.bt w.params) w os).map K66.hB=some K66.hG:=TopT.byR "special-get-raises" K66.lookBf K66.lookBt
local macro_rules | `(tactic| o_head $H) => `(tactic| (refine TopT.comb (fun a b c => PySem.W.holds_open (q := K66.vw) (loose := [PySem.Str.ofString "COUNTS"]) (Xt := fun s => PySem.W.xlAt K66.vw [] s && PySem.W.recOk [] s) (XP := PySem.W.XL K66.vw []) (Yf := PySem.W.Hook.obs $H) (Ya := PySem.W.Hook.val $H) (YP := PySem.W.Hook.says $H) (N := 20000) (TopT.leftT 20000 PySem.W.Fast.te7450400838751530964 (by kernel_rfl) (fun s => by kernel_rfl) rfl rfl K66.lookA K66.lookB a) (PySem.W.Hook.of $H) (PySem.W.Hook.keeps $H) (fun s e => PySem.W.xl_of s (Bool.and_eq_true_iff.mp e).1) PySem.W.XL.keeps (by rfl) (by rfl) (by rfl) (fun s e => PySem.W.recFacts_of (Bool.and_eq_true_iff.mp e).2) (by rfl) (by decide +kernel) (by decide +kernel) ⟨rfl, rfl, rfl, rfl, rfl, by decide +kernel⟩ c b) ?hc ?hw))
set_option maxRecDepth 100000 in
set_option maxHeartbeats 0 in
open_top K66.hTop for PySem.Challenge.rw_hangrings_k66_groups_told
theorem K66.lookCf:∀ (w:PySem.World) os,TopT.oneOf K66.hTop (w.withFollow "special-get-raises" false) os:=by
  intro w os
  kernel_rfl
theorem K66.lookCt:∀ (w:PySem.World) os,TopT.oneOf K66.hTop (w.withFollow "special-get-raises" true) os:=by
  intro w os
  kernel_rfl
set_option maxRecDepth 100000 in
set_option maxHeartbeats 0 in
theorem PySem.Challenge.cw_hangrings_k66_groups_told_holds : PySem.Challenge.rw_hangrings_k66_groups_told.Holds := by
  refine K66.hTop ⟨TopT.byR "special-get-raises" K66.lookCf K66.lookCt,?_⟩
  k_fill
  refine K66.walk (l:=PySem.Challenge.rw_hangrings_k66_groups_told) rfl rfl (fun w h Y=>PySem.W.kIn_of Y) ?F
  case F =>
    intro w mg fa h KX G hmg
    refine' K66.all_mk KX G hmg    (L2.DefAt.mk ?a1 ?l1 ?c1 ?k1) (L2.DefAt.mk ?a2 ?l2 ?c2 ?k2) (L2.DefAt.mk ?a3 ?l3 ?c3 ?k3) (L2.DefAt.mk ?a7 ?l7 ?c7 ?k7) (L2.DefAt.mk ?a8 ?l8 ?c8 ?k8) (L2.DefAt.mk ?a9 ?l9 ?c9 ?k9) (L2.DefAt.mk ?a10 ?l10 ?c10 ?k10) (L2.DefAt.mk ?a13 ?l13 ?c13 ?k13) (L2.DefAt.mk ?a14 ?l14 ?c14 ?k14) (L2.DefAt.mk ?a17 ?l17 ?c17 ?k17) (L2.DefAt.mk ?a20 ?l20 ?c20 ?k20) (L2.DefAt.mk ?a21 ?l21 ?c21 ?k21) (L2.DefAt.mk ?a22 ?l22 ?c22 ?k22) (L2.DefAt.mk ?a23 ?l23 ?c23 ?k23) (L2.DefAt.mk ?a24 ?l24 ?c24 ?k24) (L2.DefAt.mk ?a25 ?l25 ?c25 ?k25) (L2.DefAt.mk ?a26 ?l26 ?c26 ?k26) (L2.DefAt.mk ?a27 ?l27 ?c27 ?k27) (L2.DefAt.mk ?a28 ?l28 ?c28 ?k28) (L2.DefAt.mk ?a29 ?l29 ?c29 ?k29) (L2.DefAt.mk ?a30 ?l30 ?c30 ?k30) (L2.DefAt.mk ?a31 ?l31 ?c31 ?k31) (L2.DefAt.mk ?a32 ?l32 ?c32 ?k32) (L2.DefAt.mk ?a33 ?l33 ?c33 ?k33) (L2.DefAt.mk ?a34 ?l34 ?c34 ?k34) (L2.DefAt.mk ?a35 ?l35 ?c35 ?k35) (L2.DefAt.mk ?a4 ?l4 ?c4 ?k4) (L2.TabAt.mk ?tACOUNTS ?tLCOUNTS ?tCCOUNTS ?tECOUNTS ?tNCOUNTS ?tUCOUNTS ?tMCOUNTS) (L2.TupTAt.four ?tANOTHING ?tLNOTHING ?tCNOTHING ?tENOTHING) ?z0 ?z1 ?z2 ?z3 ?z4 ?z5 ?z6 ?z7 ?z8 ?z9 ?z10 ?z11 ?z12
    (case a1=>k_is);(case l1=>k_is);(case c1=>k_is);(case k1=>k_is)
    (case a2=>k_is);(case l2=>k_is);(case c2=>k_is);(case k2=>k_is)
    (case a3=>k_is);(case l3=>k_is);(case c3=>k_is);(case k3=>k_is)
    (case a7=>k_is);(case l7=>k_is);(case c7=>k_is);(case k7=>k_is)
    (case a8=>k_is);(case l8=>k_is);(case c8=>k_is);(case k8=>k_is)
    (case a9=>k_is);(case l9=>k_is);(case c9=>k_is);(case k9=>k_is)
    (case a10=>k_is);(case l10=>k_is);(case c10=>k_is);(case k10=>k_is)
    (case a13=>k_is);(case l13=>k_is);(case c13=>k_is);(case k13=>k_is)
    (case a14=>k_is);(case l14=>k_is);(case c14=>k_is);(case k14=>k_is)
    (case a17=>k_is);(case l17=>k_is);(case c17=>k_is);(case k17=>k_is)
    (case a20=>k_is);(case l20=>k_is);(case c20=>k_is);(case k20=>k_is)
    (case a21=>k_is);(case l21=>k_is);(case c21=>k_is);(case k21=>k_is)
    (case a22=>k_is);(case l22=>k_is);(case c22=>k_is);(case k22=>k_is)
    (case a23=>k_is);(case l23=>k_is);(case c23=>k_is);(case k23=>k_is)
    (case a24=>k_is);(case l24=>k_is);(case c24=>k_is);(case k24=>k_is)
    (case a25=>k_is);(case l25=>k_is);(case c25=>k_is);(case k25=>k_is)
    (case a26=>k_is);(case l26=>k_is);(case c26=>k_is);(case k26=>k_is)
    (case a27=>k_is);(case l27=>k_is);(case c27=>k_is);(case k27=>k_is)
    (case a28=>k_is);(case l28=>k_is);(case c28=>k_is);(case k28=>k_is)
    (case a29=>k_is);(case l29=>k_is);(case c29=>k_is);(case k29=>k_is)
    (case a30=>k_is);(case l30=>k_is);(case c30=>k_is);(case k30=>k_is)
    (case a31=>k_is);(case l31=>k_is);(case c31=>k_is);(case k31=>k_is)
    (case a32=>k_is);(case l32=>k_is);(case c32=>k_is);(case k32=>k_is)
    (case a33=>k_is);(case l33=>k_is);(case c33=>k_is);(case k33=>k_is)
    (case a34=>k_is);(case l34=>k_is);(case c34=>k_is);(case k34=>k_is)
    (case a35=>k_is);(case l35=>k_is);(case c35=>k_is);(case k35=>k_is)
    (case a4=>k_is);(case l4=>k_is);(case c4=>k_is);(case k4=>k_is)
    (case tACOUNTS=>k_is);(case tLCOUNTS=>k_is);(case tCCOUNTS=>exact ⟨rfl,rfl,rfl⟩);(case tECOUNTS=>exact rfl)
    (case tNCOUNTS =>
      refine' L2.Ents.two ?l ?c ?d ?g ?_;(case l=>k_is);(case c=>exact rfl);(case d=>exact rfl);(case g=>decide +kernel)
      refine' L2.Ents.two ?l ?c ?d ?g ?_;(case l=>k_is);(case c=>exact rfl);(case d=>exact rfl);(case g=>decide +kernel)
      refine' L2.Ents.two ?l ?c ?d ?g ?_;(case l=>k_is);(case c=>exact rfl);(case d=>exact rfl);(case g=>decide +kernel)
      refine' L2.Ents.two ?l ?c ?d ?g ?_;(case l=>k_is);(case c=>exact rfl);(case d=>exact rfl);(case g=>decide +kernel)
      refine' L2.Ents.two ?l ?c ?d ?g ?_;(case l=>k_is);(case c=>exact rfl);(case d=>exact rfl);(case g=>decide +kernel)
      exact L2.Ents.nil)
    (case tUCOUNTS=>decide);(case tMCOUNTS=>rfl)
    (case tANOTHING=>k_is);(case tLNOTHING=>k_is);(case tCNOTHING=>exact rfl);(case tENOTHING=>exact rfl)
    (case z0=>k_is)
    (case z1=>k_is)
    (case z2=>k_is)
    (case z3=>k_is)
    (case z4=>k_is)
    (case z5=>k_is)
    (case z6=>k_is)
    (case z7=>k_is)
    (case z8=>k_is)
    (case z9=>k_is)
    (case z10=>k_is)
    (case z11=>k_is)
    (case z12=>k_is)
#print axioms PySem.Challenge.cw_hangrings_k66_groups_told_holds
end
