import PyProof.Rows.All
import Wide.All
import OpenK.AllK
import Wide.FinOn
import Lean
import PyProof.EqAt
import PyProof.EqKinds
import PyProof.TupleCall
import KE.KUnpack
import KE.KTab
import KE.LcSums
import KE.KSortTup
import KE.KDictAny
import PyProof.WalkInts
import PyProof.MinMaxWalk
import PyProof.P3In
import KE.KxIndex
import KE.KTryMore
import PyProof.NsDelKeeps
import KE.KIsNot
import KE.KIsAll
import PyProof.ExcArgsOwn
import PyProof.ExcAttrAll.ValueError
import PyProof.StrBlockH
import KE.KIntText
import PyProof.StrBlockL
import PyProof.StrLawsIn
import PyProof.StrLawsOcc
import PyProof.StrLawsChain
import PyProof.StrReplace2
import PyProof.StrCalls2
import PyProof.Rows.StrSplitAre
import PySem.Challenge.RW_hangrings_k48_whole_texts
set_option bootstrap.genMatcherCode false
set_option linter.all false
set_option maxRecDepth 100000
set_option Elab.async false
set_option maxHeartbeats 4000000
set_option exponentiation.threshold 200000
section
set_option maxHeartbeats 0
namespace TopT
open PySem PySem.W
noncomputable def topRunT (tb:String->Option Builtin) (p:Program) (w:World) (n₀:Nat) (ann:Option Value):Nat->SharedT->Thread->Option SharedT
  | 0,_,_=>none
  | n + 1, s, t => match through t with
    | true=>some s
    | false=>match stepOk n₀ ann t with
      | false=>none
      | true=>match stepT (denote tb) p w s t with
        | some (s',t')=>topRunT tb p w n₀ ann n s' t'
        | none=>none
theorem topRun_of {tb:String->Option Builtin} {p:Program} {w:World} {n₀:Nat} {ann:Option Value}:∀ {n:Nat} {s s':SharedT} {t:Thread},topRunT tb p w n₀ ann n s t=some s'->topRun tb p w n₀ ann n s.abs t=some s'.abs
  | 0,_,_,_,h=>by cases h
  | n + 1, s, s', t, h => by
    unfold topRunT at h
    unfold topRun
    cases he:through t with
    | true=>rw [he] at h;cases h;rfl
    | false =>
      rw [he] at h
      cases hk:stepOk n₀ ann t with
      | false=>rw [hk] at h;cases h
      | true =>
        rw [hk] at h
        cases hs:stepT (denote tb) p w s t with
        | none=>rw [hs] at h;cases h
        | some r=>obtain ⟨s₂,t₂⟩:=r;rw [hs] at h;rw [stepT_spec hs];exact topRun_of h
noncomputable def ofL:BT->Nat->List Obj->BT
  | t,_,[]=>t
  | t,n,o :: l=>ofL (t.ins n o) (n + 1) l
noncomputable def bt (P:Params):BT:=ofL .nil 0 (boot_heap P).objs.toList
theorem bt_abs (P:Params):absHeap (bt P) 11 {}=boot_heap P:=by kernel_rfl
theorem size0 (P:Params):((boot_heap P).isNs mainGlobals,(boot_heap P).objs.size,(boot_heap P).nsMap mainGlobals "__annotations__")=(true,11,some (.ref 6)):=by kernel_rfl
noncomputable def goes (p:Program) (M:Nat) (T:BT) (w:World) (os:OsState):Option SharedT:=topRunT treeTable p w 11 (some (.ref 6)) M ⟨T,11,{}, #[],{},181,os⟩ (topStub p)
theorem leftT {p q:Program} {loose:List Str} {Xt:Shared->Bool} {α:Type} {Yf:Shared->α} {Ya:World->α} {N:Nat} (M:Nat)
    {R:BT->World->OsState->Option SharedT} (hR:goes p M=R) (e:opening p=plainProg p.main.scope.names) (f:∀ s,fenceModules? p s=some s) (hN:Nat.ble 600 N=true) (le:Nat.ble M N=true)
    (A:∀ w os,(R (bt w.params) w os).map (fun s=>staticsOk (importedModules p.main.body) (boot_heap w.params) s.abs.heap && namesBound p s.abs.heap && gensDone s.abs && laidKept (boot_heap w.params) s.abs.heap)=some true)
    (B:∀ w os,(R (bt w.params) w os).map (fun s=>openSeen q loose (importedModules p.main.body) Xt true s.abs)=some (openGood q loose))
    (C:∀ w os,(R (bt w.params) w os).map (fun s=>Yf s.abs)=some (Ya w)):LeftO p q loose Xt Yf Ya N:=fun w=>by
  subst hR
  obtain ⟨⟨h,gs,d,k,os⟩,e,e'⟩:=Option.map_eq_some_iff.mp (boot_open e hN f w)
  obtain ⟨rfl,rfl,rfl,rfl⟩:h=boot_heap w.params/\gs = #[]/\d=boot_drawn/\k=boot_toks:=by simpa using e'
  obtain ⟨z1,z2,z3⟩:_/\_/\_:=by simpa only [Prod.mk.injEq] using size0 w.params
  obtain ⟨s,hs,l1⟩:=Option.map_eq_some_iff.mp (A w os)
  have b:=B w os;rw [hs] at b
  have c:=C w os;rw [hs] at c
  have r:=topRun_mono (N - M) _ _ _ _ (topRun_of hs)
  rw [show M + (N - M)=N by have:=Nat.le_of_ble_eq_true le;omega] at r
  have r':topRun treeTable p w 11 (some (.ref 6)) N ⟨boot_heap w.params, #[],boot_drawn,boot_toks,os⟩ (topStub p)=some s.abs:=by
    rw [<- bt_abs];exact r
  have t:topFrom treeTable p w N ⟨boot_heap w.params, #[],boot_drawn,boot_toks,os⟩=some s.abs:=by
    unfold topFrom
    dsimp only
    rw [z1,z2,z3,r']
    show (match staticsOk (importedModules p.main.body) (boot_heap w.params) s.abs.heap && namesBound p s.abs.heap && gensDone s.abs && laidKept (boot_heap w.params) s.abs.heap with | true=>_ | false=>_)=_
    rw [l1]
  unfold openEnds
  rw [e]
  show (topFrom treeTable p w N _).map _=_
  rw [t]
  exact congrArg some (Prod.ext (Option.some.inj b) (Option.some.inj c))
theorem byR (row:String) {P:World->OsState->Prop} (hf:∀ (w:World) os,P (w.withFollow row false) os) (ht:∀ (w:World) os,P (w.withFollow row true) os):∀ w os,P w os:=fun w os=>byRow2 row (P:=fun w=>P w os) (fun w=>hf w os) (fun w=>ht w os) w
end TopT
end
section
namespace L2
open PySem PySem.Spec PyProof.Rows
noncomputable abbrev Key:=Sum Int Str
noncomputable def keyIs:Key->Value->Bool
  | .inl k,v=>Value.isInt k v
  | .inr x,v=>Value.isStrOf x v
noncomputable def keyH (w:World):Key->Int
  | .inl k=>hashInt k
  | .inr x=>hashStr w x
theorem keyIs_shape:∀ {k:Key} {v:Value},keyIs k v=true->(∃ i t,k=Sum.inl i/\v=Value.int i t)\/(∃ x t,k=Sum.inr x/\v=Value.str x t)
  | .inl i,v,h=>by
    obtain ⟨t,e⟩:=Value.isInt_shape (k:=i) (v:=v) h
    exact .inl ⟨i,t,rfl,e⟩
  | .inr x,v,h=>by
    obtain ⟨t,e⟩:=Value.isStrOf_shape (x:=x) (v:=v) h
    exact .inr ⟨x,t,rfl,e⟩
theorem key_ll (a b:Int):decide ((Sum.inl a:Key)=Sum.inl b)=(a == b):=by
  by_cases e:a=b
  . subst e;simp
  . have h:¬ (Sum.inl a:Key)=Sum.inl b:=fun q=>e (Sum.inl.inj q)
    rw [decide_eq_false h]
    exact (beq_eq_false_iff_ne.mpr e).symm
theorem key_rr (a b:Str):decide ((Sum.inr a:Key)=Sum.inr b)=decide (a=b):=by
  by_cases e:a=b
  . subst e;simp
  . have h:¬ (Sum.inr a:Key)=Sum.inr b:=fun q=>e (Sum.inr.inj q)
    rw [decide_eq_false h,decide_eq_false e]
theorem key_lr (a:Int) (b:Str):decide ((Sum.inl a:Key)=Sum.inr b)=false:=decide_eq_false (fun q=>nomatch q)
theorem key_rl (a:Str) (b:Int):decide ((Sum.inr a:Key)=Sum.inl b)=false:=decide_eq_false (fun q=>nomatch q)
noncomputable def mixKind (prog:Program) (w:World):PySem.KeyKind prog w Key where
  is:=keyIs
  hash:=keyH w
  inj := fun v a b ha hb => by
    rcases keyIs_shape ha with ⟨i,t,rfl,rfl⟩ | ⟨x,t,rfl,rfl⟩
    . rcases keyIs_shape hb with ⟨j,u,rfl,e⟩ | ⟨y,u,rfl,e⟩
      . injection e with e1 _;rw [e1]
      . exact nomatch e
    . rcases keyIs_shape hb with ⟨j,u,rfl,e⟩ | ⟨y,u,rfl,e⟩
      . exact nomatch e
      . injection e with e1 _;rw [e1]
  byValue:=fun k v h=>by
    rcases keyIs_shape h with ⟨i,t,rfl,rfl⟩ | ⟨x,t,rfl,rfl⟩ <;> rfl
  pyHash:=fun hv h=>by
    rcases keyIs_shape hv with ⟨i,t,rfl,rfl⟩ | ⟨x,t,rfl,rfl⟩
    . exact wpAny_pyHash_int h
    . exact wpAny_pyHash_str h
  eqBool:=fun hu hv h=>by
    rcases keyIs_shape hu with ⟨i,t,rfl,rfl⟩ | ⟨x,t,rfl,rfl⟩
    . rcases keyIs_shape hv with ⟨j,u,rfl,rfl⟩ | ⟨y,u,rfl,rfl⟩
      . rw [key_ll] at h;exact wpAny_eqBool_int h
      . rw [key_lr] at h;exact SeqAt.EqAt.int_str i t y u _ _ _ _ h
    . rcases keyIs_shape hv with ⟨j,u,rfl,rfl⟩ | ⟨y,u,rfl,rfl⟩
      . rw [key_rl] at h;exact SeqAt.EqAt.str_int x t j u _ _ _ _ h
      . rw [key_rr] at h;exact wpAny_eqBool_str h
  «strs» := fun k x t v h=>by
    rcases keyIs_shape h with ⟨i,u,rfl,e⟩ | ⟨y,u,rfl,e⟩
    . exact nomatch e
    . injection e with e1 _
      subst e1
      cases v <;> rfl
end L2
namespace L2
open PySem PySem.Spec PyProof.Rows
inductive V where
  | non | bl (b:Bool) | int (i:Int) | str (x:Str) | byt (b:Array UInt8) | flt (b:UInt64) | ref (a:Addr) | ty (n:String)
  deriving DecidableEq
noncomputable def RelV:V->Value->Prop
  | .non,u=>u=Value.none
  | .bl b,u=>u=Value.bool b
  | .int i,u=>∃ t,u=Value.int i t
  | .str x,u=>∃ t,u=Value.str x t
  | .byt b,u=>∃ t,u=Value.bytes b t
  | .flt b,u=>∃ t,u=Value.float b t
  | .ref a,u=>u=Value.ref a
  | .ty n,u=>u=Value.type n
noncomputable abbrev Vals:List V->List Value->Prop:=Paired RelV
theorem Vals.length {xs:List V} {us:List Value} (r:Vals xs us):xs.length=us.length:=Paired.length r
theorem Vals.get:∀ {xs:List V} {us:List Value} {i:Nat} {x:V},Vals xs us->xs[i]?=some x->∃ u,us[i]?=some u/\RelV x u
  | _,_,_,_,.nil,e=>by simp at e
  | _,_,0,_,.cons r _,e=>by simp at e;subst e;exact ⟨_,rfl,r⟩
  | _,_,i + 1,x,.cons _ t,e=>by
    obtain ⟨u,h1,h2⟩:=Vals.get (i:=i) (x:=x) t (by simpa using e)
    exact ⟨u,by simpa using h1,h2⟩
theorem Vals.set {x:V} {u:Value} (r:RelV x u):∀ {xs:List V} {us:List Value} (i:Nat),Vals xs us->Vals (xs.set i x) (us.set i u)
  | _,_,_,.nil=>.nil
  | _,_,0,.cons _ t=>.cons r t
  | _,_,i + 1,.cons q t=>.cons q (Vals.set r i t)
theorem Vals.append:∀ {xs ys:List V} {us ws:List Value},Vals xs us->Vals ys ws->Vals (xs ++ ys) (us ++ ws)
  | _,_,_,_,.nil,s=>s
  | _,_,_,_,.cons r t,s=>.cons r (Vals.append t s)
theorem Vals.take:∀ {xs:List V} {us:List Value} (n:Nat),Vals xs us->Vals (xs.take n) (us.take n)
  | _,_,0,_=>.nil
  | _,_,_ + 1,.nil=>.nil
  | _,_,n + 1,.cons r t=>.cons r (Vals.take n t)
theorem Vals.drop:∀ {xs:List V} {us:List Value} (n:Nat),Vals xs us->Vals (xs.drop n) (us.drop n)
  | _,_,0,r=>r
  | _,_,_ + 1,.nil=>.nil
  | _,_,n + 1,.cons _ t=>Vals.drop n t
noncomputable def RelO:Option V->Option Value->Prop
  | some v,some u=>RelV v u
  | none,none=>True
  | _,_=>False
noncomputable def KV {κ:Type}:List (κ × V)->List (κ × Value)->Prop:=Paired fun (p:κ × V) (q:κ × Value)=>p.1=q.1/\RelV p.2 q.2
noncomputable def kV:Key->V
  | .inl i=>.int i
  | .inr x=>.str x
inductive HO where
  | lst (xs:List V)
  | tup (xs:List V)
  | dK (kvs:List (Key × V)) | dT (kvs:List (List Key × V))
  | set (S:Int->Bool) (n:Nat)
  | ins (C dx:Addr) (fs:List (Str × V))
  | own (x:Addr)
  | xd (fs:List (Str × V))
  | met (f x:Addr)
  | rng (lo hi:Int)
  | frz (o:Obj) (u:HO)
  | tbl (ps:Array Value)
  | ext (φ:Heap->Prop)
noncomputable abbrev Hp:=Addr->Option HO
noncomputable def upd (H:Hp) (a:Addr) (o:HO):Hp:=fun b=>if b=a then some o else H b
theorem upd_same {H:Hp} {a:Addr} {o:HO}:upd H a o a=some o:=by unfold upd;rw [if_pos rfl]
theorem upd_ne {H:Hp} {a b:Addr} {o:HO} (h:b ≠ a):upd H a o b=H b:=by unfold upd;rw [if_neg h]
theorem ne_of {H:Hp} {a b:Addr} {o u:HO} (h:H a=some o) (h':H b=some u) (d:o ≠ u):a ≠ b:=by
  intro e;subst e;rw [h] at h';exact d (Option.some.inj h')
theorem ne_of_none {H:Hp} {a b:Addr} {o:HO} (h:H a=some o) (h':H b=none):a ≠ b:=by
  intro e;subst e;rw [h] at h';cases h'
section
variable (P:Program) (w:World)
noncomputable def ObjOk (H:Hp) (h:Heap) (a:Addr):HO->Prop
  | .lst xs=>xs.length<=sizeLine/\∃ (its:List Value) (n:Nat),Vals xs its/\h.get? a=some { cls:=.type "list",data:=.seq its.toArray n }
  | .tup xs=>xs.length<=sizeLine/\∃ its:List Value,Vals xs its/\IsTup h a its.toArray
  | .dK kvs=>kvs.length<=sizeLine/\(a == sysModules)=false/\∃ vs,KV kvs vs/\h.DictOf (mixKind P w) a vs
  | .dT kvs=>kvs.length<=sizeLine/\(a == sysModules)=false/\∃ xs:List (List Key × Addr × Value),
      Paired (fun (p:List Key × V) (q:List Key × Addr × Value)=>p.1=q.1/\H q.2.1=some (.tup (p.1.map kV))/\RelV p.2 q.2.2) kvs xs /\
      ∃ o es ep,h.get? a=some o/\o.ExactDict/\o.data = .dict es ep/\es.toList=xs.map (entryOfKey (tupleKind (mixKind P w)))/\(xs.map (·.1)).Nodup
  | .set S n=>h.SetOf (intKind P w) a S n
  | .ins C dx fs=>H dx=some (.own a)/\fs.length<=1000/\dx ≠ a/\h.get? a=some (PySem.W.instObj C dx) /\
      ∃ mA,h.Ns1 dx mA/\(∀ f,RelO (fs.lookup f) (mA f))/\PySem.Within mA (fs.map (·.1))
  | .own _=>∃ o,h.get? a=some o
  | .xd fs=>∃ mA,h.Ns1 a mA/\∀ f,RelO (fs.lookup f) (mA f)
  | .rng lo hi=>∃ t u v,h.get? a=some { cls:=.type "range",data:=.fields #[.int lo t,.int hi u,.int 1 v] }
  | .frz o u=>h.get? a=some o/\ObjOk H h a u
  | .tbl ps=>h.get? a=some { cls:=.none,data:=.fields ps }
  | .met f x=>h.get? a=some (PySem.W.methodObj (.ref f) (.ref x))
  | .ext φ=>φ h/\(∃ o,h.get? a=some o)/\∀ h1 h2:Heap,φ h1->(∀ o,h1.get? a=some o->h2.get? a=some o)->φ h2
noncomputable def HOk (H:Hp) (h:Heap):Prop:=∀ a o,H a=some o->ObjOk P w H h a o
end
section
variable {P:Program} {w:World} {H H':Hp} {h h':Heap} {a:Addr} {o:HO}
theorem ObjOk.lt (x:ObjOk P w H h a o):a < h.objs.size:=by
  cases o with
  | lst xs=>obtain ⟨_,_,_,_,e⟩:=x;exact Heap.lt_size e
  | tup xs=>obtain ⟨_,_,_,p⟩:=x;exact p.lt
  | dK kvs=>obtain ⟨_,_,_,_,o,_,_,e,_⟩:=x;exact Heap.lt_size e
  | dT kvs=>obtain ⟨_,_,_,_,o,_,_,e,_⟩:=x;exact Heap.lt_size e
  | set S n=>obtain ⟨o,_,_,_,e,_⟩:=x;exact Heap.lt_size e
  | ins C dx fs=>obtain ⟨_,_,_,e,_⟩:=x;exact Heap.lt_size e
  | own y=>obtain ⟨_,e⟩:=x;exact Heap.lt_size e
  | xd fs=>obtain ⟨_,⟨_,_,_,e,_⟩,_⟩:=x;exact Heap.lt_size e
  | rng lo hi=>obtain ⟨_,_,_,e⟩:=x;exact Heap.lt_size e
  | frz ob u=>obtain ⟨e,_⟩:=x;exact Heap.lt_size e
  | tbl ps=>exact Heap.lt_size (show h.get? a=some _ from x)
  | met f y=>exact Heap.lt_size (show h.get? a=some _ from x)
  | ext φ=>obtain ⟨_,⟨_,e⟩,_⟩:=x;exact Heap.lt_size e
theorem Paired.mapP {α β:Type} {F G:α->β->Prop}:∀ {l₁:List α} {l₂:List β},Paired F l₁ l₂->(∀ a b,F a b->G a b)->Paired G l₁ l₂
  | _,_,.nil,_=>.nil
  | _,_,.cons r t,f=>.cons (f _ _ r) (Paired.mapP t f)
theorem ObjOk.stay (x:ObjOk P w H h a o) (k:∀ b u,(b=a\/H b=some (.own a))->h.get? b=some u->h'.get? b=some u)
    (ho:∀ b,H b=some (.own a)->H' b=some (.own a)) (ht:∀ b xs,H b=some (.tup xs)->H' b=some (.tup xs)):ObjOk P w H' h' a o:=by
  induction o with
  | lst xs=>obtain ⟨z,its,n,r,e⟩:=x;exact ⟨z,its,n,r,k _ _ (.inl rfl) e⟩
  | tup xs=>obtain ⟨z,its,r,ob,e,c⟩:=x;exact ⟨z,its,r,ob,k _ _ (.inl rfl) e,c⟩
  | dK kvs=>obtain ⟨z,y,vs,r,ob,es,ep,e,c⟩:=x;exact ⟨z,y,vs,r,ob,es,ep,k _ _ (.inl rfl) e,c⟩
  | dT kvs =>
    obtain ⟨z,y,xs,r,ob,es,ep,e,c⟩:=x
    exact ⟨z,y,xs,Paired.mapP r fun p q z=>⟨z.1,ht _ _ z.2.1,z.2.2⟩,ob,es,ep,k _ _ (.inl rfl) e,c⟩
  | set S n=>obtain ⟨ob,es,ep,t,e,c⟩:=x;exact ⟨ob,es,ep,t,k _ _ (.inl rfl) e,c⟩
  | ins C dx fs =>
    obtain ⟨d,z,ne,e,mA,⟨od,es,ep,e2,c⟩,r⟩:=x
    exact ⟨ho _ d,z,ne,k _ _ (.inl rfl) e,mA,⟨od,es,ep,k _ _ (.inr d) e2,c⟩,r⟩
  | own y=>obtain ⟨ob,e⟩:=x;exact ⟨ob,k _ _ (.inl rfl) e⟩
  | xd fs=>obtain ⟨mA,⟨od,es,ep,e,c⟩,r⟩:=x;exact ⟨mA,⟨od,es,ep,k _ _ (.inl rfl) e,c⟩,r⟩
  | rng lo hi=>obtain ⟨t,u,v,e⟩:=x;exact ⟨t,u,v,k _ _ (.inl rfl) e⟩
  | frz ob u ih=>obtain ⟨e,q⟩:=x;exact ⟨k _ _ (.inl rfl) e,ih q⟩
  | tbl ps =>
    have e:h.get? a=some { cls:=.none,data:=.fields ps }:=x
    show h'.get? a=some { cls:=.none,data:=.fields ps }
    exact k a _ (.inl rfl) e
  | met f y =>
    have e:h.get? a=some (PySem.W.methodObj (.ref f) (.ref y)):=x
    show h'.get? a=some (PySem.W.methodObj (.ref f) (.ref y))
    exact k a _ (.inl rfl) e
  | ext φ=>obtain ⟨p,⟨o,e⟩,st⟩:=x;exact ⟨st _ _ p fun o q=>k _ _ (.inl rfl) q,⟨o,k _ _ (.inl rfl) e⟩,st⟩
theorem HOk.lt (x:HOk P w H h) (e:H a=some o):a < h.objs.size:=(x a o e).lt
theorem HOk.fresh (x:HOk P w H h) (e:h.objs.size<=a):H a=none:=by
  cases q:H a with
  | none=>rfl
  | some u=>exact absurd (Nat.lt_of_lt_of_le (x.lt q) e) (Nat.lt_irrefl _)
theorem HOk.kept (x:HOk P w H h) (k:∀ b u,h.get? b=some u->h'.get? b=some u):HOk P w H h':=fun a o e =>
  (x a o e).stay (fun b u _ q=>k b u q) (fun _ q=>q) fun _ _ q=>q
theorem HOk.laid (x:HOk P w H h) (k:∀ b u,h.get? b=some u->h'.get? b=some u) (hp:h.objs.size<=a) (new:ObjOk P w (upd H a o) h' a o):HOk P w (upd H a o) h':=fun b u e=>by
  have hn:=x.fresh hp
  by_cases hb:b=a
  . subst hb;rw [upd_same] at e;cases e;exact new
  . rw [upd_ne hb] at e
    exact (x b u e).stay (fun c v _ q=>k c v q) (fun c q=>by rw [upd_ne (ne_of_none q hn)];exact q) fun c xs q=>by rw [upd_ne (ne_of_none q hn)];exact q
end
noncomputable def Rd (H:Hp) (a:Addr) (u:HO):Prop:=H a=some u\/∃ o,H a=some (.frz o u)
theorem Rd.ok {P:Program} {w:World} {H:Hp} {h:Heap} {a:Addr} {u:HO} (r:Rd H a u) (x:HOk P w H h):ObjOk P w H h a u:=by
  rcases r with r | ⟨o,r⟩
  . exact x a u r
  . obtain ⟨_,q⟩:=x a _ r
    exact q
noncomputable def Mut:Option HO->Prop
  | some (.lst _)=>True
  | some (.dK _)=>True
  | some (.dT _)=>True
  | some (.set _ _)=>True
  | some (.ins _ _ _)=>True
  | some (.ext _)=>True
  | _=>False
section
variable {P:Program} {w:World} {H:Hp} {h h':Heap} {x e:Addr} {o':HO}
theorem HOk.write (ok:HOk P w H h) (mu:Mut (H x)) (he:e=x\/H e=some (.own x)) (k:∀ b u,b ≠ e->h.get? b=some u->h'.get? b=some u) (heo:∃ u,h'.get? e=some u)
    (new:ObjOk P w (upd H x o') h' x o'):HOk P w (upd H x o') h':=fun b u q=>by
  have nown:∀ c y,H c=some (.own y)->c ≠ x:=fun c y r z=>by subst z;rw [r] at mu;exact mu
  have ntup:∀ c xs,H c=some (.tup xs)->c ≠ x:=fun c xs r z=>by subst z;rw [r] at mu;exact mu
  by_cases hb:b=x
  . subst hb;rw [upd_same] at q;cases q;exact new
  . rw [upd_ne hb] at q
    by_cases hbe:b=e
    . have q':H b=some (.own x):=by
        rcases he with z | z
        . exact absurd (hbe.trans z) hb
        . rw [hbe];exact z
      rw [q] at q';cases q'
      obtain ⟨v,hv⟩:=heo
      exact ⟨v,by rw [hbe];exact hv⟩
    . refine (ok b u q).stay (fun c v hc r=>k c v ?_ r) (fun c r=>by rw [upd_ne (nown c b r)];exact r) fun c xs r=>by rw [upd_ne (ntup c xs r)];exact r
      rcases hc with rfl | hc
      . exact hbe
      . rintro rfl
        rcases he with z | z
        . exact nown c b hc z
        . rw [hc] at z;cases z;exact hb rfl
end
structure Un (fs ex:List Addr) (H H':Hp) (h h':Heap):Prop where
  keep:∀ b o,h.get? b=some o->H b=none->b ∉ fs->b ∉ ex->h'.get? b=some o
  slot:∀ b o,h.get? b=some o->H b=none->b ∈ fs->b ∉ ex->∃ sl,h'.get? b=some { o with slots:=sl }
  free:∀ b o,h.get? b=some o->H b=none->b ∉ ex->H' b=none
  there:∀ b o,h.get? b=some o->b ∉ ex->∃ o',h'.get? b=some o'
  tups:∀ b xs,H b=some (.tup xs)->H' b=some (.tup xs)
  frzs:∀ b o u,H b=some (.frz o u)->H' b=some (.frz o u)
  tbls:∀ b ps,H b=some (.tbl ps)->∃ more,H' b=some (.tbl (ps ++ more))
section
variable {fs ex:List Addr} {H H1 H2:Hp} {h h1 h2 h':Heap} {a x e:Addr} {o:HO}
theorem Un.any (u:Un fs ex H H1 h h1) {b:Addr} {ob:Obj} (q:h.get? b=some ob) (n:H b=none) (hx:b ∉ ex):∃ sl,h1.get? b=some { ob with slots:=sl }:=by
  by_cases hb:b ∈ fs
  . exact u.slot b ob q n hb hx
  . exact ⟨ob.slots,u.keep b ob q n hb hx⟩
theorem Un.kept (k:∀ b u,h.get? b=some u->h'.get? b=some u):Un fs ex H H h h' :=
  ⟨fun b ob q _ _ _=>k b ob q,fun b ob q _ _ _=>⟨ob.slots,k b ob q⟩,fun _ _ _ n _=>n,fun b ob q _=>⟨ob,k b ob q⟩,fun _ _ q=>q,fun _ _ _ q=>q,fun _ ps q=>⟨#[],by rw [q];simp⟩⟩
theorem Un.refl:Un fs ex H H h h:=Un.kept fun _ _ q=>q
theorem Un.laid (k:∀ b u,h.get? b=some u->h'.get? b=some u) (hp:h.objs.size<=a) (hn:H a=none):Un fs ex H (upd H a o) h h' where
  keep:=fun b u q _ _ _=>k b u q
  slot:=fun b u q _ _ _=>⟨u.slots,k b u q⟩
  free:=fun b u q n _=>by rw [upd_ne (Nat.ne_of_lt (Nat.lt_of_lt_of_le (Heap.lt_size q) hp))];exact n
  there:=fun b u q _=>⟨u,k b u q⟩
  tups:=fun b xs q=>by rw [upd_ne (ne_of_none q hn)];exact q
  frzs:=fun b u xs q=>by rw [upd_ne (ne_of_none q hn)];exact q
  tbls:=fun b ps q=>⟨#[],by rw [upd_ne (ne_of_none q hn),q];simp⟩
theorem Un.write (mu:Mut (H x)) (he:e=x\/H e=some (.own x)) (k:∀ b u,b ≠ e->h.get? b=some u->h'.get? b=some u) (heo:∃ u,h'.get? e=some u):Un fs ex H (upd H x o) h h':=by
  have hx:∀ b,H b=none->b ≠ x:=fun b n z=>by subst z;rw [n] at mu;exact mu
  have hb:∀ b,H b=none->b ≠ e:=fun b n z=>by
    subst z
    rcases he with r | r
    . exact hx b n r
    . rw [n] at r;cases r
  have hm:∀ b u,H b=some u->¬ Mut (some u)->b ≠ x:=fun b u q nm z=>by subst z;rw [q] at mu;exact nm mu
  refine ⟨fun b u q n _ _=>k b u (hb b n) q,fun b u q n _ _=>⟨u.slots,k b u (hb b n) q⟩,fun b u q n _=>by rw [upd_ne (hx b n)];exact n,fun b u q _=>?_,
    fun b xs q=>by rw [upd_ne (hm b _ q fun z=>z)];exact q,fun b u xs q=>by rw [upd_ne (hm b _ q fun z=>z)];exact q,fun b ps q=>⟨#[],by rw [upd_ne (hm b _ q fun z=>z),q];simp⟩⟩
  by_cases hbe:b=e
  . subst hbe;exact heo
  . exact ⟨u,k b u hbe q⟩
end
noncomputable def trk (h:Heap) (H:Hp):List Addr:=(List.range h.objs.size).filter fun a=>(H a).isSome
noncomputable def hidT (h:Heap) (H:Hp):Heap:=PySem.W.hideAll h (trk h H)
theorem hidT_size (h:Heap) (H:Hp):(hidT h H).objs.size=h.objs.size:=PySem.W.hideAll_size _ _
theorem hidT_get {h:Heap} {H:Hp} {b:Addr} {o:Obj} (e:h.get? b=some o) (n:H b=none):(hidT h H).get? b=some o :=
  PySem.W.hideAll_get _ e fun hm=>by
    have q:(H b).isSome=true:=(List.mem_filter.mp hm).2
    rw [n] at q;simp at q
theorem of_hidT {h:Heap} {H:Hp} {b:Addr} {o:Obj} (e:(hidT h H).get? b=some o):h.get? b=some o/\H b=none:=by
  have e':h.get? b=some o:=PySem.W.of_hideAll (trk h H) e
  refine ⟨e',?_⟩
  cases q:H b with
  | none=>rfl
  | some x =>
    have hm:b ∈ trk h H:=List.mem_filter.mpr ⟨List.mem_range.mpr (Heap.lt_size e'),by simp [q]⟩
    have z:(hidT h H).get? b=none:=PySem.W.hideAll_none (trk h H) hm
    rw [z] at e;cases e
noncomputable def allNews (g h:Heap) (L:Addr):List (Addr × Obj):=(List.range h.objs.size).filterMap fun a=>if a=L\/(g.get? a).isSome=true then none else (h.get? a).map fun o=>(a,o)
noncomputable def rest (g h:Heap) (L d:Addr):List (Addr × Obj):=(allNews g h L).filter fun p=>decide (p.1 ≠ d)
end L2
namespace L2
open PySem PySem.Spec PyProof.Rows
structure Mod (K:PySem.W.Frag) (mg:Str->Option Value) (base:Heap):Prop where
  kin:K.In base
  glob:base.Ns mainGlobals mg
  blt:∃ mb,base.Ns builtinsNs mb/\∀ x:Str,x ≠ "__name__" -> mb x=bootBuiltins x
  nolimit:base.NoLimit
structure Cx where
  prog:Program
  w:World
  K:PySem.W.Frag
  mg:Str->Option Value
  base:Heap
  A:Around
  N:List Str
  s₀:Shared
  H₀:Hp
  env:Env
  outer:List Env
  stack:List Env
  ex:List Addr
  fn:Str->Bool
  calm:Bool
  pn:List (Addr × Obj)
  xe:Value->Shared->Prop
noncomputable def frs (l:List Env):List Addr:=l.filterMap (·.frame)
noncomputable abbrev Cx.fs (X:Cx):List Addr:=frs X.outer
noncomputable def Vis (sc:Scope) (x:Str):Prop:=sc.names.lookup x=some .local\/sc.names.lookup x=some .cell\/sc.names.lookup x=some .free
noncomputable def Loc (sc:Scope) (x:Str):Prop:=sc.names.lookup x=some .local\/sc.names.lookup x=some .cell
noncomputable def Look (env:Env) (h:Heap) (m:Str->Option Value) (x:Str) (u:Value):Prop :=
  (env.kindOf x=some .local/\m x=some u)\/((env.kindOf x=some .cell\/env.kindOf x=some .free)/\∃ c,env.cells.lookup x=some c/\h.IsCell c (some u))
structure Cx.Ok (X:Cx):Prop where
  mod:Mod X.K X.mg X.base
  kind:X.env.scope.kind = .function
  glob:X.env.globals=mainGlobals
  blt:X.env.builtins=builtinsNs
  above:X.s₀.heap.objs.size<=X.env.locals
  inj:∀ x y c,X.env.cells.lookup x=some c->X.env.cells.lookup y=some c->x=y
  has:∀ x,(X.env.kindOf x=some .cell\/X.env.kindOf x=some .free)->∃ c,X.env.cells.lookup x=some c
  cab:∀ x c,X.fn x=true->X.env.cells.lookup x=some c->X.s₀.heap.objs.size<=c
  hd:X.calm=true->X.A.handled=none
  frames:X.A.frames=some X.stack
  stk:X.stack=X.outer\/(X.stack=X.env :: X.outer/\X.env.frame=some X.env.locals)
  exf:∀ b ∈ X.ex,b ≠ X.env.locals/\∀ x c,X.env.cells.lookup x=some c->c ≠ b
  bs:∀ b o,X.base.get? b=some o->X.s₀.heap.get? b=some o/\X.H₀ b=none
  bsz:X.base.objs.size<=X.s₀.heap.objs.size
  noex:∀ b o,X.base.get? b=some o->b ∉ X.ex
  exfs:∀ b ∈ X.ex,b ∉ X.fs
  funs:X.s₀.heap.FunFrames X.base X.outer
  frf:∀ b ∈ X.fs,X.H₀ b=none
structure Inv (X:Cx) (pins:List (Addr × Obj)) (σ:List (Option V)) (H:Hp) (s:Shared):Prop where
  ok:X.Ok
  os:s.os=X.s₀.os
  bare:AllBare s.gens
  base:Un X.fs X.ex X.H₀ H X.s₀.heap s.heap
  loc:∃ m,s.heap.Ns X.env.locals m/\∀ (i:Nat) (x:Str) (v:V),X.N[i]?=some x->σ[i]?=some (some v)->Vis X.env.scope x->∃ u,RelV v u/\Look X.env s.heap m x u
  cell:∀ x c,X.env.cells.lookup x=some c->∃ v,s.heap.IsCell c v
  free:H X.env.locals=none
  freeC:∀ x c,X.env.cells.lookup x=some c->H c=none
  pin:∀ p ∈ X.pn ++ pins,s.heap.get? p.1=some p.2/\H p.1=none/\p.1 ≠ X.env.locals/\p.1 ∉ X.fs/\∀ v,p.2.data ≠ .cell v
  hok:HOk X.prog X.w H s.heap
  len:σ.length=X.N.length
section
variable {X:Cx} {pins:List (Addr × Obj)} {σ:List (Option V)} {H H':Hp} {s:Shared} {h':Heap}
theorem Cx.Ok.nofr (ok:X.Ok) {b:Addr} {o:Obj} (e:X.base.get? b=some o):b ∉ X.fs:=fun hb=>by
  have:=(ok.funs.mem hb).1
  rw [e] at this;cases this
theorem Inv.bs (I:Inv X pins σ H s):∀ b o,X.base.get? b=some o->s.heap.get? b=some o/\H b=none:=fun b o e =>
  ⟨I.base.keep b o (I.ok.bs b o e).1 (I.ok.bs b o e).2 (I.ok.nofr e) (I.ok.noex b o e),I.base.free b o (I.ok.bs b o e).1 (I.ok.bs b o e).2 (I.ok.noex b o e)⟩
theorem Inv.bk (I:Inv X pins σ H s):∀ b o,X.base.get? b=some o->s.heap.get? b=some o:=fun b o e=>(I.bs b o e).1
theorem Inv.mod (I:Inv X pins σ H s):Mod X.K X.mg X.base:=I.ok.mod
theorem Inv.kIn (I:Inv X pins σ H s):X.K.In s.heap:=I.ok.mod.kin.keeps I.bk
theorem Inv.nolimit (I:Inv X pins σ H s):s.heap.NoLimit:=I.ok.mod.nolimit.keeps I.bk
theorem Inv.lt (I:Inv X pins σ H s):X.env.locals < s.heap.objs.size:=let ⟨_,hn,_⟩:=I.loc;hn.lt
theorem Inv.sz (I:Inv X pins σ H s):X.s₀.heap.objs.size<=s.heap.objs.size:=Nat.le_trans I.ok.above (Nat.le_of_lt I.lt)
theorem Inv.nofs (I:Inv X pins σ H s) {a:Addr} (h:s.heap.objs.size<=a):a ∉ X.fs:=fun hb=>by
  obtain ⟨_,o,ho,_⟩:=I.ok.funs.mem hb
  exact absurd (Nat.lt_of_lt_of_le (Heap.lt_size ho) (Nat.le_trans I.sz h)) (Nat.lt_irrefl _)
theorem Inv.cne (I:Inv X pins σ H s):∀ x c,X.env.cells.lookup x=some c->c ≠ X.env.locals:=fun x c e z=>by
  obtain ⟨v,o,ho,hd⟩:=I.cell x c e
  obtain ⟨m,⟨o',es,ep,ho',hd',_⟩,_⟩:=I.loc
  rw [z,ho'] at ho;cases ho;rw [hd'] at hd;cases hd
theorem Inv.funs (I:Inv X pins σ H s):s.heap.FunFrames X.base X.outer:=by
  have all:∀ (l:List Env),(∀ b ∈ frs l,b ∈ X.fs)->X.s₀.heap.FunFrames X.base l->s.heap.FunFrames X.base l:=by
    intro l
    induction l with
    | nil=>intro _ _;trivial
    | cons env r ih =>
      intro hs hl
      obtain ⟨hk,⟨L,o,hf,hn,ho,hd⟩,hr⟩:=hl
      have hL:L ∈ X.fs:=hs L (by unfold frs;rw [List.filterMap_cons,hf];exact List.mem_cons_self)
      obtain ⟨sl,e⟩:=I.base.slot L o ho (I.ok.frf L hL) hL fun z=>I.ok.exfs L z hL
      exact ⟨hk,⟨L,_,hf,hn,e,hd⟩,ih (fun b hb=>hs b (by unfold frs;rw [List.filterMap_cons,hf];exact List.mem_cons_of_mem _ hb)) hr⟩
  exact all X.outer (fun _ hb=>hb) I.ok.funs
theorem Inv.stack (I:Inv X pins σ H s):s.heap.FunFrames X.base X.stack:=by
  rcases I.ok.stk with e | ⟨e,hf⟩
  . rw [e];exact I.funs
  . rw [e]
    obtain ⟨m,hn,_⟩:=I.loc
    refine .cons (by rw [I.ok.kind];decide) hf hn ?_ I.funs
    exact Heap.get?_none_of_le (Nat.le_trans I.ok.bsz I.ok.above)
theorem Inv.stkSub (I:Inv X pins σ H s):∀ b ∈ frs X.stack,b ∈ X.env.locals :: X.fs:=fun b hb=>by
  rcases I.ok.stk with e | ⟨e,hf⟩
  . rw [e] at hb;exact List.mem_cons_of_mem _ hb
  . rw [e] at hb
    unfold frs at hb
    rw [List.filterMap_cons,hf] at hb
    exact hb
theorem Inv.stkFree (I:Inv X pins σ H s):∀ b ∈ frs X.stack,H b=none:=fun b hb=>by
  rcases List.mem_cons.mp (I.stkSub b hb) with e | hb
  . rw [e];exact I.free
  . obtain ⟨_,o,ho,_⟩:=I.ok.funs.mem hb
    exact I.base.free b o ho (I.ok.frf b hb) fun z=>I.ok.exfs b z hb
theorem Inv.step {g':Array GenState} {t':Nat} {d':Drawn} {ch:List Addr} (I:Inv X pins σ H s)
    (hch:∀ b ∈ ch,(b ∈ X.ex\/X.s₀.heap.objs.size<=b)/\b ≠ X.env.locals/\(∀ x c,X.env.cells.lookup x=some c->c ≠ b)/\∀ p ∈ X.pn ++ pins,p.1 ≠ b)
    (keep:∀ b o,b ≠ X.env.locals->b ∉ X.fs->b ∉ ch->s.heap.get? b=some o->H b=none->h'.get? b=some o)
    (slot:∀ b o,b ≠ X.env.locals->b ∈ X.fs->b ∉ ch->s.heap.get? b=some o->H b=none->∃ sl,h'.get? b=some { o with slots:=sl }) (free:∀ b o,b ∉ ch->s.heap.get? b=some o->H b=none->H' b=none)
    (there:∀ b o,b ∉ ch->s.heap.get? b=some o->∃ o',h'.get? b=some o')
    (tups:∀ b xs,H b=some (.tup xs)->H' b=some (.tup xs)) (frzs:∀ b o u,H b=some (.frz o u)->H' b=some (.frz o u)) (tbls:∀ b ps,H b=some (.tbl ps)->∃ more,H' b=some (.tbl (ps ++ more)))
    (ns:∀ m,s.heap.Ns X.env.locals m->h'.Ns X.env.locals m) (hok:HOk X.prog X.w H' h') (hg:AllBare g') :
    Inv X pins σ H' { s with heap:=h',gens:=g',drawn:=d',toks:=t' }:=by
  have neL:∀ b o,X.s₀.heap.get? b=some o->b ≠ X.env.locals:=fun b o e=>Nat.ne_of_lt (Nat.lt_of_lt_of_le (Heap.lt_size e) I.ok.above)
  have neC:∀ b o,X.s₀.heap.get? b=some o->b ∉ X.ex->b ∉ ch:=fun b o e hx hb=>by
    rcases (hch b hb).1 with z | z
    . exact hx z
    . exact absurd (Nat.lt_of_lt_of_le (Heap.lt_size e) z) (Nat.lt_irrefl _)
  have cellK:∀ x c,X.env.cells.lookup x=some c->∀ v,s.heap.IsCell c v->h'.IsCell c v:=fun x c e v ⟨o,ho,hd⟩=>by
    have nch:c ∉ ch:=fun z=>(hch c z).2.2.1 x c e rfl
    by_cases hc:c ∈ X.fs
    . obtain ⟨sl,q⟩:=slot c o (I.cne x c e) hc nch ho (I.freeC x c e)
      exact ⟨_,q,hd⟩
    . exact ⟨o,keep c o (I.cne x c e) hc nch ho (I.freeC x c e),hd⟩
  refine ⟨I.ok,I.os,hg,⟨fun b o e n hb hx=>?_,fun b o e n hb hx=>?_,fun b o e n hx=>?_,fun b o e hx=>?_,fun b xs e=>tups b xs (I.base.tups b xs e),fun b o xs e=>frzs b o xs (I.base.frzs b o xs e),fun b ps e=>?_⟩,?_,fun x c e=>?_,?_,fun x c e=>?_,fun p hp=>?_,hok,I.len⟩
  . exact keep b o (neL b o e) hb (neC b o e hx) (I.base.keep b o e n hb hx) (I.base.free b o e n hx)
  . obtain ⟨sl,e1⟩:=I.base.slot b o e n hb hx
    obtain ⟨sl',e2⟩:=slot b _ (neL b o e) hb (neC b o e hx) e1 (I.base.free b o e n hx)
    exact ⟨sl',e2⟩
  . obtain ⟨o',e1⟩:=I.base.there b o e hx
    exact free b o' (neC b o e hx) e1 (I.base.free b o e n hx)
  . obtain ⟨o',e1⟩:=I.base.there b o e hx
    exact there b o' (neC b o e hx) e1
  . obtain ⟨m1,e1⟩:=I.base.tbls b ps e
    obtain ⟨m2,e2⟩:=tbls b _ e1
    exact ⟨m1 ++ m2,by rw [e2,Array.append_assoc]⟩
  . obtain ⟨m,hn,hl⟩:=I.loc
    refine ⟨m,ns m hn,fun i x v e1 e2 e3=>?_⟩
    obtain ⟨u,r,l⟩:=hl i x v e1 e2 e3
    refine ⟨u,r,?_⟩
    rcases l with l | ⟨k,c,e,z⟩
    . exact .inl l
    . exact .inr ⟨k,c,e,cellK x c e _ z⟩
  . obtain ⟨v,z⟩:=I.cell x c e
    exact ⟨v,cellK x c e v z⟩
  . obtain ⟨m,⟨o,_,_,ho,_⟩,_⟩:=I.loc
    exact free _ o (fun z=>(hch _ z).2.1 rfl) ho I.free
  . obtain ⟨v,o,ho,hd⟩:=I.cell x c e
    exact free c o (fun z=>(hch c z).2.2.1 x c e rfl) ho (I.freeC x c e)
  . obtain ⟨e,n,ne,nf,d⟩:=I.pin p hp
    have nch:p.1 ∉ ch:=fun z=>(hch p.1 z).2.2.2 p hp rfl
    exact ⟨keep p.1 p.2 ne nf nch e n,free p.1 p.2 nch e n,ne,nf,d⟩
theorem Inv.un {t':Nat} (I:Inv X pins σ H s) (u:Un X.fs [] H H' s.heap h') (hok:HOk X.prog X.w H' h'):Inv X pins σ H' { s with heap:=h',toks:=t' }:=by
  obtain ⟨m,⟨o,es,ep,ho,r⟩,_⟩:=id I.loc
  obtain ⟨sl,hL⟩:=u.any ho I.free (by simp)
  exact I.step (g':=s.gens) (d':=s.drawn) (ch:=[]) (fun _ z=>nomatch z) (fun b o _ hb _ e n=>u.keep b o e n hb (by simp)) (fun b o _ hb _ e n=>u.slot b o e n hb (by simp)) (fun b o _ e n=>u.free b o e n (by simp)) (fun b o _ e=>u.there b o e (by simp)) u.tups u.frzs u.tbls (fun m' hm=>by
    obtain ⟨o',es',ep',ho',r'⟩:=hm
    rw [ho] at ho';cases ho'
    exact ⟨_,es',ep',hL,r'⟩) hok I.bare
theorem Inv.call {g':Array GenState} {t':Nat} {d':Drawn} {ch:List Addr} (I:Inv X pins σ H s) (u:Un (frs X.stack) ch H H' s.heap h') (hok:HOk X.prog X.w H' h') (hg:AllBare g')
    (hch:∀ b ∈ ch,(b ∈ X.ex\/X.s₀.heap.objs.size<=b)/\b ≠ X.env.locals/\(∀ x c,X.env.cells.lookup x=some c->c ≠ b)/\∀ p ∈ X.pn ++ pins,p.1 ≠ b) :
    Inv X pins σ H' { s with heap:=h',gens:=g',drawn:=d',toks:=t' }:=by
  obtain ⟨m,⟨o,es,ep,ho,r⟩,_⟩:=id I.loc
  obtain ⟨sl,hL⟩:=u.any ho I.free fun z=>(hch _ z).2.1 rfl
  exact I.step (ch:=ch) hch (fun b o hL hb hc e n=>u.keep b o e n (fun z=>(List.mem_cons.mp (I.stkSub b z)).elim hL hb) hc) (fun b o _ _ hc e n=>u.any e n hc) (fun b o hc e n=>u.free b o e n hc) (fun b o hc e=>u.there b o e hc) u.tups u.frzs u.tbls (fun m' hm=>by
    obtain ⟨o',es',ep',ho',r'⟩:=hm
    rw [ho] at ho';cases ho'
    exact ⟨_,es',ep',hL,r'⟩) hok hg
theorem Inv.turned {t':Nat} {it:Addr} (I:Inv X pins σ H s) (k:∀ b o,b ≠ it->s.heap.get? b=some o->h'.get? b=some o) (hn:H it=none) (hL:it ≠ X.env.locals)
    (h1:it ∈ X.ex\/X.s₀.heap.objs.size<=it) (h2:∀ x c,X.env.cells.lookup x=some c->c ≠ it) (h3:∀ p ∈ X.pn ++ pins,p.1 ≠ it):Inv X pins σ H { s with heap:=h',toks:=t' }:=by
  have nit:∀ b u,H b=some u->b ≠ it:=fun b u e z=>by rw [z,hn] at e;cases e
  refine I.step (g':=s.gens) (d':=s.drawn) (ch:=[it]) (fun b hb=>?_) (fun b o _ _ hc e _=>k b o (fun z=>hc (by simp [z])) e) (fun b o _ _ hc e _=>⟨o.slots,k b o (fun z=>hc (by simp [z])) e⟩) (fun _ _ _ _ n=>n)
    (fun b o hc e=>⟨o,k b o (fun z=>hc (by simp [z])) e⟩) (fun _ _ e=>e) (fun _ _ _ e=>e) (fun b ps e=>⟨#[],by rw [e];simp⟩) (fun m hm=>?_) (fun b u e=>?_) I.bare
  . have e:b=it:=by simpa using hb
    subst e
    exact ⟨h1,hL,h2,h3⟩
  . obtain ⟨o,es,ep,ho,r⟩:=hm
    exact ⟨o,es,ep,k _ o (Ne.symm hL) ho,r⟩
  . refine (I.hok b u e).stay (fun c v hc q=>k c v ?_ q) (fun _ q=>q) fun _ _ q=>q
    rcases hc with z | z
    . rw [z];exact nit b u e
    . exact nit c _ z
theorem Inv.tok (I:Inv X pins σ H s) (t:Nat):Inv X pins σ H { s with toks:=t }:=I.un (h':=s.heap) (t':=t) Un.refl I.hok
theorem Inv.kept {t':Nat} (I:Inv X pins σ H s) (k:∀ b u,s.heap.get? b=some u->h'.get? b=some u):Inv X pins σ H { s with heap:=h',toks:=t' }:=I.un (Un.kept k) (I.hok.kept k)
theorem Inv.laid {a:Addr} {o:HO} {t':Nat} (I:Inv X pins σ H s) (k:∀ b u,s.heap.get? b=some u->h'.get? b=some u) (hp:s.heap.objs.size<=a) (new:ObjOk X.prog X.w (upd H a o) h' a o) :
    Inv X pins σ (upd H a o) { s with heap:=h',toks:=t' }:=I.un (Un.laid k hp (I.hok.fresh hp)) (I.hok.laid k hp new)
theorem Inv.write {x e:Addr} {o:HO} {t':Nat} (I:Inv X pins σ H s) (mu:Mut (H x)) (he:e=x\/H e=some (.own x)) (k:∀ b u,b ≠ e->s.heap.get? b=some u->h'.get? b=some u) (heo:∃ u,h'.get? e=some u)
    (new:ObjOk X.prog X.w (upd H x o) h' x o):Inv X pins σ (upd H x o) { s with heap:=h',toks:=t' }:=I.un (Un.write mu he k heo) (I.hok.write mu he k heo new)
theorem Inv.pins_of {pins':List (Addr × Obj)} (I:Inv X pins σ H s) (h:∀ p ∈ pins',s.heap.get? p.1=some p.2/\H p.1=none/\p.1 ≠ X.env.locals/\p.1 ∉ X.fs/\∀ v,p.2.data ≠ .cell v):Inv X pins' σ H s :=
  ⟨I.ok,I.os,I.bare,I.base,I.loc,I.cell,I.free,I.freeC,fun p hp=>(List.mem_append.mp hp).elim (fun z=>I.pin p (List.mem_append_left _ z)) (h p),I.hok,I.len⟩
theorem nodup_ix {N:List Str} (hN:N.Nodup) {i j:Nat} {x:Str} (a:N[i]?=some x) (b:N[j]?=some x):i=j:=by
  obtain ⟨h1,e1⟩:=List.getElem?_eq_some_iff.mp a
  obtain ⟨h2,e2⟩:=List.getElem?_eq_some_iff.mp b
  exact (List.getElem_inj hN).mp (e1.trans e2.symm)
theorem store_ok2 {M:Model} {A:Around} {E:Value->Shared->Prop} {i:Nat} {x:Str} {v:V} {u:Value} {Q:Unit->Shared->Prop} (I:Inv X pins σ H s) (hN:X.N.Nodup) (hi:X.N[i]?=some x) (hx:Loc X.env.scope x) (r:RelV v u)
    (h:∀ s',Inv X pins (σ.set i (some v)) H s'->(∃ a,Heap.SameBut a s.heap s'.heap/\(a=X.env.locals\/X.env.cells.lookup x=some a))->Q () s') (hf:X.fn x=true\/X.env.scope.names.lookup x=some .local:=by first | exact .inl rfl | exact .inr rfl | assumption):wpAny M A (storeName X.env x u) Q E s:=by
  obtain ⟨m,hn,hl⟩:=id I.loc
  have hcls:(X.env.scope.kind == .class || (X.env.scope.kind == .module && X.env.locals != X.env.globals))=false:=by rw [I.ok.kind];rfl
  have hiσ:i < σ.length:=by rw [I.len];exact (List.getElem?_eq_some_iff.mp hi).1
  have cne:=I.cne
  have tracked:∀ {a:Addr} {h':Heap},(∃ o,s.heap.get? a=some o/\H a=none)->Heap.SameBut a s.heap h'->HOk X.prog X.w H h':=fun {a h'} ha hs b ob e=>by
    obtain ⟨_,_,hfree⟩:=ha
    refine (I.hok b ob e).stay (fun c w' hc q=>(hs.2 c ?_).trans q) (fun _ q=>q) fun _ _ q=>q
    rintro rfl
    rcases hc with rfl | hc
    . rw [hfree] at e;cases e
    . rw [hfree] at hc;cases hc
  rcases hx with hk | hk
  . refine wpAny_storeName_local hk hn (fun h' hn' hs=>?_) hcls
    obtain ⟨oL,_,_,hoL,_⟩:=id hn
    refine h _ ⟨I.ok,I.os,I.bare,⟨fun b o e n hb hx=>?_,fun b o e n hb hx=>?_,I.base.free,fun b o e hx=>?_,I.base.tups,I.base.frzs,I.base.tbls⟩,⟨_,hn',fun j y v' e1 e2 e3=>?_⟩,fun y c e=>?_,I.free,I.freeC,fun p hp=>?_,tracked ⟨oL,hoL,I.free⟩ hs,by simpa using I.len⟩ ⟨_,hs,.inl rfl⟩
    . exact (hs.2 b (Nat.ne_of_lt (Nat.lt_of_lt_of_le (Heap.lt_size e) I.ok.above))).trans (I.base.keep b o e n hb hx)
    . obtain ⟨sl,e1⟩:=I.base.slot b o e n hb hx
      exact ⟨sl,(hs.2 b (Nat.ne_of_lt (Nat.lt_of_lt_of_le (Heap.lt_size e) I.ok.above))).trans e1⟩
    . obtain ⟨o',e1⟩:=I.base.there b o e hx
      exact ⟨o',(hs.2 b (Nat.ne_of_lt (Nat.lt_of_lt_of_le (Heap.lt_size e) I.ok.above))).trans e1⟩
    . by_cases hj:j=i
      . subst hj
        rw [hi] at e1;cases e1
        rw [List.getElem?_set_self hiσ] at e2
        cases e2
        exact ⟨u,r,.inl ⟨hk,by simp⟩⟩
      . rw [List.getElem?_set_ne (Ne.symm hj)] at e2
        obtain ⟨u',r',q⟩:=hl j y v' e1 e2 e3
        refine ⟨u',r',?_⟩
        rcases q with ⟨k,e⟩ | ⟨k,c,e,z⟩
        . refine .inl ⟨k,?_⟩
          have:y ≠ x:=fun e=>hj (nodup_ix hN e1 (e ▸ hi))
          simp [this,e]
        . exact .inr ⟨k,c,e,z.sameBut hs (cne y c e)⟩
    . obtain ⟨w',z⟩:=I.cell y c e
      exact ⟨w',z.sameBut hs (cne y c e)⟩
    . obtain ⟨e,n,ne,nf,d⟩:=I.pin p hp
      exact ⟨(hs.2 p.1 ne).trans e,n,ne,nf,d⟩
  . have hfn:X.fn x=true:=by
      rcases hf with z | z
      . exact z
      . rw [z] at hk;cases hk
    obtain ⟨c,hc⟩:=I.ok.has x (.inl hk)
    obtain ⟨w',z⟩:=I.cell x c hc
    refine wpAny_storeName_cell I.ok.kind hk hc z (fun h' hc' hs=>?_)
    obtain ⟨oc,hoc,hocd⟩:=id z
    refine h { s with heap:=h' } ⟨I.ok,I.os,I.bare,⟨fun b o e n hb hx=>?_,fun b o e n hb hx=>?_,I.base.free,fun b o e hx=>?_,I.base.tups,I.base.frzs,I.base.tbls⟩,⟨m,hn.sameBut hs (Ne.symm (cne x c hc)),fun j y v' e1 e2 e3=>?_⟩,fun y c' e=>?_,I.free,I.freeC,fun p hp=>?_,tracked ⟨oc,hoc,I.freeC x c hc⟩ hs,by simpa using I.len⟩ ⟨c,hs,.inr hc⟩
    . exact (hs.2 b (Nat.ne_of_lt (Nat.lt_of_lt_of_le (Heap.lt_size e) (I.ok.cab x c hfn hc)))).trans (I.base.keep b o e n hb hx)
    . obtain ⟨sl,e1⟩:=I.base.slot b o e n hb hx
      exact ⟨sl,(hs.2 b (Nat.ne_of_lt (Nat.lt_of_lt_of_le (Heap.lt_size e) (I.ok.cab x c hfn hc)))).trans e1⟩
    . obtain ⟨o',e1⟩:=I.base.there b o e hx
      exact ⟨o',(hs.2 b (Nat.ne_of_lt (Nat.lt_of_lt_of_le (Heap.lt_size e) (I.ok.cab x c hfn hc)))).trans e1⟩
    . by_cases hj:j=i
      . subst hj
        rw [hi] at e1;cases e1
        rw [List.getElem?_set_self hiσ] at e2
        cases e2
        exact ⟨u,r,.inr ⟨.inl hk,c,hc,hc'⟩⟩
      . rw [List.getElem?_set_ne (Ne.symm hj)] at e2
        obtain ⟨u',r',q⟩:=hl j y v' e1 e2 e3
        refine ⟨u',r',?_⟩
        rcases q with q | ⟨k,c',e,z'⟩
        . exact .inl q
        . refine .inr ⟨k,c',e,z'.sameBut hs ?_⟩
          rintro rfl
          exact hj (nodup_ix hN e1 (I.ok.inj _ _ _ e hc ▸ hi))
    . by_cases hcc:c'=c
      . subst hcc;exact ⟨_,hc'⟩
      . obtain ⟨w2,z2⟩:=I.cell y c' e
        exact ⟨w2,z2.sameBut hs hcc⟩
    . obtain ⟨e,n,ne,nf,d⟩:=I.pin p hp
      refine ⟨(hs.2 p.1 ?_).trans e,n,ne,nf,d⟩
      intro q
      rw [q,hoc] at e
      have q':oc=p.2:=Option.some.inj e
      exact d w' (by rw [<- q'];exact hocd)
theorem store_ok {M:Model} {A:Around} {E:Value->Shared->Prop} {i:Nat} {x:Str} {v:V} {u:Value} {Q:Unit->Shared->Prop} (I:Inv X pins σ H s) (hN:X.N.Nodup) (hi:X.N[i]?=some x) (hx:Loc X.env.scope x) (r:RelV v u)
    (h:∀ s',Inv X pins (σ.set i (some v)) H s'->Q () s') (hf:X.fn x=true\/X.env.scope.names.lookup x=some .local:=by first | exact .inl rfl | exact .inr rfl | assumption):wpAny M A (storeName X.env x u) Q E s :=
  store_ok2 I hN hi hx r (fun s' I' _=>h s' I') hf
theorem Inv.call' {s':Shared} {ch:List Addr} (I:Inv X pins σ H s) (ho:s'.os=s.os) (u:Un (frs X.stack) ch H H' s.heap s'.heap) (hok:HOk X.prog X.w H' s'.heap) (hg:AllBare s'.gens)
    (hch:∀ b ∈ ch,(b ∈ X.ex\/X.s₀.heap.objs.size<=b)/\b ≠ X.env.locals/\(∀ x c,X.env.cells.lookup x=some c->c ≠ b)/\∀ p ∈ X.pn ++ pins,p.1 ≠ b):Inv X pins σ H' s':=by
  obtain ⟨h',g',d',t',o'⟩:=s'
  have e:o'=s.os:=ho
  subst e
  exact I.call (g':=g') (t':=t') (d':=d') u hok hg hch
end
noncomputable abbrev XK:=Value->Option Addr->Hp->Prop
noncomputable abbrev St:=List (Option V)
noncomputable abbrev VK:=V->Hp->Prop
noncomputable abbrev TE:=St->Hp->VK->Prop
noncomputable abbrev TT:=St->Hp->(Bool->Hp->Prop)->Prop
noncomputable abbrev TA:=St->Hp->(List V->Hp->Prop)->Prop
structure Ends where
  nx:St->Hp->Prop
  rt:VK
  bk:St->Hp->Prop:=fun _ _=>False
  ct:St->Hp->Prop:=fun _ _=>False
noncomputable abbrev TS:=Ends->St->Hp->Prop
noncomputable def EP (X:Cx) (pins:List (Addr × Obj)) (σ:St) (Q:VK) (u:Value) (s':Shared):Prop:=∃ v H',Inv X pins σ H' s'/\RelV v u/\Q v H'
noncomputable def TP (X:Cx) (pins:List (Addr × Obj)) (σ:St) (Q:Bool->Hp->Prop) (b:Bool) (s':Shared):Prop:=∃ H',Inv X pins σ H' s'/\Q b H'
noncomputable def AP (X:Cx) (pins:List (Addr × Obj)) (σ:St) (Q:List V->Hp->Prop) (us:List Value) (s':Shared):Prop:=∃ vs H',Inv X pins σ H' s'/\Vals vs us/\Q vs H'
noncomputable def SP (X:Cx) (pins:List (Addr × Obj)) (D:Ends) (f:Flow) (s':Shared):Prop :=
  match f with
  | .next=>∃ σ' H',Inv X pins σ' H' s'/\D.nx σ' H'
  | .brk=>∃ σ' H',Inv X pins σ' H' s'/\D.bk σ' H'
  | .cont=>∃ σ' H',Inv X pins σ' H' s'/\D.ct σ' H'
  | .ret u=>∃ v σ' H',Inv X pins σ' H' s'/\RelV v u/\D.rt v H'
noncomputable def PE (X:Cx) (e:Expr) (t:TE):Prop :=
  ∀ (pins:List (Addr × Obj)) (s:Shared) (σ:St) (H:Hp) (Q:VK),Inv X pins σ H s->t σ H Q->wpAny (model X.prog X.w) X.A (eval e X.env) (EP X pins σ Q) X.xe s
noncomputable def PT (X:Cx) (e:Expr) (t:TT):Prop :=
  ∀ (pins:List (Addr × Obj)) (s:Shared) (σ:St) (H:Hp) (Q:Bool->Hp->Prop),Inv X pins σ H s->t σ H Q->wpAny (model X.prog X.w) X.A (isTrue e X.env (eval e X.env)) (TP X pins σ Q) X.xe s
noncomputable def PW (X:Cx) (e:Expr) (t:TT):Prop :=
  ∀ (whole:Sem Value) (pins:List (Addr × Obj)) (s:Shared) (σ:St) (H:Hp) (Q:Bool->Hp->Prop),Inv X pins σ H s->t σ H Q->wpAny (model X.prog X.w) X.A (isTrue e X.env whole) (TP X pins σ Q) X.xe s
theorem PW.pt {X:Cx} {e:Expr} {t:TT} (h:PW X e t):PT X e t:=h _
noncomputable def PA (X:Cx) (es:List Expr) (t:TA):Prop :=
  ∀ (pos:Pos) (pins:List (Addr × Obj)) (s:Shared) (σ:St) (H:Hp) (Q:List V->Hp->Prop),Inv X pins σ H s->t σ H Q->wpAny (model X.prog X.w) X.A (spliced (backTo pos (starEach es X.env))) (AP X pins σ Q) X.xe s
noncomputable def PS (X:Cx) (st:Stmt) (t:TS):Prop :=
  ∀ (pins:List (Addr × Obj)) (s:Shared) (σ:St) (H:Hp) (D:Ends),Inv X pins σ H s->t D σ H->wpAny (model X.prog X.w) X.A (exec st X.env) (SP X pins D) X.xe s
noncomputable def PSs (X:Cx) (st:List Stmt) (t:TS):Prop :=
  ∀ (pins:List (Addr × Obj)) (s:Shared) (σ:St) (H:Hp) (D:Ends),Inv X pins σ H s->t D σ H->wpAny (model X.prog X.w) X.A (execs st X.env) (SP X pins D) X.xe s
theorem thn {α:Type} {t:Sem α} {Q Q':α->Shared->Prop} {M:Model} {A:Around} {E:Value->Shared->Prop} {s:Shared} (h:wpAny M A t Q E s) (hQ:∀ a s,Q a s->Q' a s):wpAny M A t Q' E s:=wpAny_mono h hQ fun _ _ x=>x
end L2
namespace L2
open PySem PySem.Spec PyProof.Rows
section
variable {X:Cx}
theorem bin {a b:Expr} {ta tb:TE} (ha:PE X a ta) (hb:PE X b tb) {pins:List (Addr × Obj)} {s:Shared} {σ:St} {H:Hp} {R:V->V->Hp->Prop} (I:Inv X pins σ H s) (h:ta σ H fun x H1=>tb σ H1 fun y H2=>R x y H2)
    {α:Type} {Q:α->Shared->Prop} {f:Value->Value->Sem α}
    (hf:∀ v u s2 x y H2,Inv X pins σ H2 s2->RelV x v->RelV y u->R x y H2->wpAny (model X.prog X.w) X.A (f v u) Q X.xe s2) :
    wpAny (model X.prog X.w) X.A (eval a X.env) (fun v s₁=>wpAny (model X.prog X.w) X.A (eval b X.env) (fun u s₂=>wpAny (model X.prog X.w) X.A (f v u) Q X.xe s₂) X.xe s₁) X.xe s:=by
  refine thn (ha pins s σ H _ I h) fun v s1 ⟨x,H1,I1,r1,q1⟩=>?_
  refine thn (hb pins s1 σ H1 _ I1 q1) fun u s2 ⟨y,H2,I2,r2,q2⟩=>?_
  exact hf v u s2 x y H2 I2 r1 r2 q2
noncomputable def tVar (i:Nat):TE:=fun σ H Q=>∃ v,σ[i]?=some (some v)/\Q v H
noncomputable def tC (v:V):TE:=fun _ H Q=>Q v H
theorem pe_var {i:Nat} {x:Str} {pos:Pos} (hN:X.N[i]?=some x) (hv:Vis X.env.scope x) (hd:(x == ("__debug__" : Str))=false:=by decide) (hcd:(x == ("__classdict__" : Str))=false:=by decide):PE X (.Name x pos) (tVar i):=by
  intro pins s σ H Q I h
  obtain ⟨v,e,h⟩:=h
  obtain ⟨m,hn,hl⟩:=I.loc
  obtain ⟨u,r,l⟩:=hl i x v hN e hv
  have fin:EP X pins σ Q u s:=⟨v,H,I,r,h⟩
  rcases l with ⟨hk,hm⟩ | ⟨hk,c,hc,hcell⟩
  . exact wpAny_Name (wpAny_loadName_local I.ok.kind hk hn hm fin) hd
  . rcases hk with hk | hk
    . exact wpAny_Name (wpAny_loadName_cell I.ok.kind hk hc hcell fin) hd
    . exact wpAny_Name (wpAny_loadName_free I.ok.kind hk hc hcell fin hcd) hd
theorem pe_int {i j pos}:PE X (.Constant (.int i) j pos) (tC (.int i)):=fun _ _ _ H _ I h=>wpAny_Constant_int ⟨.int i,H,I.tok _,⟨_,rfl⟩,h⟩
theorem pe_bl {b j pos}:PE X (.Constant (.bool b) j pos) (tC (.bl b)):=fun _ _ _ H _ I h=>Constant_bool ⟨.bl b,H,I,rfl,h⟩
theorem pe_non {j pos}:PE X (.Constant .none j pos) (tC .non):=fun _ _ _ H _ I h=>Constant_none ⟨.non,H,I,rfl,h⟩
theorem pe_str {x j pos}:PE X (.Constant (.str x) j pos) (tC (.str x)):=fun _ _ _ H _ I h=>Calls.Constant_str ⟨.str x,H,I.tok _,⟨_,rfl⟩,h⟩
noncomputable def Gl (X:Cx) (x:Str):Prop:=X.env.kindOf x=some .globalImplicit
theorem ld_glob {E:Value->Shared->Prop} {pins:List (Addr × Obj)} {s:Shared} {σ:St} {H:Hp} {x:Str} {u:Value} {pos:Pos} {Q:Value->Shared->Prop} (I:Inv X pins σ H s) (hg:Gl X x) (hm:X.mg x=some u) (h:Q u s)
    (hd:(x == ("__debug__" : Str))=false:=by decide):wpAny (model X.prog X.w) X.A (eval (.Name x pos) X.env) Q E s :=
  Calls.Name_function_global I.ok.kind hg (Calls.loadGlobal_global (by rw [I.ok.glob];exact I.mod.glob.keeps I.bk) hm h) hd
theorem ld_blt {E:Value->Shared->Prop} {pins:List (Addr × Obj)} {s:Shared} {σ:St} {H:Hp} {x:Str} {u:Value} {pos:Pos} {Q:Value->Shared->Prop} (I:Inv X pins σ H s) (hg:Gl X x) (hm:X.mg x=none) (hv:bootBuiltins x=some u) (h:Q u s)
    (hn:x ≠ "__name__" := by decide) (hd:(x == ("__debug__" : Str))=false:=by decide):wpAny (model X.prog X.w) X.A (eval (.Name x pos) X.env) Q E s:=by
  obtain ⟨mb,h1,h2⟩:=I.mod.blt
  exact Calls.Name_function_global I.ok.kind hg (Calls.loadGlobal_builtin (by rw [I.ok.glob];exact I.mod.glob.keeps I.bk) hm (by rw [I.ok.blt];exact h1.keeps I.bk) ((h2 x hn).trans hv) h) hd
theorem pe_glob {x:Str} {v:V} {u:Value} {pos:Pos} (hg:Gl X x) (hm:X.mg x=some u) (r:RelV v u) (hd:(x == ("__debug__" : Str))=false:=by decide):PE X (.Name x pos) (tC v) :=
  fun _ _ _ H _ I h=>ld_glob I hg hm ⟨v,H,I,r,h⟩ hd
theorem pe_bltn {x:Str} {v:V} {u:Value} {pos:Pos} (hg:Gl X x) (hm:X.mg x=none) (hv:bootBuiltins x=some u) (r:RelV v u) (hn:x ≠ "__name__" := by decide) (hd:(x == ("__debug__" : Str))=false:=by decide):PE X (.Name x pos) (tC v) :=
  fun _ _ _ H _ I h=>ld_blt I hg hm hv ⟨v,H,I,r,h⟩ hn hd
variable {a b:Expr} {ta tb:TE} {pos:Pos}
noncomputable def PC (X:Cx) (op:CmpOp) (a b:Expr) (t:TE):Prop :=
  ∀ (pins:List (Addr × Obj)) (s:Shared) (σ:St) (H:Hp) (Q:VK),Inv X pins σ H s->t σ H Q ->
    wpAny (model X.prog X.w) X.A (eval a X.env) (fun v s₁=>wpAny (model X.prog X.w) X.A (eval b X.env) (fun u s₂=>wpAny (model X.prog X.w) X.A (compareOp op v u) (EP X pins σ Q) X.xe s₂) X.xe s₁) X.xe s
noncomputable def tB (t:TE):TT:=fun σ H Q=>t σ H fun x H1=>∃ c,x = .bl c/\Q c H1
theorem pt_cmp {op:CmpOp} {t:TE} (h:PC X op a b t) (h1:behindInMarks op b=false:=by first | exact nobehind _ (by decide) (by decide) | rfl):PT X (.Compare a [op] [b] pos) (tB t):=by
  intro pins s σ H Q I hw
  refine wpAny_isTrue_Compare1 (thn (h pins s σ H _ I hw) fun v s1 h1=>thn h1 fun u s2 h2=>thn h2 fun c s3 ⟨x,H1,I1,r1,q1⟩=>?_) h1
  obtain ⟨d,rfl,q⟩:=q1
  cases r1
  exact wpAny_truthy_bool ⟨H1,I1,q⟩
theorem pt_val {e:Expr} {t:TE} (h:PE X e t) (he:∀ whole,isTrue e X.env whole=(do let v <- whole;standAt e.pos;holding [v] (truthy v)):=by intro _;rfl):PT X e (tB t):=by
  intro pins s σ H Q I hw
  refine isTrue_plain (thn (h pins s σ H _ I hw) fun v s1 ⟨x,H1,I1,r1,q1⟩=>?_) (he _)
  obtain ⟨d,rfl,q⟩:=q1
  cases r1
  exact wpAny_truthy_bool ⟨H1,I1,q⟩
variable {tA tB':TT} {rest:List Expr}
noncomputable def tAnd (t u:TT):TT:=fun σ H Q=>t σ H fun c H1=>if c=true then u σ H1 Q else Q false H1
noncomputable def tOr (t u:TT):TT:=fun σ H Q=>t σ H fun c H1=>if c=true then Q true H1 else u σ H1 Q
noncomputable def tNot (t:TT):TT:=fun σ H Q=>t σ H fun c H1=>Q (!c) H1
theorem pw_and1 (ha:PT X a tA):PW X (.BoolOp .And [a] pos) tA:=by
  intro wh pins s σ H Q I h
  refine isTrue_and (thn (ha pins s σ H Q I h) fun c s1 e=>?_)
  cases c with
  | true=>exact isTrue_and_nil e
  | false=>exact e
theorem pw_or1 (ha:PT X a tA):PW X (.BoolOp .Or [a] pos) tA:=by
  intro wh pins s σ H Q I h
  refine isTrue_or (thn (ha pins s σ H Q I h) fun c s1 e=>?_)
  cases c with
  | false=>exact isTrue_or_nil e
  | true=>exact e
theorem pw_and (ha:PT X a tA) (hb:PW X (.BoolOp .And (b :: rest) pos) tB'):PW X (.BoolOp .And (a :: b :: rest) pos) (tAnd tA tB'):=by
  intro wh pins s σ H Q I h
  refine isTrue_and (thn (ha pins s σ H _ I h) fun c s1 ⟨H1,I1,q1⟩=>?_)
  cases c with
  | true=>exact hb wh pins s1 σ H1 Q I1 q1
  | false=>exact ⟨H1,I1,q1⟩
theorem pw_or (ha:PT X a tA) (hb:PW X (.BoolOp .Or (b :: rest) pos) tB'):PW X (.BoolOp .Or (a :: b :: rest) pos) (tOr tA tB'):=by
  intro wh pins s σ H Q I h
  refine isTrue_or (thn (ha pins s σ H _ I h) fun c s1 ⟨H1,I1,q1⟩=>?_)
  cases c with
  | true=>exact ⟨H1,I1,q1⟩
  | false=>exact hb wh pins s1 σ H1 Q I1 q1
theorem pt_not (ha:PT X a tA):PT X (.UnaryOp .Not a pos) (tNot tA):=by
  intro pins s σ H Q I h
  exact isTrue_not (ha pins s σ H (fun c H1=>Q (!c) H1) I h)
noncomputable def tAndV (ta tb:TE):TE:=fun σ H Q=>ta σ H fun x H1=>∃ c,x = .bl c/\if c=true then tb σ H1 Q else Q (.bl false) H1
noncomputable def tOrV (ta tb:TE):TE:=fun σ H Q=>ta σ H fun x H1=>∃ c,x = .bl c/\if c=true then Q (.bl true) H1 else tb σ H1 Q
noncomputable def tNotV (ta:TE):TE:=fun σ H Q=>ta σ H fun x H1=>∃ c,x = .bl c/\Q (.bl (!c)) H1
theorem pe_one {op} {t:TE} (h:PE X a t):PE X (.BoolOp op [a] pos) t:=fun pins s σ H Q I hw=>BoolOp_one (h pins s σ H Q I hw)
theorem pe_and (ha:PE X a ta) (hb:PE X (.BoolOp .And (b :: rest) pos) tb):PE X (.BoolOp .And (a :: b :: rest) pos) (tAndV ta tb):=by
  intro pins s σ H Q I h
  refine BoolOp_and (thn (ha pins s σ H _ I h) fun v s1 ⟨x,H1,I1,r1,q1⟩=>?_)
  obtain ⟨c,rfl,q1⟩:=q1
  cases r1
  refine wpAny_truthy_bool ?_
  cases c with
  | true=>exact hb pins s1 σ H1 Q I1 q1
  | false=>exact ⟨.bl false,H1,I1,rfl,q1⟩
theorem pe_or (ha:PE X a ta) (hb:PE X (.BoolOp .Or (b :: rest) pos) tb):PE X (.BoolOp .Or (a :: b :: rest) pos) (tOrV ta tb):=by
  intro pins s σ H Q I h
  refine BoolOp_or (thn (ha pins s σ H _ I h) fun v s1 ⟨x,H1,I1,r1,q1⟩=>?_)
  obtain ⟨c,rfl,q1⟩:=q1
  cases r1
  refine wpAny_truthy_bool ?_
  cases c with
  | false=>exact hb pins s1 σ H1 Q I1 q1
  | true=>exact ⟨.bl true,H1,I1,rfl,q1⟩
theorem pe_not (ha:PE X a ta):PE X (.UnaryOp .Not a pos) (tNotV ta):=by
  intro pins s σ H Q I h
  refine UnaryOp_ (thn (ha pins s σ H _ I h) fun v s1 ⟨x,H1,I1,r1,q1⟩=>?_)
  obtain ⟨c,rfl,q1⟩:=q1
  cases r1
  exact not_of (wpAny_truthy_bool ⟨.bl (!c),H1,I1,rfl,q1⟩)
noncomputable def tIf (t:TT) (ta tb:TE):TE:=fun σ H Q=>t σ H fun c H1=>if c=true then ta σ H1 Q else tb σ H1 Q
theorem pe_ifExp {c:Expr} (hc:PT X c tA) (ha:PE X a ta) (hb:PE X b tb):PE X (.IfExp c a b pos) (tIf tA ta tb):=by
  intro pins s σ H Q I h
  refine wpAny_IfExp (thn (hc pins s σ H _ I h) fun d s1 ⟨H1,I1,q1⟩=>?_)
  cases d with
  | true=>exact ha pins s1 σ H1 Q I1 q1
  | false=>exact hb pins s1 σ H1 Q I1 q1
end
end L2
namespace L2
open PySem PySem.Spec PyProof.Rows
noncomputable def SqL (K:PySem.W.Frag) (H:Hp) (a:Addr) (xs:List V):Prop :=
  Rd H a (.lst xs) \/
    ∃ (o:Obj) (its:Array Value) (n:Nat),K.lookup a=some o/\o.cls = .type "list" /\ o.dict=none/\o.data = .seq its n/\its.size<=sizeLine/\Vals xs its.toList
noncomputable def SqT (K:PySem.W.Frag) (H:Hp) (a:Addr) (xs:List V):Prop :=
  Rd H a (.tup xs) \/
    ∃ (o:Obj) (its:Array Value) (n:Nat),K.lookup a=some o/\o.cls = .type "tuple" /\ o.data = .seq its n/\its.size<=sizeLine/\Vals xs its.toList
noncomputable def absV:Value->Option V
  | .none=>some .non
  | .bool b=>some (.bl b)
  | .int i _=>some (.int i)
  | .str x _=>some (.str x)
  | .bytes b _=>some (.byt b)
  | .float b _=>some (.flt b)
  | .ref a=>some (.ref a)
  | .type n=>some (.ty n)
  | _=>none
theorem RelV.abs {x:V} {u:Value} (r:RelV x u):absV u=some x:=by
  cases x with
  | non=>cases r;rfl
  | bl _=>cases r;rfl
  | int _=>obtain ⟨t,rfl⟩:=r;rfl
  | str _=>obtain ⟨t,rfl⟩:=r;rfl
  | byt _=>obtain ⟨t,rfl⟩:=r;rfl
  | flt _=>obtain ⟨t,rfl⟩:=r;rfl
  | ref _=>cases r;rfl
  | ty _=>cases r;rfl
theorem RelV.inj {x y:V} {u:Value} (r:RelV x u) (q:RelV y u):x=y:=Option.some.inj (r.abs.symm.trans q.abs)
theorem Vals.inj:∀ {xs ys:List V} {us:List Value},Vals xs us->Vals ys us->xs=ys
  | _,_,_,.nil,.nil=>rfl
  | _,_,_,.cons r t,.cons r' t'=>by rw [r.inj r',Vals.inj t t']
section
variable {X:Cx} {pins:List (Addr × Obj)} {σ:St} {H:Hp} {s:Shared} {a:Addr} {xs ys:List V}
theorem SqL.of {K:PySem.W.Frag} (h:H a=some (.lst xs)):SqL K H a xs:=.inl (.inl h)
theorem SqT.of {K:PySem.W.Frag} (h:H a=some (.tup xs)):SqT K H a xs:=.inl (.inl h)
theorem Inv.list (I:Inv X pins σ H s) (h:SqL X.K H a xs):∃ its:List Value,Vals xs its/\PlainL s.heap a its.toArray/\xs.length<=sizeLine:=by
  rcases h with h | ⟨o,its,n,hk,hc,hd,hs,hz,r⟩
  . obtain ⟨z,its,n,r,e⟩:=h.ok I.hok
    exact ⟨its,r,⟨_,n,e,rfl,rfl,rfl⟩,z⟩
  . refine ⟨its.toList,r,⟨o,n,I.kIn a o hk,hc,hd,by simpa using hs⟩,?_⟩
    have e:=r.length
    simp only [Array.length_toList] at e
    omega
theorem Inv.tuple (I:Inv X pins σ H s) (h:SqT X.K H a xs):∃ its:List Value,Vals xs its/\IsTup s.heap a its.toArray/\xs.length<=sizeLine:=by
  rcases h with h | ⟨o,its,n,hk,hc,hs,hz,r⟩
  . obtain ⟨z,its,r,p⟩:=h.ok I.hok
    exact ⟨its,r,p,z⟩
  . refine ⟨its.toList,r,⟨o,I.kIn a o hk,hc,n,by simpa using hs⟩,?_⟩
    have e:=r.length
    simp only [Array.length_toList] at e
    omega
theorem Inv.list_inj (I:Inv X pins σ H s) (h:SqL X.K H a xs) (h':SqL X.K H a ys):xs=ys:=by
  obtain ⟨its,r,⟨o,n,e,_,_,d⟩,_⟩:=I.list h
  obtain ⟨its',r',⟨o',n',e',_,_,d'⟩,_⟩:=I.list h'
  rw [e] at e';cases e'
  rw [d] at d'
  injection d' with d1 _
  have:its=its':=by simpa using congrArg Array.toList d1
  subst this
  exact r.inj r'
theorem Inv.tuple_inj (I:Inv X pins σ H s) (h:SqT X.K H a xs) (h':SqT X.K H a ys):xs=ys:=by
  obtain ⟨its,r,⟨o,e,_,n,d⟩,_⟩:=I.tuple h
  obtain ⟨its',r',⟨o',e',_,n',d'⟩,_⟩:=I.tuple h'
  rw [e] at e';cases e'
  rw [d] at d'
  injection d' with d1 _
  have:its=its':=by simpa using congrArg Array.toList d1
  subst this
  exact r.inj r'
end
noncomputable abbrev Cx.wish (X:Cx) (E:Value->Shared->Prop):Cx:={ X with xe:=E }
noncomputable abbrev Cx.nox (X:Cx):Cx:=X.wish fun _ _=>False
theorem Cx.Ok.wish {X:Cx} (ok:X.Ok) (E:Value->Shared->Prop):(X.wish E).Ok :=
  ⟨ok.mod,ok.kind,ok.glob,ok.blt,ok.above,ok.inj,ok.has,ok.cab,ok.hd,ok.frames,ok.stk,ok.exf,ok.bs,ok.bsz,ok.noex,ok.exfs,ok.funs,ok.frf⟩
theorem Cx.Ok.unwish {X:Cx} {E:Value->Shared->Prop} (ok:(X.wish E).Ok):X.Ok :=
  ⟨ok.mod,ok.kind,ok.glob,ok.blt,ok.above,ok.inj,ok.has,ok.cab,ok.hd,ok.frames,ok.stk,ok.exf,ok.bs,ok.bsz,ok.noex,ok.exfs,ok.funs,ok.frf⟩
section
variable {X:Cx} {pins:List (Addr × Obj)} {σ:St} {H:Hp} {s:Shared} {E:Value->Shared->Prop}
theorem Inv.wish (I:Inv X pins σ H s) (E:Value->Shared->Prop):Inv (X.wish E) pins σ H s:=⟨I.ok.wish E,I.os,I.bare,I.base,I.loc,I.cell,I.free,I.freeC,I.pin,I.hok,I.len⟩
theorem Inv.unwish (I:Inv (X.wish E) pins σ H s):Inv X pins σ H s:=⟨I.ok.unwish,I.os,I.bare,I.base,I.loc,I.cell,I.free,I.freeC,I.pin,I.hok,I.len⟩
theorem SP.unwish {D:Ends} {f:Flow} {s':Shared} (h:SP (X.wish E) pins D f s'):SP X pins D f s':=by
  cases f with
  | next=>obtain ⟨σ',H',I,q⟩:=h;exact ⟨σ',H',I.unwish,q⟩
  | brk=>obtain ⟨σ',H',I,q⟩:=h;exact ⟨σ',H',I.unwish,q⟩
  | cont=>obtain ⟨σ',H',I,q⟩:=h;exact ⟨σ',H',I.unwish,q⟩
  | ret u=>obtain ⟨v,σ',H',I,r,q⟩:=h;exact ⟨v,σ',H',I.unwish,r,q⟩
theorem PSs.nox {st:List Stmt} {t:TS} (h:PSs X.nox st t):PSs X st t:=fun pins s σ H D I hw =>
  wpAny_mono (h pins s σ H D (I.wish _) hw) (fun _ _ q=>q.unwish) fun _ _ z=>False.elim z
end
section
variable {X:Cx} {st:Stmt} {rest:List Stmt} {t u:TS} {e:Expr} {te:TE} {pos:Pos}
noncomputable def tNext:TS:=fun D σ H=>D.nx σ H
noncomputable def tSeq (t u:TS):TS:=fun D σ H=>t { D with nx:=u D } σ H
theorem pss_nil:PSs X [] tNext:=fun _ _ σ H _ I h=>wpAny_execs_nil ⟨σ,H,I,h⟩
theorem pss_cons (h1:PS X st t) (h2:PSs X rest u):PSs X (st :: rest) (tSeq t u):=by
  intro pins s σ H D I h
  refine wpAny_execs_cons (thn (h1 pins s σ H { D with nx:=u D } I h) fun f s1 q=>?_)
  cases f with
  | next =>
    obtain ⟨σ',H',I',q⟩:=q
    exact h2 pins s1 σ' H' D I' q
  | ret v=>exact q
  | brk=>exact q
  | cont=>exact q
theorem pss_one (h1:PS X st t):PSs X [st] t:=by
  intro pins s σ H D I h
  refine wpAny_execs_cons (thn (h1 pins s σ H D I h) fun f s1 q=>?_)
  cases f with
  | next=>exact wpAny_execs_nil q
  | ret v=>exact q
  | brk=>exact q
  | cont=>exact q
noncomputable def tRet (te:TE):TS:=fun D σ H=>te σ H D.rt
theorem ps_ret (he:PE X e te):PS X (.Return (some e) pos) (tRet te):=by
  intro pins s σ H D I h
  exact wpAny_Return_some (thn (he pins s σ H _ I h) fun v s1 ⟨x,H1,I1,r1,q1⟩=>⟨x,σ,H1,I1,r1,q1⟩)
noncomputable def tIfS (c:TT) (t u:TS):TS:=fun D σ H=>c σ H fun b H1=>if b=true then t D σ H1 else u D σ H1
theorem ps_if {c:Expr} {a b:List Stmt} {tc:TT} (hc:PT X c tc) (ha:PSs X a t) (hb:PSs X b u):PS X (.If c a b pos) (tIfS tc t u):=by
  intro pins s σ H D I h
  refine wpAny_If (thn (hc pins s σ H _ I h) fun d s1 ⟨H1,I1,q1⟩=>?_)
  cases d with
  | true=>exact ha pins s1 σ H1 D I1 q1
  | false=>exact hb pins s1 σ H1 D I1 q1
noncomputable def tNever:TS:=fun _ _ _=>False
theorem ps_never:PS X st tNever:=fun _ _ _ _ _ _ h=>h.elim
end
noncomputable abbrev TG:=V->St->Hp->(St->Hp->Prop)->Prop
noncomputable abbrev TGs:=List V->St->Hp->(St->Hp->Prop)->Prop
noncomputable def PG (X:Cx) (target:Expr) (t:TG):Prop :=
  ∀ (pins:List (Addr × Obj)) (s:Shared) (σ:St) (H:Hp) (v:V) (u:Value) (Q:St->Hp->Prop),Inv X pins σ H s->RelV v u->t v σ H Q ->
    wpAny (model X.prog X.w) X.A (assign target X.env u) (fun _ s'=>∃ σ' H',Inv X pins σ' H' s'/\Q σ' H') X.xe s
noncomputable def PGs (X:Cx) (ts:List Expr) (t:TGs):Prop :=
  ∀ (pins:List (Addr × Obj)) (s:Shared) (σ:St) (H:Hp) (vs:List V) (us:List Value) (Q:St->Hp->Prop),Inv X pins σ H s->Vals vs us->t vs σ H Q ->
    wpAny (model X.prog X.w) X.A (assignInOrder ((assignEach ts X.env).map (·.2)) us) (fun _ s'=>∃ σ' H',Inv X pins σ' H' s'/\Q σ' H') X.xe s
noncomputable abbrev TSet:=V->V->V->Hp->(Hp->Prop)->Prop
noncomputable def PSet (X:Cx) (t:TSet):Prop :=
  ∀ (pins:List (Addr × Obj)) (s:Shared) (σ:St) (H:Hp) (o i v:V) (ov iv u:Value) (Q:Hp->Prop),Inv X pins σ H s->RelV o ov->RelV i iv->RelV v u->t o i v H Q ->
    wpAny (model X.prog X.w) X.A (setItem ov iv u) (fun _ s'=>∃ H',Inv X pins σ H' s'/\Q H') X.xe s
section
variable {X:Cx} {pos:Pos}
noncomputable def gName (i:Nat):TG:=fun v σ H Q=>Q (σ.set i (some v)) H
theorem pg_name {i:Nat} {x:Str} (hN:X.N.Nodup) (hi:X.N[i]?=some x) (hx:Loc X.env.scope x) (hf:X.fn x=true\/X.env.scope.names.lookup x=some .local:=by first | exact .inl rfl | exact .inr rfl | assumption):PG X (.Name x pos) (gName i):=by
  intro pins s σ H v u Q I r h
  exact wpAny_assign_Name (store_ok I hN hi hx r (fun s' I'=>⟨_,H,I',h⟩) hf)
noncomputable def gNil:TGs:=fun vs σ H Q=>vs=[]/\Q σ H
noncomputable def gCons (t:TG) (u:TGs):TGs:=fun vs σ H Q=>∃ v r,vs=v :: r/\t v σ H fun σ' H'=>u r σ' H' Q
theorem pgs_nil:PGs X [] gNil:=by
  intro pins s σ H vs us Q I r h
  obtain ⟨e,h⟩:=h
  subst e
  cases r
  exact assignInOrder_nil ⟨σ,H,I,h⟩
theorem pgs_cons {e:Expr} {es:List Expr} {t:TG} {u:TGs} (h1:PG X e t) (h2:PGs X es u)
    (hs:(assignEach (e :: es) X.env).map (·.2)=assign e X.env :: (assignEach es X.env).map (·.2):=by rfl):PGs X (e :: es) (gCons t u):=by
  intro pins s σ H vs us Q I r h
  obtain ⟨v,vr,e1,h⟩:=h
  subst e1
  cases r with
  | cons r rr =>
    rw [hs]
    refine assignInOrder_cons (thn (h1 pins s σ H _ _ _ I r h) fun _ s1 ⟨σ1,H1,I1,q1⟩=>?_)
    exact h2 pins s1 σ1 H1 _ _ Q I1 rr q1
noncomputable def gSub (to ti:TE) (t:TSet):TG:=fun v σ H Q=>to σ H fun o H1=>ti σ H1 fun i H2=>t o i v H2 fun H3=>Q σ H3
theorem pg_sub {o i:Expr} {to ti:TE} {t:TSet} (ho:PE X o to) (hi:PE X i ti) (hs:PSet X t)
    (ha:∀ v,assign (.Subscript o i pos) X.env v=(do
      let ov <- holding [v] (eval o X.env)
      let iv <- holding [v,ov] (eval i X.env)
      standAt pos
      holding [v,ov,iv] (setItem ov iv v)
      release [v,ov,iv] []):=by intro _;rfl):PG X (.Subscript o i pos) (gSub to ti t):=by
  intro pins s σ H v u Q I r h
  rw [ha]
  refine wpAny_bind (wpAny_holding (thn (ho pins s σ H _ I h) fun ov s1 ⟨x,H1,I1,r1,q1⟩=>?_))
  refine wpAny_bind (wpAny_holding (thn (hi pins s1 σ H1 _ I1 q1) fun iv s2 ⟨y,H2,I2,r2,q2⟩=>?_))
  refine wpAny_bind (wpAny_standAt (wpAny_bind (wpAny_holding (thn (hs pins s2 σ H2 x y v ov iv u _ I2 r1 r2 r q2) fun _ s3 ⟨H3,I3,q3⟩=>?_))))
  exact wpAny_release ⟨σ,H3,I3,q3⟩
noncomputable def tAsg (te:TE) (g:TG):TS:=fun D σ H=>te σ H fun x H1=>g x σ H1 D.nx
theorem ps_asg {tg e:Expr} {te:TE} {g:TG} (he:PE X e te) (hg:PG X tg g) (hs:swapsWithSole [tg] e pos.line X.env=pure false:=by rfl) (hw:swappedStores [tg] e X.env=pure none:=by rfl)
    (h1:(assignEach [tg] X.env).map (·.2)=[assign tg X.env]:=by rfl):PS X (.Assign [tg] e pos) (tAsg te g):=by
  intro pins s σ H D I h
  refine wpAny_Assign_stores (thn (he pins s σ H _ I h) fun v s1 ⟨x,H1,I1,r1,q1⟩=>?_) hs hw
  rw [h1]
  exact thn (hg pins s1 σ H1 x v _ I1 r1 q1) fun _ s2 q=>q
theorem ps_set {i:Nat} {x:Str} {e:Expr} {te:TE} {pos':Pos} (hN:X.N.Nodup) (hi:X.N[i]?=some x) (hx:Loc X.env.scope x) (he:PE X e te) (hs:swapsWith e (some (.Name x pos')) pos.line X.env=pure false:=by rfl) (hf:X.fn x=true\/X.env.scope.names.lookup x=some .local:=by first | exact .inl rfl | exact .inr rfl | assumption) :
    PS X (.Assign [.Name x pos'] e pos) (tAsg te (gName i)):=by
  intro pins s σ H D I h
  refine wpAny_Assign_Name (thn (he pins s σ H _ I h) fun v s1 ⟨y,H1,I1,r1,q1⟩=>?_) hs
  exact store_ok I1 hN hi hx r1 (fun s2 I2=>⟨_,H1,I2,q1⟩) hf
noncomputable def tPar (i j:Nat) (ta:TA):TS:=fun D σ H=>ta σ H fun vs H1=>∃ v w,vs=[v,w]/\D.nx ((σ.set i (some v)).set j (some w)) H1
theorem ps_par {i j:Nat} {x y:Str} {a b:Expr} {ta:TA} {px py pt:Pos} {kt k2 pt2} (hc:X.calm=true) (hN:X.N.Nodup) (hi:X.N[i]?=some x) (hj:X.N[j]?=some y) (hij:i ≠ j)
    (hx:X.env.scope.names.lookup x=some .local) (hy:X.env.scope.names.lookup y=some .local) (ha:PA X [a,b] ta)
    (hw:swappedStores [.Tuple [.Name x px,.Name y py] kt pt] (.Tuple [a,b] k2 pt2) X.env=pure (some [x,y]))
    (hs:swapsWithSole [.Tuple [.Name x px,.Name y py] kt pt] (.Tuple [a,b] k2 pt2) pos.line X.env=pure false:=by rfl) :
    PS X (.Assign [.Tuple [.Name x px,.Name y py] kt pt] (.Tuple [a,b] k2 pt2) pos) (tPar i j ta):=by
  intro pins s σ H D I h
  rw [exec_Assign_arm]
  refine wpAny_bind (wpAny_standAt ?_)
  rw [hs]
  refine wpAny_bind (wpAny_pure ?_)
  rw [if_neg (by decide)]
  refine wpAny_bind (Tuple_ (thn (ha _ pins s σ H _ I h) fun us s1 ⟨vs,H1,I1,r1,q1⟩=>?_))
  obtain ⟨v,w,e1,q1⟩:=q1
  subst e1
  obtain ⟨u1,u2,rfl,rv,rw'⟩:∃ u1 u2,us=[u1,u2]/\RelV v u1/\RelV w u2:=by
    cases r1 with
    | cons p q =>
      cases q with
      | cons p' q' =>
        cases q'
        exact ⟨_,_,rfl,p,p'⟩
  refine wpAny_newObj_type ?_ (by show 2<=sizeLine;decide)
  have I2:Inv X pins σ H1 { s1 with heap:=s1.heap.push { cls:=.type "tuple",data:=.seq [u1,u2].toArray } }:=I1.kept (t':=s1.toks) fun b o e=>Heap.get?_push_of_some _ e
  rw [hw]
  refine wpAny_bind (wpAny_pure ?_)
  show wpAny (model X.prog X.w) X.A (do rule "assign.swapped-stores";let items <- unpackItems (.ref s1.heap.objs.size) 2 none;assignInOrder [fun v=>bindName X.env y v,fun v=>bindName X.env x v] items.reverse;pure Flow.next) _ _ _
  refine wpAny_bind (wpAny_rule (wpAny_bind (unpackItems_tuple (items := #[u1,u2]) (I.ok.hd hc) (IsTup.new s1.heap _) fun h' hx'=>?_)))
  have I3:=I2.kept (h':=h') (t':=s1.toks) fun b o e=>hx' b o (Nat.ne_of_lt (Heap.lt_size e)) e
  show wpAny _ _ (assignInOrder [fun v=>bindName X.env y v,fun v=>bindName X.env x v] [u2,u1] >>= fun _=>pure Flow.next) _ _ _
  refine wpAny_bind (assignInOrder_cons (wpAny_bindName (store_ok I3 hN hj (.inl hy) rw' (fun s2 I4=>?_) (.inr hy))))
  refine assignInOrder_cons (wpAny_bindName (store_ok I4 hN hi (.inl hx) rv (fun s3 I5=>assignInOrder_nil (wpAny_pure ?_)) (.inr hx)))
  rw [List.set_comm _ _ (Ne.symm hij)] at I5
  exact ⟨_,H1,I5,q1⟩
end
section
variable {X:Cx} {pos:Pos}
noncomputable def tWhile (c:TT) (tb:TS):TS:=fun D σ H=>∃ W:Nat->St->Hp->Prop,(∃ m,W m σ H)/\∀ m σ H,W m σ H ->
  c σ H fun b H1=>if b=true then ∃ N:St->Hp->Prop,(∀ σ' H',N σ' H'->∃ m',m' < m/\W m' σ' H')/\tb { D with nx:=N,ct:=N,bk:=D.nx } σ H1 else D.nx σ H1
theorem ps_while {c:Expr} {body:List Stmt} {tc:TT} {tb:TS} (hp:PassesOwn (model X.prog X.w) X.A X.env X.xe) (hc:PT X c tc) (hb:PSs X body tb):PS X (.While c body [] pos) (tWhile tc tb):=by
  intro pins s σ H D I h
  obtain ⟨W,⟨m0,w0⟩,turn⟩:=h
  refine wpAny_While (codeAny_whileLoop (fun n s'=>∃ σ' H',Inv X pins σ' H' s'/\W n σ' H') ?_ m0 ⟨σ,H,I,w0⟩)
  rintro n s1 ⟨σ1,H1,I1,w1⟩
  refine wpAny_passesOwn hp (thn (hc pins s1 σ1 H1 _ I1 (turn n σ1 H1 w1)) fun b s2 ⟨H2,I2,q2⟩=>?_)
  cases b with
  | true =>
    obtain ⟨N,hN,q2⟩:=q2
    rw [if_pos rfl]
    refine wpAny_passesOwn hp (thn (hb pins s2 σ1 H2 _ I2 q2) fun f s3 q3=>?_)
    cases f with
    | next =>
      obtain ⟨σ3,H3,I3,n3⟩:=q3
      obtain ⟨m',hm,w3⟩:=hN σ3 H3 n3
      exact ⟨m',hm,σ3,H3,I3,w3⟩
    | cont =>
      obtain ⟨σ3,H3,I3,n3⟩:=q3
      obtain ⟨m',hm,w3⟩:=hN σ3 H3 n3
      exact ⟨m',hm,σ3,H3,I3,w3⟩
    | brk=>exact q3
    | ret v=>exact q3
  | false =>
    rw [if_neg Bool.false_ne_true]
    exact wpAny_execs_nil ⟨σ1,H2,I2,q2⟩
end
structure It where
  go:Nat->Hp->Prop
  yld:Nat->Hp->V->Hp->Prop
  stop:Nat->Hp->Prop
noncomputable def FpOk (X:Cx) (pins:List (Addr × Obj)) (H:Hp) (b:Addr):Prop :=
  H b=none/\b ≠ X.env.locals/\b ∉ X.fs/\(b ∈ X.ex\/X.s₀.heap.objs.size<=b)/\(∀ x c,X.env.cells.lookup x=some c->c ≠ b)/\∀ p ∈ X.pn ++ pins,p.1 ≠ b
theorem Inv.fpOk {X:Cx} {pins:List (Addr × Obj)} {σ:St} {H H':Hp} {s:Shared} {b:Addr} (I:Inv X pins σ H s) (hb:s.heap.objs.size<=b) (hn:H' b=none):FpOk X pins H' b:=by
  refine ⟨hn,Nat.ne_of_gt (Nat.lt_of_lt_of_le I.lt hb),I.nofs hb,.inr (Nat.le_trans I.sz hb),fun x c e z=>?_,fun p hp z=>?_⟩
  . obtain ⟨v,q⟩:=I.cell x c e
    exact absurd (Nat.lt_of_lt_of_le q.lt (by rw [z];exact hb)) (Nat.lt_irrefl _)
  . exact absurd (Nat.lt_of_lt_of_le (Heap.lt_size (I.pin p hp).1) (by rw [z];exact hb)) (Nat.lt_irrefl _)
structure Turn (P:Program) (w:World) (K:PySem.W.Frag) (tg:Expr) (J:It) (fp:List Addr) (it:Addr) (tn:Nat->Heap->Prop):Prop where
  mem:it ∈ fp
  obj:∀ i h,tn i h->∀ b ∈ fp,∃ o,h.get? b=some o/\∀ v,o.data ≠ .cell v
  keep:∀ i h h',tn i h->(∀ b ∈ fp,∀ o,h.get? b=some o->h'.get? b=some o)->tn i h'
  item:∀ (X:Cx),X.prog=P->X.w=w->X.K=K->X.calm=true->∀ (i:Nat) (pins:List (Addr × Obj)) (s:Shared) (σ:St) (H:Hp) (E:Value->Shared->Prop),Inv X pins σ H s->(∀ b ∈ fp,FpOk X pins H b)->tn i s.heap->J.go i H ->
    wpAny (model P w) X.A (pyNext (.ref it)) (fun r s1=>∃ u,r=some u /\
      wpAny (model P w) X.A (letOwnedTupleGo tg (.ref it) u) (fun _ s2=>∃ x H',Inv X pins σ H' s2/\RelV x u/\J.yld i H x H'/\tn (i + 1) s2.heap/\∀ b ∈ fp,H' b=none) E s1) E s
  done:∀ (X:Cx),X.prog=P->X.w=w->X.K=K->X.calm=true->∀ (i:Nat) (pins:List (Addr × Obj)) (s:Shared) (σ:St) (H:Hp) (E:Value->Shared->Prop),Inv X pins σ H s->(∀ b ∈ fp,FpOk X pins H b)->tn i s.heap->J.stop i H ->
    wpAny (model P w) X.A (pyNext (.ref it)) (fun r s1=>r=none/\Inv X pins σ H s1) E s
  self:∀ (A:Around) (i:Nat) (s:Shared) (Q:Value->Shared->Prop) (E:Value->Shared->Prop),tn i s.heap->Q (.ref it) s->wpAny (model P w) A (pyIter (.ref it)) Q E s
noncomputable abbrev TI:=St->Hp->(It->Hp->Prop)->Prop
noncomputable def PIE (X:Cx) (pins:List (Addr × Obj)) (σ:St) (tg:Expr) (R:It->Hp->Prop) (itv:Value) (s2:Shared):Prop :=
  ∃ (it:Addr) (fp:List Addr) (tn:Nat->Heap->Prop) (J:It) (H':Hp),itv = .ref it/\Inv X pins σ H' s2/\Turn X.prog X.w X.K tg J fp it tn/\tn 0 s2.heap/\(∀ b ∈ fp,FpOk X pins H' b)/\R J H'
noncomputable def PI (X:Cx) (tg iter:Expr) (wi:TI):Prop :=
  ∀ (pins:List (Addr × Obj)) (s:Shared) (σ:St) (H:Hp) (R:It->Hp->Prop),Inv X pins σ H s->wi σ H R ->
    wpAny (model X.prog X.w) X.A (eval iter X.env) (fun v s1=>wpAny (model X.prog X.w) X.A (pyIter v) (PIE X pins σ tg R) X.xe s1) X.xe s
theorem go_of {M:Model} {A:Around} {E:Value->Shared->Prop} {s:Shared} {tg:Expr} {it:Addr} {u:Value} {o:Obj} {n:String} {vs:Array Value} {Q:Unit->Shared->Prop} (ho:s.heap.get? it=some o) (hc:o.cls = .type n) (hd:o.data = .fields vs)
    (hn:["enumerate","zip","dict_itemiterator","dict_reverseitemiterator","odict_iterator","itertools.zip_longest","itertools.pairwise"].contains n=false) (hQ:Q () s):wpAny M A (letOwnedTupleGo tg (.ref it) u) Q E s:=by
  unfold letOwnedTupleGo
  cases tg <;> first
    | exact wpAny_pure hQ
    | (cases u <;> first
        | exact wpAny_pure hQ
        | (refine wpAny_bind (wpAny_load ho ?_)
           rw [hc,hd]
           show wpAny M A (if (["enumerate","zip","dict_itemiterator","dict_reverseitemiterator","odict_iterator","itertools.zip_longest","itertools.pairwise"].contains n && vs[0]? == some (rawInt _))=true then _ else _) Q E s
           rw [if_neg (by intro h;rw [hn,Bool.false_and] at h;cases h)]
           exact wpAny_pure hQ))
noncomputable def Itl (K:PySem.W.Frag) (a:Addr):It :=
  ⟨fun i H=>∃ xs x,SqL K H a xs/\xs[i]?=some x,fun i H x H'=>H'=H/\∀ xs,SqL K H a xs->xs[i]?=some x,fun i H=>∃ xs,SqL K H a xs/\xs.length<=i⟩
noncomputable def Itt (K:PySem.W.Frag) (a:Addr):It :=
  ⟨fun i H=>∃ xs x,SqT K H a xs/\xs[i]?=some x,fun i H x H'=>H'=H/\∀ xs,SqT K H a xs->xs[i]?=some x,fun i H=>∃ xs,SqT K H a xs/\xs.length<=i⟩
noncomputable def Itr (lo:Int) (n:Nat):It:=⟨fun i _=>i < n,fun i H x H'=>H'=H/\x = .int (lo + i),fun i _=>n<=i⟩
theorem turn_list {P:Program} {w:World} {K:PySem.W.Frag} {tg:Expr} (a it:Addr):Turn P w K tg (Itl K a) [it] it (fun i h=>h.IsListIter it a i) where
  mem:=by simp
  obj:=fun i h st b hb=>by
    have e:b=it:=by simpa using hb
    subst e
    obtain ⟨o,e,c,d⟩:=st
    exact ⟨o,e,fun v z=>by rw [d] at z;cases z⟩
  keep:=fun i h h' st k=>st.at fun o e=>k it (by simp) o e
  item:=by
    intro X hP hw hK hc i pins s σ H E I hf st hg
    subst hP hw hK
    obtain ⟨xs,x,hq,hx⟩:=hg
    obtain ⟨its,rv,p,hz⟩:=I.list hq
    obtain ⟨u,hu,ru⟩:=rv.get hx
    obtain ⟨f0,f1,f2,f3,f4,f5⟩:=hf it (by simp)
    refine wpAny_pyNext_list_item st p.isList (x:=u) (by simpa using hu) fun h' st' sb=>?_
    have I1:Inv X pins σ H { s with heap:=h' }:=I.turned (t':=s.toks) (fun b o hb e=>(sb.2 b hb).trans e) f0 f1 f3 f4 f5
    obtain ⟨o,e,c,d⟩:=id st'
    exact ⟨u,rfl,go_of (s:={ s with heap:=h' }) e c d (by decide) ⟨x,H,I1,ru,⟨rfl,fun ys hy=>by rw [I.list_inj hy hq];exact hx⟩,st',fun b hb=>(hf b hb).1⟩⟩
  done:=by
    intro X hP hw hK hc i pins s σ H E I hf st hg
    subst hP hw hK
    obtain ⟨xs,hq,hx⟩:=hg
    obtain ⟨its,rv,p,hz⟩:=I.list hq
    obtain ⟨f0,f1,f2,f3,f4,f5⟩:=hf it (by simp)
    have hl:=rv.length
    exact wpAny_pyNext_list_end (I.ok.hd hc) st p.isList (by simp;omega) fun h' eb=>⟨rfl,I.turned (t':=s.toks) (fun b o hb e=>eb b o hb e) f0 f1 f3 f4 f5⟩
  self:=fun _ _ _ _ _ st h=>wpAny_pyIter_listiter st h
theorem turn_tuple {P:Program} {w:World} {K:PySem.W.Frag} {tg:Expr} (a it:Addr):Turn P w K tg (Itt K a) [it] it (fun i h=>h.IsTupleIter it a i) where
  mem:=by simp
  obj:=fun i h st b hb=>by
    have e:b=it:=by simpa using hb
    subst e
    obtain ⟨o,e,c,d⟩:=st
    exact ⟨o,e,fun v z=>by rw [d] at z;cases z⟩
  keep:=fun i h h' st k=>st.at fun o e=>k it (by simp) o e
  item:=by
    intro X hP hw hK hc i pins s σ H E I hf st hg
    subst hP hw hK
    obtain ⟨xs,x,hq,hx⟩:=hg
    obtain ⟨its,rv,p,hz⟩:=I.tuple hq
    obtain ⟨u,hu,ru⟩:=rv.get hx
    obtain ⟨f0,f1,f2,f3,f4,f5⟩:=hf it (by simp)
    refine wpAny_pyNext_tuple_item st (show s.heap.IsTuple a its.toArray from p) (x:=u) (by simpa using hu) fun h' st' sb=>?_
    have I1:Inv X pins σ H { s with heap:=h' }:=I.turned (t':=s.toks) (fun b o hb e=>(sb.2 b hb).trans e) f0 f1 f3 f4 f5
    obtain ⟨o,e,c,d⟩:=id st'
    exact ⟨u,rfl,go_of (s:={ s with heap:=h' }) e c d (by decide) ⟨x,H,I1,ru,⟨rfl,fun ys hy=>by rw [I.tuple_inj hy hq];exact hx⟩,st',fun b hb=>(hf b hb).1⟩⟩
  done:=by
    intro X hP hw hK hc i pins s σ H E I hf st hg
    subst hP hw hK
    obtain ⟨xs,hq,hx⟩:=hg
    obtain ⟨its,rv,p,hz⟩:=I.tuple hq
    obtain ⟨f0,f1,f2,f3,f4,f5⟩:=hf it (by simp)
    have hl:=rv.length
    exact wpAny_pyNext_tuple_end (I.ok.hd hc) st (show s.heap.IsTuple a its.toArray from p) (by simp;omega) fun h' eb=>⟨rfl,I.turned (t':=s.toks) (fun b o hb e=>eb b o hb e) f0 f1 f3 f4 f5⟩
  self:=fun _ _ _ _ _ st h=>wpAny_pyIter_tupleiter st h
theorem turn_range {P:Program} {w:World} {K:PySem.W.Frag} {tg:Expr} (it:Addr) (lo:Int) (n:Nat):Turn P w K tg (Itr lo n) [it] it (fun i h=>IsRangeIter h it (lo + (i:Nat) * 1) ((n:Int) - (i:Nat)) 1) where
  mem:=by simp
  obj := fun i h st b hb => by
    have e:b=it:=by simpa using hb
    subst e
    exact ⟨_,st,fun v z=>by
      have z':Data.fields _=Data.cell v:=z
      cases z'⟩
  keep:=fun i h h' st k=>k it (by simp) _ st
  item:=by
    intro X hP hw hK hc i pins s σ H E I hf st hg
    subst hP hw hK
    obtain ⟨f0,f1,f2,f3,f4,f5⟩:=hf it (by simp)
    have W:=Walks.range (prog:=X.prog) (w:=X.w) (I.ok.hd hc) it lo 1 n
    refine W.item i s _ _ hg st fun v h' tk hv st' kk=>?_
    obtain ⟨t,rfl⟩:=hv
    have I1:Inv X pins σ H { s with heap:=h',toks:=tk }:=I.turned (fun b o hb e=>kk b o (by simpa using hb) e) f0 f1 f3 f4 f5
    refine ⟨_,rfl,go_of (s:={ s with heap:=h',toks:=tk }) (n := "range_iterator") st' rfl rfl (by decide) ⟨.int (lo + i),H,I1,⟨t,?_⟩,⟨rfl,rfl⟩,st',fun b hb=>(hf b hb).1⟩⟩
    rw [Int.mul_one]
  done:=by
    intro X hP hw hK hc i pins s σ H E I hf st hg
    subst hP hw hK
    obtain ⟨f0,f1,f2,f3,f4,f5⟩:=hf it (by simp)
    exact wpAny_pyNext_range_end (I.ok.hd hc) st (by have:n<=i:=hg;omega) fun h' eb=>⟨rfl,I.turned (t':=s.toks) (fun b o hb e=>eb b o hb e) f0 f1 f3 f4 f5⟩
  self:=fun _ _ _ _ _ st h=>wpAny_pyIter_rangeiter st h
end L2
namespace L2
open PySem PySem.Spec PyProof.Rows
section
variable {X:Cx} {tg:Expr}
noncomputable def iList (K:PySem.W.Frag) (tl:TE):TI:=fun σ H R=>tl σ H fun x H1=>∃ a,x = .ref a/\(∃ xs,SqL K H1 a xs)/\R (Itl K a) H1
noncomputable def iTup (K:PySem.W.Frag) (tl:TE):TI:=fun σ H R=>tl σ H fun x H1=>∃ a,x = .ref a/\(∃ xs,SqT K H1 a xs)/\R (Itt K a) H1
theorem pi_list {l:Expr} {tl:TE} (hl:PE X l tl):PI X tg l (iList X.K tl):=by
  intro pins s σ H R I h
  refine thn (hl pins s σ H _ I h) fun v s1 ⟨x,H1,I1,r1,q1⟩=>?_
  obtain ⟨a,e,⟨xs,hq⟩,q⟩:=q1
  subst e
  cases r1
  obtain ⟨its,rv,p,hz⟩:=I1.list hq
  refine wpAny_pyIter_list p.isList ?_
  refine ⟨s1.heap.objs.size,[s1.heap.objs.size],_,_,H1,rfl,I1.kept (t':=s1.toks) fun b o e=>Heap.get?_push_of_some _ e,turn_list a _,⟨_,Heap.get?_push_size _ rfl,rfl,rfl⟩,fun b hb=>?_,q⟩
  have e:b=s1.heap.objs.size:=by simpa using hb
  subst e
  exact I1.fpOk (Nat.le_refl _) (I1.hok.fresh (Nat.le_refl _))
theorem pi_tup {l:Expr} {tl:TE} (hl:PE X l tl):PI X tg l (iTup X.K tl):=by
  intro pins s σ H R I h
  refine thn (hl pins s σ H _ I h) fun v s1 ⟨x,H1,I1,r1,q1⟩=>?_
  obtain ⟨a,e,⟨xs,hq⟩,q⟩:=q1
  subst e
  cases r1
  obtain ⟨its,rv,p,hz⟩:=I1.tuple hq
  refine wpAny_pyIter_tuple (show s1.heap.IsTuple a its.toArray from p) ?_
  refine ⟨s1.heap.objs.size,[s1.heap.objs.size],_,_,H1,rfl,I1.kept (t':=s1.toks) fun b o e=>Heap.get?_push_of_some _ e,turn_tuple a _,⟨_,Heap.get?_push_size _ rfl,rfl,rfl⟩,fun b hb=>?_,q⟩
  have e:b=s1.heap.objs.size:=by simpa using hb
  subst e
  exact I1.fpOk (Nat.le_refl _) (I1.hok.fresh (Nat.le_refl _))
theorem range_it {pins:List (Addr × Obj)} {σ:St} {H:Hp} {s:Shared} {R:It->Hp->Prop} {E:Value->Shared->Prop} {lo hi:Int} {t u v:Tok} {tk:Nat} (I:Inv X pins σ H s) (h1 : -(2 ^ 62)<=lo) (h2:lo < 2 ^ 62) (h3 : -(2 ^ 62)<=hi) (h4:hi < 2 ^ 62)
    (q:R (Itr lo (hi - lo).toNat) H):wpAny (model X.prog X.w) X.A (pyIter (.ref s.heap.objs.size)) (PIE X pins σ tg R) E { s with heap:=s.heap.push { cls:=.type "range",data:=.fields #[.int lo t,.int hi u,.int 1 v] },toks:=tk }:=by
  refine wpAny_pyIter_range (IsRange.new ..) (small_one h1 h2 h3 h4) ?_
  have I1:Inv X pins σ H { s with heap:=s.heap.push { cls:=.type "range",data:=.fields #[.int lo t,.int hi u,.int 1 v] },toks:=tk }:=I.kept fun b o e=>Heap.get?_push_of_some _ e
  refine ⟨(s.heap.push { cls:=.type "range",data:=.fields #[.int lo t,.int hi u,.int 1 v] }).objs.size,[(s.heap.push { cls:=.type "range",data:=.fields #[.int lo t,.int hi u,.int 1 v] }).objs.size],_,_,H,rfl,
    I1.kept (t':=tk) fun b o e=>Heap.get?_push_of_some _ e,turn_range _ lo (hi - lo).toNat,?_,fun b hb=>?_,q⟩
  . have e1:lo + ((0:Nat):Int) * 1=lo:=by simp
    have e2:(((hi - lo).toNat:Nat):Int) - ((0:Nat):Int)=Builtin.Range.rangeSize lo hi 1:=by rw [rangeSize_one];split <;> omega
    show IsRangeIter _ _ (lo + ((0:Nat):Int) * 1) ((((hi - lo).toNat:Nat):Int) - ((0:Nat):Int)) 1
    rw [e1,e2]
    exact Heap.get?_push_size _ rfl
  . have e:b=(s.heap.push { cls:=.type "range",data:=.fields #[.int lo t,.int hi u,.int 1 v] }).objs.size:=by simpa using hb
    subst e
    exact I1.fpOk (Nat.le_refl _) (I1.hok.fresh (Nat.le_refl _))
noncomputable def iRng1 (ta:TA):TI:=fun σ H R=>ta σ H fun vs H1=>∃ j:Int,vs=[.int j] /\ -(2 ^ 62)<=j/\j < 2 ^ 62/\R (Itr 0 j.toNat) H1
theorem pi_range1 {a:Expr} {ta:TA} {p pos:Pos} (hg:Gl X "range") (hm:X.mg "range" = none) (ha:PA X [a] ta) (hs:starEach [a] X.env=[(false,eval a X.env)]:=by rfl):PI X tg (.Call (.Name "range" p) [a] [] pos) (iRng1 ta):=by
  intro pins s σ H R I h
  refine Call_ (ld_blt I hg hm boot_range (PyProof.Rows.callWith_type1 (thn (ha pos pins s σ H _ I h) fun us s1 ⟨vs,H1,I1,r1,q1⟩=>?_) hs rfl))
  obtain ⟨j,e,q1,q2,q⟩:=q1
  subst e
  cases r1 with
  | cons r rr =>
    cases rr
    obtain ⟨t,rfl⟩:=r
    exact call_range_1 (range_it I1 (by omega) (by omega) q1 q2 (by simpa using q))
noncomputable def tFor (wi:TI) (g:TG) (tb:TS):TS:=fun D σ H=>wi σ H fun J H1=>∃ W:Nat->Nat->St->Hp->Prop,(∃ m,W 0 m σ H1)/\∀ i m σ H,W i m σ H ->
  (J.stop i H/\D.nx σ H)\/(J.go i H/\∃ N:St->Hp->Prop,(∀ σ' H',N σ' H'->∃ m',m' < m/\W (i + 1) m' σ' H')/\∀ x H',J.yld i H x H'->g x σ H' fun σ2 H2=>tb { D with nx:=N,ct:=N,bk:=D.nx } σ2 H2)
noncomputable def pinsAt (fp:List Addr) (h:Heap):List (Addr × Obj):=fp.filterMap fun b=>(h.get? b).map fun o=>(b,o)
theorem mem_pinsAt {fp:List Addr} {h:Heap} {b:Addr} {o:Obj} (hb:b ∈ fp) (e:h.get? b=some o):(b,o) ∈ pinsAt fp h:=List.mem_filterMap.mpr ⟨b,hb,by rw [e];rfl⟩
theorem of_pinsAt {fp:List Addr} {h:Heap} {p:Addr × Obj} (hp:p ∈ pinsAt fp h):p.1 ∈ fp/\h.get? p.1=some p.2:=by
  obtain ⟨b,hb,e⟩:=List.mem_filterMap.mp hp
  cases q:h.get? b with
  | none=>rw [q] at e;cases e
  | some o =>
    rw [q] at e
    have e':(b,o)=p:=Option.some.inj e
    subst e'
    exact ⟨hb,q⟩
theorem Inv.pinned {pins:List (Addr × Obj)} {σ:St} {H:Hp} {s:Shared} {fp:List Addr} (I:Inv X pins σ H s) (hf:∀ b ∈ fp,FpOk X pins H b) (ho:∀ b ∈ fp,∃ o,s.heap.get? b=some o/\∀ v,o.data ≠ .cell v):Inv X (pins ++ pinsAt fp s.heap) σ H s :=
  I.pins_of fun p hp=>(List.mem_append.mp hp).elim (fun z=>I.pin p (List.mem_append_right _ z)) fun z=>by
    obtain ⟨hb,e⟩:=of_pinsAt z
    obtain ⟨f0,f1,f2,_⟩:=hf p.1 hb
    obtain ⟨o,e',d⟩:=ho p.1 hb
    rw [e] at e';cases e'
    exact ⟨e,f0,f1,f2,d⟩
theorem Inv.unpinned {pins pl:List (Addr × Obj)} {σ:St} {H:Hp} {s:Shared} (I:Inv X (pins ++ pl) σ H s):Inv X pins σ H s:=I.pins_of fun p hp=>I.pin p (List.mem_append_right _ (List.mem_append_left _ hp))
theorem ps_for {iter:Expr} {body:List Stmt} {wi:TI} {g:TG} {tb:TS} {pos:Pos} (hp:PassesOwn (model X.prog X.w) X.A X.env X.xe) (hc:X.calm=true) (hi:PI X tg iter wi) (hg:PG X tg g) (hb:PSs X body tb)
    (hs:∀ x,foldedSetIterable iter X.env x=pure x:=by intro _;rfl):PS X (.For tg iter body [] pos) (tFor wi g tb):=by
  intro pins s σ H D I h
  refine wpAny_For (thn (hi pins s σ H _ I h) fun v s1 h1=>thn h1 fun itv s2 h2=>?_) hs
  obtain ⟨it,fp,tn,J,H2,e,I2,T,st2,f2,W,⟨m0,w0⟩,turn⟩:=h2
  subst e
  have stat:∀ {H':Hp},(∀ b ∈ fp,H' b=none)->∀ b ∈ fp,FpOk X pins H' b:=fun hn b hb=>⟨hn b hb,(f2 b hb).2⟩
  refine codeAny_forLoop_any (fun n s'=>∃ i σ' H',Inv X pins σ' H' s'/\tn i s'.heap/\(∀ b ∈ fp,H' b=none)/\W i n σ' H') ?_ m0 ⟨0,σ,H2,I2,st2,fun b hb=>(f2 b hb).1,w0⟩
  rintro n s3 ⟨i,σ3,H3,I3,st3,fr3,w3⟩
  rcases turn i n σ3 H3 w3 with ⟨stop,qn⟩ | ⟨go,N,hN,step⟩
  . refine wpAny_passesOwn hp (thn (T.done X rfl rfl rfl hc i pins s3 σ3 H3 X.xe I3 (stat fr3) st3 stop) fun r s4 ⟨hr,I4⟩=>?_)
    subst hr
    exact wpAny_execs_nil ⟨σ3,H3,I4,qn⟩
  . refine wpAny_passesOwn hp (thn (T.item X rfl rfl rfl hc i pins s3 σ3 H3 X.xe I3 (stat fr3) st3 go) fun r s4 ⟨u,hr,h4⟩=>?_)
    subst hr
    refine wpAny_passesOwn hp (thn h4 fun _ s5 ⟨x,H5,I5,r5,y5,st5,fr5⟩=>?_)
    have I5':=I5.pinned (stat fr5) (T.obj _ _ st5)
    refine wpAny_passesOwn hp (thn (hg _ s5 σ3 H5 x u _ I5' r5 (step x H5 y5)) fun _ s6 ⟨σ6,H6,I6,q6⟩=>?_)
    refine wpAny_passesOwn hp (thn (hb _ s6 σ6 H6 _ I6 q6) fun f s7 q7=>?_)
    have again:∀ {σ7:St} {H7:Hp},Inv X (pins ++ pinsAt fp s5.heap) σ7 H7 s7->N σ7 H7->∃ m,m < n/\∃ i σ' H',Inv X pins σ' H' s7/\tn i s7.heap/\(∀ b ∈ fp,H' b=none)/\W i m σ' H':=fun {σ7 H7} I7 n7=>by
      obtain ⟨m',hm,w7⟩:=hN σ7 H7 n7
      refine ⟨m',hm,i + 1,σ7,H7,I7.unpinned,T.keep _ _ _ st5 fun b hb o e=>(I7.pin (b,o) (List.mem_append_right _ (List.mem_append_right _ (mem_pinsAt hb e)))).1,fun b hb=>?_,w7⟩
      obtain ⟨o,e,d⟩:=T.obj _ _ st5 b hb
      exact (I7.pin (b,o) (List.mem_append_right _ (List.mem_append_right _ (mem_pinsAt hb e)))).2.1
    cases f with
    | next=>obtain ⟨σ7,H7,I7,n7⟩:=q7;exact again I7 n7
    | cont=>obtain ⟨σ7,H7,I7,n7⟩:=q7;exact again I7 n7
    | brk=>obtain ⟨σ7,H7,I7,q7⟩:=q7;exact ⟨σ7,H7,I7.unpinned,q7⟩
    | ret v=>obtain ⟨x7,σ7,H7,I7,r7,q7⟩:=q7;exact ⟨x7,σ7,H7,I7.unpinned,r7,q7⟩
end
theorem for_list {K:PySem.W.Frag} {a:Addr} {xs:List V} {g:TG} {tb:TS} {D:Ends} {σ:St} {H:Hp} (Pv:Nat->St->Hp->Prop) (h0:Pv 0 σ H) (hl:∀ i σ H,i<=xs.length->Pv i σ H->SqL K H a xs)
    (hs:∀ i x σ H,xs[i]?=some x->Pv i σ H->g x σ H fun σ2 H2=>tb { D with nx:=Pv (i + 1),ct:=Pv (i + 1),bk:=D.nx } σ2 H2) (hd:∀ σ H,Pv xs.length σ H->D.nx σ H) :
    ∃ W:Nat->Nat->St->Hp->Prop,(∃ m,W 0 m σ H)/\∀ i m σ H,W i m σ H ->
      ((Itl K a).stop i H/\D.nx σ H)\/((Itl K a).go i H/\∃ N:St->Hp->Prop,(∀ σ' H',N σ' H'->∃ m',m' < m/\W (i + 1) m' σ' H')/\∀ x H',(Itl K a).yld i H x H'->g x σ H' fun σ2 H2=>tb { D with nx:=N,ct:=N,bk:=D.nx } σ2 H2):=by
  refine ⟨fun i m σ H=>m=xs.length - i/\i<=xs.length/\Pv i σ H,⟨xs.length,by simp,Nat.zero_le _,h0⟩,?_⟩
  rintro i m σ H ⟨rfl,hi,p⟩
  have q:=hl i σ H hi p
  by_cases hlt:i < xs.length
  . refine .inr ⟨⟨xs,xs[i],q,by simp [hlt]⟩,Pv (i + 1),fun σ' H' p'=>⟨xs.length - (i + 1),by omega,rfl,hlt,p'⟩,fun x H' y=>?_⟩
    obtain ⟨e,y⟩:=y
    subst e
    exact hs i x σ _ (y xs q) p
  . have e:i=xs.length:=by omega
    subst e
    exact .inl ⟨⟨xs,q,Nat.le_refl _⟩,hd σ H p⟩
theorem for_tup {K:PySem.W.Frag} {a:Addr} {xs:List V} {g:TG} {tb:TS} {D:Ends} {σ:St} {H:Hp} (Pv:Nat->St->Hp->Prop) (h0:Pv 0 σ H) (hl:∀ i σ H,i<=xs.length->Pv i σ H->SqT K H a xs)
    (hs:∀ i x σ H,xs[i]?=some x->Pv i σ H->g x σ H fun σ2 H2=>tb { D with nx:=Pv (i + 1),ct:=Pv (i + 1),bk:=D.nx } σ2 H2) (hd:∀ σ H,Pv xs.length σ H->D.nx σ H) :
    ∃ W:Nat->Nat->St->Hp->Prop,(∃ m,W 0 m σ H)/\∀ i m σ H,W i m σ H ->
      ((Itt K a).stop i H/\D.nx σ H)\/((Itt K a).go i H/\∃ N:St->Hp->Prop,(∀ σ' H',N σ' H'->∃ m',m' < m/\W (i + 1) m' σ' H')/\∀ x H',(Itt K a).yld i H x H'->g x σ H' fun σ2 H2=>tb { D with nx:=N,ct:=N,bk:=D.nx } σ2 H2):=by
  refine ⟨fun i m σ H=>m=xs.length - i/\i<=xs.length/\Pv i σ H,⟨xs.length,by simp,Nat.zero_le _,h0⟩,?_⟩
  rintro i m σ H ⟨rfl,hi,p⟩
  have q:=hl i σ H hi p
  by_cases hlt:i < xs.length
  . refine .inr ⟨⟨xs,xs[i],q,by simp [hlt]⟩,Pv (i + 1),fun σ' H' p'=>⟨xs.length - (i + 1),by omega,rfl,hlt,p'⟩,fun x H' y=>?_⟩
    obtain ⟨e,y⟩:=y
    subst e
    exact hs i x σ _ (y xs q) p
  . have e:i=xs.length:=by omega
    subst e
    exact .inl ⟨⟨xs,q,Nat.le_refl _⟩,hd σ H p⟩
theorem for_range {lo:Int} {n:Nat} {g:TG} {tb:TS} {D:Ends} {σ:St} {H:Hp} (Pv:Nat->St->Hp->Prop) (h0:Pv 0 σ H)
    (hs:∀ i σ H,i < n->Pv i σ H->g (.int (lo + i)) σ H fun σ2 H2=>tb { D with nx:=Pv (i + 1),ct:=Pv (i + 1),bk:=D.nx } σ2 H2) (hd:∀ σ H,Pv n σ H->D.nx σ H) :
    ∃ W:Nat->Nat->St->Hp->Prop,(∃ m,W 0 m σ H)/\∀ i m σ H,W i m σ H ->
      ((Itr lo n).stop i H/\D.nx σ H)\/((Itr lo n).go i H/\∃ N:St->Hp->Prop,(∀ σ' H',N σ' H'->∃ m',m' < m/\W (i + 1) m' σ' H')/\∀ x H',(Itr lo n).yld i H x H'->g x σ H' fun σ2 H2=>tb { D with nx:=N,ct:=N,bk:=D.nx } σ2 H2):=by
  refine ⟨fun i m σ H=>m=n - i/\i<=n/\Pv i σ H,⟨n,by simp,Nat.zero_le _,h0⟩,?_⟩
  rintro i m σ H ⟨rfl,hi,p⟩
  by_cases hlt:i < n
  . refine .inr ⟨hlt,Pv (i + 1),fun σ' H' p'=>⟨n - (i + 1),by omega,rfl,hlt,p'⟩,fun x H' y=>?_⟩
    obtain ⟨e,y⟩:=y
    subst e y
    exact hs i σ _ hlt p
  . have e:i=n:=by omega
    subst e
    exact .inl ⟨Nat.le_refl _,hd σ H p⟩
theorem while_by {c:TT} {tb:TS} {D:Ends} {σ:St} {H:Hp} (Pv:St->Hp->Prop) (μ:St->Hp->Nat) (h0:Pv σ H)
    (hs:∀ σ H,Pv σ H->c σ H fun b H1=>if b=true then tb { D with nx:=fun σ' H'=>Pv σ' H'/\μ σ' H' < μ σ H,ct:=fun σ' H'=>Pv σ' H'/\μ σ' H' < μ σ H,bk:=D.nx } σ H1 else D.nx σ H1)
    (mono:∀ σ H Q Q',(∀ b H1,Q b H1->Q' b H1)->c σ H Q->c σ H Q'):tWhile c tb D σ H:=by
  refine ⟨fun m σ H=>m=μ σ H/\Pv σ H,⟨_,rfl,h0⟩,?_⟩
  rintro m σ H ⟨rfl,p⟩
  refine mono σ H _ _ (fun b H1 q=>?_) (hs σ H p)
  cases b with
  | true=>exact ⟨_,fun σ' H' ⟨p',l⟩=>⟨_,l,rfl,p'⟩,q⟩
  | false=>exact q
end L2
namespace L2
open PySem PySem.Spec PyProof.Rows
noncomputable abbrev R2:=V->V->Hp->VK->Prop
noncomputable def OpR (X:Cx) (f:Value->Value->Sem Value) (r:R2):Prop :=
  ∀ (pins:List (Addr × Obj)) (s:Shared) (σ:St) (H:Hp) (x y:V) (v u:Value) (Q:VK),Inv X pins σ H s->RelV x v->RelV y u->r x y H Q ->
    wpAny (model X.prog X.w) X.A (f v u) (EP X pins σ Q) X.xe s
noncomputable def UnR (X:Cx) (f:Value->Sem Value) (r:V->Hp->VK->Prop):Prop :=
  ∀ (pins:List (Addr × Obj)) (s:Shared) (σ:St) (H:Hp) (x:V) (v:Value) (Q:VK),Inv X pins σ H s->RelV x v->r x H Q ->
    wpAny (model X.prog X.w) X.A (f v) (EP X pins σ Q) X.xe s
noncomputable def CallR (X:Cx) (f:Value) (r:List V->Hp->VK->Prop):Prop :=
  ∀ (pins:List (Addr × Obj)) (s:Shared) (σ:St) (H:Hp) (xs:List V) (us:List Value) (Q:VK),Inv X pins σ H s->Vals xs us->r xs H Q ->
    wpAny (model X.prog X.w) X.A (call f us) (EP X pins σ Q) X.xe s
noncomputable def tOp (r:R2) (ta tb:TE):TE:=fun σ H Q=>ta σ H fun x H1=>tb σ H1 fun y H2=>r x y H2 Q
noncomputable def tUn (r:V->Hp->VK->Prop) (ta:TE):TE:=fun σ H Q=>ta σ H fun x H1=>r x H1 Q
noncomputable def rI (C:Int->Int->Prop) (g:Int->Int->V):R2:=fun x y H Q=>∃ i j,x = .int i/\y = .int j/\C i j/\Q (g i j) H
noncomputable def rI0 (g:Int->Int->V):R2:=fun x y H Q=>∃ i j,x = .int i/\y = .int j/\Q (g i j) H
noncomputable def rU (g:Int->V):V->Hp->VK->Prop:=fun x H Q=>∃ i,x = .int i/\Q (g i) H
section
variable {X:Cx} {a b c:Expr} {ta tb tc:TE} {pos:Pos}
theorem binT (ha:PE X a ta) (hb:PE X b tb) {pins:List (Addr × Obj)} {s:Shared} {σ:St} {H:Hp} {R:V->V->Hp->Prop} (I:Inv X pins σ H s)
    (h:ta σ H fun x H1=>tb σ H1 fun y H2=>R x y H2) {Q:Value->Shared->Prop} {f:Value->Value->Sem Value}
    (hf:∀ v u s2 x y H2,Inv X pins σ H2 s2->RelV x v->RelV y u->R x y H2->wpAny (model X.prog X.w) X.A (f v u) Q X.xe s2) :
    wpAny (model X.prog X.w) X.A (eval a X.env) (fun v s₁=>wpAny (model X.prog X.w) X.A (eval b X.env) (fun u s₂=>wpAny (model X.prog X.w) X.A (f v u) Q X.xe s₂) X.xe s₁) X.xe s:=by
  refine thn (ha pins s σ H _ I h) fun v s1 ⟨x,H1,I1,r1,q1⟩=>?_
  refine thn (hb pins s1 σ H1 _ I1 q1) fun u s2 ⟨y,H2,I2,r2,q2⟩=>?_
  exact hf v u s2 x y H2 I2 r1 r2 q2
theorem pe_op {op:Operator} {r:R2} (ho:OpR X (binaryOp op) r) (ha:PE X a ta) (hb:PE X b tb):PE X (.BinOp a op b pos) (tOp r ta tb):=by
  intro pins s σ H Q I h
  exact wpAny_BinOp (binT ha hb I h fun v u s2 x y H2 I2 rx ry q=>ho pins s2 σ H2 x y v u Q I2 rx ry q)
theorem pe_un {op:UnaryOp} {r:V->Hp->VK->Prop} (ho:UnR X (unaryOp op) r) (ha:PE X a ta):PE X (.UnaryOp op a pos) (tUn r ta):=by
  intro pins s σ H Q I h
  exact UnaryOp_ (thn (ha pins s σ H _ I h) fun v s1 ⟨x,H1,I1,r1,q1⟩=>ho pins s1 σ H1 x v Q I1 r1 q1)
theorem opI {f:Value->Value->Sem Value} {C:Int->Int->Prop} {g:Int->Int->Int}
    (rule:∀ (i j:Int) (t u:Tok) (s:Shared) (Q:Value->Shared->Prop) (E:Value->Shared->Prop),C i j->Q (.int (g i j) s.toks) { s with toks:=s.toks + 1 }->wpAny (model X.prog X.w) X.A (f (.int i t) (.int j u)) Q E s) :
    OpR X f (rI C fun i j=>.int (g i j)):=by
  intro pins s σ H x y v u Q I rx ry h
  obtain ⟨i,j,rfl,rfl,hc,q⟩:=h
  obtain ⟨t,rfl⟩:=rx
  obtain ⟨t',rfl⟩:=ry
  exact rule i j t t' s _ _ hc ⟨.int (g i j),H,I.tok _,⟨_,rfl⟩,q⟩
theorem opI0 {f:Value->Value->Sem Value} {g:Int->Int->Int}
    (rule:∀ (i j:Int) (t u:Tok) (s:Shared) (Q:Value->Shared->Prop) (E:Value->Shared->Prop),Q (.int (g i j) s.toks) { s with toks:=s.toks + 1 }->wpAny (model X.prog X.w) X.A (f (.int i t) (.int j u)) Q E s) :
    OpR X f (rI0 fun i j=>.int (g i j)):=by
  intro pins s σ H x y v u Q I rx ry h
  obtain ⟨i,j,rfl,rfl,q⟩:=h
  obtain ⟨t,rfl⟩:=rx
  obtain ⟨t',rfl⟩:=ry
  exact rule i j t t' s _ _ ⟨.int (g i j),H,I.tok _,⟨_,rfl⟩,q⟩
theorem opB0 {f:Value->Value->Sem Value} {g:Int->Int->Bool}
    (rule:∀ (i j:Int) (t u:Tok) (s:Shared) (Q:Value->Shared->Prop) (E:Value->Shared->Prop),Q (.bool (g i j)) s->wpAny (model X.prog X.w) X.A (f (.int i t) (.int j u)) Q E s) :
    OpR X f (rI0 fun i j=>.bl (g i j)):=by
  intro pins s σ H x y v u Q I rx ry h
  obtain ⟨i,j,rfl,rfl,q⟩:=h
  obtain ⟨t,rfl⟩:=rx
  obtain ⟨t',rfl⟩:=ry
  exact rule i j t t' s _ _ ⟨.bl (g i j),H,I,rfl,q⟩
noncomputable def CPow (i j:Int):Prop:=0<=j/\j<=1000000/\i.natAbs < 2 ^ 64
noncomputable def CMul (i j:Int):Prop:=(-(2 ^ 64) < i/\i < 2 ^ 64)\/(-(2 ^ 64) < j/\j < 2 ^ 64)
theorem CMul.ok {i j:Int} (h:CMul i j):IntMulOk i j:=by
  rcases h with ⟨h1,h2⟩ | ⟨h1,h2⟩
  . exact .of_left (intBits_le_64 h1 h2)
  . exact .of_right (intBits_le_64 h1 h2)
theorem op_add:OpR X (binaryOp .Add) (rI0 fun i j=>.int (i + j)):=opI0 fun _ _ _ _ _ _ _ q=>add_int q
theorem op_sub:OpR X (binaryOp .Sub) (rI0 fun i j=>.int (i - j)):=opI0 fun _ _ _ _ _ _ _ q=>sub_int q
theorem op_mod:OpR X (binaryOp .Mod) (rI (fun _ j=>0 < j) fun i j=>.int (i % j)):=opI fun i j _ _ _ _ _ hc q=>by
  have h1:(0:Int) < j:=hc
  exact mod_int' (by omega) (by rw [Int.fmod_eq_emod_of_nonneg i (by omega)];exact q)
theorem op_modN:OpR X (binaryOp .Mod) (rI (fun _ j=>j ≠ 0) fun i j=>.int (i.fmod j)):=opI fun _ _ _ _ _ _ _ hc q=>mod_int' hc q
theorem op_pow:OpR X (binaryOp .Pow) (rI CPow fun i j=>.int (i ^ j.toNat)):=opI fun _ _ _ _ _ _ _ hc q=>pow_int_small hc.1 hc.2.1 hc.2.2 q
theorem unI {f:Value->Sem Value} {g:Int->Int}
    (rule:∀ (i:Int) (t:Tok) (s:Shared) (Q:Value->Shared->Prop) (E:Value->Shared->Prop),Q (.int (g i) s.toks) { s with toks:=s.toks + 1 }->wpAny (model X.prog X.w) X.A (f (.int i t)) Q E s) :
    UnR X f (rU fun i=>.int (g i)):=by
  intro pins s σ H x v Q I rx h
  obtain ⟨i,rfl,q⟩:=h
  obtain ⟨t,rfl⟩:=rx
  exact rule i t s _ _ ⟨.int (g i),H,I.tok _,⟨_,rfl⟩,q⟩
theorem un_neg:UnR X (unaryOp .USub) (rU fun i=>.int (-i)):=unI fun _ _ _ _ _ q=>neg_int q
end
noncomputable def scal:V->V->Bool
  | .non,.non=>true | .non,.int _=>true | .int _,.non=>true | .non,.bl _=>true | .bl _,.non=>true | .non,.str _=>true | .str _,.non=>true
  | .int _,.int _=>true | .bl _,.bl _=>true | .str _,.str _=>true | .byt _,.byt _=>true
  | .int _,.str _=>true | .str _,.int _=>true | .bl _,.str _=>true | .str _,.bl _=>true
  | _,_=>false
noncomputable def rEq:R2:=fun x y H Q=>scal x y=true/\Q (.bl (decide (x=y))) H
noncomputable def rNe:R2:=fun x y H Q=>scal x y=true/\Q (.bl (!decide (x=y))) H
theorem dec_int {i j:Int}:decide (V.int i=V.int j)=(i == j):=by
  rw [Bool.eq_iff_iff]
  simp
theorem dec_bl {i j:Bool}:decide (V.bl i=V.bl j)=(i == j):=by
  rw [Bool.eq_iff_iff]
  simp
theorem dec_str {i j:Str}:decide (V.str i=V.str j)=(i == j):=by
  rw [Bool.eq_iff_iff]
  simp
theorem dec_byt {i j:Array UInt8}:decide (V.byt i=V.byt j)=(i.toList == j.toList):=by
  rw [Bool.eq_iff_iff]
  cases i
  cases j
  simp
section
variable {X:Cx} {a b c:Expr} {ta tb tc:TE} {pos:Pos}
theorem fin_bl {pins:List (Addr × Obj)} {σ:St} {H:Hp} {s:Shared} {Q:VK} {k k':Bool} (I:Inv X pins σ H s) (q:Q (.bl k) H) (e:k=k'):EP X pins σ Q (.bool k') s:=by
  subst e
  exact ⟨.bl k,H,I,rfl,q⟩
theorem op_eq:OpR X (compareOp .Eq) rEq:=by
  intro pins s σ H x y v u Q I rx ry h
  obtain ⟨hs,q⟩:=h
  cases x with
  | non =>
    cases rx
    cases y with
    | non=>cases ry;exact PySem.EqNone.eq_none_none (fin_bl I q (by simp))
    | bl j=>cases ry;exact PySem.EqNone.eq_none_bool (fin_bl I q (by simp))
    | int j=>obtain ⟨t',rfl⟩:=ry;exact PySem.EqNone.eq_none_int (fin_bl I q (by simp))
    | str j=>obtain ⟨t',rfl⟩:=ry;exact PySem.EqNone.eq_none_str (fin_bl I q (by simp))
    | _=>exact absurd (show false=true from hs) Bool.false_ne_true
  | bl i =>
    cases rx
    cases y with
    | non=>cases ry;exact PySem.EqNone.eq_bool_none (fin_bl I q (by simp))
    | bl j=>cases ry;exact eq_bool (fin_bl I q dec_bl)
    | str j=>obtain ⟨t',rfl⟩:=ry;exact PySem.EqMixed.eq_bool_str (fin_bl I q (by simp))
    | _=>exact absurd (show false=true from hs) Bool.false_ne_true
  | int i =>
    obtain ⟨t,rfl⟩:=rx
    cases y with
    | non=>cases ry;exact PySem.EqNone.eq_int_none (fin_bl I q (by simp))
    | int j=>obtain ⟨t',rfl⟩:=ry;exact eq_int (fin_bl I q dec_int)
    | str j=>obtain ⟨t',rfl⟩:=ry;exact PySem.EqMixed.eq_int_str (fin_bl I q (by simp))
    | _=>exact absurd (show false=true from hs) Bool.false_ne_true
  | str i =>
    obtain ⟨t,rfl⟩:=rx
    cases y with
    | non=>cases ry;exact PySem.EqNone.eq_str_none (fin_bl I q (by simp))
    | bl j=>cases ry;exact PySem.EqMixed.eq_str_bool (fin_bl I q (by simp))
    | int j=>obtain ⟨t',rfl⟩:=ry;exact PySem.EqMixed.eq_str_int (fin_bl I q (by simp))
    | str j=>obtain ⟨t',rfl⟩:=ry;exact eq_str (fin_bl I q dec_str)
    | _=>exact absurd (show false=true from hs) Bool.false_ne_true
  | byt i =>
    obtain ⟨t,rfl⟩:=rx
    cases y with
    | byt j=>obtain ⟨t',rfl⟩:=ry;exact PySem.W.eq_bytes (fin_bl I q dec_byt)
    | _=>exact absurd (show false=true from hs) Bool.false_ne_true
  | _=>cases y <;> exact absurd (show false=true from hs) Bool.false_ne_true
theorem op_ne:OpR X (compareOp .NotEq) rNe:=by
  intro pins s σ H x y v u Q I rx ry h
  obtain ⟨hs,q⟩:=h
  cases x with
  | non =>
    cases rx
    cases y with
    | non=>cases ry;exact PySem.EqNone.ne_none_none (fin_bl I q (by simp))
    | bl j=>cases ry;exact PySem.EqNone.ne_none_bool (fin_bl I q (by simp))
    | int j=>obtain ⟨t',rfl⟩:=ry;exact PySem.EqNone.ne_none_int (fin_bl I q (by simp))
    | str j=>obtain ⟨t',rfl⟩:=ry;exact PySem.EqNone.ne_none_str (fin_bl I q (by simp))
    | _=>exact absurd (show false=true from hs) Bool.false_ne_true
  | bl i =>
    cases rx
    cases y with
    | non=>cases ry;exact PySem.EqNone.ne_bool_none (fin_bl I q (by simp))
    | bl j=>cases ry;exact ne_bool (fin_bl I q (congrArg not dec_bl))
    | str j=>obtain ⟨t',rfl⟩:=ry;exact PySem.EqMixed.ne_bool_str (fin_bl I q (by simp))
    | _=>exact absurd (show false=true from hs) Bool.false_ne_true
  | int i =>
    obtain ⟨t,rfl⟩:=rx
    cases y with
    | non=>cases ry;exact PySem.EqNone.ne_int_none (fin_bl I q (by simp))
    | int j=>obtain ⟨t',rfl⟩:=ry;exact ne_int (fin_bl I q (congrArg not dec_int))
    | str j=>obtain ⟨t',rfl⟩:=ry;exact PySem.EqMixed.ne_int_str (fin_bl I q (by simp))
    | _=>exact absurd (show false=true from hs) Bool.false_ne_true
  | str i =>
    obtain ⟨t,rfl⟩:=rx
    cases y with
    | non=>cases ry;exact PySem.EqNone.ne_str_none (fin_bl I q (by simp))
    | bl j=>cases ry;exact PySem.EqMixed.ne_str_bool (fin_bl I q (by simp))
    | int j=>obtain ⟨t',rfl⟩:=ry;exact PySem.EqMixed.ne_str_int (fin_bl I q (by simp))
    | str j=>obtain ⟨t',rfl⟩:=ry;exact ne_str (fin_bl I q (congrArg not dec_str))
    | _=>exact absurd (show false=true from hs) Bool.false_ne_true
  | byt i =>
    obtain ⟨t,rfl⟩:=rx
    cases y with
    | byt j=>obtain ⟨t',rfl⟩:=ry;exact PySem.W.ne_bytes (fin_bl I q (congrArg not dec_byt))
    | _=>exact absurd (show false=true from hs) Bool.false_ne_true
  | _=>cases y <;> exact absurd (show false=true from hs) Bool.false_ne_true
theorem op_lt:OpR X (compareOp .Lt) (rI0 fun i j=>.bl (decide (i < j))):=opB0 fun _ _ _ _ _ _ _ q=>lt_int q
theorem op_gt:OpR X (compareOp .Gt) (rI0 fun i j=>.bl (decide (j < i))):=opB0 fun _ _ _ _ _ _ _ q=>gt_int q
theorem op_ge:OpR X (compareOp .GtE) (rI0 fun i j=>.bl (decide (j<=i))):=opB0 fun _ _ _ _ _ _ _ q=>ge_int q
theorem op_in_str:OpR X (compareOp .In) (fun x y H Q=>∃ i j,x = .str i/\y = .str j/\Q (.bl (!(Builtin.Str.occurrences j i 0 j.length 1).isEmpty)) H):=by
  intro pins s σ H x y v u Q I rx ry h
  obtain ⟨i,j,rfl,rfl,q⟩:=h
  obtain ⟨t,rfl⟩:=rx
  obtain ⟨t',rfl⟩:=ry
  exact in_str (fin_bl I q rfl)
theorem op_isN:OpR X (compareOp .Is) (fun x y H Q=>y = .non/\Q (.bl (decide (x = .non))) H):=by
  intro pins s σ H x y v u Q I rx ry h
  obtain ⟨rfl,q⟩:=h
  cases ry
  refine is_none_gen (fin_bl I q ?_)
  cases x <;> first
    | (cases rx;rfl)
    | (obtain ⟨t,rfl⟩:=rx;rfl)
theorem op_notN:OpR X (compareOp .IsNot) (fun x y H Q=>y = .non/\Q (.bl (!decide (x = .non))) H):=by
  intro pins s σ H x y v u Q I rx ry h
  obtain ⟨rfl,q⟩:=h
  cases ry
  refine isnot_none_gen (fin_bl I q ?_)
  cases x <;> first
    | (cases rx;rfl)
    | (obtain ⟨t,rfl⟩:=rx;rfl)
theorem op_notin_str:OpR X (compareOp .NotIn) (fun x y H Q=>∃ i j,x = .str i/\y = .str j/\Q (.bl (!(!(Builtin.Str.occurrences j i 0 j.length 1).isEmpty))) H):=by
  intro pins s σ H x y v u Q I rx ry h
  obtain ⟨i,j,rfl,rfl,q⟩:=h
  obtain ⟨t,rfl⟩:=rx
  obtain ⟨t',rfl⟩:=ry
  exact notIn_str (fin_bl I q rfl)
theorem nomark (b:Expr) {op:CmpOp} (h:op ≠ .In:=by decide) (h2:op ≠ .NotIn:=by decide):behindInMarks op b=false:=by
  have e1:(op == CmpOp.In)=false:=by cases op <;> first | rfl | exact absurd rfl h
  have e2:(op == CmpOp.NotIn)=false:=by cases op <;> first | rfl | exact absurd rfl h2
  cases b <;> simp [behindInMarks,e1,e2]
theorem pe_cmpR {op:CmpOp} {r:R2} (ho:OpR X (compareOp op) r) (ha:PE X a ta) (hb:PE X b tb) (hm:behindInMarks op b=false):PE X (.Compare a [op] [b] pos) (tOp r ta tb):=by
  intro pins s σ H Q I h
  exact wpAny_Compare1 (binT ha hb I h fun v u s2 x y H2 I2 rx ry q=>ho pins s2 σ H2 x y v u Q I2 rx ry q) hm
noncomputable def tTest (t:TE):TT:=fun σ H Q=>t σ H fun x H'=>∃ k,x = .bl k/\Q k H'
theorem pt_cmpR {op:CmpOp} {r:R2} (ho:OpR X (compareOp op) r) (ha:PE X a ta) (hb:PE X b tb) (hm:behindInMarks op b=false):PT X (.Compare a [op] [b] pos) (tTest (tOp r ta tb)):=by
  intro pins s σ H Q I h
  refine wpAny_isTrue_Compare1 (thn (ha pins s σ H _ I h) fun v s1 ⟨x,H1,I1,r1,q1⟩=>thn (hb pins s1 σ H1 _ I1 q1) fun u s2 ⟨y,H2,I2,r2,q2⟩ =>
    thn (ho pins s2 σ H2 x y v u _ I2 r1 r2 q2) fun c s3 ⟨z,H3,I3,r3,k,e,q3⟩=>?_) hm
  subst e
  cases r3
  exact wpAny_truthy_bool ⟨H3,I3,q3⟩
theorem line63:(sizeLine:Nat) < 2 ^ 63:=by rw [sizeLine_eq];decide
theorem op_add_str:OpR X (binaryOp .Add) (fun x y H Q=>∃ i j,x = .str i/\y = .str j/\i.length + j.length<=sizeLine/\Q (.str (i ++ j)) H):=by
  intro pins s σ H x y v u Q I rx ry h
  obtain ⟨i,j,rfl,rfl,hz,q⟩:=h
  obtain ⟨t,rfl⟩:=rx
  obtain ⟨t',rfl⟩:=ry
  exact add_str (fun t' tk=>⟨.str (i ++ j),H,I.tok _,⟨_,rfl⟩,q⟩) hz
theorem vals1 {x:V} {us:List Value} (r:Vals [x] us):∃ u,us=[u]/\RelV x u:=by
  cases r with
  | cons r1 r2=>cases r2;exact ⟨_,rfl,r1⟩
theorem call_abs:CallR X (.builtin "abs") (fun xs H Q=>∃ i,xs=[.int i]/\Q (.int (if i < 0 then -i else i)) H):=by
  intro pins s σ H xs us Q I r h
  obtain ⟨i,rfl,q⟩:=h
  obtain ⟨u,rfl,t,rfl⟩:=vals1 r
  exact call_abs_int fun u tk=>⟨.int (if i < 0 then -i else i),H,I.tok _,⟨_,rfl⟩,q⟩
theorem call_int1:CallR X (.type "int") (fun xs H Q=>(∃ i,xs=[.int i]/\Q (.int i) H)\/∃ k,xs=[.bl k]/\Q (.int (if k then 1 else 0)) H):=by
  intro pins s σ H xs us Q I r h
  rcases h with ⟨i,rfl,q⟩ | ⟨k,rfl,q⟩
  . obtain ⟨u,rfl,t,rfl⟩:=vals1 r
    exact call_int_int ⟨.int i,H,I,⟨_,rfl⟩,q⟩
  . obtain ⟨u,rfl,r1⟩:=vals1 r
    cases r1
    exact call_int_bool ⟨.int (if k then 1 else 0),H,I.tok _,⟨_,rfl⟩,q⟩
end
end L2
namespace L2
open PySem PySem.Spec PyProof.Rows
structure ObjM (h:Heap) (x dx C:Addr) (mA:Str->Option Value):Prop where
  obj:h.get? x=some (PySem.W.instObj C dx)
  ns:h.Ns1 dx mA
  ne:dx ≠ x
theorem lookIn_ns {h:Heap} {dx:Addr} {mA:Str->Option Value} (n:h.Ns1 dx mA):∃ od,h.get? dx=some od/\∀ name,PySem.W.lookIn name od=some (mA name):=by
  obtain ⟨o,es,ep,ho,hd,hk,_,hm⟩:=n
  refine ⟨o,ho,fun name=>?_⟩
  have e:=hm name
  unfold nsFind findBy at e
  rw [<- Array.find?_toList] at e
  unfold PySem.W.lookIn
  rw [hd]
  dsimp only
  split
  . rename_i y q
    rw [q] at e
    exact congrArg some e
  . rename_i q
    rw [q] at e
    have a:es.toList.any (·.refKey)=false:=by
      rw [List.any_eq_false]
      intro y hy
      obtain ⟨z,t,hkey⟩:=hk y (Array.mem_toList_iff.mp hy)
      simp [DictEntry.refKey,hkey]
    have a':¬ es.toList.any (·.refKey)=true:=by rw [a];exact Bool.false_ne_true
    rw [if_neg a']
    exact congrArg some e
theorem ObjM.look {h:Heap} {x dx C:Addr} {mA:Str->Option Value} (I:ObjM h x dx C mA):∃ od,PySem.W.InstAt h x (PySem.W.instObj C dx) C (some od)/\∀ name,PySem.W.lookIn name od=some (mA name) :=
  let ⟨od,ho,hl⟩:=lookIn_ns I.ns
  ⟨od,⟨I.obj,rfl,rfl,ho⟩,hl⟩
section
variable {prog:Program} {w:World} {A:Around} {E:Value->Shared->Prop} {s:Shared} {K:PySem.W.Frag} {x dx C f:Addr} {mA:Str->Option Value} {name:Str} {v:Value}
end
section
variable {P:Program} {w:World} {H H':Hp} {h h':Heap} {a C dx:Addr} {fs:List (Str × V)}
theorem ins_get (hok:HOk P w H h) (e:H a=some (.ins C dx fs)):∃ mA,ObjM h a dx C mA/\(∀ f,RelO (fs.lookup f) (mA f))/\PySem.Within mA (fs.map (·.1))/\fs.length<=1000/\H dx=some (.own a):=by
  obtain ⟨d,z,ne,ob,mA,n,r,q⟩:=(show ObjOk P w H h a (.ins C dx fs) from hok a _ e)
  exact ⟨mA,⟨ob,n,ne⟩,r,q,z,d⟩
end
structure Cls (K:PySem.W.Frag) (C:Addr):Prop where
  pg:PySem.W.plainGet K C Str.empty=true
  hd:PySem.W.hasDictIn K C=true
  po:PySem.W.plainOver K C=true
  sa:PySem.W.findIn K (.ref C) "__setattr__" = some (some (.builtin "object.__setattr__"))
theorem Cls.get {K:PySem.W.Frag} {C:Addr} (c:Cls K C) (f:Str):PySem.W.plainGet K C f=true:=c.pg
structure Con (K:PySem.W.Frag) (C:Addr) (f:Str) (v:V) (u:Value):Prop where
  at_:PySem.W.findIn K (.ref C) f=some (some u)
  rel:RelV v u
  get:PySem.W.specialIn K u "__get__" = some none
  cp:PySem.W.copiedNames.contains f=false
section
variable {X:Cx} {pins:List (Addr × Obj)} {σ:St} {H:Hp} {s:Shared} {a C dx:Addr} {fs:List (Str × V)} {f:Str} {v:V} {A:Around} {E:Value->Shared->Prop}
end
section
variable {X:Cx} {o e value:Expr} {f:Str} {pos pos':Pos} {ta:TE}
end
section
variable {X:Cx} {pins:List (Addr × Obj)} {σ:St} {H:Hp} {s:Shared} {A:Around} {E:Value->Shared->Prop} {Q:Value->Shared->Prop} {c:Value} {b:Bool}
inductive TyOf (K:PySem.W.Frag) (H:Hp):V->Value->Prop where
  | non:TyOf K H .non (.type "NoneType")
  | bl (x:Bool):TyOf K H (.bl x) (.type "bool")
  | int (i:Int):TyOf K H (.int i) (.type "int")
  | str (x:Str):TyOf K H (.str x) (.type "str")
  | flt (x:UInt64):TyOf K H (.flt x) (.type "float")
  | lst {a:Addr} {xs:List V} (e:H a=some (.lst xs)):TyOf K H (.ref a) (.type "list")
  | frz {a:Addr} {o:Obj} {xs:List V} (e:H a=some (.frz o (.lst xs))):TyOf K H (.ref a) (.type "list")
  | tup {a:Addr} {xs:List V} (e:H a=some (.tup xs)):TyOf K H (.ref a) (.type "tuple")
  | dK {a:Addr} {kvs:List (Key × V)} (e:H a=some (.dK kvs)):TyOf K H (.ref a) (.type "dict")
  | dT {a:Addr} {kvs:List (List Key × V)} (e:H a=some (.dT kvs)):TyOf K H (.ref a) (.type "dict")
  | ins {a C dx:Addr} {fs:List (Str × V)} (e:H a=some (.ins C dx fs)) (cl:Cls K C) (ha:PySem.W.findIn K (.ref C) "__class__" = some (some (.builtin "object.__class__")))
      (hn:PySem.W.specialIn K (.builtin "object.__class__") "__get__" = some (some (.builtin "getset_descriptor.__get__"))) (htk:PySem.W.takesIn K (.builtin "object.__class__")=some true)
      (hm:PySem.W.mroIn K C (.type "object")=some true):TyOf K H (.ref a) (.ref C)
theorem isinst_ok {x:V} {u t:Value} (I:Inv X pins σ H s) (rx:RelV x u) (ty:TyOf X.K H x t) (e:PySem.W.kitOne X.K t c=some b) (h:∀ tk,Q (.bool b) { s with toks:=tk }) :
    wpAny (model X.prog X.w) A (call (.builtin "isinstance") [u,c]) Q E s:=by
  cases ty with
  | non=>cases (show u=Value.none from rx);exact PySem.W.kia_one PySem.W.kitx_none I.kIn True.intro e (fun z=>nomatch z) h
  | bl y=>cases (show u=Value.bool y from rx);exact PySem.W.kia_one PySem.W.kitx_bool I.kIn True.intro e (fun z=>nomatch z) h
  | int i=>obtain ⟨t,q⟩:=(show ∃ t,u=Value.int i t from rx);cases q;exact PySem.W.kia_one PySem.W.kitx_int I.kIn True.intro e (fun z=>nomatch z) h
  | str y=>obtain ⟨t,q⟩:=(show ∃ t,u=Value.str y t from rx);cases q;exact PySem.W.kia_one PySem.W.kitx_str I.kIn True.intro e (fun z=>nomatch z) h
  | flt y=>obtain ⟨t,q⟩:=(show ∃ t,u=Value.float y t from rx);cases q;exact PySem.W.kia_one PySem.W.kitx_float I.kIn True.intro e (fun z=>nomatch z) h
  | @lst a xs ea =>
    cases (show u=Value.ref a from rx)
    obtain ⟨_,_,n,_,h1⟩:=(show ObjOk X.prog X.w H s.heap a (.lst xs) from I.hok a _ ea)
    exact PySem.W.kia_one PySem.W.kitx_list I.kIn ⟨_,h1,rfl⟩ e (fun z=>nomatch z) h
  | @frz a ob xs ea =>
    cases (show u=Value.ref a from rx)
    obtain ⟨_,_,_,n,_,h1⟩:=(show ObjOk X.prog X.w H s.heap a (.frz ob (.lst xs)) from I.hok a _ ea)
    exact PySem.W.kia_one PySem.W.kitx_list I.kIn ⟨_,h1,rfl⟩ e (fun z=>nomatch z) h
  | @tup a xs ea =>
    cases (show u=Value.ref a from rx)
    obtain ⟨_,_,_,p⟩:=(show ObjOk X.prog X.w H s.heap a (.tup xs) from I.hok a _ ea)
    obtain ⟨o,h1,h2,_⟩:=p
    exact PySem.W.kia_one PySem.W.kitx_tuple I.kIn ⟨o,h1,h2⟩ e (fun z=>nomatch z) h
  | @dK a kvs ea =>
    cases (show u=Value.ref a from rx)
    obtain ⟨_,_,vs,_,p⟩:=(show ObjOk X.prog X.w H s.heap a (.dK kvs) from I.hok a _ ea)
    obtain ⟨o,es,ep,h1,h2,_⟩:=p
    exact PySem.W.kia_one PySem.W.kitx_dict I.kIn ⟨o,h1,h2.1⟩ e (fun z=>nomatch z) h
  | @dT a kvs ea =>
    cases (show u=Value.ref a from rx)
    obtain ⟨_,_,xs,_,o,es,ep,h1,h2,_⟩:=(show ObjOk X.prog X.w H s.heap a (.dT kvs) from I.hok a _ ea)
    exact PySem.W.kia_one PySem.W.kitx_dict I.kIn ⟨o,h1,h2.1⟩ e (fun z=>nomatch z) h
  | @ins a C dx fs ea cl ha hn htk hm =>
    cases (show u=Value.ref a from rx)
    obtain ⟨mA,O,_⟩:=ins_get I.hok ea
    obtain ⟨od,J,_⟩:=O.look
    exact PySem.W.kia_one (PySem.W.kitx_own (cl.get _) cl.hd ha hn htk hm) I.kIn J e (fun z=>nomatch z) h
end
end L2
namespace L2
open PySem PySem.Spec PyProof.Rows
structure Room (k:Nat) (A:Around):Prop where
  hd:A.handled=none
  dp:A.depth + 3 * k + 5 < recursionLimit
  un:A.units + 16 * k + 200 < cLine
theorem Room.mono {j k:Nat} {A:Around} (r:Room k A) (h:j<=k):Room j A:=⟨r.hd,by have:=r.dp;omega,by have:=r.un;omega⟩
theorem Room.deeper {k:Nat} {A:Around} (r:Room (k + 1) A) (env:Env):Room k (A.deeper env) :=
  ⟨r.hd,by have:=r.dp;show A.depth + 1 + 3 * k + 5 < _;omega,by have:=r.un;show A.units + 3 + 16 * k + 200 < _;omega⟩
theorem Room.depth {k:Nat} {A:Around} (r:Room k A):A.depth < recursionLimit:=by have:=r.dp;omega
theorem Room.units {k:Nat} {A:Around} (r:Room k A):A.units + 64 < cLine:=by have:=r.un;omega
noncomputable def tNil:TA:=fun _ H Q=>Q [] H
noncomputable def tCons (ta:TE) (tr:TA):TA:=fun σ H Q=>ta σ H fun x H1=>tr σ H1 fun xs H2=>Q (x :: xs) H2
section
variable {X:Cx} {e:Expr} {es:List Expr} {te:TE} {t:TA} {pos:Pos}
theorem pa_nil:PA X [] tNil:=fun _ _ _ _ H Q I h=>Calls.spliced_nil ⟨[],H,I,.nil,h⟩
theorem pa_cons (ha:PE X e te) (hr:PA X es t) (hs:starEach (e :: es) X.env=(false,eval e X.env) :: starEach es X.env:=by rfl):PA X (e :: es) (tCons te t):=by
  intro pos pins s σ H Q I h
  rw [hs]
  show wpAny _ _ (spliced ((false,eval e X.env) :: backTo pos (starEach es X.env))) _ _ s
  refine Calls.spliced_cons (thn (ha pins s σ H _ I h) fun u s1 ⟨x,H1,I1,r1,q1⟩=>?_)
  exact thn (hr pos pins s1 σ H1 _ I1 q1) fun us s2 ⟨xs,H2,I2,r2,q2⟩=>⟨x :: xs,H2,I2,.cons r1 r2,q2⟩
noncomputable def tTup (t:TA):TE:=fun σ H Q=>t σ H fun xs H1=>xs.length<=sizeLine/\∀ p,H1 p=none->Q (.ref p) (upd H1 p (.tup xs))
noncomputable def tLst (t:TA):TE:=fun σ H Q=>t σ H fun xs H1=>xs.length<=sizeLine/\∀ p,H1 p=none->Q (.ref p) (upd H1 p (.lst xs))
theorem pe_tup {x1} (h:PA X es t):PE X (.Tuple es x1 pos) (tTup t):=by
  intro pins s σ H Q I hq
  refine wpAny_Tuple_spliced (thn (h pos pins s σ H _ I hq) fun us s1 ⟨xs,H1,I1,r,z,q⟩=>⟨by rw [<- r.length];exact z,?_⟩)
  have hf:H1 s1.heap.objs.size=none:=I1.hok.fresh (Nat.le_refl _)
  refine ⟨.ref s1.heap.objs.size,upd H1 s1.heap.objs.size (.tup xs),I1.laid (t':=s1.toks) (fun b u e=>Heap.get?_push_of_some _ e) (Nat.le_refl _) ?_,rfl,q _ hf⟩
  exact ⟨z,us,r,⟨_,Heap.get?_push_size _ rfl,rfl,_,rfl⟩⟩
theorem pe_lst (h:PA X es t):PE X (.List es pos) (tLst t):=by
  intro pins s σ H Q I hq
  refine wpAny_List_spliced (thn (h pos pins s σ H _ I hq) fun us s1 ⟨xs,H1,I1,r,z,q⟩=>⟨by rw [<- r.length];exact z,?_⟩)
  have hf:H1 s1.heap.objs.size=none:=I1.hok.fresh (Nat.le_refl _)
  refine ⟨.ref s1.heap.objs.size,upd H1 s1.heap.objs.size (.lst xs),I1.laid (t':=s1.toks) (fun b u e=>Heap.get?_push_of_some _ e) (Nat.le_refl _) ?_,rfl,q _ hf⟩
  exact ⟨z,us,0,r,Heap.get?_push_size _ rfl⟩
end
noncomputable abbrev Sp:=List V->Hp->VK->XK->Prop
noncomputable abbrev CXT:=List Env->Hp->Shared->XK->Value->Shared->Prop
structure Env0 (P:Program) (w:World) (K:PySem.W.Frag) (mg:Str->Option Value) (base:Heap) (A:Around) (outer:List Env) (s:Shared) (H:Hp):Prop where
  frames:A.frames=some outer
  mod:Mod K mg base
  bs:∀ b o,base.get? b=some o->s.heap.get? b=some o/\H b=none
  bsz:base.objs.size<=s.heap.objs.size
  funs:s.heap.FunFrames base outer
  frf:∀ b ∈ frs outer,H b=none
  hok:HOk P w H s.heap
  bare:AllBare s.gens
noncomputable def CE (outer:List Env) (P:Program) (w:World) (H:Hp) (s:Shared) (Q:VK) (u:Value) (s':Shared):Prop :=
  ∃ v H',s'.os=s.os/\AllBare s'.gens/\Un (frs outer) [] H H' s.heap s'.heap/\HOk P w H' s'.heap/\RelV v u/\Q v H'
noncomputable def CR (CX:CXT) (outer:List Env) (P:Program) (w:World) (H:Hp) (s:Shared) (Q:VK) (E:XK) (r:Result) (s':Shared):Prop :=
  match r with
  | .ok (.ret u)=>CE outer P w H s Q u s'
  | .ok _=>False
  | .error e=>CX outer H s E e s'
structure FnOk (P:Program) (w:World) (K:PySem.W.Frag) (mg:Str->Option Value) (base:Heap) (CX:CXT) (k:Nat) (f:Addr) (fd:FuncData) (ps:List Str) (sp:Sp):Prop where
  len:∀ vs H Q E,sp vs H Q E->vs.length=ps.length
  run:∀ (A:Around) (outer:List Env) (s:Shared) (H:Hp) (args:Args) (us:List Value) (vs:List V) (Q:VK) (E:XK),Room k A->Env0 P w K mg base A outer s H->BindsTo s fd args (ps.zip us)->Vals vs us->sp vs H Q E ->
    codeAny (model P w) A (.call (.ref f) args) (CR CX outer P w H s Q E) s
section
variable {X:Cx} {pins:List (Addr × Obj)} {σ:St} {H:Hp} {s s':Shared}
theorem Inv.env0 (I:Inv X pins σ H s):Env0 X.prog X.w X.K X.mg X.base X.A X.stack s H :=
  ⟨I.ok.frames,I.ok.mod,I.bs,Nat.le_trans I.ok.bsz I.sz,I.stack,I.stkFree,I.hok,I.bare⟩
theorem Inv.after {Q:VK} {u:Value} (I:Inv X pins σ H s) (h:CE X.stack X.prog X.w H s Q u s'):EP X pins σ Q u s':=by
  obtain ⟨v,H',os,bare,un,hok,r,q⟩:=h
  obtain ⟨hh,g,d,t,os'⟩:=s'
  obtain rfl:os'=s.os:=os
  exact ⟨v,H',I.call (h':=hh) (g':=g) (d':=d) (t':=t) (ch:=[]) un hok bare (fun b z=>absurd z (by simp)),r,q⟩
end
noncomputable def tCall (sp:Sp) (dvs:List V) (E:XK) (t:TA):TE:=fun σ H Q=>t σ H fun vs H1=>sp (vs ++ dvs) H1 Q E
noncomputable def Binds (K:PySem.W.Frag) (fd:FuncData) (ps:List Str) (ds:List Value):Prop :=
  ∀ (s:Shared) (us:List Value),K.In s.heap->(us ++ ds).length=ps.length->BindsTo s fd ⟨us,[]⟩ (ps.zip (us ++ ds))
theorem Binds.all {K:PySem.W.Frag} {fd:FuncData} {ps:List Str} (h:∀ us:List Value,us.length=ps.length->bindArgs fd ⟨us,[]⟩=pure (ps.zip us)):Binds K fd ps []:=fun s us _ hl=>by
  rw [List.append_nil] at hl ⊢
  exact .of_eq (h us hl)
noncomputable def Passes (CX:CXT) (X:Cx) (E:XK):Prop:=∀ (pins:List (Addr × Obj)) (σ:St) (H:Hp) (s:Shared) (e:Value) (s':Shared),Inv X pins σ H s->CX X.stack H s E e s'->X.xe e s'
section
variable {X:Cx} {CX:CXT} {k:Nat} {f C:Addr} {fd:FuncData} {ps:List Str} {sp:Sp} {dvs:List V} {ds:List Value} {E:XK} {x m:Str} {p pos apos:Pos} {e o:Expr} {es:List Expr} {ta:TE} {t:TA}
theorem run_fn {pins:List (Addr × Obj)} {σ:St} {H:Hp} {s:Shared} {Q:VK} {us:List Value} {vs:List V} (F:FnOk X.prog X.w X.K X.mg X.base CX k f fd ps sp) (hr:Room k X.A) (hb:Binds X.K fd ps ds) (hd:Vals dvs ds) (hx:Passes CX X E)
    (I:Inv X pins σ H s) (r:Vals vs us) (h:sp (vs ++ dvs) H Q E):wpAny (model X.prog X.w) X.A (call (.ref f) us) (EP X pins σ Q) X.xe s:=by
  have r2:Vals (vs ++ dvs) (us ++ ds):=r.append hd
  have hl:(us ++ ds).length=ps.length:=by rw [<- r2.length];exact F.len _ _ _ _ h
  refine wpAny_call (codeAny_mono (F.run X.A X.stack s H ⟨us,[]⟩ (us ++ ds) (vs ++ dvs) Q E hr I.env0 (hb s us I.kIn hl) r2 h) fun r s' hq=>?_)
  cases r with
  | error e=>exact hx pins σ H s e s' I hq
  | ok fl =>
    cases fl with
    | ret u=>exact I.after hq
    | next=>exact False.elim hq
    | brk=>exact False.elim hq
    | cont=>exact False.elim hq
theorem pe_call (F:FnOk X.prog X.w X.K X.mg X.base CX k f fd ps sp) (hr:Room k X.A) (hg:Gl X x) (hm:X.mg x=some (.ref f)) (hk:PySem.W.keepIn X.K (.ref f)=true) (hb:Binds X.K fd ps ds) (hd:Vals dvs ds) (hx:Passes CX X E)
    (ha:PA X (e :: es) t) (hdb:(x == ("__debug__" : Str))=false:=by decide) (he:starEach (e :: es) X.env=(false,eval e X.env) :: starEach es X.env:=by rfl) (hpl:(backTo pos (starEach es X.env)).any (·.1)=false:=by rfl) :
    PE X (.Call (.Name x p) (e :: es) [] pos) (tCall sp dvs E t):=by
  intro pins s σ H Q I h
  refine wpAny_Call_Name_kw (ld_glob I hg hm ?_ hdb)
  refine PySem.W.callWith_K (h₀:=X.base) I.ok.mod.kin hk (thn (ha pos pins s σ H _ I h) fun us s1 ⟨vs,H1,I1,r,q⟩=>⟨I1.kIn,?_⟩) he hpl
  exact run_fn F hr hb hd hx I1 r q
end
section
variable {X:Cx} {CX:CXT} {k:Nat} {f C:Addr} {fd:FuncData} {ps:List Str} {sp:Sp} {E:XK} {x m:Str} {p pos apos:Pos} {e o:Expr} {es:List Expr} {te ta:TE} {t tk:TA} {nm:Option Str}
variable {g:List Value->List Value->List Value}
end
structure FnScope (N P:List Str) (sc:Scope):Prop where
  kind:sc.kind = .function
  co:sc.isCoroutine=false
  gen:sc.isGenerator=false
  nd:N.Nodup
  pre:N.take P.length=P
  par:∀ x ∈ P,sc.names.lookup x=some .local\/sc.names.lookup x=some .cell
  nofree:∀ y ∈ sc.names,y.2 ≠ .free
theorem bindL_out {kindOf:Str->Option NameKind} {x:Str}:∀ {binds:List (Str × Value)} {m:Str->Option Value},(∀ v,(x,v) ∉ binds)->bindL kindOf binds m x=m x
  | [],_,_=>rfl
  | (n,v) :: r,m,h=>by
    unfold bindL
    rw [bindL_out fun w hw=>h w (List.mem_cons_of_mem _ hw)]
    split
    . have:x ≠ n:=by rintro rfl;exact h v List.mem_cons_self
      simp [this]
    . rfl
theorem bindC_out {kindOf:Str->Option NameKind} {x:Str}:∀ {binds:List (Str × Value)} {m:Str->Option Value},(∀ v,(x,v) ∉ binds)->bindC kindOf binds m x=m x
  | [],_,_=>rfl
  | (n,v) :: r,m,h=>by
    unfold bindC
    rw [bindC_out fun w hw=>h w (List.mem_cons_of_mem _ hw)]
    split
    . rfl
    . have:x ≠ n:=by rintro rfl;exact h v List.mem_cons_self
      simp [this]
theorem bindL_get {kindOf:Str->Option NameKind} {x:Str} {v:Value}:∀ {P:List Str} {vs:List Value} {i:Nat} {m:Str->Option Value},P.Nodup->P[i]?=some x->vs[i]?=some v->kindOf x=some .local ->
    bindL kindOf (P.zip vs) m x=some v
  | [],_,_,_,_,h,_,_=>by simp at h
  | _ :: _,[],_,_,_,_,h,_=>by simp at h
  | p :: P,w :: vs,0,m,nd,h1,h2,hk=>by
    simp at h1 h2;subst h1;subst h2
    show bindL kindOf ((p,w) :: P.zip vs) m p=_
    unfold bindL
    rw [bindL_out fun v hv=>(List.nodup_cons.mp nd).1 (List.of_mem_zip hv).1,if_pos hk]
    simp
  | p :: P,w :: vs,i + 1,m,nd,h1,h2,hk=>by
    show bindL kindOf ((p,w) :: P.zip vs) m x=_
    unfold bindL
    exact bindL_get (i:=i) (List.nodup_cons.mp nd).2 (by simpa using h1) (by simpa using h2) hk
theorem bindC_get {kindOf:Str->Option NameKind} {x:Str} {v:Value}:∀ {P:List Str} {vs:List Value} {i:Nat} {m:Str->Option Value},P.Nodup->P[i]?=some x->vs[i]?=some v->kindOf x ≠ some .local ->
    bindC kindOf (P.zip vs) m x=some v
  | [],_,_,_,_,h,_,_=>by simp at h
  | _ :: _,[],_,_,_,_,h,_=>by simp at h
  | p :: P,w :: vs,0,m,nd,h1,h2,hk=>by
    simp at h1 h2;subst h1;subst h2
    show bindC kindOf ((p,w) :: P.zip vs) m p=_
    unfold bindC
    rw [bindC_out fun v hv=>(List.nodup_cons.mp nd).1 (List.of_mem_zip hv).1,if_neg hk]
    simp
  | p :: P,w :: vs,i + 1,m,nd,h1,h2,hk=>by
    show bindC kindOf ((p,w) :: P.zip vs) m x=_
    unfold bindC
    exact bindC_get (i:=i) (List.nodup_cons.mp nd).2 (by simpa using h1) (by simpa using h2) hk
noncomputable def start (N:List Str) (vs:List V):St:=vs.map some ++ List.replicate (N.length - vs.length) none
noncomputable def cxOf (CX:CXT) (P:Program) (w:World) (K:PySem.W.Frag) (mg:Str->Option Value) (base:Heap) (N:List Str) (qual:Str) (scope:Scope) (f:Addr) (cd:Value) (A:Around) (outer:List Env) (s:Shared) (H:Hp) (E:XK):Cx where
  prog:=P
  w:=w
  K:=K
  mg:=mg
  base:=base
  A:=A.deeper (envOfC qual scope s.heap.objs.size f cd)
  N:=N
  s₀:=s
  H₀:=H
  env:=envOfC qual scope s.heap.objs.size f cd
  outer:=outer
  stack:=envOfC qual scope s.heap.objs.size f cd :: outer
  ex:=[]
  calm:=true
  fn:=fun _=>true
  pn:=[]
  xe:=fun e s'=>wpAny (model P w) (A.deeper (envOfC qual scope s.heap.objs.size f cd)) (leaving (envOfC qual scope s.heap.objs.size f cd) e) (fun _ s''=>CX outer H s E e s'') (fun e' s''=>CX outer H s E e' s'') s'
theorem cell_has {sc:Scope} {n:Nat} {x:Str} (h:sc.names.lookup x=some .cell):∃ c,(cellsFrom n sc.names []).lookup x=some c:=by
  have q:=PySem.W.cellsFrom_some sc.names n [] (.inl h)
  exact Option.isSome_iff_exists.mp q
theorem inv_start {CX:CXT} {P:Program} {w:World} {K:PySem.W.Frag} {mg:Str->Option Value} {base:Heap} {N ps:List Str} {qual:Str} {scope:Scope} {f:Addr} {cd:Value} {A:Around} {outer:List Env} {s s1:Shared} {H:Hp} {E:XK} {us:List Value} {vs:List V}
    (S:FnScope N ps scope) (hd:A.handled=none) (e0:Env0 P w K mg base A outer s H) (hl:vs.length=ps.length) (r:Vals vs us)
    (x:InCallC s s.heap.objs.size (bindL (envOfC qual scope s.heap.objs.size f cd).kindOf (ps.zip us) fun _=>none) (cellsFrom (s.heap.objs.size + 1) scope.names []) (bindC (envOfC qual scope s.heap.objs.size f cd).kindOf (ps.zip us) fun _=>none) s1) :
    Inv (cxOf CX P w K mg base N qual scope f cd A outer s H E) [] (start N vs) H s1:=by
  have hpl:ps.length<=N.length:=by have:=congrArg List.length S.pre;rw [List.length_take] at this;omega
  obtain ⟨h1,tk,rfl,hk⟩:=x.done
  have noA:∀ b:Addr,b ∉ (cxOf CX P w K mg base N qual scope f cd A outer s H E).ex:=fun b z=>absurd (show b ∈ ([]:List Addr) from z) (by simp)
  refine ⟨⟨e0.mod,S.kind,rfl,rfl,Nat.le_refl _,fun y z c h1 h2=>?_,fun y hy=>?_,fun y c _ h=>?_,fun _=>hd,Around.frames_deeper e0.frames,.inr ⟨rfl,rfl⟩,fun b z=>absurd z (noA b),e0.bs,e0.bsz,fun b _ _=>noA b,fun b z=>absurd z (noA b),e0.funs,e0.frf⟩,
    rfl,e0.bare,Un.kept hk,⟨_,x.toInCall.ns,fun i y v h1 h2 h3=>?_⟩,fun y c h=>⟨_,x.cell y c h⟩,e0.hok.fresh (Nat.le_refl _),fun y c h=>?_,fun p hp=>absurd (show p ∈ ([]:List (Addr × Obj)) from hp) (by simp),e0.hok.kept hk,?_⟩
  . exact name_of_addr x.apart (PySem.mem_of_lookup h1) (PySem.mem_of_lookup h2)
  . have hy:scope.names.lookup y=some .cell\/scope.names.lookup y=some .free:=hy
    rcases hy with hy | hy
    . exact cell_has hy
    . exact absurd rfl (S.nofree _ (PySem.mem_of_lookup hy))
  . exact Nat.le_of_lt (x.above y c (PySem.mem_of_lookup h))
  . have hi:i < vs.length:=by
      unfold start at h2
      by_cases hi:i < vs.length
      . exact hi
      . rw [List.getElem?_append_right (by simpa using hi)] at h2
        rw [List.getElem?_replicate] at h2
        split at h2 <;> cases h2
    have ha:vs[i]?=some v:=by
      unfold start at h2
      rw [List.getElem?_append_left (by simpa using hi),List.getElem?_map] at h2
      cases e:vs[i]? with
      | none=>rw [e] at h2;cases h2
      | some a=>rw [e] at h2;cases h2;rfl
    obtain ⟨u,hu,rv⟩:=r.get ha
    have hp:ps[i]?=some y:=by
      rw [<- S.pre,List.getElem?_take_of_lt (by omega)];exact h1
    have ndP:ps.Nodup:=by rw [<- S.pre];exact S.nd.sublist (List.take_sublist _ _)
    refine ⟨u,rv,?_⟩
    rcases S.par y (List.mem_of_getElem? hp) with k | k
    . exact .inl ⟨k,bindL_get ndP hp hu k⟩
    . obtain ⟨c,e⟩:=cell_has (n:=s.heap.objs.size + 1) k
      refine .inr ⟨.inl k,c,e,?_⟩
      have q:=x.cell y c e
      rw [bindC_get ndP hp hu (by show scope.names.lookup y ≠ _;rw [k];decide)] at q
      exact q
  . exact e0.hok.fresh (Nat.le_of_lt (x.above y c (PySem.mem_of_lookup h)))
  . unfold start
    show _=N.length
    rw [List.length_append,List.length_map,List.length_replicate]
    omega
theorem fn_of {CX:CXT} {P:Program} {w:World} {K:PySem.W.Frag} {mg:Str->Option Value} {base:Heap} {k:Nat} {f:Addr} {name qual:Str} {params:Arguments} {body:List Stmt} {scope:Scope} {dV kV doc pm cdv ct oc:Value} {an od:Option Addr}
    {osl:Array (Option Value)} {N ps:List Str} {sp:Sp} (lk:K.lookup f=some ⟨oc,od,.func (PySem.W.fnOf name qual params body scope dV kV doc pm an cdv ct),osl⟩) (hcd:PySem.W.codeIn K cdv qual=true) (S:FnScope N ps scope)
    (len:∀ vs H Q E,sp vs H Q E->vs.length=ps.length)
    (hbody:∀ (A:Around) (outer:List Env) (s:Shared) (H:Hp) (vs:List V) (Q:VK) (E:XK),Room k (A.deeper (envOfC qual scope s.heap.objs.size f cdv))->sp vs H Q E ->
      ∃ t,PSs (cxOf CX P w K mg base N qual scope f cdv A outer s H E) body t/\t { nx:=fun _ H'=>Q .non H',rt:=Q } (start N vs) H) :
    FnOk P w K mg base CX (k + 1) f (PySem.W.fnOf name qual params body scope dV kV doc pm an cdv ct) ps sp:=by
  refine ⟨len,fun A outer s H args us vs Q E hr e0 hb r hsp=>?_⟩
  have hl:=len _ _ _ _ hsp
  have KX:K.In s.heap:=e0.mod.kin.keeps fun b o e=>(e0.bs b o e).1
  have lim:s.heap.NoLimit:=e0.mod.nolimit.keeps fun b o e=>(e0.bs b o e).1
  have hkind:∀ y ∈ ps.zip us,scope.names.lookup y.1=some .local\/(scope.names.lookup y.1=some .cell/\((cellsFrom (s.heap.objs.size + 1) scope.names []).lookup y.1).isSome=true):=fun ⟨n,v⟩ hy=>by
    rcases S.par n (List.of_mem_zip hy).1 with q | q
    . exact .inl q
    . exact .inr ⟨q,PySem.W.cellsFrom_some _ _ _ (.inl q)⟩
  refine codeAny_call_function hr.depth (KX _ _ lk) rfl S.co S.gen rfl (PySem.W.codeRec_of KX hcd) (hb _ _ _ _ ?_)
  refine wpAny_newFunctionEnv_cells S.kind hkind fun env he s1 x=>?_
  subst he
  refine ⟨lim.keeps x.toInCall.keep,codeAny_func ?_⟩
  obtain ⟨t,ht,hq⟩:=hbody A outer s H vs Q E (hr.deeper _) hsp
  have I:Inv (cxOf CX P w K mg base N qual scope f cdv A outer s H E) [] (start N vs) H s1:=inv_start S hr.hd e0 hl r x
  refine wpAny_mono (ht [] s1 (start N vs) H _ I hq) (fun fl s' hs=>?_) fun e s' hs=>hs
  have fin:∀ {σ':St} {H':Hp} {v:V} {u:Value},Inv (cxOf CX P w K mg base N qual scope f cdv A outer s H E) [] σ' H' s'->RelV v u->Q v H'->CE outer P w H s Q u s' :=
    fun {σ' H' v u} J rv q=>⟨v,H',J.os,J.bare,J.base,J.hok,rv,q⟩
  cases fl with
  | ret u =>
    obtain ⟨v,σ',H',J,rv,q⟩:=hs
    exact fin J rv q
  | next =>
    obtain ⟨σ',H',J,q⟩:=hs
    exact fin (v:=V.non) (u:=Value.none) J rfl q
  | brk =>
    obtain ⟨_,_,_,q⟩:=hs
    exact False.elim q
  | cont =>
    obtain ⟨_,_,_,q⟩:=hs
    exact False.elim q
end L2
namespace L2
open PySem PySem.Spec PyProof.Rows
section
variable {X:Cx} {x:Str} {p pos:Pos} {e:Expr} {es:List Expr} {t:TA} {id T:String} {r:List V->Hp->VK->Prop}
noncomputable def tCB (r:List V->Hp->VK->Prop) (t:TA):TE:=fun σ H Q=>t σ H fun vs H1=>r vs H1 Q
theorem pe_callB (hc:CallR X (.builtin id) r) (hg:Gl X x) (hm:X.mg x=none) (hv:bootBuiltins x=some (.builtin id)) (ha:PA X (e :: es) t) (hn:x ≠ "__name__" := by decide) (hdb:(x == ("__debug__" : Str))=false:=by decide)
    (he:starEach (e :: es) X.env=(false,eval e X.env) :: starEach es X.env:=by rfl) (hpl:(backTo pos (starEach es X.env)).any (·.1)=false:=by rfl):PE X (.Call (.Name x p) (e :: es) [] pos) (tCB r t):=by
  intro pins s σ H Q I h
  refine wpAny_Call_Name_kw (ld_blt I hg hm hv ?_ hn hdb)
  exact PyProof.Rows.callWith_builtin1 (thn (ha pos pins s σ H _ I h) fun us s1 ⟨vs,H1,I1,r1,q1⟩=>hc pins s1 σ H1 vs us Q I1 r1 q1) he hpl
theorem pe_callTy (hc:CallR X (.type T) r) (hg:Gl X x) (hm:X.mg x=none) (hv:bootBuiltins x=some (.type T)) (ha:PA X (e :: es) t) (hn:x ≠ "__name__" := by decide) (hdb:(x == ("__debug__" : Str))=false:=by decide)
    (he:starEach (e :: es) X.env=(false,eval e X.env) :: starEach es X.env:=by rfl) (hpl:(backTo pos (starEach es X.env)).any (·.1)=false:=by rfl):PE X (.Call (.Name x p) (e :: es) [] pos) (tCB r t):=by
  intro pins s σ H Q I h
  refine wpAny_Call_Name_kw (ld_blt I hg hm hv ?_ hn hdb)
  exact PyProof.Rows.callWith_type1 (thn (ha pos pins s σ H _ I h) fun us s1 ⟨vs,H1,I1,r1,q1⟩=>hc pins s1 σ H1 vs us Q I1 r1 q1) he hpl
end
end L2
namespace HT
open PySem PyProof.Rows
section
open PySem.SeqAt
open PySem.AutoSeq1 (wpAny_loadPart')
open PySem.MeetsSeq PySem.MeetsSeq2 PySem.MeetsSeq3
end
section
variable {prog:Program} {w:World} {A:Around} {E:Value->Shared->Prop} {s:Shared}
noncomputable def sIx (n d:Nat):Option Int->Nat
  | none=>d
  | some v=>if v < 0 then (v + (n:Int)).toNat else min v.toNat n
theorem sIx_none (n d:Nat):sIx n d none=d:=rfl
theorem sIx_nat (n d k:Nat):sIx n d (some (k:Int))=min k n:=by
  show (if (k:Int) < 0 then ((k:Int) + (n:Int)).toNat else min (k:Int).toNat n)=min k n
  rw [if_neg (by omega),Int.toNat_natCast]
end
end HT
namespace L2
open PySem PySem.Spec PyProof.Rows
noncomputable abbrev TO:=St->Hp->(Option Int->Hp->Prop)->Prop
noncomputable def PO (X:Cx) (e:Option Expr) (t:TO):Prop :=
  ∀ (pins:List (Addr × Obj)) (s:Shared) (σ:St) (H:Hp) (Q:Option Int->Hp->Prop),Inv X pins σ H s->t σ H Q ->
    wpAny (model X.prog X.w) X.A (evalPart e X.env) (fun u s'=>∃ o H',Inv X pins σ H' s'/\IsPart u o/\Q o H') X.xe s
noncomputable def tNoPart:TO:=fun _ H Q=>Q none H
noncomputable def tPart (t:TE):TO:=fun σ H Q=>t σ H fun x H1=>∃ i,x = .int i/\Q (some i) H1
section
variable {X:Cx} {e:Expr} {te:TE} {lo hi:Option Expr} {tl th:TO} {pos p2:Pos}
theorem po_none:PO X none tNoPart:=by
  intro pins s σ H Q I h
  rw [evalPart_none]
  exact wpAny_pure ⟨none,H,I,.none,h⟩
theorem po_some (h:PE X e te):PO X (some e) (tPart te):=by
  intro pins s σ H Q I hw
  rw [evalPart_some]
  refine thn (h pins s σ H _ I hw) fun u s1 ⟨x,H1,I1,r1,q1⟩=>?_
  obtain ⟨i,rfl,q⟩:=q1
  obtain ⟨t,rfl⟩:=r1
  exact ⟨some i,H1,I1,.int i t,q⟩
noncomputable def SlR (X:Cx) (r:V->Option Int->Option Int->Hp->VK->Prop):Prop :=
  ∀ (pins:List (Addr × Obj)) (s:Shared) (σ:St) (H:Hp) (x:V) (v vl vu:Value) (lo hi:Option Int) (sl:Addr) (Q:VK),Inv X pins σ H s->RelV x v->s.heap.IsSliceOf sl vl vu .none->IsPart vl lo->IsPart vu hi->r x lo hi H Q ->
    ∃ T id,typeLookup (.type T) "__getitem__" = pure (some (.builtin id))/\s.TypeIs v T/\wpAny (model X.prog X.w) X.A (getItem v (.ref sl)) (EP X pins σ Q) X.xe s
noncomputable def tSl (r:V->Option Int->Option Int->Hp->VK->Prop) (te:TE) (tl th:TO):TE:=fun σ H Q=>te σ H fun x H1=>tl σ H1 fun l H2=>th σ H2 fun u H3=>r x l u H3 Q
theorem pe_slice {r:V->Option Int->Option Int->Hp->VK->Prop} (hr:SlR X r) (he:PE X e te) (hl:PO X lo tl) (hu:PO X hi th):PE X (.Subscript e (.Slice lo hi none p2) pos) (tSl r te tl th):=by
  intro pins s σ H Q I h
  refine Subscript_ (thn (he pins s σ H _ I h) fun v s1 ⟨x,H1,I1,r1,q1⟩=>?_)
  refine wpAny_Slice (thn (hl pins s1 σ H1 _ I1 q1) fun vl s2 ⟨l,H2,I2,pl,q2⟩=>thn (hu pins s2 σ H2 _ I2 q2) fun vu s3 ⟨u,H3,I3,pu,q3⟩=>?_)
  rw [evalPart_none]
  refine wpAny_pure ?_
  have I4:Inv X pins σ H3 { s3 with heap:=s3.heap.push { cls:=.type "slice",data:=.fields #[vl,vu,.none] } }:=I3.kept (t':=s3.toks) fun b ob q=>Heap.get?_push_of_some _ q
  obtain ⟨T,id,hT,ht,hg⟩:=hr pins { s3 with heap:=s3.heap.push { cls:=.type "slice",data:=.fields #[vl,vu,.none] } } σ H3 x v vl vu l u s3.heap.objs.size Q I4 r1 (Heap.IsSliceOf.new ..) pl pu q3
  show wpAny (model X.prog X.w) X.A (subscriptTail e (.Slice lo hi none p2) v (.ref s3.heap.objs.size)) (EP X pins σ Q) X.xe { s3 with heap:=s3.heap.push { cls:=.type "slice",data:=.fields #[vl,vu,.none] } }
  exact tail_any (ops:=[.ref s3.heap.objs.size,v]) ht hT hg (by with_unfolding_all rfl)
noncomputable def cutV (xs:List V) (lo hi:Option Int):List V:=(xs.drop (HT.sIx xs.length 0 lo)).take (HT.sIx xs.length xs.length hi - HT.sIx xs.length 0 lo)
theorem cutV_length (xs:List V) (lo hi:Option Int):(cutV xs lo hi).length<=xs.length:=by
  unfold cutV
  rw [List.length_take,List.length_drop]
  omega
end
end L2
namespace L2
open PySem PySem.Spec PyProof.Rows
noncomputable def ixN (n:Nat) (i:Int):Option Nat:=if 0<=i then (if i < n then some i.toNat else none) else if -(n:Int)<=i then some (i + n).toNat else none
noncomputable def atI {α:Type} (xs:List α) (i:Int):Option α:=(ixN xs.length i).bind fun j=>xs[j]?
theorem ixN_seq {n:Nat} {i:Int} {j:Nat} (h:ixN n i=some j):seqIndex? i n=some j/\j < n /\ -(n:Int)<=i/\i < n:=by
  unfold ixN at h
  by_cases h0:0<=i
  . rw [if_pos h0] at h
    by_cases h1:i < n
    . rw [if_pos h1] at h
      have e:i.toNat=j:=Option.some.inj h
      exact ⟨by rw [seqIndex_of h0 h1,e],by omega,by omega,h1⟩
    . rw [if_neg h1] at h;cases h
  . rw [if_neg h0] at h
    by_cases h1 : -(n:Int)<=i
    . rw [if_pos h1] at h
      have e:(i + n).toNat=j:=Option.some.inj h
      exact ⟨by rw [seqIndex_neg (by omega) h1,e],by omega,h1,by omega⟩
    . rw [if_neg h1] at h;cases h
theorem atI_get {α:Type} {xs:List α} {i:Int} {v:α} (h:atI xs i=some v):∃ j,seqIndex? i xs.length=some j/\xs[j]?=some v/\j < xs.length /\ -(xs.length:Int)<=i/\i < xs.length:=by
  unfold atI at h
  cases e:ixN xs.length i with
  | none=>rw [e] at h;cases h
  | some j =>
    rw [e] at h
    obtain ⟨h1,h2,h3,h4⟩:=ixN_seq e
    exact ⟨j,h1,h,h2,h3,h4⟩
theorem atI_nat {α:Type} {xs:List α} {j:Nat} {v:α} (h:xs[j]?=some v):atI xs (j:Int)=some v:=by
  have hj:j < xs.length:=(List.getElem?_eq_some_iff.mp h).1
  have e:ixN xs.length (j:Int)=some j:=by
    unfold ixN
    rw [if_pos (by omega),if_pos (by omega)];simp
  unfold atI;rw [e];exact h
noncomputable def PlainIx (b:Expr):Prop:=∀ o i,subscripted b false o i=operate [o,i] (getItem o i)
noncomputable def IxR (X:Cx) (r:R2):Prop :=
  ∀ (value slice:Expr) (pins:List (Addr × Obj)) (s:Shared) (σ:St) (H:Hp) (x y:V) (v u:Value) (Q:VK),Inv X pins σ H s->RelV x v->RelV y u->r x y H Q ->
    subscripted slice false v u=operate [v,u] (getItem v u)->wpAny (model X.prog X.w) X.A (subscriptTail value slice v u) (EP X pins σ Q) X.xe s
noncomputable def MtR (X:Cx) (id:String) (r:V->List V->Hp->VK->Prop):Prop :=
  ∀ (pins:List (Addr × Obj)) (s:Shared) (σ:St) (H:Hp) (x:V) (xs:List V) (v:Value) (us:List Value) (Q:VK),Inv X pins σ H s->RelV x v->Vals xs us->r x xs H Q ->
    wpAny (model X.prog X.w) X.A (call (.builtin id) (v :: us)) (EP X pins σ Q) X.xe s
section
variable {X:Cx} {a b:Expr} {ta tb:TE} {pos:Pos}
theorem pe_ix {r:R2} (hr:IxR X r) (ha:PE X a ta) (hb:PE X b tb) (hs:PlainIx b):PE X (.Subscript a b pos) (tOp r ta tb):=by
  intro pins s σ H Q I h
  exact Subscript_ (binT ha hb I h fun v u s2 x y H2 I2 rx ry q=>hr a b pins s2 σ H2 x y v u Q I2 rx ry q (hs _ _))
noncomputable def rIxL (K:PySem.W.Frag):R2:=fun x y H Q=>∃ p xs i v,x = .ref p/\y = .int i/\SqL K H p xs/\atI xs i=some v/\Q v H
noncomputable def rIxT (K:PySem.W.Frag):R2:=fun x y H Q=>∃ p xs i v,x = .ref p/\y = .int i/\SqT K H p xs/\atI xs i=some v/\Q v H
noncomputable def rIxS:R2:=fun x y H Q=>∃ z i c,x = .str z/\y = .int i/\z.length<=sizeLine/\atI z.cps.toList i=some c/\Q (.str ⟨#[c]⟩) H
theorem ix_list:IxR X (rIxL X.K):=by
  intro value slice pins s σ H x y v u Q I rx ry h hs
  obtain ⟨p,xs,i,z,rfl,rfl,hq,he,q⟩:=h
  cases rx
  obtain ⟨t,rfl⟩:=ry
  obtain ⟨its,r,pl,hz⟩:=I.list hq
  obtain ⟨j,h1,h2,h3,h4,h5⟩:=atI_get he
  obtain ⟨w,ew,rw'⟩:=r.get h2
  have hl:=r.length
  have hn:=line63
  have fin:EP X pins σ Q w s:=⟨z,H,I,rw',q⟩
  by_cases h0:0<=i
  . have hj:i.toNat=j:=by
      rw [seqIndex_of h0 h5] at h1
      exact Option.some.inj h1
    exact item_listR pl.isList h0 (by omega) (by rw [hj];simpa using ew) fin hs
  . have hj:(i + (its.toArray.size:Int)).toNat=j:=by
      rw [seqIndex_neg (by omega) h4] at h1
      rw [List.size_toArray, <- hl]
      exact Option.some.inj h1
    exact subscriptTail_builtinR (x:=w) pl.isList.typeIs slot_list_getitem.lookup
      (wpAny_getItem_list_neg (Q:=fun r s'=>r=w/\EP X pins σ Q r s') pl.isList (by omega) (by rw [List.size_toArray] <;> omega) (by omega) (by rw [hj];simpa using ew) ⟨rfl,fin⟩) hs
theorem ix_tup:IxR X (rIxT X.K):=by
  intro value slice pins s σ H x y v u Q I rx ry h hs
  obtain ⟨p,xs,i,z,rfl,rfl,hq,he,q⟩:=h
  cases rx
  obtain ⟨t,rfl⟩:=ry
  obtain ⟨its,r,pl,hz⟩:=I.tuple hq
  obtain ⟨j,h1,h2,h3,h4,h5⟩:=atI_get he
  obtain ⟨w,ew,rw'⟩:=r.get h2
  have hl:=r.length
  have hn:=line63
  have fin:EP X pins σ Q w s:=⟨z,H,I,rw',q⟩
  exact subscriptTail_builtinR (x:=w) pl.typeIs slot_tuple_getitem.lookup
    (getItem_tuple (j:=j) (Q:=fun r s'=>r=w/\EP X pins σ Q r s') pl (by omega) (by omega) (by rw [List.size_toArray, <- hl];exact h1) (by simpa using ew) ⟨rfl,fin⟩) hs
theorem ix_str:IxR X rIxS:=by
  intro value slice pins s σ H x y v u Q I rx ry h hs
  obtain ⟨z,i,c,rfl,rfl,hz,he,q⟩:=h
  obtain ⟨t,rfl⟩:=rx
  obtain ⟨t',rfl⟩:=ry
  obtain ⟨j,h1,h2,h3,h4,h5⟩:=atI_get he
  have hl:z.cps.toList.length=z.length:=by simp [Str.length]
  rw [hl] at h1 h4 h5
  have hn:=line63
  exact tail_any (typeIs_str s z t) slot_str_getitem.lookup (getItem_str (c:=c) (by
    have e1:decide (i < -(2 ^ 63:Int))=false:=decide_eq_false (by omega)
    have e2:decide (i ≥ 2 ^ 63)=false:=decide_eq_false (by omega)
    rw [e1,e2,Bool.or_false]) (by rw [h1];simpa using h2) ⟨.str ⟨#[c]⟩,H,I.tok _,⟨_,rfl⟩,q⟩) hs
theorem mapSeq_set (its:List Value) (n j:Nat) (u:Value):Obj.mapSeq (·.setIfInBounds j u) { cls:=.type "list",data:=.seq its.toArray n }={ cls:=.type "list",data:=.seq (its.set j u).toArray n }:=by
  simp [Obj.mapSeq]
theorem Inv.lst {pins:List (Addr × Obj)} {σ:St} {H:Hp} {s:Shared} {p:Addr} {xs:List V} (I:Inv X pins σ H s) (h:H p=some (.lst xs)) :
    ∃ (its:List Value) (n:Nat),Vals xs its/\s.heap.get? p=some { cls:=.type "list",data:=.seq its.toArray n }/\xs.length<=sizeLine:=by
  obtain ⟨z,its,n,r,e⟩:=I.hok p _ h
  exact ⟨its,n,r,e,z⟩
theorem Inv.lstUpd {pins:List (Addr × Obj)} {σ:St} {H:Hp} {s:Shared} {p:Addr} {xs ys:List V} {its its':List Value} {n n':Nat} {f:Obj->Obj} (I:Inv X pins σ H s) (h:H p=some (.lst xs))
    (ho:s.heap.get? p=some { cls:=.type "list",data:=.seq its.toArray n }) (hf:f { cls:=.type "list",data:=.seq its.toArray n }={ cls:=.type "list",data:=.seq its'.toArray n' }) (r:Vals ys its') (hz:ys.length<=sizeLine) (t:Nat) :
    Inv X pins σ (upd H p (.lst ys)) { s with heap:=s.heap.update p f,toks:=t }:=by
  have e:(s.heap.update p f).get? p=some { cls:=.type "list",data:=.seq its'.toArray n' }:=by
    rw [Heap.get?_update_self f ho (by rw [hf] <;> rfl),hf]
  refine I.write (x:=p) (e:=p) (by rw [h];trivial) (.inl rfl) (fun b u hb q=>(Heap.get?_update_other _ _ (Ne.symm hb)).trans q) ⟨_,e⟩ ?_
  exact ⟨hz,its',n',r,e⟩
noncomputable def rSetL:V->V->V->Hp->(Hp->Prop)->Prop:=fun o i v H Q=>∃ p xs k j,o = .ref p/\i = .int k/\H p=some (.lst xs)/\ixN xs.length k=some j/\Q (upd H p (.lst (xs.set j v)))
theorem set_list:PSet X rSetL:=by
  intro pins s σ H o i v ov iv u Q I ro ri rv h
  obtain ⟨p,xs,k,j,rfl,rfl,hp,hj,q⟩:=h
  cases ro
  obtain ⟨t,rfl⟩:=ri
  obtain ⟨its,n,r,ho,hz⟩:=I.lst hp
  obtain ⟨h1,h2,h3,h4⟩:=ixN_seq hj
  have hl:=r.length
  have hn:=line63
  have I':Inv X pins σ (upd H p (.lst (xs.set j v))) { s with heap:=s.heap.update p (Obj.mapSeq (·.setIfInBounds j u)) } :=
    I.lstUpd hp ho (mapSeq_set its n j u) (r.set rv j) (by rw [List.length_set];exact hz) s.toks
  by_cases h0:0<=k
  . have hk:k.toNat=j:=by
      rw [seqIndex_of h0 h4] at h1
      exact Option.some.inj h1
    exact PySem.W.ki_setAt ho h0 (by omega) (by rw [List.size_toArray, <- hl];exact h4) (by rw [hk];exact ⟨_,I',q⟩)
  . have hk:(k + (its.toArray.size:Int)).toNat=j:=by
      rw [seqIndex_neg (by omega) h3] at h1
      rw [List.size_toArray, <- hl]
      exact Option.some.inj h1
    exact PySem.W.ki_setBack ho (by omega) (by rw [List.size_toArray, <- hl];exact h3) (by omega) (by rw [hk];exact ⟨_,I',q⟩)
theorem slice_bounds (lo hi:Option Int) (n:Nat):(sliceBounds lo hi none n).1=((HT.sIx n 0 lo:Nat):Int)/\(sliceBounds lo hi none n).2.1=((HT.sIx n n hi:Nat):Int)/\(sliceBounds lo hi none n).2.2=1:=by
  refine ⟨?_,?_,rfl⟩
  . cases lo with
    | none=>simp [sliceBounds,HT.sIx]
    | some i =>
      simp only [sliceBounds,HT.sIx,Option.getD_none,show (1:Int) > 0 by decide,if_true]
      by_cases h:i < 0
      . simp only [h,if_true] <;> omega
      . simp only [h,if_false] <;> omega
  . cases hi with
    | none=>simp [sliceBounds,HT.sIx]
    | some i =>
      simp only [sliceBounds,HT.sIx,Option.getD_none,show (1:Int) > 0 by decide,if_true]
      by_cases h:i < 0
      . simp only [h,if_true] <;> omega
      . simp only [h,if_false] <;> omega
theorem slicePick_cut (its:List Value) (lo hi:Option Int):slicePick its.toArray lo hi none=((its.drop (HT.sIx its.length 0 lo)).take (HT.sIx its.length its.length hi - HT.sIx its.length 0 lo)).toArray:=by
  obtain ⟨h1,h2,h3⟩:=slice_bounds lo hi its.toArray.size
  unfold slicePick
  rw [h1,h2,h3]
  simp only [sliceRange_one,pick_run,List.size_toArray] <;> rfl
noncomputable def rSlL (K:PySem.W.Frag):V->Option Int->Option Int->Hp->VK->Prop:=fun x lo hi H Q=>∃ a xs,x = .ref a/\SqL K H a xs/\∀ p,H p=none->Q (.ref p) (upd H p (.lst (cutV xs lo hi)))
theorem sl_list:SlR X (rSlL X.K):=by
  intro pins s σ H x v vl vu lo hi sl Q I rx hs pl pu h
  obtain ⟨a,xs,rfl,hx,q⟩:=h
  cases rx
  obtain ⟨its,r,ht,hz⟩:=I.list hx
  have hlen:=r.length
  refine ⟨"list",_,slot_list_getitem.lookup,ht.isList.typeIs,?_⟩
  refine wpAny_getItem_list_slice ht.isList hs pl pu .none (by simp) ?_ (by rw [List.size_toArray] <;> omega)
  rw [slicePick_cut, <- hlen]
  refine ⟨.ref s.heap.objs.size,_,I.laid (t':=s.toks) (o:=.lst (cutV xs lo hi)) (fun b ob q=>Heap.get?_push_of_some _ q) (Nat.le_refl _) ?_,rfl,q _ (I.hok.fresh (Nat.le_refl _))⟩
  exact ⟨Nat.le_trans (cutV_length xs lo hi) hz,_,0,(r.drop (HT.sIx xs.length 0 lo)).take (HT.sIx xs.length xs.length hi - HT.sIx xs.length 0 lo),Heap.get?_push_size _ rfl⟩
theorem call_len_seq:CallR X (.builtin "len") (fun xs H Q=>∃ p ys,xs=[.ref p]/\(SqL X.K H p ys\/SqT X.K H p ys)/\Q (.int ys.length) H):=by
  intro pins s σ H xs us Q I r h
  obtain ⟨p,ys,rfl,hq,q⟩:=h
  obtain ⟨u,rfl,rx⟩:=vals1 r
  cases rx
  have hn:=line63
  rcases hq with hq | hq
  . obtain ⟨its,r',pl,hz⟩:=I.list hq
    have hlen:=r'.length
    exact Calls.call_len_list pl.isList (by simp only [List.size_toArray] <;> omega) ⟨.int ys.length,H,I.tok _,⟨s.toks + 1,by rw [List.size_toArray,hlen]⟩,q⟩
  . obtain ⟨its,r',pl,hz⟩:=I.tuple hq
    have hlen:=r'.length
    exact len_tuple pl (by simp only [List.size_toArray] <;> omega) ⟨.int ys.length,H,I.tok _,⟨s.toks + 1,by rw [List.size_toArray,hlen]⟩,q⟩
theorem call_len_str:CallR X (.builtin "len") (fun xs H Q=>∃ z,xs=[.str z]/\z.length<=sizeLine/\Q (.int z.length) H):=by
  intro pins s σ H xs us Q I r h
  obtain ⟨z,rfl,hz,q⟩:=h
  obtain ⟨u,rfl,t,rfl⟩:=vals1 r
  have hn:=line63
  exact len_str (by omega) ⟨.int z.length,H,I.tok _,⟨_,rfl⟩,q⟩
theorem call_tuple_of:CallR X (.type "tuple") (fun xs H Q=>∃ p ys,xs=[.ref p]/\((SqL X.K H p ys/\∀ l,H l=none->Q (.ref l) (upd H l (.tup ys)))\/(SqT X.K H p ys/\Q (.ref p) H))):=by
  intro pins s σ H xs us Q I r h
  obtain ⟨p,ys,rfl,h⟩:=h
  obtain ⟨u,rfl,rx⟩:=vals1 r
  cases rx
  rcases h with ⟨hq,q⟩ | ⟨hq,q⟩
  . obtain ⟨its,r',pl,hz⟩:=I.list hq
    have hlen:=r'.length
    refine call_tuple_list pl.isList (fun h' kp=>?_) (by simp only [List.size_toArray] <;> omega)
    have I1:Inv X pins σ H { s with heap:=h' }:=I.kept (t':=s.toks) kp
    have I2:Inv X pins σ (upd H h'.objs.size (.tup ys)) { s with heap:=h'.push { cls:=.type "tuple",data:=.seq its.toArray } } :=
      I1.laid (t':=s.toks) (fun b o e=>Heap.get?_push_of_some _ e) (Nat.le_refl _) (show ObjOk X.prog X.w _ _ _ (.tup ys) from ⟨hz,its,r',IsTup.new _ _⟩)
    exact ⟨.ref h'.objs.size,_,I2,rfl,q _ (I1.hok.fresh (Nat.le_refl _))⟩
  . obtain ⟨its,r',pl,hz⟩:=I.tuple hq
    exact call_tuple_same pl ⟨.ref p,H,I,rfl,q⟩
noncomputable def tyV (K:PySem.W.Frag) (T:String) (x:V) (H:Hp):Prop:=match x with
  | .str _=>T = "str"
  | .int _=>T = "int"
  | .ref p=>(T = "list" /\ ∃ xs,SqL K H p xs)\/(T = "tuple" /\ ∃ o,K.lookup p=some o/\o.cls = .type "tuple" /\ o.dict=none) \/
      (T = "dict" /\ ((∃ kvs,H p=some (.dK kvs))\/∃ kvs,H p=some (.dT kvs)))\/(T = "set" /\ ∃ S n,H p=some (.set S n))
  | _=>False
theorem tyV_is {pins:List (Addr × Obj)} {σ:St} {H:Hp} {s:Shared} {T:String} {x:V} {v:Value} (I:Inv X pins σ H s) (r:RelV x v) (ty:tyV X.K T x H) :
    s.TypeIs v T/\∀ a,v = .ref a->∃ ob,s.heap.get? a=some ob/\ob.dict=none:=by
  cases x with
  | str z =>
    obtain ⟨t,rfl⟩:=r
    cases (show T = "str" from ty)
    exact ⟨typeIs_str s z t,fun _ e=>nomatch e⟩
  | int i =>
    obtain ⟨t,rfl⟩:=r
    cases (show T = "int" from ty)
    exact ⟨typeIs_int s i t,fun _ e=>nomatch e⟩
  | ref p =>
    cases r
    rcases ty with ⟨rfl,xs,hq⟩ | ⟨rfl,o,hk,hc,hd⟩ | ⟨rfl,hk⟩ | ⟨rfl,S,n,hk⟩
    . obtain ⟨its,_,pl,_⟩:=I.list hq
      refine ⟨pl.isList.typeIs,fun a e=>?_⟩
      cases e
      obtain ⟨o,n,e,c,hd,_⟩:=pl
      exact ⟨o,e,hd⟩
    . refine ⟨⟨o,I.kIn p o hk,hc⟩,fun a e=>?_⟩
      cases e
      exact ⟨o,I.kIn _ o hk,hd⟩
    . have z:∃ o,s.heap.get? p=some o/\o.ExactDict:=by
        rcases hk with ⟨kvs,hk⟩ | ⟨kvs,hk⟩
        . obtain ⟨_,_,_,_,o,_,_,e,ex,_⟩:=I.hok p _ hk
          exact ⟨o,e,ex⟩
        . obtain ⟨_,_,_,_,o,_,_,e,ex,_⟩:=I.hok p _ hk
          exact ⟨o,e,ex⟩
      obtain ⟨o,e,ex⟩:=z
      refine ⟨⟨o,e,ex.1⟩,fun a e2=>?_⟩
      cases e2
      exact ⟨o,e,ex.2.1⟩
    . obtain ⟨o,_,_,_,e,ex,_⟩:=I.hok p _ hk
      refine ⟨⟨o,e,ex.1⟩,fun a e2=>?_⟩
      cases e2
      exact ⟨o,e,ex.2.1⟩
  | _=>exact False.elim ty
noncomputable def tBM (K:PySem.W.Frag) (T:String) (r:V->List V->Hp->VK->Prop) (to:TE) (t:TA):TE:=fun σ H Q=>to σ H fun x H1=>tyV K T x H1/\t σ H1 fun xs H2=>r x xs H2 Q
variable {o e:Expr} {es:List Expr} {to:TE} {t:TA} {name:Str} {apos cpos:Pos} {T id:String} {r:V->List V->Hp->VK->Prop}
theorem pe_bm (pa:PlainAttrs T) (slot:Slot T name id) (hty:typeOf (.builtin id)=pure (.type "method_descriptor")) (hm:MtR X id r) (ho:PE X o to) (ha:PA X (e :: es) t)
    (hbase:attributeBase o name X.env (eval o X.env)=eval o X.env:=by rfl)
    (hfew:((backTo cpos (starEach (e :: es) X.env)).all (fun x => !x.1) && (backToKw cpos (keywordEach [] X.env)).all (fun x=>x.1.isSome)
      && decide ((e :: es).length + ([]:List Keyword).length + (if ([]:List Keyword).isEmpty then 0 else 1) < 30))=true:=by rfl)
    (hline:(apos.endLine == cpos.line)=true:=by rfl) (hs:starEach (e :: es) X.env=(false,eval e X.env) :: starEach es X.env:=by rfl) (hplain:(backTo cpos (starEach es X.env)).any (·.1)=false:=by rfl) :
    PE X (.Call (.Attribute o name apos) (e :: es) [] cpos) (tBM X.K T r to t):=by
  intro pins s σ H Q I h
  refine wpAny_Call_method_late hbase hfew hline rfl (thn (ho pins s σ H _ I h) fun v s1 ⟨x,H1,I1,r1,ty,q1⟩=>?_)
  obtain ⟨h1,h2⟩:=tyV_is I1 r1 ty
  refine ⟨T,id,pa,slot,hty,h1,h2,?_⟩
  have hA:=ha cpos pins s1 σ H1 _ I1 q1
  rw [hs] at hA ⊢
  refine Calls.callWith_builtin (by show (false || (backTo cpos (starEach es X.env)).any (·.1))=false;rw [hplain] <;> rfl) (Calls.evalArgs_plain ?_)
  exact thn hA fun us s2 ⟨vs,H2,I2,r2,q2⟩=>hm pins s2 σ H2 x vs v us Q I2 r1 r2 q2
end
end L2
namespace L2
open PySem PySem.Spec PyProof.Rows
noncomputable def MtM (X:Cx) (id:String) (r:V->List V->Hp->VK->Prop):Prop :=
  ∀ (pins:List (Addr × Obj)) (s:Shared) (σ:St) (H:Hp) (x:V) (xs:List V) (v:Value) (us:List Value) (Q:VK),Inv X pins σ H s->RelV x v->Vals xs us->r x xs H Q ->
    wpAny (model X.prog X.w) X.A (call (.builtin id) (v :: us)) (EP X pins σ Q) X.xe s
theorem Vals.one:∀ {x:V} {us:List Value},Vals [x] us->∃ u,us=[u]/\RelV x u
  | _,_,.cons r .nil=>⟨_,rfl,r⟩
theorem Vals.rep {xs:List V} {us:List Value} (h:Vals xs us):∀ k:Nat,Vals (List.replicate k xs).flatten (List.replicate k us).flatten
  | 0=>.nil
  | k + 1=>by
    rw [List.replicate_succ,List.replicate_succ,List.flatten_cons,List.flatten_cons]
    exact Vals.append h (Vals.rep h k)
theorem foldl_rep (its:List Value):∀ (k:Nat) (acc:List Value),
    List.foldl (fun x1 x2=>x1 ++ x2) acc.toArray (List.replicate k its.toArray)=(acc ++ (List.replicate k its).flatten).toArray
  | 0,acc=>by simp
  | k + 1, acc => by
    have e:acc.toArray ++ its.toArray=(acc ++ its).toArray:=by simp
    have e2:(acc ++ its) ++ (List.replicate k its).flatten=acc ++ (List.replicate (k + 1) its).flatten:=by
      rw [List.replicate_succ,List.flatten_cons,List.append_assoc]
    rw [<- e2, <- foldl_rep its k (acc ++ its), <- e,List.replicate_succ,List.foldl_cons]
section
variable {X:Cx} {pins:List (Addr × Obj)} {σ:St} {H:Hp} {s:Shared} {l b:Addr} {xs ys zs:List V}
theorem Inv.lset {its its':List Value} {n:Nat} {f:Array Value->Array Value} {t':Nat} (I:Inv X pins σ H s) (hH:H l=some (.lst xs))
    (e:s.heap.get? l=some { cls:=.type "list",data:=.seq its.toArray n }) (hf:f its.toArray=its'.toArray) (hv:Vals ys its') (hz:ys.length<=sizeLine) :
    Inv X pins σ (upd H l (.lst ys)) { s with heap:=s.heap.update l (Obj.mapSeq f),toks:=t' }:=by
  have q:=PySem.IsL.update e f
  rw [hf] at q
  refine I.write (x:=l) (e:=l) (by rw [hH];exact trivial) (.inl rfl) (fun b' u hb hu=>(Heap.get?_update_other s.heap (Obj.mapSeq f) (Ne.symm hb)).trans hu) ⟨_,q⟩ ?_
  exact ⟨hz,its',_,hv,q⟩
theorem Inv.lnew {its:List Value} {t':Nat} (I:Inv X pins σ H s) (hv:Vals ys its) (hz:ys.length<=sizeLine) :
    Inv X pins σ (upd H s.heap.objs.size (.lst ys)) { s with heap:=s.heap.push { cls:=.type "list",data:=.seq its.toArray },toks:=t' } :=
  I.laid (fun _ _ q=>Heap.get?_push_of_some _ q) (Nat.le_refl _) ⟨hz,its,0,hv,Heap.get?_push_size _ rfl⟩
theorem Inv.fresh (I:Inv X pins σ H s):H s.heap.objs.size=none:=I.hok.fresh (Nat.le_refl _)
theorem Inv.lstM (I:Inv X pins σ H s) (hH:H l=some (.lst xs)):xs.length<=sizeLine/\∃ (its:List Value) (n:Nat),Vals xs its/\xs.length=its.length/\s.heap.get? l=some { cls:=.type "list",data:=.seq its.toArray n }:=by
  obtain ⟨z,its,n,r,e⟩:=I.hok l _ hH
  exact ⟨z,its,n,r,r.length,e⟩
theorem notLongL {n:Nat} (h:n<=sizeLine):Builtin.List.listTooLong n=false:=by
  unfold Builtin.List.listTooLong
  exact decide_eq_false (by omega)
end
section
variable {X:Cx}
noncomputable def rAppend:V->List V->Hp->VK->Prop:=fun x vs H Q=>∃ l xs y,x = .ref l/\vs=[y]/\H l=some (.lst xs)/\xs.length < sizeLine/\Q .non (upd H l (.lst (xs ++ [y])))
theorem mt_append:MtM X "list.append" rAppend:=by
  intro pins s σ H x vs v us Q I rx rv h
  obtain ⟨l,xs,y,rfl,rfl,hH,hz,q⟩:=h
  cases rx
  obtain ⟨u,rfl,ru⟩:=rv.one
  obtain ⟨z,its,n,r,hl,e⟩:=I.lstM hH
  refine call_meets F.slot_list_append ⟨_,e,rfl⟩ F.entry_list_append (F.args_list_append_2 _ _) (PySem.list_append l its.toArray n u (by rw [List.size_toArray];omega)) ⟨e,?_⟩
  refine ⟨.non,_,I.lset (its':=its ++ [u]) hH e (by simp) (r.append (.cons ru .nil)) ?_,rfl,q⟩
  rw [List.length_append,List.length_singleton]
  omega
noncomputable def rExtend:V->List V->Hp->VK->Prop:=fun x vs H Q=>∃ l b xs zs,x = .ref l/\vs=[.ref b]/\H l=some (.lst xs)/\H b=some (.lst zs)/\xs.length + zs.length<=sizeLine/\Q .non (upd H l (.lst (xs ++ zs)))
theorem mt_extend:MtM X "list.extend" rExtend:=by
  intro pins s σ H x vs v us Q I rx rv h
  obtain ⟨l,b,xs,zs,rfl,rfl,hH,hB,hz,q⟩:=h
  cases rx
  obtain ⟨u,rfl,ru⟩:=rv.one
  cases ru
  obtain ⟨z,its,n,r,hl,e⟩:=I.lstM hH
  obtain ⟨z2,its2,n2,r2,hl2,e2⟩:=I.lstM hB
  have hsz:its.toArray.size + its2.toArray.size<=sizeLine:=by rw [List.size_toArray,List.size_toArray];omega
  have hlong:¬ (!its.toArray.isEmpty && Builtin.List.listTooLong (its.toArray.size + its2.toArray.size))=true:=by
    rw [notLongL hsz,Bool.and_false]
    exact Bool.false_ne_true
  refine call_meets F.slot_list_extend ⟨_,e,rfl⟩ F.entry_list_extend (F.args_list_extend_2 _ _)
    (AutoSeq1.list_extend_list_list_0 l its.toArray n b its2.toArray n2 hlong (by rw [List.size_toArray];omega) (by omega)) ⟨e,e2,?_⟩
  refine ⟨.non,_,I.lset (its':=its ++ its2) hH e (by simp) (r.append r2) ?_,rfl,q⟩
  rw [List.length_append]
  omega
noncomputable def rCat:R2:=fun x y H Q=>∃ l b xs zs,x = .ref l/\y = .ref b/\H l=some (.lst xs)/\H b=some (.lst zs)/\xs.length + zs.length<=sizeLine/\∀ p,H p=none->Q (.ref p) (upd H p (.lst (xs ++ zs)))
theorem op_cat:OpR X (binaryOp .Add) rCat:=by
  intro pins s σ H x y v u Q I rx ry h
  obtain ⟨l,b,xs,zs,rfl,rfl,hH,hB,hz,q⟩:=h
  cases rx
  cases ry
  obtain ⟨z,its,n,r,hl,e⟩:=I.lstM hH
  obtain ⟨z2,its2,n2,r2,hl2,e2⟩:=I.lstM hB
  refine PySem.P.add_list e e2 ?_ (by rw [List.size_toArray,List.size_toArray];omega)
  have ea:its.toArray ++ its2.toArray=(its ++ its2).toArray:=by simp
  rw [ea]
  exact ⟨.ref _,_,I.lnew (t':=s.toks) (r.append r2) (by rw [List.length_append];omega),rfl,q _ I.fresh⟩
noncomputable def rRep:R2:=fun x y H Q=>∃ l k xs,x = .ref l/\y = .int k/\H l=some (.lst xs) /\ -(2 ^ 63)<=k/\k < 2 ^ 63/\xs.length * k.toNat<=sizeLine /\
  ∀ p,H p=none->Q (.ref p) (upd H p (.lst (List.replicate k.toNat xs).flatten))
theorem len_rep {α:Type} (xs:List α) (k:Nat):(List.replicate k xs).flatten.length=k * xs.length:=by
  induction k with
  | zero=>simp
  | succ k ih=>rw [List.replicate_succ,List.flatten_cons,List.length_append,ih,Nat.succ_mul,Nat.add_comm]
theorem op_rep:OpR X (binaryOp .Mult) rRep:=by
  intro pins s σ H x y v u Q I rx ry h
  obtain ⟨l,k,xs,rfl,rfl,hH,h1,h2,hz,q⟩:=h
  cases rx
  obtain ⟨t,rfl⟩:=ry
  obtain ⟨z,its,n,r,hl,e⟩:=I.lstM hH
  have hlen:its.toArray.size * k.toNat<=sizeLine:=by rw [List.size_toArray, <- hl];exact hz
  have hcap:¬ its.toArray.size * k.toNat > (2 ^ 63 - 1) / 8:=by
    have:(sizeLine:Nat)<=(2 ^ 63 - 1) / 8:=by decide
    omega
  have hfit:¬ (!Builtin.List.listFitsIndex k)=true:=by
    rw [fitsIndex_both h1 h2]
    exact Bool.false_ne_true
  have hlong:¬ Builtin.List.listTooLong (its.toArray.size * k.toNat)=true:=by
    rw [notLongL hlen]
    exact Bool.false_ne_true
  have hnew:List.foldl (fun x1 x2=>x1 ++ x2) #[] (List.replicate (if its.toArray.isEmpty=true then 0 else k.toNat) its.toArray)=(List.replicate k.toNat its).flatten.toArray:=by
    have f0:∀ m:Nat,List.foldl (fun x1 x2=>x1 ++ x2) #[] (List.replicate m its.toArray)=(List.replicate m its).flatten.toArray:=fun m=>by
      have:=foldl_rep its m []
      rw [List.nil_append] at this
      exact this
    rw [f0]
    cases its with
    | nil=>simp
    | cons a r'=>rw [if_neg (by simp)]
  refine wpAny_binaryOp_repeat_ref (T := "list") (U := "int") (by decide) ⟨_,e,rfl⟩ (fun s'=>typeIs_int s' k t) noFill_list_mul F.fills_int_mul F.slot_int_rmul repeat_list F.slot_int_index.lookup
    (call_meets F.slot_int_rmul (typeIs_int s k t) F.entry_int_rmul (F.args_int_rmul_2 _ _) (int___rmul___int_list k t l its.toArray n)
      ⟨e,rfl,⟨_,e,rfl⟩,call_meets F.slot_list_mul ⟨_,e,rfl⟩ F.entry_list_mul (F.args_list_mul_2 _ _) (AutoListH.list___mul___list_int_3 l its.toArray n k t hfit hcap hlong) ⟨e,?_⟩⟩)
  rw [hnew]
  exact ⟨.ref _,_,I.lnew (t':=s.toks) (r.rep k.toNat) (by rw [len_rep,Nat.mul_comm];exact hz),rfl,q _ I.fresh⟩
end
section
variable {prog:Program} {w:World} {A:Around} {E:Value->Shared->Prop} {s:Shared}
end
section
variable {X:Cx}
end
end L2
namespace Att
open PySem PySem.W PySem.Calls PyProof.Rows
theorem ints_of_wellAll {P:Params} {h:Heap}:∀ (ns:List Int) (vs:List Value),WellAll P h vs (ns.map WData.int)->IntsAre vs ns:=by
  intro ns
  induction ns with
  | nil =>
    intro vs w
    rw [List.map_nil] at w
    cases w
    exact .nil
  | cons n ns ih =>
    intro vs w
    rw [List.map_cons] at w
    cases w with
    | cons a b =>
      cases a
      exact .cons _ _ (ih _ b)
theorem script_of {l:OpenLaw} {n:Nat} (hn:l.most=some n) {P:Params} {h:Heap} {args:List WData} {vals:List Value}
    (hpre:l.row.toRowW.claim.pre args=true) (hwl:WellAll P h vals args) :
    ∃ a vs ns,vals=[Value.ref a]/\args=[WData.list (ns.map WData.int)]/\h.get? a=some { cls:=.type "list",data:=.seq vs.toArray }/\IntsAre vs ns/\ns.length<=n:=by
  have hsh:WShape.hasAll [] args [.list .int]=true:=(pre_splitW hpre).1
  have hc:l.pre.holds [] { args:=args }=true:=(pre_splitW hpre).2
  obtain ⟨d,r,rfl,h1,h2⟩:=hasAllW_cons hsh
  obtain rfl:=hasAllW_nil h2
  obtain ⟨xs,rfl,h3⟩:=hasW_list h1
  obtain ⟨ns,rfl⟩:=items_int h3
  have hlen:ns.length<=n:=by
    unfold OpenLaw.pre at hc
    have h4:(WTm.not (.lt (.lit (.int (n:Int))) (.len (.arg 0)))).holds [] { args:=[.list (ns.map .int)] }=true:=by
      have h4:=(holds_andW hc).1
      rw [hn] at h4
      exact h4
    have h5:=condW_of h4 (w_not (w_lt w_lit (w_len_list (w_arg rfl))))
    rw [List.length_map] at h5
    refine Nat.le_of_not_lt fun q=>?_
    have q':(n:Int) < ((ns.length:Nat):Int):=by omega
    first
      | (rw [decide_eq_true q'] at h5;exact absurd h5 (by decide))
      | (simp at h5;omega)
  cases hwl with
  | cons w1 w2 =>
    cases w2
    cases w1 with
    | list ho hall=>exact ⟨_,_,ns,rfl,rfl,ho,ints_of_wellAll ns _ hall,hlen⟩
theorem post_true (l:OpenLaw) (args:List WData):l.row.toRowW.claim.post args (.bool true) args=true :=
  postW_of (r:=l.row.toRowW) (X:=(true == true))
    (show WShape.has [] (.bool true) .bool=true by first | rfl | decide | simp [WShape.has,WShape.arms,WShape.armsAll])
    (show (WTm.eq .res (.lit (.bool true))).value [] { args:=args,res:=some (.bool true),after:=args }=some (.bool (true == true)) from w_eq_bool (w_res rfl) w_lit) rfl
section
variable {prog:Program} {w:World} {A:Around} {E:Value->Shared->Prop} {s:Shared} {K:Frag}
end
end Att
namespace L2
open PySem PySem.Spec PyProof.Rows
theorem vals_ints:∀ {vs:List Value} {ns:List Int},IntsAre vs ns->Vals (ns.map V.int) vs
  | _,_,.nil=>.nil
  | _,_,.cons n t h=>.cons ⟨t,rfl⟩ (vals_ints h)
noncomputable def Only (H:Hp):Prop:=∀ b,H b=none\/∃ o xs,H b=some (.frz o (.lst xs))
theorem law_call {P:Program} {w:World} {K:PySem.W.Frag} {mg mb:Str->Option Value} {CX:CXT} {k:Nat} {fa a:Addr} {fd:FuncData} {x:Str} {sp:Sp} {s₁:Shared} {vs:List Value} {ns:List Int}
    (KX:K.In s₁.heap) (hns:s₁.heap.Ns mainGlobals mg) (hb:s₁.heap.Ns builtinsNs mb) (hbb:∀ x:Str,x ≠ "__name__" -> mb x=bootBuiltins x) (hlim:s₁.heap.NoLimit) (hg:s₁.gens = #[])
    (ha:s₁.heap.get? a=some { cls:=.type "list",data:=.seq vs.toArray }) (hi:IntsAre vs ns) (hl:ns.length<=sizeLine) (hr:Room k callerA)
    (F:∀ base:Heap,K.In base->base.Ns mainGlobals mg->FnOk P w K mg base CX k fa fd [x] sp) (hbind:∀ (s:Shared) (u:Value),BindsTo s fd ⟨[u],[]⟩ [(x,u)])
    (hsp:∀ H:Hp,Only H->SqL K H a (ns.map V.int)->sp [.ref a] H (fun v _=>v = .bl true) fun _ _ _=>False)
    (hCX:∀ H e s',CX [] H s₁ (fun _ _ _=>False) e s'->False) :
    codeAny (model P w) callerA (.call (.ref fa) ⟨[.ref a],[]⟩) (fun r s'=>r = .ok (.ret (.bool true))/\OldK s₁.heap s'.heap/\s'.os=s₁.os/\AllBare s'.gens) s₁:=by
  have rv:=vals_ints hi
  have lenV:=hi.length
  have core : ∀ H : Hp, Only H -> SqL K H a (ns.map V.int) -> HOk P w H s₁.heap -> (∀ b, H b ≠ none -> b = a) -> (H a ≠ none -> K.lookup a = none) ->
      codeAny (model P w) callerA (.call (.ref fa) ⟨[.ref a],[]⟩) (fun r s'=>r = .ok (.ret (.bool true))/\OldK s₁.heap s'.heap/\s'.os=s₁.os/\AllBare s'.gens) s₁:=by
    intro H hO hS hok hA hK
    have base_of:∀ {b:Addr} {o:Obj},s₁.heap.get? b=some o->H b=none->(hidT s₁.heap H).get? b=some o:=fun e n=>hidT_get e n
    have noA:∀ {b:Addr} {o:Obj} {es:Array DictEntry} {ep:Nat},s₁.heap.get? b=some o->o.data = .dict es ep->H b=none:=fun {b o es ep} e d=>by
      cases q:H b with
      | none=>rfl
      | some u =>
        have e':b=a:=hA b (by rw [q];simp)
        subst e'
        rw [ha] at e;cases e
        have d':Data.seq vs.toArray _=Data.dict es ep:=d
        cases d'
    have nsK:∀ {b:Addr} {m:Str->Option Value},s₁.heap.Ns b m->(hidT s₁.heap H).Ns b m:=fun {b m} ⟨o,es,ep,e,d,r⟩=>⟨o,es,ep,base_of e (noA e d),d,r⟩
    have hKb:K.In (hidT s₁.heap H):=fun b o e=>base_of (KX b o e) (by
      cases q:H b with
      | none=>rfl
      | some u =>
        have e':b=a:=hA b (by rw [q];simp)
        subst e'
        rw [hK (by rw [q];simp)] at e;cases e)
    have hM:Mod K mg (hidT s₁.heap H):=⟨hKb,nsK hns,⟨mb,nsK hb,hbb⟩,let ⟨mc,h1,h2⟩:=hlim;⟨mc,nsK h1,h2⟩⟩
    have e0:Env0 P w K mg (hidT s₁.heap H) callerA [] s₁ H:=⟨rfl,hM,fun b o e=>of_hidT e,Nat.le_of_eq (hidT_size _ _),trivial,fun b hb=>absurd (show b ∈ ([]:List Addr) from hb) (by simp),hok,.of_eq hg⟩
    refine codeAny_mono ((F _ hKb (nsK hns)).run callerA [] s₁ H ⟨[.ref a],[]⟩ [.ref a] [.ref a] _ _ hr e0 (hbind s₁ (.ref a)) (.cons rfl .nil) (hsp H hO hS)) fun r s' h=>?_
    cases r with
    | error e=>exact (hCX H e s' h).elim
    | ok fl =>
      cases fl with
      | next=>exact False.elim h
      | brk=>exact False.elim h
      | cont=>exact False.elim h
      | ret u =>
        obtain ⟨v,H',os,bare,un,hok',r',q⟩:=h
        have q':v = .bl true:=q
        subst q'
        obtain rfl:u=Value.bool true:=r'
        refine ⟨rfl,OldK.of_keep fun b o e=>?_,os,bare⟩
        cases q:H b with
        | none=>exact un.keep b o e q (by intro z;exact absurd (show b ∈ ([]:List Addr) from z) (by simp)) (by simp)
        | some u =>
          rcases hO b with z | ⟨ob,xs,z⟩
          . rw [q] at z;cases z
          . have z2:=un.frzs b ob _ z
            obtain ⟨e1,_⟩:=hok b _ z
            obtain ⟨e2,_⟩:=hok' b _ z2
            rw [e] at e1;cases e1
            exact e2
  cases hk:K.lookup a with
  | some o =>
    have e:=KX a o hk
    rw [ha] at e
    cases e
    refine core (fun _=>none) (fun _=>.inl rfl) (.inr ⟨_,vs.toArray,_,hk,rfl,rfl,rfl,by rw [List.size_toArray,lenV];exact hl,by simpa using rv⟩) (fun b u z=>by have z':(none:Option HO)=some u:=z;cases z') (fun b z=>absurd rfl z) fun z=>absurd rfl z
  | none =>
    refine core (fun b=>if b=a then some (.frz { cls:=.type "list",data:=.seq vs.toArray } (.lst (ns.map V.int))) else none) (fun b=>?_) (.inl (.inr ⟨{ cls:=.type "list",data:=.seq vs.toArray },if_pos rfl⟩)) (fun b u z=>?_) (fun b z=>?_) fun _=>hk
    . by_cases hb:b=a
      . exact .inr ⟨_,_,if_pos hb⟩
      . exact .inl (if_neg hb)
    . by_cases hb:b=a
      . have z':=(if_pos hb).symm.trans z
        cases z'
        subst hb
        exact ⟨ha,by rw [List.length_map];exact hl,vs,_,rv,ha⟩
      . have z':=(if_neg hb).symm.trans z
        cases z'
    . by_cases hb:b=a
      . exact hb
      . exact absurd (if_neg hb) z
end L2
namespace L2
open PySem PySem.Spec PyProof.Rows
end L2
namespace L2
open PySem PySem.Spec PyProof.Rows
noncomputable def defArgs (s:Stmt):Arguments:=match s with
  | .FunctionDef _ a _ _ _ _ _ _ _ _=>a
  | _=>{ posonlyargs:=[],args:=[],vararg:=none,kwonlyargs:=[],kw_defaults:=[],kwarg:=none,defaults:=[] }
noncomputable def defBody (s:Stmt):List Stmt:=match s with
  | .FunctionDef _ _ b _ _ _ _ _ _ _=>b
  | _=>[]
noncomputable def defScope (s:Stmt):Scope:=match s with
  | .FunctionDef _ _ _ _ _ _ sc _ _ _=>sc
  | _=>{ kind:=.function,names:=[],isGenerator:=false,isCoroutine:=false }
noncomputable abbrev CX0:CXT:=fun _ _ _ _ _ _=>False
noncomputable abbrev E0:XK:=fun _ _ _=>False
theorem pass0 {X:Cx}:Passes CX0 X E0:=fun _ _ _ _ _ _ _ h=>h.elim
structure Fun (K:PySem.W.Frag) (x qual:Str) (st:Stmt) (f:Addr) (fd:FuncData):Prop where
  ex:∃ (oc:Value) (od:Option Addr) (kV doc pm:Value) (an:Option Addr) (cdv ct:Value) (osl:Array (Option Value)),
    fd=PySem.W.fnOf x qual (defArgs st) (defBody st) (defScope st) .none kV doc pm an cdv ct/\K.lookup f=some ⟨oc,od,.func fd,osl⟩/\PySem.W.codeIn K cdv qual=true
  kp:PySem.W.keepIn K (.ref f)=true
section
variable {P:Program} {w:World} {K:PySem.W.Frag} {mg:Str->Option Value} {base:Heap}
theorem Fun.ok {x qual:Str} {st:Stmt} {f:Addr} {fd:FuncData} {N ps:List Str} {k:Nat} {sp:Sp} (F:Fun K x qual st f fd) (S:FnScope N ps (defScope st)) (len:∀ vs H Q E,sp vs H Q E->vs.length=ps.length)
    (hbody:∀ (cdv:Value) (A:Around) (outer:List Env) (s:Shared) (H:Hp) (vs:List V) (Q:VK) (E:XK),Room k (A.deeper (envOfC qual (defScope st) s.heap.objs.size f cdv))->sp vs H Q E ->
      ∃ t,PSs (cxOf CX0 P w K mg base N qual (defScope st) f cdv A outer s H E).nox (defBody st) t/\t { nx:=fun _ H'=>Q .non H',rt:=Q } (start N vs) H):FnOk P w K mg base CX0 (k + 1) f fd ps sp:=by
  obtain ⟨oc,od,kV,doc,pm,an,cdv,ct,osl,rfl,lk,hcd⟩:=F.ex
  refine fn_of lk hcd S len fun A outer s H vs Q E hr hsp=>?_
  obtain ⟨t,h,q⟩:=hbody cdv A outer s H vs Q E hr hsp
  exact ⟨t,h.nox,q⟩
theorem Fun.binds {x qual:Str} {st:Stmt} {f:Addr} {fd:FuncData} {ps:List Str} (F:Fun K x qual st f fd)
    (h:∀ (kV doc pm:Value) (an:Option Addr) (cdv ct:Value) (us:List Value),us.length=ps.length->bindArgs (PySem.W.fnOf x qual (defArgs st) (defBody st) (defScope st) .none kV doc pm an cdv ct) ⟨us,[]⟩=pure (ps.zip us)):Binds K fd ps []:=by
  obtain ⟨oc,od,kV,doc,pm,an,cdv,ct,osl,rfl,lk,hcd⟩:=F.ex
  exact .all (h kV doc pm an cdv ct)
theorem fun_mk {x qual:Str} {st:Stmt} {f:Addr} {oc:Value} {od an:Option Addr} {osl:Array (Option Value)} {kV doc pm cdv ct:Value} (l:K.lookup f=some ⟨oc,od,.func (PySem.W.fnOf x qual (defArgs st) (defBody st) (defScope st) .none kV doc pm an cdv ct),osl⟩)
    (c:PySem.W.codeIn K cdv qual=true) (k:PySem.W.keepIn K (.ref f)=true):Fun K x qual st f (PySem.W.fnOf x qual (defArgs st) (defBody st) (defScope st) .none kV doc pm an cdv ct):=⟨⟨oc,od,kV,doc,pm,an,cdv,ct,osl,rfl,l,c⟩,k⟩
end
section
variable {X:Cx}
end
theorem iteT {A B:Prop} (h:A):if true=true then A else B:=by
  rw [if_pos rfl]
  exact h
theorem ite2 {c A B:Prop} [Decidable c] (h1:c->A) (h2:¬ c->B):if c then A else B:=by
  by_cases h:c
  . rw [if_pos h]
    exact h1 h
  . rw [if_neg h]
    exact h2 h
noncomputable def Same (H H':Hp):Prop:=∀ b o,H b=some o->H' b=some o
theorem Same.refl (H:Hp):Same H H:=fun _ _ h=>h
end L2
end
section
namespace L2
open PySem PySem.Spec PyProof.Rows
section
variable {κ:Type} [DecidableEq κ]
end
section
end
section
variable {X:Cx} {o:Option V}
end
section
variable {X:Cx}
end
section
variable {X:Cx} {o e:Expr}
end
section
variable {X:Cx}
end
structure M1 (X:Cx) (o:Expr) (m:Str) (apos:Pos) (e:Expr) (cpos:Pos):Prop where
  base:attributeBase o m X.env (eval o X.env)=eval o X.env
  few:((backTo cpos (starEach [e] X.env)).all (fun x => !x.1) && (backToKw cpos (keywordEach [] X.env)).all (fun x=>x.1.isSome)
    && decide (([e]:List Expr).length + ([]:List Keyword).length + (if ([]:List Keyword).isEmpty then 0 else 1) < 30))=true
  line:(apos.endLine == cpos.line)=true
  trees:backTo cpos (starEach [e] X.env)=[(false,eval e X.env)]
section
variable {X:Cx} {o:Option V}
end
section
variable {X:Cx} {o e:Expr} {apos cpos:Pos}
end
section
variable {X:Cx}
end
section
variable {X:Cx}
end
end L2
namespace L2
open PySem PySem.Spec PyProof.Rows
section
variable {X:Cx}
end
section
variable {κ:Type} [DecidableEq κ]
end
end L2
end
section
namespace L2
open PySem PySem.Spec PyProof.Rows
section
variable {prog:Program} {w:World} {A:Around} {R:Result->Shared->Prop} {s:Shared}
theorem compLoop_any {elt target iter:Expr} {ifs:List Expr} {scope:Scope} {pos:Pos} {it acc:Value} {env:Env} (I:Nat->Shared->Prop)
    (turn : ∀ n s, I n s -> wpAny (model prog w) A (pyNext it) (fun r s₁ => match r with
      | none=>R (.ok .next) s₁
      | some v=>wpAny (model prog w) A (letOwnedTupleGo target it v) (fun _ s₁=>wpAny (model prog w) A (assign target env v) (fun _ s₂ =>
          wpAny (model prog w) A (forIn ifs true fun c r=>if r=true then do let ok <- isTrue c env (eval c env);pure (ForInStep.yield ok) else pure (ForInStep.yield r)) (fun ok s₃ =>
            if ok=true then wpAny (model prog w) A (eval elt env) (fun x s₄ =>
              wpAny (model prog w) A (call (.builtin "list.append") [acc,x]) (fun _ s₅=>∃ m,m < n/\I m s₅) (fun _ _=>False) s₄) (fun _ _=>False) s₃
            else ∃ m,m < n/\I m s₃) (fun _ _=>False) s₂) (fun _ _=>False) s₁) (fun _ _=>False) s₁) (fun _ _=>False) s)
    (n:Nat) (h:I n s) :
    codeAny (model prog w) A (.compLoop (.ListComp elt [⟨target,iter,ifs,0⟩] scope pos) 0 it acc env) R s:=by
  refine codeAny_loop rfl I (fun n s hI=>?_) n h
  show wpAny _ A ((compTurn (.ListComp elt [⟨target,iter,ifs,0⟩] scope pos) 0 it acc env).onRaise (fun x=>do noteFrame x env;theTreesLotGoes x)) _ _ s
  refine wpAny_noted ?_
  rw [compTurn_list]
  refine wpAny_bind (wpAny_standAt (wpAny_bind (wpAny_mono (turn n s hI) (fun r s₁ h₁=>?_) fun _ _ h'=>h'.elim)))
  cases r with
  | none=>exact wpAny_pure h₁
  | some v =>
    refine wpAny_bind (wpAny_mono h₁ (fun _ s₁ h₁=>?_) fun _ _ h'=>h'.elim)
    refine wpAny_bind (wpAny_mono h₁ (fun _ s₂ h₂=>wpAny_bind (wpAny_mono h₂ (fun ok s₃ h₃=>?_) fun _ _ h'=>h'.elim)) fun _ _ h'=>h'.elim)
    cases ok with
    | false=>exact wpAny_pure ⟨rfl,h₃⟩
    | true =>
      exact wpAny_bind (wpAny_bind (wpAny_mono h₃ (fun x s₄ h₄=>wpAny_bind (wpAny_mono h₄ (fun _ s₅ h₅=>wpAny_pure (wpAny_pure ⟨rfl,h₅⟩)) fun _ _ h'=>h'.elim)) fun _ _ h'=>h'.elim))
end
noncomputable def clOf (cells:List (Str × Addr)):List (Str × NameKind)->List (Str × Addr)->List (Str × Addr)
  | [],acc=>acc
  | (n,k) :: r,acc=>clOf cells r (if k == .free then match cells.lookup n with | some c=>(n,c) :: acc | none=>acc else acc)
theorem closureFor_go {env:Env}:∀ (names:List (Str × NameKind)) (acc:List (Str × Addr)),(∀ y ∈ names,y.2 = .free->∃ c,env.cells.lookup y.1=some c) ->
    (forIn names acc (fun (x:Str × NameKind) (cs:List (Str × Addr))=>(if x.2 == .free then (do let a <- cellOf env x.1;pure (ForInStep.yield ((x.1,a) :: cs))) else pure (ForInStep.yield cs):Sem (ForInStep (List (Str × Addr))))))=pure (clOf env.cells names acc)
  | [],acc,_=>rfl
  | (n,k) :: r,acc,h=>by
    rw [List.forIn_cons]
    have hr:=fun a=>closureFor_go r a fun y hy=>h y (List.mem_cons_of_mem _ hy)
    by_cases hk:k = .free
    . subst hk
      obtain ⟨c,e⟩:=h (n,.free) List.mem_cons_self rfl
      have ec:cellOf env n=pure c:=by unfold cellOf;rw [e]
      simp only [beq_self_eq_true,if_true,ec,clOf,e]
      exact hr _
    . have hb:(k == NameKind.free)=false:=by simpa using hk
      simp only [hb,Bool.false_eq_true,if_false,clOf]
      exact hr _
theorem closureFor_eq {scope:Scope} {env:Env} (h:∀ y ∈ scope.names,y.2 = .free->∃ c,env.cells.lookup y.1=some c):closureFor scope env=pure (clOf env.cells scope.names []):=by
  have q:=closureFor_go (env:=env) scope.names [] h
  unfold closureFor
  show (forIn scope.names [] _ >>= fun cs=>pure cs)=_
  first
    | (rw [show (forIn scope.names [] _:Sem (List (Str × Addr)))=_ from q];rfl)
    | (erw [q];rfl)
end L2
end
section
namespace L2
open PySem PySem.Spec PyProof.Rows
noncomputable def maskS (y:Str):Str:=⟨#[0] ++ y.cps⟩
noncomputable def maskN (own N:List Str):List Str:=own ++ N.map fun y=>if own.contains y then maskS y else y
noncomputable def cxComp (X:Cx) (own:List Str) (scope:Scope) (C:Addr) (fp:List Addr) (s:Shared) (H:Hp):Cx :=
  { X with N:=maskN own X.N,s₀:=s,H₀:=H,env:=compEnvC scope (clOf X.env.cells scope.names []) C X.env,outer:=X.stack,stack:=X.stack,ex:=fp,fn:=fun x=>own.contains x,pn:=[],xe:=fun _ _=>False }
structure CompScope (own N:List Str) (sc scope:Scope):Prop where
  nd:(maskN own N).Nodup
  kind:scope.kind = .function
  nocell:∀ y ∈ scope.names,y.2 ≠ .cell
  loc:∀ y ∈ scope.names,y.2 = .local->scope.names.lookup y.1=some .local
  fr:∀ y ∈ scope.names,y.2 = .free->scope.names.lookup y.1=some .free
  up:∀ y ∈ scope.names,y.2 = .free->sc.names.lookup y.1=some .cell\/sc.names.lookup y.1=some .free
  ow:∀ x ∈ own,scope.names.lookup x=some .local
  mask:∀ x ∈ own,scope.names.lookup (maskS x)=none
  only:∀ y ∈ scope.names,y.2 = .local->y.1 ∈ own\/y.1 ∉ N
theorem lookup_mem {β:Type}:∀ {l:List (Str × β)} {x:Str} {k:β},l.lookup x=some k->(x,k) ∈ l
  | [],_,_,h=>by simp at h
  | (n,k') :: r,x,k,h=>by
    rw [List.lookup_cons] at h
    by_cases e:x=n
    . subst e;simp at h;subst h;exact List.mem_cons_self
    . have:(x == n)=false:=by simpa using e
      rw [this] at h
      exact List.mem_cons_of_mem _ (lookup_mem h)
theorem clOf_spec {cells:List (Str × Addr)}:∀ (names:List (Str × NameKind)) (acc:List (Str × Addr)) (x:Str) (c:Addr),(clOf cells names acc).lookup x=some c->(cells.lookup x=some c/\(x,NameKind.free) ∈ names)\/acc.lookup x=some c
  | [],acc,x,c,h=>.inr h
  | (n, k) :: r, acc, x, c, h => by
    rw [clOf] at h
    rcases clOf_spec r _ x c h with ⟨h1,h2⟩ | h1
    . exact .inl ⟨h1,List.mem_cons_of_mem _ h2⟩
    . by_cases hk:k = .free
      . subst hk
        simp only [beq_self_eq_true,if_true] at h1
        cases e:cells.lookup n with
        | none=>rw [e] at h1;exact .inr h1
        | some c' =>
          rw [e] at h1
          dsimp only at h1
          rw [List.lookup_cons] at h1
          by_cases ex:x=n
          . subst ex;simp at h1;subst h1;exact .inl ⟨e,List.mem_cons_self⟩
          . have:(x == n)=false:=by simpa using ex
            rw [this] at h1;exact .inr h1
      . have hb:(k == NameKind.free)=false:=by simpa using hk
        rw [hb] at h1;exact .inr h1
theorem clOf_acc {cells:List (Str × Addr)}:∀ (names:List (Str × NameKind)) (acc:List (Str × Addr)) (x:Str),(acc.lookup x).isSome=true->((clOf cells names acc).lookup x).isSome=true
  | [],acc,x,h=>h
  | (n, k) :: r, acc, x, h => by
    rw [clOf]
    refine clOf_acc r _ x ?_
    split
    . split
      . rw [List.lookup_cons];split
        . rfl
        . exact h
      . exact h
    . exact h
theorem clOf_has {cells:List (Str × Addr)}:∀ (names:List (Str × NameKind)) (acc:List (Str × Addr)) (x:Str) (c:Addr),(x,NameKind.free) ∈ names->cells.lookup x=some c->((clOf cells names acc).lookup x).isSome=true
  | (n,k) :: r,acc,x,c,hm,e=>by
    rw [clOf]
    rcases List.mem_cons.mp hm with z | z
    . cases z
      refine clOf_acc r _ _ ?_
      simp [e]
    . exact clOf_has r _ x c z e
section
variable {X:Cx} {own:List Str} {scope:Scope} {C:Addr} {fp:List Addr} {s:Shared} {H:Hp}
theorem relabel_lookup {env:Env}:∀ {names:List (Str × NameKind)} {x:Str} {k:NameKind},
    (names.map fun (n,k)=>if (k == NameKind.free && env.scope.kind == .function && env.kindOf n == some .cell) then (n,NameKind.cell) else (n,k)).lookup x=some k ->
    ∃ k',names.lookup x=some k'/\(k=k'\/(k = .cell/\k' = .free))
  | [],_,_,h=>by simp at h
  | (n, k0) :: r, x, k, h => by
    have ih:=@relabel_lookup env r x k
    rw [List.map_cons] at h
    by_cases ex:x=n
    . subst ex
      refine ⟨k0,by simp,?_⟩
      dsimp only at h
      split at h
      . rename_i hc
        simp at h
        have:k0 = .free:=by
          simp only [Bool.and_eq_true,beq_iff_eq] at hc
          exact hc.1.1
        exact .inr ⟨h.symm,this⟩
      . simp at h;exact .inl h.symm
    . have hb:(x == n)=false:=by simpa using ex
      have h2:(r.map fun (n,k)=>if (k == NameKind.free && env.scope.kind == .function && env.kindOf n == some .cell) then (n,NameKind.cell) else (n,k)).lookup x=some k:=by
        dsimp only at h
        split at h <;> (rw [List.lookup_cons,hb] at h;exact h)
      obtain ⟨k',e,q⟩:=ih h2
      exact ⟨k',by rw [List.lookup_cons,hb];exact e,q⟩
theorem relabel_local {env:Env} {x:Str}:(relabel scope env).names.lookup x=some .local->scope.names.lookup x=some .local:=fun h=>by
  obtain ⟨k',e,q⟩:=relabel_lookup (env:=env) h
  rcases q with q | ⟨q,_⟩
  . rw [e, <- q]
  . cases q
theorem relabel_cf {env:Env} {x:Str} (nc:∀ y ∈ scope.names,y.2 ≠ .cell):((relabel scope env).names.lookup x=some .cell\/(relabel scope env).names.lookup x=some .free)->scope.names.lookup x=some .free:=fun h=>by
  rcases h with h | h
  . obtain ⟨k',e,q⟩:=relabel_lookup (env:=env) h
    rcases q with q | ⟨_,q⟩
    . rw [<- q] at e;exact absurd rfl (nc _ (lookup_mem e))
    . rw [e,q]
  . obtain ⟨k',e,q⟩:=relabel_lookup (env:=env) h
    rcases q with q | ⟨q,_⟩
    . rw [e, <- q]
    . cases q
theorem cxComp_ok {pins:List (Addr × Obj)} {σ:St} (S:CompScope own X.N X.env.scope scope) (I:Inv X pins σ H s) (hC:s.heap.objs.size<=C) (hf:∀ b ∈ fp,FpOk X pins H b) (ho:∀ b ∈ fp,∃ o,s.heap.get? b=some o):(cxComp X own scope C fp s H).Ok:=by
  have cl:∀ x c,(clOf X.env.cells scope.names []).lookup x=some c->X.env.cells.lookup x=some c/\(x,NameKind.free) ∈ scope.names:=fun x c e=>by
    rcases clOf_spec _ _ _ _ e with q | q
    . exact q
    . simp at q
  refine ⟨I.ok.mod,S.kind,I.ok.glob,I.ok.blt,hC,fun x y c h1 h2=>I.ok.inj x y c (cl x c h1).1 (cl y c h2).1,fun x hx=>?_,fun x c h1 h2=>?_,I.ok.hd,I.ok.frames,.inl rfl,fun b hb=>⟨?_,fun x c e=>(hf b hb).2.2.2.2.1 x c (cl x c e).1⟩,I.bs,Nat.le_trans I.ok.bsz I.sz,fun b o e hb=>?_,fun b hb z=>?_,I.stack,I.stkFree⟩
  . have hx':((relabel scope X.env).names.lookup x=some .cell\/(relabel scope X.env).names.lookup x=some .free):=hx
    have q:=relabel_cf S.nocell hx'
    have m:=lookup_mem q
    obtain ⟨c,e⟩:=I.ok.has x (by rcases S.up _ m rfl with z | z;exact .inl z;exact .inr z)
    exact Option.isSome_iff_exists.mp (clOf_has scope.names [] x c m e)
  . have h1':own.contains x=true:=h1
    have m:=(cl x c h2).2
    have l:=S.ow x (by simpa using h1')
    rw [S.fr _ m rfl] at l;cases l
  . obtain ⟨o,e⟩:=ho b hb
    exact Nat.ne_of_lt (Nat.lt_of_lt_of_le (Heap.lt_size e) hC)
  . rcases (hf b hb).2.2.2.1 with z | z
    . exact I.ok.noex b o e z
    . exact absurd (Nat.lt_of_lt_of_le (Heap.lt_size e) (Nat.le_trans I.ok.bsz z)) (Nat.lt_irrefl _)
  . have z':b ∈ frs X.stack:=z
    rcases List.mem_cons.mp (I.stkSub b z') with q | q
    . exact (hf b hb).2.1 q
    . exact (hf b hb).2.2.1 q
theorem cxComp_inv {pins:List (Addr × Obj)} {σ:St} {h':Heap} {t':Nat} {m:Str->Option Value} {H':Hp} (S:CompScope own X.N X.env.scope scope) (I:Inv X pins σ H s) (hC:s.heap.objs.size<=C) (hf:∀ b ∈ fp,FpOk X pins H b) (ho:∀ b ∈ fp,∃ o,s.heap.get? b=some o)
    (hk:∀ b o,s.heap.get? b=some o->h'.get? b=some o) (hn:h'.Ns C m) (hU:Un (frs X.stack) fp H H' s.heap h') (hok:HOk X.prog X.w H' h') (hC0:H' C=none) (hle:∀ b,b < s.heap.objs.size->H' b=H b) :
    Inv (cxComp X own scope C fp s H) [] (List.replicate own.length none ++ σ) H' { s with heap:=h',toks:=t' }:=by
  have cl:∀ x c,(clOf X.env.cells scope.names []).lookup x=some c->X.env.cells.lookup x=some c/\(x,NameKind.free) ∈ scope.names:=fun x c e=>by
    rcases clOf_spec _ _ _ _ e with q | q
    . exact q
    . simp at q
  refine ⟨cxComp_ok S I hC hf ho,rfl,I.bare,hU,⟨m,hn,fun i x v h1 h2 h3=>?_⟩,fun x c e=>?_,hC0,fun x c e=>?_,fun p hp=>?_,hok,?_⟩
  . have h1':(maskN own X.N)[i]?=some x:=h1
    by_cases hi:i < own.length
    . rw [List.getElem?_append_left (by simpa using hi),List.getElem?_replicate] at h2
      split at h2 <;> cases h2
    . rw [List.getElem?_append_right (by simpa using hi),List.length_replicate] at h2
      unfold maskN at h1'
      rw [List.getElem?_append_right (by simpa using hi),List.getElem?_map] at h1'
      cases ey:X.N[i - own.length]? with
      | none=>rw [ey] at h1';cases h1'
      | some y =>
        rw [ey] at h1'
        have ex:(if own.contains y then maskS y else y)=x:=by simpa using h1'
        have h3':(relabel scope X.env).names.lookup x=some .local\/(relabel scope X.env).names.lookup x=some .cell\/(relabel scope X.env).names.lookup x=some .free:=h3
        by_cases hyo:own.contains y=true
        . rw [if_pos hyo] at ex
          subst ex
          have none:=S.mask y (by simpa using hyo)
          rcases h3' with z | z
          . rw [relabel_local z] at none;cases none
          . rw [relabel_cf S.nocell z] at none;cases none
        . rw [if_neg hyo] at ex
          subst ex
          rcases h3' with z | z
          . rcases S.only _ (lookup_mem (relabel_local z)) rfl with q | q
            . exact absurd (by simpa using q) hyo
            . exact absurd (List.mem_of_getElem? ey) q
          . have q:=relabel_cf S.nocell z
            have mm:=lookup_mem q
            have up:=S.up _ mm rfl
            obtain ⟨m0,_,hl⟩:=I.loc
            obtain ⟨u,r,l⟩:=hl _ y v ey h2 (.inr up)
            refine ⟨u,r,.inr ⟨z,?_⟩⟩
            rcases l with ⟨k,_⟩ | ⟨k,c,e,ic⟩
            . have k':X.env.scope.names.lookup y=some .local:=k
              rcases up with u1 | u1 <;> (rw [u1] at k';cases k')
            . obtain ⟨c',e'⟩:=Option.isSome_iff_exists.mp (clOf_has scope.names [] y c mm e)
              have e2:=(cl y c' e').1
              rw [e] at e2;cases e2
              obtain ⟨o,g1,g2⟩:=ic
              exact ⟨c,e',o,hk _ _ g1,g2⟩
  . obtain ⟨v,o,g1,g2⟩:=I.cell x c (cl x c e).1
    exact ⟨v,o,hk _ _ g1,g2⟩
  . obtain ⟨v,o,g1,g2⟩:=I.cell x c (cl x c e).1
    rw [hle c (Heap.lt_size g1)]
    exact I.freeC x c (cl x c e).1
  . exact absurd (show p ∈ ([]:List (Addr × Obj)) from hp) (by simp)
  . show (List.replicate own.length none ++ σ).length=(maskN own X.N).length
    unfold maskN
    rw [List.length_append,List.length_append,List.length_replicate,List.length_map,I.len]
theorem Inv.behind {pins:List (Addr × Obj)} {σ σ':St} {pins':List (Addr × Obj)} {H':Hp} {s':Shared} (I:Inv X pins σ H s) (hf:∀ b ∈ fp,FpOk X pins H b) (J:Inv (cxComp X own scope C fp s H) pins' σ' H' s'):Inv X pins σ H' s':=by
  refine I.call' J.os J.base J.hok J.bare fun b hb=>?_
  obtain ⟨h0,h1,h2,h3,h4,h5⟩:=hf b hb
  exact ⟨h3,h1,h4,h5⟩
end
end L2
end
section
namespace L2
open PySem PySem.Spec PyProof.Rows
noncomputable def PTs (Y:Cx) (ifs:List Expr) (t:TT):Prop :=
  ∀ (pins:List (Addr × Obj)) (s:Shared) (σ:St) (H:Hp) (Q:Bool->Hp->Prop),Inv Y pins σ H s->t σ H Q ->
    wpAny (model Y.prog Y.w) Y.A (forIn ifs true fun c r=>if r=true then do let ok <- isTrue c Y.env (eval c Y.env);pure (ForInStep.yield ok) else pure (ForInStep.yield r)) (TP Y pins σ Q) Y.xe s
noncomputable def tAll:TT:=fun _ H Q=>Q true H
theorem pts_nil {Y:Cx}:PTs Y [] tAll:=fun _ _ _ H _ I h=>wpAny_tests_nil ⟨H,I,h⟩
theorem pts_one {Y:Cx} {c:Expr} {t:TT} (h:PT Y c t):PTs Y [c] t:=fun pins s σ H Q I q=>wpAny_tests_one (h pins s σ H Q I q)
noncomputable def CompW (no:Nat) (J:It) (g:TG) (tt:TT) (te:TE) (σ:St) (H1:Hp) (Q:VK):Prop:=∀ D,H1 D=none ->
  ∃ W : Nat -> Nat -> St -> Hp -> Prop, (∃ m, W 0 m (List.replicate no none ++ σ) (upd H1 D (.lst []))) /\ ∀ i m σ' H', W i m σ' H' ->
    (J.stop i H'/\Q (.ref D) H')\/(J.go i H'/\∀ x H2,J.yld i H' x H2->g x σ' H2 fun σ3 H3=>tt σ3 H3 fun b H4 =>
      if b=true then te σ3 H4 fun v H5=>∃ xs,H5 D=some (.lst xs)/\xs.length < sizeLine/\∃ m',m' < m/\W (i + 1) m' σ3 (upd H5 D (.lst (xs ++ [v]))) else ∃ m',m' < m/\W (i + 1) m' σ3 H4)
noncomputable def tCompB (no:Nat) (wi:TI) (g:TG) (tt:TT) (te:TE):TE:=fun σ H Q=>wi σ H fun J H1=>CompW no J g tt te σ H1 Q
section
variable {X:Cx} {own:List Str} {scope:Scope} {elt tg iter:Expr} {ifs:List Expr} {pos:Pos} {wi:TI} {g:TG} {tt:TT} {te:TE}
theorem comp_block {pins:List (Addr × Obj)} {σ:St} {H:Hp} {s:Shared} {it:Addr} {fp:List Addr} {tn:Nat->Heap->Prop} {J:It} {Q:VK} {RR:Value->Addr->Result->Shared->Prop} {E:Value->Shared->Prop}
    (hc:X.calm=true) (S:CompScope own X.N X.env.scope scope)
    (hg:∀ C fp s H,PG (cxComp X own scope C fp s H) tg g) (ht:∀ C fp s H,PTs (cxComp X own scope C fp s H) ifs tt) (he:∀ C fp s H,PE (cxComp X own scope C fp s H) elt te)
    (I:Inv X pins σ H s) (T:Turn X.prog X.w X.K tg J fp it tn) (st:tn 0 s.heap) (hf:∀ b ∈ fp,FpOk X pins H b)
    (h:CompW own.length J g tt te σ H Q)
    (hRR:∀ D C s' H' m,Inv X pins σ H' s'->s'.heap.Ns C m->H' C=none->s.heap.objs.size<=C->Q (.ref D) H'->RR (.ref D) C (.ok .next) s') :
    wpAny (model X.prog X.w) X.A (newList []) (fun acc s₃=>wpAny (model X.prog X.w) X.A (newFunctionEnv scope X.env.globals (clOf X.env.cells scope.names []) [] X.env.qual none .none (some X.env)) (fun cenv s₄ =>
      codeAny (model X.prog X.w) X.A (.compStart (.ListComp elt [⟨tg,iter,ifs,0⟩] scope pos) 0 (.ref it) acc { cenv with scope:=relabel scope X.env }) (RR acc cenv.locals) s₄) E s₃) E s:=by
  refine wpAny_newObj_type (wpAny_newFunctionEnv S.nocell (by intro y hy;simp at hy) (fun h₁ hns₁ hsb₁=>?_) S.kind)
  dsimp only at hns₁ hsb₁ ⊢
  generalize hH2:s.heap.push { cls:=.type "list",dict:=none,data:=.seq ([]:List Value).toArray }=H2 at hns₁ hsb₁ ⊢
  have hC:H2.objs.size=s.heap.objs.size + 1:=by rw [<- hH2,Heap.size_push]
  have hDC:s.heap.objs.size ≠ H2.objs.size:=by rw [hC];exact Nat.ne_of_lt (Nat.lt_succ_self _)
  have hCle:s.heap.objs.size<=H2.objs.size:=by rw [hC];exact Nat.le_succ _
  have below:∀ b,b < s.heap.objs.size->b ≠ H2.objs.size:=fun b hb=>by rw [hC];exact Nat.ne_of_lt (Nat.lt_succ_of_lt hb)
  have old:∀ b o,s.heap.get? b=some o->h₁.get? b=some o:=fun b o e=>hsb₁.extBut b o (below b (Heap.lt_size e)) (Heap.get?_push_of_some _ (hH2 ▸ Heap.get?_push_of_some _ e))
  have hacc:h₁.get? s.heap.objs.size=some { cls:=.type "list",dict:=none,data:=.seq ([]:List Value).toArray }:=hsb₁.extBut _ _ hDC (Heap.get?_push_of_some _ (hH2 ▸ Heap.get?_push_size _ rfl))
  have ho:∀ b ∈ fp,∃ o,s.heap.get? b=some o:=fun b hb=>let ⟨o,e,_⟩:=T.obj _ _ st b hb;⟨o,e⟩
  have fresh:∀ a,s.heap.objs.size<=a->H a=none:=fun a ha=>I.hok.fresh ha
  generalize hD:s.heap.objs.size=D at *
  generalize hCC:H2.objs.size=C at *
  have I1:Inv (cxComp X own scope C fp s H) [] (List.replicate own.length none ++ σ) (upd H D (.lst [])) { s with heap:=h₁,toks:=s.toks + ([]:List (Str × Value)).length }:=by
    refine cxComp_inv S I (by rw [hD];exact hCle) hf ho old hns₁ (Un.laid old (by rw [hD];exact Nat.le_refl _) (fresh D (Nat.le_refl _))) (I.hok.laid old (by rw [hD];exact Nat.le_refl _) ?_) ?_ fun b hb=>?_
    . exact ⟨Nat.zero_le _,[],0,.nil,hacc⟩
    . rw [upd_ne (Ne.symm hDC)];exact fresh C hCle
    . rw [hD] at hb;rw [upd_ne (Nat.ne_of_lt hb)]
  obtain ⟨W,⟨m0,w0⟩,turn⟩:=h D (fresh D (Nat.le_refl _))
  have fpY:∀ {H':Hp},(∀ b ∈ fp,H' b=none)->∀ b ∈ fp,FpOk (cxComp X own scope C fp s H) [] H' b:=fun hn b hb=>by
    obtain ⟨q0,q1,q2,q3,q4,q5⟩:=hf b hb
    refine ⟨hn b hb,I1.ok.exf b hb |>.1,I1.ok.exfs b hb,.inl hb,I1.ok.exf b hb |>.2,fun p hp=>absurd (show p ∈ ([]:List (Addr × Obj)) from hp) (by simp)⟩
  have loop:codeAny (model X.prog X.w) X.A (.compLoop (.ListComp elt [⟨tg,iter,ifs,0⟩] scope pos) 0 (.ref it) (.ref D) (compEnvC scope (clOf X.env.cells scope.names []) C X.env)) (RR (.ref D) C) { s with heap:=h₁,toks:=s.toks + ([]:List (Str × Value)).length }:=by
    refine compLoop_any (fun n s'=>∃ i σ' H',Inv (cxComp X own scope C fp s H) [] σ' H' s'/\tn i s'.heap/\(∀ b ∈ fp,H' b=none)/\W i n σ' H') ?_ m0
      ⟨0,_,_,I1,T.keep _ _ _ st fun b _ o e=>old b o e,fun b hb=>?_,w0⟩
    . rintro n s3 ⟨i,σ3,H3,I3,st3,fr3,w3⟩
      rcases turn i n σ3 H3 w3 with ⟨stop,qn⟩ | ⟨go,step⟩
      . refine thn (T.done (cxComp X own scope C fp s H) rfl rfl rfl hc i [] s3 σ3 H3 _ I3 (fpY fr3) st3 stop) fun r s4 ⟨hr,I4⟩=>?_
        subst hr
        obtain ⟨m,hm,_⟩:=I4.loc
        exact hRR D C s4 H3 m (I.behind hf I4) hm I4.free hCle qn
      . refine thn (T.item (cxComp X own scope C fp s H) rfl rfl rfl hc i [] s3 σ3 H3 _ I3 (fpY fr3) st3 go) fun r s4 ⟨u,hr,h4⟩=>?_
        subst hr
        dsimp only
        refine thn h4 fun _ s5 ⟨x,H5,I5,r5,y5,st5,fr5⟩=>?_
        have I5':=I5.pinned (fpY fr5) (T.obj _ _ st5)
        refine thn (hg C fp s H _ s5 σ3 H5 x u _ I5' r5 (step x H5 y5)) fun _ s6 ⟨σ6,H6,I6,q6⟩=>?_
        refine thn (ht C fp s H _ s6 σ6 H6 _ I6 q6) fun b s7 ⟨H7,I7,q7⟩=>?_
        have again:∀ {s8:Shared} {σ7:St} {H7:Hp},Inv (cxComp X own scope C fp s H) ([] ++ pinsAt fp s5.heap) σ7 H7 s8->(∃ m',m' < n/\W (i + 1) m' σ7 H7)->∃ m,m < n/\∃ i σ' H',Inv (cxComp X own scope C fp s H) [] σ' H' s8/\tn i s8.heap/\(∀ b ∈ fp,H' b=none)/\W i m σ' H':=fun {s8 σ7 H7} I7 n7=>by
          obtain ⟨m',hm,w7⟩:=n7
          refine ⟨m',hm,i + 1,σ7,H7,I7.unpinned,T.keep _ _ _ st5 fun b hb o e=>(I7.pin (b,o) (List.mem_append_right _ (List.mem_append_right _ (mem_pinsAt hb e)))).1,fun b hb=>?_,w7⟩
          obtain ⟨o,e,d⟩:=T.obj _ _ st5 b hb
          exact (I7.pin (b,o) (List.mem_append_right _ (List.mem_append_right _ (mem_pinsAt hb e)))).2.1
        cases b with
        | false =>
          rw [if_neg (by simp)] at q7
          exact again I7 q7
        | true =>
          rw [if_pos rfl] at q7 ⊢
          refine thn (he C fp s H _ s7 σ6 H7 _ I7 q7) fun u8 s8 ⟨v,H8,I8,r8,xs,hx,hz,q8⟩=>?_
          refine thn (mt_append (X:=cxComp X own scope C fp s H) _ s8 σ6 H8 (.ref D) [v] (.ref D) [u8] (fun _ H9=>∃ m',m' < n/\W (i + 1) m' σ6 H9) I8 rfl (.cons r8 .nil) ⟨D,xs,v,rfl,rfl,hx,hz,q8⟩) fun _ s9 ⟨_,H9,I9,_,q9⟩=>?_
          exact again I9 q9
    . have lt:b < D:=by
        obtain ⟨o,e⟩:=ho b hb
        exact hD ▸ Heap.lt_size e
      rw [upd_ne (Nat.ne_of_lt lt)]
      exact (hf b hb).1
  exact codeAny_compStart_list loop (T.self _ 0 _ _ _ (T.keep _ _ _ st fun b _ o e=>old b o e) loop)
theorem comp_clos {pins:List (Addr × Obj)} {σ:St} {H:Hp} {s:Shared} (S:CompScope own X.N X.env.scope scope) (I:Inv X pins σ H s):closureFor scope X.env=pure (clOf X.env.cells scope.names []) :=
  closureFor_eq fun y hy hk=>I.ok.has y.1 (by rcases S.up y hy hk with z | z;exact .inl z;exact .inr z)
theorem Inv.letgo {pins:List (Addr × Obj)} {σ:St} {H':Hp} {s':Shared} {h':Heap} {C:Addr} {z:Nat} (I:Inv X pins σ H' s') (hC:H' C=none) (h0:X.s₀.heap.objs.size<=z) (hz:z<=C) (hL:X.env.locals < z) (hcl:∀ x c,X.env.cells.lookup x=some c->c < z) (hp:∀ p ∈ X.pn ++ pins,p.1 < z) (hs:Heap.SameBut C s'.heap h'):Inv X pins σ H' { s' with heap:=h' } :=
  I.turned (t':=s'.toks) (it:=C) (fun b o hb e=>hs.extBut b o hb e) hC (Nat.ne_of_gt (Nat.lt_of_lt_of_le hL hz)) (.inr (Nat.le_trans h0 hz)) (fun x c e=>Nat.ne_of_lt (Nat.lt_of_lt_of_le (hcl x c e) hz)) fun p hq=>Nat.ne_of_lt (Nat.lt_of_lt_of_le (hp p hq) hz)
theorem pe_comp {N0 P0:List Str} {sc:Scope} (S0:FnScope N0 P0 sc) (hc:X.calm=true) (S1:CompScope own N0 sc scope) (hi:PI X tg iter wi)
    (hg:∀ C fp s H,(maskN own N0).Nodup->PG (cxComp X own scope C fp s H) tg g) (ht:∀ C fp s H,PTs (cxComp X own scope C fp s H) ifs tt) (he:∀ C fp s H,PE (cxComp X own scope C fp s H) elt te)
    (hs:∀ x,foldedSetIterable iter X.env x=pure x:=by intro _;rfl) (hN0:X.N=N0:=by rfl) (hsc:X.env.scope=sc:=by rfl):PE X (.ListComp elt [⟨tg,iter,ifs,0⟩] scope pos) (tCompB own.length wi g tt te):=by
  intro pins s σ H Q I h
  subst hN0 hsc
  have S:=S1
  replace hg:=fun C fp s H=>hg C fp s H S1.nd
  rw [eval_ListComp]
  refine wpAny_comprehension_free (use:=none) rfl hs (comp_clos S I) S.kind S.loc (thn (hi pins s σ H _ I h) fun xv s₁ h₁=>thn h₁ fun itv s₂ h₂=>?_)
  obtain ⟨it,fp,tn,J,H2,rfl,I2,T,st2,f2,q2⟩:=h₂
  refine comp_block (Q:=Q) hc S hg ht he I2 T st2 f2 q2 ?_
  intro D C s' H' m I' hm hC hCle q
  refine ⟨m,hm,fun h' hs'=>⟨.ref D,H',?_,rfl,q⟩⟩
  exact I'.letgo hC I2.sz hCle I2.lt (fun x c e=>let ⟨v,z⟩:=I2.cell x c e;z.lt) (fun p hp=>Heap.lt_size (I2.pin p hp).1) hs'
theorem ps_comp {i:Nat} {x:Str} {pos' spos:Pos} {N0 P0:List Str} {sc:Scope} (S0:FnScope N0 P0 sc) (hc:X.calm=true) (S1:CompScope own N0 sc scope) (hi:PI X tg iter wi)
    (hg:∀ C fp s H,(maskN own N0).Nodup->PG (cxComp X own scope C fp s H) tg g) (ht:∀ C fp s H,PTs (cxComp X own scope C fp s H) ifs tt) (he:∀ C fp s H,PE (cxComp X own scope C fp s H) elt te)
    (hN:X.N.Nodup) (hiN:X.N[i]?=some x) (hx:Loc X.env.scope x)
    (hsw:swapsWith (.ListComp elt [⟨tg,iter,ifs,0⟩] scope pos) (some (.Name x pos')) spos.line X.env=pure true)
    (hs:∀ x,foldedSetIterable iter X.env x=pure x:=by intro _;rfl) (hf:X.fn x=true\/X.env.scope.names.lookup x=some .local:=by first | exact .inl rfl | exact .inr rfl | assumption) (hN0:X.N=N0:=by rfl) (hsc:X.env.scope=sc:=by rfl) :
    PS X (.Assign [.Name x pos'] (.ListComp elt [⟨tg,iter,ifs,0⟩] scope pos) spos) (tAsg (tCompB own.length wi g tt te) (gName i)):=by
  intro pins s σ H D I h
  subst hN0 hsc
  have S:=S1
  replace hg:=fun C fp s H=>hg C fp s H S1.nd
  rw [exec_Assign_Name_used _ _ _ _ hsw]
  refine wpAny_bind (wpAny_standAt (wpAny_bind ?_))
  show wpAny _ X.A (do let _ <- comprehension (.ListComp elt [⟨tg,iter,ifs,0⟩] scope pos) scope X.env _ (newList []) false (eval iter X.env) (some (assign (.Name x pos') X.env))) _ _ s
  refine wpAny_bind (wpAny_mono (wpAny_comprehension_free (use:=some (assign (.Name x pos') X.env)) (Q:=fun _ s'=>SP X pins D .next s') rfl hs (comp_clos S I) S.kind S.loc
    (thn (hi pins s σ H _ I h) fun xv s₁ h₁=>thn h₁ fun itv s₂ h₂=>?_)) (fun _ s' hq=>wpAny_pure (wpAny_pure hq)) fun _ _ e=>e)
  obtain ⟨it,fp,tn,J,H2,rfl,I2,T,st2,f2,q2⟩:=h₂
  refine comp_block (Q:=fun v H=>D.nx (σ.set i (some v)) H) hc S hg ht he I2 T st2 f2 q2 ?_
  intro Dl C s' H' m I' hm hC hCle q
  have hL:=I2.lt
  have hcl:∀ x c,X.env.cells.lookup x=some c->c < s₂.heap.objs.size:=fun x c e=>let ⟨v,z⟩:=I2.cell x c e;z.lt
  show wpAny _ X.A (assign (.Name x pos') X.env (.ref Dl)) _ _ _
  refine wpAny_assign_Name (store_ok2 I' hN hiN hx (v:=.ref Dl) rfl (fun s'' I'' ⟨a,sb,ha⟩=>?_) hf)
  have ne:C ≠ a:=by
    rcases ha with rfl | ha
    . exact Nat.ne_of_gt (Nat.lt_of_lt_of_le hL hCle)
    . exact Nat.ne_of_gt (Nat.lt_of_lt_of_le (hcl _ _ ha) hCle)
  refine ⟨m,hm.sameBut sb ne,fun h' hs'=>⟨_,H',?_,q⟩⟩
  exact I''.letgo hC I2.sz hCle hL hcl (fun p hp=>Heap.lt_size (I2.pin p hp).1) hs'
end
end L2
end
section
namespace L2
open PySem PySem.Spec PyProof.Rows
open PySem.W (Dat kqdP kqdPs kqdOk)
section
variable {X:Cx}
theorem op_mulB:OpR X (binaryOp .Mult) (rI IntMulOk fun i j=>.int (i * j)):=opI fun _ _ _ _ _ _ _ hc q=>mul_int q hc
noncomputable def CDivB (i j:Int):Prop:=j ≠ 0/\j.natAbs.log2 < 9000
theorem op_fdivB:OpR X (binaryOp .FloorDiv) (rI CDivB fun i j=>.int (i.fdiv j)):=opI fun _ _ _ _ _ _ _ hc q=>floordiv_int hc.1 q (.inl (PyProof.noPylong_of_log2 hc.2))
end
noncomputable def IsX (C:Value) (e:Addr):Heap->Prop:=fun h=>∃ o,h.get? e=some o/\o.cls=C/\o.dict=none/\∃ fs,o.data = .fields fs
theorem IsX.st {C:Value} {e:Addr} (h1 h2:Heap) (x:IsX C e h1) (k:∀ o,h1.get? e=some o->h2.get? e=some o):IsX C e h2:=let ⟨o,q,r⟩:=x;⟨o,k o q,r⟩
noncomputable def XN (K:PySem.W.Frag) (c:Array UInt8) (C:Value):Prop:=PySem.W.nsIn K mainGlobals ⟨c.map (·.toNat)⟩=some (some C)
noncomputable def XAt (K:PySem.W.Frag) (H:Hp) (a:Addr) (c:Array UInt8):Prop:=∃ ob C,H a=some (.frz ob (.ext (IsX C a)))/\XN K c C
mutual
inductive Is (K:PySem.W.Frag) (H:Hp):V->Dat->Prop
  | none:Is K H .non .none
  | bool (b:Bool):Is K H (.bl b) (.bool b)
  | int (i:Int):Is K H (.int i) (.int i)
  | str (x:Str):Is K H (.str x) (.str x)
  | tup {a:Addr} {xs:List V} {ds:List Dat}:SqT K H a xs->Iss K H xs ds->Is K H (.ref a) (.tuple ds)
  | lst {a:Addr} {xs:List V} {ds:List Dat}:SqL K H a xs->Iss K H xs ds->Is K H (.ref a) (.list ds)
  | exc {a:Addr} {c:Array UInt8}:XAt K H a c->Is K H (.ref a) (.bytes c)
inductive Iss (K:PySem.W.Frag) (H:Hp):List V->List Dat->Prop
  | nil:Iss K H [] []
  | cons {x:V} {d:Dat} {xs:List V} {ds:List Dat}:Is K H x d->Iss K H xs ds->Iss K H (x :: xs) (d :: ds)
end
theorem Same.tup {K:PySem.W.Frag} {H H':Hp} {a:Addr} {xs:List V} (e:Same H H') (h:SqT K H a xs):SqT K H' a xs:=by
  rcases h with (h | ⟨o,h⟩) | h
  . exact .inl (.inl (e _ _ h))
  . exact .inl (.inr ⟨o,e _ _ h⟩)
  . exact .inr h
theorem Same.new {H:Hp} {p:Addr} (h:H p=Option.none) (o:HO):Same H (upd H p o):=fun b u q=>by rw [upd_ne (ne_of_none q h)];exact q
section
variable {K:PySem.W.Frag} {H H':Hp}
end
section
variable {X:Cx} {pins:List (Addr × Obj)} {σ:St} {H:Hp} {s:Shared}
mutual
theorem Is.reads (I:Inv X pins σ H s):∀ {v:V} {d:Dat} {u:Value},Is X.K H v d->∀ n,kqdOk n d=true->RelV v u->∃ as,Reads s.heap u (kqdP d) as
  | _,_,_,.none,_,_,r=>by cases (show _=Value.none from r);exact ⟨_,.none⟩
  | _,_,_,.bool b,_,_,r=>by cases (show _=Value.bool b from r);exact ⟨_,.bool b⟩
  | _,_,_,.int i,_,_,r=>by obtain ⟨t,rfl⟩:=r;exact ⟨_,.int i t⟩
  | _,_,_,.str x,_,_,r=>by obtain ⟨t,rfl⟩:=r;exact ⟨_,.str x t⟩
  | _,_,_,.tup (a:=a) h q,0,ok,r=>by simp [kqdOk] at ok
  | _,_,_,.tup (a:=a) h q,n + 1,ok,r=>by
    cases (show _=Value.ref a from r)
    obtain ⟨its,rv,⟨o,e,c,n2,d⟩,_⟩:=I.tuple h
    obtain ⟨as,z⟩:=Iss.reads I q n (by rw [kqdOk] at ok;exact ok) rv
    rw [kqdP]
    exact ⟨as,.tuple e c d (by simpa using z)⟩
  | _,_,_,.lst (a:=a) h q,0,ok,r=>by simp [kqdOk] at ok
  | _,_,_,.lst (a:=a) h q,n + 1,ok,r=>by
    cases (show _=Value.ref a from r)
    obtain ⟨its,rv,⟨o,n2,e,c,_,d⟩,_⟩:=I.list h
    obtain ⟨as,z⟩:=Iss.reads I q n (by rw [kqdOk] at ok;exact ok) rv
    rw [kqdP]
    exact ⟨_,.list e c d (by simpa using z)⟩
  | _,_,_,.exc h,n,ok,r=>by cases n <;> simp [kqdOk] at ok
theorem Iss.reads (I:Inv X pins σ H s):∀ {v:List V} {d:List Dat} {u:List Value},Iss X.K H v d->∀ n,d.all (kqdOk n)=true->Vals v u->∃ as,ReadsAll s.heap u (kqdPs d) as
  | _,_,_,.nil,_,_,.nil=>⟨_,.nil⟩
  | _,_,_,.cons a r,n,ok,.cons b t=>by
    rw [List.all_cons,Bool.and_eq_true] at ok
    obtain ⟨as,p⟩:=Is.reads I a n ok.1 b
    obtain ⟨bs,q⟩:=Iss.reads I r n ok.2 t
    rw [kqdPs]
    exact ⟨_,.cons p q⟩
end
end
open Classical in
noncomputable def deq (d e:Dat):Bool:=decide (d=e)
open Classical in
theorem deq_self (d:Dat):deq d d=true:=decide_eq_true rfl
open Classical in
theorem deq_true {d e:Dat} (h:d=e):deq d e=true:=decide_eq_true h
open Classical in
theorem deq_ne {d e:Dat} (h:d ≠ e):deq d e=false:=decide_eq_false h
noncomputable def rEqD (K:PySem.W.Frag) (n:Bool):R2:=fun x y H Q=>∃ d e,Is K H x d/\Is K H y e/\kqdOk 9 d=true/\kqdOk 9 e=true/\Q (.bl (if n then !deq d e else deq d e)) H
theorem eqv_deq {d e:Dat} (h1:kqdOk 9 d=true) (h2:kqdOk 9 e=true):PyData.eqv (kqdP d) (kqdP e)=deq d e:=by
  have q:=PySem.W.kqd_eqv 9 d e 9 h1 h2
  by_cases z:d=e
  . rw [deq_true z];exact q.mpr z
  . rw [deq_ne z];exact Bool.eq_false_iff.mpr fun x=>z (q.mp x)
theorem shaped9 {d:Dat} (h:kqdOk 9 d=true):SeqAt.shaped (kqdP d)=true:=by
  have l:=PySem.W.kqd_lay 9 d h
  unfold SeqAt.shaped
  rw [l.1,Bool.true_and]
  exact decide_eq_true (Nat.le_trans l.2 (by decide))
section
variable {X:Cx}
theorem op_eqD (hu:X.A.units + 64 < cLine):OpR X (compareOp .Eq) (rEqD X.K false):=by
  intro pins s σ H x y v u Q I rx ry h
  obtain ⟨d,e,hd,he,o1,o2,q⟩:=h
  obtain ⟨as,ra⟩:=hd.reads I 9 o1 rx
  obtain ⟨bs,rb⟩:=he.reads I 9 o2 ry
  refine PyProof.Rows.eq_dataH ra rb (shaped9 o1) (shaped9 o2) hu ?_
  rw [eqv_deq o1 o2]
  exact ⟨.bl _,H,I,rfl,q⟩
theorem op_neD (hu:X.A.units + 64 < cLine):OpR X (compareOp .NotEq) (rEqD X.K true):=by
  intro pins s σ H x y v u Q I rx ry h
  obtain ⟨d,e,hd,he,o1,o2,q⟩:=h
  obtain ⟨as,ra⟩:=hd.reads I 9 o1 rx
  obtain ⟨bs,rb⟩:=he.reads I 9 o2 ry
  refine PyProof.Rows.ne_dataH ra rb (shaped9 o1) (shaped9 o2) hu ?_
  rw [eqv_deq o1 o2]
  exact ⟨.bl _,H,I,rfl,q⟩
theorem call_isi {b:Bool} {T U:String} (e:∀ K,PySem.W.kitOne K (.type U) (.type T)=some b):CallR X (.builtin "isinstance") (fun xs H Q=>∃ x,xs=[x,.ty T]/\TyOf X.K H x (.type U)/\Q (.bl b) H):=by
  intro pins s σ H xs us Q I r h
  obtain ⟨x,rfl,ty,q⟩:=h
  cases r with
  | cons r1 r2 =>
    cases r2 with
    | cons r3 r4 =>
      cases r4
      cases (show _=Value.type T from r3)
      exact isinst_ok I r1 ty (e _) fun tk=>⟨.bl b,H,I.tok tk,rfl,q⟩
end
end L2
end
section
namespace L2
open PySem PySem.Spec PyProof.Rows
theorem weight_in:∀ (ns:List Int) (n:Int),n ∈ ns->PySem.W.WData.weight (.int n)<=PySem.W.WData.weightAll (ns.map PySem.W.WData.int)
  | m :: ns, n, h => by
    rw [List.map_cons,PySem.W.WData.weightAll]
    rcases List.mem_cons.mp h with rfl | h
    . omega
    . have:=weight_in ns n h
      omega
theorem walkB {l:PySem.W.OpenLaw} {n k:Nat} {q:Program} {loose:List Str} {XP:(Str->Option Value)->Heap->Prop} {YP:World->Heap->Prop} {d:DefRec} {K:Params->PySem.W.Frag} {sp:PySem.W.Frag->Sp} {x:Str}
    (hn:l.most=some n) (hn2:n<=sizeLine) (hdf:d.params.defaults=[]) (hr:Room k callerA) (hY:∀ (w:World) (h:Heap),YP w h->(K w.params).In h)
    (F:∀ (w:World) (mg:Str->Option Value) (fa:Addr) (h:Heap),(K w.params).In h->h.Ns mainGlobals mg->mg d.name=some (.ref fa) ->
      ∃ fd:FuncData,(∀ (s:Shared) (u:Value),BindsTo s fd ⟨[u],[]⟩ [(x,u)])/\∀ base:Heap,(K w.params).In base->base.Ns mainGlobals mg->FnOk l.prog w (K w.params) mg base CX0 k fa fd [x] (sp (K w.params)))
    (hsp:∀ (K:PySem.W.Frag) (H:Hp) (a:Addr) (ns:List Int),ns.length<=n->(∀ v ∈ ns,Builtin.Int.intBits v<=2 ^ 20)->SqL K H a (ns.map V.int)->sp K [.ref a] H (fun v _=>v = .bl true) fun _ _ _=>False) :
    PySem.W.WalkO q loose XP YP l.row.toRowW d [] (fun f vs=>PySem.call f vs):=by
  intro w s₀ s₁ mg mb G Y fa o pm cd doc dV kV ho hd hcd hD hmg hg args vals as hpre hlay hrd hwl hlo
  obtain rfl:dV = .none:=PySem.W.Dflts.none hD hdf
  obtain rfl:kV = .none:=PySem.W.Dflts.noKw hD
  obtain ⟨a,vs,ns,rfl,rfl,hobj,hints,hlen⟩:=Att.script_of hn hpre hwl
  have bits:∀ v ∈ ns,Builtin.Int.intBits v<=2 ^ 20:=fun v hv=>by
    have h1:PySem.W.WData.layable (.list (ns.map PySem.W.WData.int))=true:=by
      have h2:[PySem.W.WData.list (ns.map PySem.W.WData.int)].all PySem.W.WData.layable=true:=hlay
      simpa only [List.all_cons,List.all_nil,Bool.and_true] using h2
    have h3:=(PySem.W.layableW_iff.mp h1).2.2
    have h4:=weight_in ns v hv
    rw [PySem.W.WData.weight] at h3
    have h5:PySem.W.WData.weight (.int v)=Builtin.Int.intBits v:=by first | rfl | simp only [PySem.W.WData.weight,Builtin.Int.intBits]
    omega
  have KX:=hY w _ Y
  obtain ⟨fd,hb,hF⟩:=F w mg fa _ KX G.T.g hmg
  have call:=law_call KX G.T.g G.T.b G.T.builtins G.T.nolimit hg hobj hints (Nat.le_trans hlen hn2) hr hF hb (fun H hO hS=>hsp (K w.params) H a ns hlen bits hS) fun H e s' z=>z
  refine PySem.W.enter_call (codeAny_mono call fun r s' hq=>?_)
  obtain ⟨rfl,h2,h3,h4⟩:=hq
  exact ⟨.inl ⟨.bool true,.bool true,[],rfl,fun _=>rfl,.bool true,Att.post_true l _,fun _=>⟨List.Pairwise.nil,fun _ hm=>(nomatch hm)⟩⟩,h2,h3,h4⟩
end L2
end
section
namespace L2
open PySem PySem.Spec PyProof.Rows
open PySem.W (Dat kqdP kqdPs kqdOk)
noncomputable def Tm (H H':Hp):Prop:=∀ (K:PySem.W.Frag) (a:Addr) (xs:List V),SqT K H a xs->SqT K H' a xs
theorem Tm.refl (H:Hp):Tm H H:=fun _ _ _ h=>h
theorem Tm.trans {H H1 H2:Hp} (a:Tm H H1) (b:Tm H1 H2):Tm H H2:=fun K c o h=>b K c o (a K c o h)
theorem Same.tm {H H':Hp} (e:Same H H'):Tm H H':=fun _ _ _ h=>e.tup h
theorem Tm.lst {H:Hp} {D:Addr} {ys:List V} (h:H D=some (.lst ys)) (o:HO):Tm H (upd H D o):=fun K a xs q=>by
  rcases q with (q | ⟨ob,q⟩) | q
  . exact .inl (.inl (by rw [upd_ne (ne_of q h (fun z=>by cases z))];exact q))
  . exact .inl (.inr ⟨ob,by rw [upd_ne (ne_of q h (fun z=>by cases z))];exact q⟩)
  . exact .inr q
noncomputable def SB (p:Addr) (H H':Hp):Prop:=∀ b o,b ≠ p->H b=some o->H' b=some o
theorem SB.upd {p:Addr} {H:Hp} {o:HO}:SB p H (upd H p o):=fun b u n h=>by rw [upd_ne n];exact h
theorem SB.tm {p:Addr} {H H':Hp} {ys:List V} (e:SB p H H') (h:H p=some (.lst ys)):Tm H H':=fun K a xs q=>by
  rcases q with (q | ⟨ob,q⟩) | q
  . exact .inl (.inl (e _ _ (ne_of q h (fun z=>by cases z)) q))
  . exact .inl (.inr ⟨ob,e _ _ (ne_of q h (fun z=>by cases z)) q⟩)
  . exact .inr q
section
variable {K:PySem.W.Frag} {H H':Hp}
end
section
variable {K:PySem.W.Frag} {H:Hp}
end
end L2
end
section
namespace L2
open PySem PySem.Spec PyProof.Rows
section
variable {X:Cx} {es:List Expr} {t:TA} {te:TE}
theorem pa_i {i:Int} {j:Nat} {p:Pos} (hr:PA X es t):PA X (.Constant (.int i) j p :: es) (tCons (tC (.int i)) t):=pa_cons pe_int hr rfl
theorem pa_n {x:Str} {p:Pos} (ha:PE X (.Name x p) te) (hr:PA X es t):PA X (.Name x p :: es) (tCons te t):=pa_cons ha hr rfl
theorem pa_b {a b:Expr} {op:Operator} {p:Pos} (ha:PE X (.BinOp a op b p) te) (hr:PA X es t):PA X (.BinOp a op b p :: es) (tCons te t):=pa_cons ha hr rfl
theorem pa_u {a:Expr} {op:UnaryOp} {p:Pos} (ha:PE X (.UnaryOp op a p) te) (hr:PA X es t):PA X (.UnaryOp op a p :: es) (tCons te t):=pa_cons ha hr rfl
theorem pa_s {a b:Expr} {p:Pos} (ha:PE X (.Subscript a b p) te) (hr:PA X es t):PA X (.Subscript a b p :: es) (tCons te t):=pa_cons ha hr rfl
theorem pa_c {f:Expr} {a:List Expr} {k:List Keyword} {p:Pos} (ha:PE X (.Call f a k p) te) (hr:PA X es t):PA X (.Call f a k p :: es) (tCons te t):=pa_cons ha hr rfl
theorem pa_t {a:List Expr} {p:Pos} {k:Nat} (ha:PE X (.Tuple a k p) te) (hr:PA X es t):PA X (.Tuple a k p :: es) (tCons te t):=pa_cons ha hr rfl
theorem pix_call {f:Expr} {a:List Expr} {k:List Keyword} {p:Pos}:PlainIx (.Call f a k p):=fun _ _=>rfl
theorem sw_sub {a b:Expr} {p:Pos} {t:Option Expr} {l:Nat} {env:Env}:swapsWith (.Subscript a b p) t l env=pure false:=rfl
end
end L2
end
section
namespace L2
open PySem PySem.Spec PyProof.Rows
open PySem.W (Dat)
section
end
theorem ixN_of {n:Nat} {d:Int} (h0:0<=d) (h1:d < (n:Int)):ixN n d=some d.toNat:=by
  unfold ixN
  rw [if_pos h0,if_pos h1]
theorem pe_tyn {X:Cx} {x:Str} {T:String} {pos:Pos} (hg:Gl X x) (hm:X.mg x=none) (hv:bootBuiltins x=some (.type T)) (hn:x ≠ "__name__" := by decide) (hd:(x == ("__debug__" : Str))=false:=by decide):PE X (.Name x pos) (tC (.ty T)) :=
  pe_bltn (v:=.ty T) hg hm hv rfl hn hd
end L2
end
section
namespace L2
open PySem PySem.Spec PyProof.Rows
noncomputable def DefAt (K:PySem.W.Frag) (x:Str) (st:Stmt):Prop:=∃ (f:Addr) (oc:Value) (od:Option Addr) (kV dc pm:Value) (an:Option Addr) (cd ct:Value) (sl:Array (Option Value)),
  PySem.W.nsIn K mainGlobals x=some (some (.ref f))/\K.lookup f=some ⟨oc,od,.func (PySem.W.fnOf x x (defArgs st) (defBody st) (defScope st) .none kV dc pm an cd ct),sl⟩/\PySem.W.codeIn K cd x=true/\PySem.W.keepIn K (.ref f)=true
theorem DefAt.mk {K:PySem.W.Frag} {x:Str} {st:Stmt} {f:Addr} {oc:Value} {od:Option Addr} {kV dc pm:Value} {an:Option Addr} {cd ct:Value} {sl:Array (Option Value)} (a:PySem.W.nsIn K mainGlobals x=some (some (.ref f)))
    (l:K.lookup f=some ⟨oc,od,.func (PySem.W.fnOf x x (defArgs st) (defBody st) (defScope st) .none kV dc pm an cd ct),sl⟩) (c:PySem.W.codeIn K cd x=true) (k:PySem.W.keepIn K (.ref f)=true):DefAt K x st:=⟨f,oc,od,kV,dc,pm,an,cd,ct,sl,a,l,c,k⟩
theorem DefAt.get {K:PySem.W.Frag} {x:Str} {st:Stmt} {h:Heap} {mg:Str->Option Value} (d:DefAt K x st) (X:K.In h) (G:h.Ns mainGlobals mg):∃ (f:Addr) (fd:FuncData),Fun K x x st f fd/\mg x=some (.ref f)/\PySem.W.keepIn K (.ref f)=true:=by
  obtain ⟨f,oc,od,kV,dc,pm,an,cd,ct,sl,a,l,c,k⟩:=d
  exact ⟨f,_,fun_mk l c k,PySem.W.mg_of X G a,k⟩
theorem DefAt.law {K:PySem.W.Frag} {x y:Str} {st:Stmt} {h:Heap} {mg:Str->Option Value} {fa:Addr} (d:DefAt K x st) (X:K.In h) (G:h.Ns mainGlobals mg) (hfa:mg x=some (.ref fa))
    (hb:∀ (kV doc pm:Value) (an:Option Addr) (cdv ct:Value) (u:Value),bindArgs (PySem.W.fnOf x x (defArgs st) (defBody st) (defScope st) .none kV doc pm an cdv ct) ⟨[u],[]⟩=pure [(y,u)]):∃ (fd:FuncData),Fun K x x st fa fd/\∀ (s:Shared) (v:Value),BindsTo s fd ⟨[v],[]⟩ [(y,v)]:=by
  obtain ⟨f,oc,od,kV,dc,pm,an,cd,ct,sl,a,l,c,k⟩:=d
  have e:=hfa.symm.trans (PySem.W.mg_of X G a)
  cases e
  exact ⟨_,fun_mk l c k,fun s v=>.of_eq (hb kV dc pm an cd ct v)⟩
end L2
end
section
namespace L2
open PySem PySem.Spec PyProof.Rows
structure ZE (X:Cx) (e:Expr) (t:TE):Prop where out:PE X e t
structure ZT (X:Cx) (e:Expr) (t:TT):Prop where out:PT X e t
structure ZW (X:Cx) (e:Expr) (t:TT):Prop where out:PW X e t
structure ZA (X:Cx) (es:List Expr) (t:TA):Prop where out:PA X es t
structure ZS (X:Cx) (st:Stmt) (t:TS):Prop where out:PS X st t
structure ZSs (X:Cx) (st:List Stmt) (t:TS):Prop where out:PSs X st t
structure ZG (X:Cx) (e:Expr) (t:TG):Prop where out:PG X e t
structure ZGs (X:Cx) (es:List Expr) (t:TGs):Prop where out:PGs X es t
structure ZI (X:Cx) (tg iter:Expr) (wi:TI):Prop where out:PI X tg iter wi
structure ZTs (X:Cx) (es:List Expr) (t:TT):Prop where out:PTs X es t
structure ZO (X:Cx) (e:Option Expr) (t:TO):Prop where out:PO X e t
section
variable {X:Cx} {a b c e tg:Expr} {es:List Expr} {te ta tb tc:TE} {t:TA} {pos p p2:Pos} {x:Str}
theorem zss_nil:ZSs X [] tNext:=⟨pss_nil⟩
theorem zss_cons {st:Stmt} {rest:List Stmt} {t u:TS} (h1:ZS X st t) (h2:ZSs X rest u):ZSs X (st :: rest) (tSeq t u):=⟨pss_cons h1.out h2.out⟩
theorem zss_one {st:Stmt} {t:TS} (h1:ZS X st t):ZSs X [st] t:=⟨pss_one h1.out⟩
theorem zs_set {i:Nat} {pos':Pos} (hN:X.N.Nodup) (hi:X.N[i]?=some x) (hx:Loc X.env.scope x) (he:ZE X e te) (hs:swapsWith e (some (.Name x pos')) pos.line X.env=pure false:=by rfl) (hf:X.fn x=true\/X.env.scope.names.lookup x=some .local:=by first | exact .inl rfl | exact .inr rfl | assumption) :
    ZS X (.Assign [.Name x pos'] e pos) (tAsg te (gName i)):=⟨ps_set hN hi hx he.out hs hf⟩
theorem zs_for {iter:Expr} {body:List Stmt} {wi:TI} {g:TG} {tb:TS} (hp:PassesOwn (model X.prog X.w) X.A X.env X.xe) (hc:X.calm=true) (hi:ZI X tg iter wi) (hg:ZG X tg g) (hb:ZSs X body tb)
    (hs:∀ x,foldedSetIterable iter X.env x=pure x:=by intro _;rfl):ZS X (.For tg iter body [] pos) (tFor wi g tb):=⟨ps_for hp hc hi.out hg.out hb.out hs⟩
theorem zs_while {body:List Stmt} {tc:TT} {tb:TS} (hp:PassesOwn (model X.prog X.w) X.A X.env X.xe) (hc:ZT X c tc) (hb:ZSs X body tb):ZS X (.While c body [] pos) (tWhile tc tb):=⟨ps_while hp hc.out hb.out⟩
theorem zs_if {l m:List Stmt} {tc:TT} {t u:TS} (hc:ZT X c tc) (ha:ZSs X l t) (hb:ZSs X m u):ZS X (.If c l m pos) (tIfS tc t u):=⟨ps_if hc.out ha.out hb.out⟩
theorem zs_ret (he:ZE X e te):ZS X (.Return (some e) pos) (tRet te):=⟨ps_ret he.out⟩
theorem zs_asg {g:TG} (he:ZE X e te) (hg:ZG X tg g) (hs:swapsWithSole [tg] e pos.line X.env=pure false:=by rfl) (hw:swappedStores [tg] e X.env=pure none:=by rfl)
    (h1:(assignEach [tg] X.env).map (·.2)=[assign tg X.env]:=by rfl):ZS X (.Assign [tg] e pos) (tAsg te g):=⟨ps_asg he.out hg.out hs hw h1⟩
theorem zs_par {i j:Nat} {y:Str} {ta:TA} {px py pt:Pos} {kt k2 pt2} (hc:X.calm=true) (hN:X.N.Nodup) (hi:X.N[i]?=some x) (hj:X.N[j]?=some y) (hij:i ≠ j)
    (hx:X.env.scope.names.lookup x=some .local) (hy:X.env.scope.names.lookup y=some .local) (ha:ZA X [a,b] ta)
    (hw:swappedStores [.Tuple [.Name x px,.Name y py] kt pt] (.Tuple [a,b] k2 pt2) X.env=pure (some [x,y]))
    (hs:swapsWithSole [.Tuple [.Name x px,.Name y py] kt pt] (.Tuple [a,b] k2 pt2) pos.line X.env=pure false:=by rfl) :
    ZS X (.Assign [.Tuple [.Name x px,.Name y py] kt pt] (.Tuple [a,b] k2 pt2) pos) (tPar i j ta):=⟨ps_par hc hN hi hj hij hx hy ha.out hw hs⟩
theorem ze_int {i j}:ZE X (.Constant (.int i) j pos) (tC (.int i)):=⟨pe_int⟩
theorem ze_bl {b j}:ZE X (.Constant (.bool b) j pos) (tC (.bl b)):=⟨pe_bl⟩
theorem ze_non {j}:ZE X (.Constant .none j pos) (tC .non):=⟨pe_non⟩
theorem ze_str {x:Str} {j}:ZE X (.Constant (.str x) j pos) (tC (.str x)):=⟨pe_str⟩
theorem zv (i:Nat) (hN:X.N[i]?=some x:=by rfl) (hv:Vis X.env.scope x:=by first | exact Or.inl rfl | exact Or.inr (Or.inl rfl) | exact Or.inr (Or.inr rfl)) (hd:(x == ("__debug__" : Str))=false:=by decide)
    (hcd:(x == ("__classdict__" : Str))=false:=by decide):ZE X (.Name x pos) (tVar i):=⟨pe_var hN hv hd hcd⟩
theorem ze_glob {v:V} {u:Value} (hg:Gl X x) (hm:X.mg x=some u) (r:RelV v u) (hd:(x == ("__debug__" : Str))=false:=by decide):ZE X (.Name x pos) (tC v):=⟨pe_glob hg hm r hd⟩
theorem ze_tyn {T:String} (hg:Gl X x) (hm:X.mg x=none) (hv:bootBuiltins x=some (.type T)) (hn:x ≠ "__name__" := by decide) (hd:(x == ("__debug__" : Str))=false:=by decide):ZE X (.Name x pos) (tC (.ty T)):=⟨pe_tyn hg hm hv hn hd⟩
theorem ze_op {op:Operator} {r:R2} (ho:OpR X (binaryOp op) r) (ha:ZE X a ta) (hb:ZE X b tb):ZE X (.BinOp a op b pos) (tOp r ta tb):=⟨pe_op ho ha.out hb.out⟩
theorem ze_un {op:UnaryOp} {r:V->Hp->VK->Prop} (ho:UnR X (unaryOp op) r) (ha:ZE X a ta):ZE X (.UnaryOp op a pos) (tUn r ta):=⟨pe_un ho ha.out⟩
theorem ze_cmpR {op:CmpOp} {r:R2} (ho:OpR X (compareOp op) r) (ha:ZE X a ta) (hb:ZE X b tb) (hm:behindInMarks op b=false):ZE X (.Compare a [op] [b] pos) (tOp r ta tb):=⟨pe_cmpR ho ha.out hb.out hm⟩
theorem zt_cmpR {op:CmpOp} {r:R2} (ho:OpR X (compareOp op) r) (ha:ZE X a ta) (hb:ZE X b tb) (hm:behindInMarks op b=false):ZT X (.Compare a [op] [b] pos) (tTest (tOp r ta tb)):=⟨pt_cmpR ho ha.out hb.out hm⟩
theorem zt_val {t:TE} (h:ZE X e t) (he:∀ whole,isTrue e X.env whole=(do let v <- whole;standAt e.pos;holding [v] (truthy v)):=by intro _;rfl):ZT X e (tB t):=⟨pt_val h.out he⟩
theorem zt_not {tA:TT} (ha:ZT X a tA):ZT X (.UnaryOp .Not a pos) (tNot tA):=⟨pt_not ha.out⟩
theorem ZW.pt {t:TT} (h:ZW X e t):ZT X e t:=⟨h.out.pt⟩
theorem zw_and1 {tA:TT} (ha:ZT X a tA):ZW X (.BoolOp .And [a] pos) tA:=⟨pw_and1 ha.out⟩
theorem zw_or1 {tA:TT} (ha:ZT X a tA):ZW X (.BoolOp .Or [a] pos) tA:=⟨pw_or1 ha.out⟩
theorem zw_and {tA tB':TT} (ha:ZT X a tA) (hb:ZW X (.BoolOp .And (b :: es) pos) tB'):ZW X (.BoolOp .And (a :: b :: es) pos) (tAnd tA tB'):=⟨pw_and ha.out hb.out⟩
theorem zw_or {tA tB':TT} (ha:ZT X a tA) (hb:ZW X (.BoolOp .Or (b :: es) pos) tB'):ZW X (.BoolOp .Or (a :: b :: es) pos) (tOr tA tB'):=⟨pw_or ha.out hb.out⟩
theorem ze_one {op} (h:ZE X a ta):ZE X (.BoolOp op [a] pos) ta:=⟨pe_one h.out⟩
theorem ze_and (ha:ZE X a ta) (hb:ZE X (.BoolOp .And (b :: es) pos) tb):ZE X (.BoolOp .And (a :: b :: es) pos) (tAndV ta tb):=⟨pe_and ha.out hb.out⟩
theorem ze_or (ha:ZE X a ta) (hb:ZE X (.BoolOp .Or (b :: es) pos) tb):ZE X (.BoolOp .Or (a :: b :: es) pos) (tOrV ta tb):=⟨pe_or ha.out hb.out⟩
theorem ze_not (ha:ZE X a ta):ZE X (.UnaryOp .Not a pos) (tNotV ta):=⟨pe_not ha.out⟩
theorem ze_ix {r:R2} (hr:IxR X r) (ha:ZE X a ta) (hb:ZE X b tb) (hs:PlainIx b):ZE X (.Subscript a b pos) (tOp r ta tb):=⟨pe_ix hr ha.out hb.out hs⟩
theorem ze_slice {lo hi:Option Expr} {tl th:TO} {r:V->Option Int->Option Int->Hp->VK->Prop} (hr:SlR X r) (he:ZE X e te) (hl:ZO X lo tl) (hu:ZO X hi th):ZE X (.Subscript e (.Slice lo hi none p2) pos) (tSl r te tl th):=⟨pe_slice hr he.out hl.out hu.out⟩
theorem zo_none:ZO X none tNoPart:=⟨po_none⟩
theorem zo_some (h:ZE X e te):ZO X (some e) (tPart te):=⟨po_some h.out⟩
theorem ze_lst (h:ZA X es t):ZE X (.List es pos) (tLst t):=⟨pe_lst h.out⟩
theorem ze_tup {x1} (h:ZA X es t):ZE X (.Tuple es x1 pos) (tTup t):=⟨pe_tup h.out⟩
theorem ze_call {CX:CXT} {k:Nat} {f:Addr} {fd:FuncData} {ps:List Str} {sp:Sp} {ds:List Value} {dvs:List V} {E:XK} (F:FnOk X.prog X.w X.K X.mg X.base CX k f fd ps sp) (hr:Room k X.A) (hg:Gl X x) (hm:X.mg x=some (.ref f)) (hk:PySem.W.keepIn X.K (.ref f)=true) (hb:Binds X.K fd ps ds) (hd:Vals dvs ds) (hx:Passes CX X E)
    (ha:ZA X (e :: es) t) (hdb:(x == ("__debug__" : Str))=false:=by decide) (he:starEach (e :: es) X.env=(false,eval e X.env) :: starEach es X.env:=by rfl) (hpl:(backTo pos (starEach es X.env)).any (·.1)=false:=by rfl) :
    ZE X (.Call (.Name x p) (e :: es) [] pos) (tCall sp dvs E t):=⟨pe_call F hr hg hm hk hb hd hx ha.out hdb he hpl⟩
theorem ze_callB {id:String} {r:List V->Hp->VK->Prop} (hc:CallR X (.builtin id) r) (hg:Gl X x) (hm:X.mg x=none) (hv:bootBuiltins x=some (.builtin id)) (ha:ZA X (e :: es) t) (hn:x ≠ "__name__" := by decide) (hdb:(x == ("__debug__" : Str))=false:=by decide)
    (he:starEach (e :: es) X.env=(false,eval e X.env) :: starEach es X.env:=by rfl) (hpl:(backTo pos (starEach es X.env)).any (·.1)=false:=by rfl):ZE X (.Call (.Name x p) (e :: es) [] pos) (tCB r t):=⟨pe_callB hc hg hm hv ha.out hn hdb he hpl⟩
theorem ze_callTy {T:String} {r:List V->Hp->VK->Prop} (hc:CallR X (.type T) r) (hg:Gl X x) (hm:X.mg x=none) (hv:bootBuiltins x=some (.type T)) (ha:ZA X (e :: es) t) (hn:x ≠ "__name__" := by decide) (hdb:(x == ("__debug__" : Str))=false:=by decide)
    (he:starEach (e :: es) X.env=(false,eval e X.env) :: starEach es X.env:=by rfl) (hpl:(backTo pos (starEach es X.env)).any (·.1)=false:=by rfl):ZE X (.Call (.Name x p) (e :: es) [] pos) (tCB r t):=⟨pe_callTy hc hg hm hv ha.out hn hdb he hpl⟩
theorem za_nil:ZA X [] tNil:=⟨pa_nil⟩
theorem za_cons (ha:ZE X e te) (hr:ZA X es t) (hs:starEach (e :: es) X.env=(false,eval e X.env) :: starEach es X.env:=by rfl):ZA X (e :: es) (tCons te t):=⟨pa_cons ha.out hr.out hs⟩
theorem za_i {i:Int} {j:Nat} (hr:ZA X es t):ZA X (.Constant (.int i) j p :: es) (tCons (tC (.int i)) t):=⟨pa_i hr.out⟩
theorem za_n (ha:ZE X (.Name x p) te) (hr:ZA X es t):ZA X (.Name x p :: es) (tCons te t):=⟨pa_n ha.out hr.out⟩
theorem za_b {op:Operator} (ha:ZE X (.BinOp a op b p) te) (hr:ZA X es t):ZA X (.BinOp a op b p :: es) (tCons te t):=⟨pa_b ha.out hr.out⟩
theorem za_u {op:UnaryOp} (ha:ZE X (.UnaryOp op a p) te) (hr:ZA X es t):ZA X (.UnaryOp op a p :: es) (tCons te t):=⟨pa_u ha.out hr.out⟩
theorem za_s (ha:ZE X (.Subscript a b p) te) (hr:ZA X es t):ZA X (.Subscript a b p :: es) (tCons te t):=⟨pa_s ha.out hr.out⟩
theorem za_c {f:Expr} {l:List Expr} {k:List Keyword} (ha:ZE X (.Call f l k p) te) (hr:ZA X es t):ZA X (.Call f l k p :: es) (tCons te t):=⟨pa_c ha.out hr.out⟩
theorem za_t {l:List Expr} {k:Nat} (ha:ZE X (.Tuple l k p) te) (hr:ZA X es t):ZA X (.Tuple l k p :: es) (tCons te t):=⟨pa_t ha.out hr.out⟩
theorem zg_name {i:Nat} (hN:X.N.Nodup) (hi:X.N[i]?=some x) (hx:Loc X.env.scope x) (hf:X.fn x=true\/X.env.scope.names.lookup x=some .local:=by first | exact .inl rfl | exact .inr rfl | assumption):ZG X (.Name x pos) (gName i):=⟨pg_name hN hi hx hf⟩
theorem zg_sub {o i:Expr} {to ti:TE} {t:TSet} (ho:ZE X o to) (hi:ZE X i ti) (hs:PSet X t) (ha:∀ v,assign (.Subscript o i pos) X.env v=(do
      let ov <- holding [v] (eval o X.env)
      let iv <- holding [v,ov] (eval i X.env)
      standAt pos
      holding [v,ov,iv] (setItem ov iv v)
      release [v,ov,iv] []):=by intro _;rfl):ZG X (.Subscript o i pos) (gSub to ti t):=⟨pg_sub ho.out hi.out hs ha⟩
theorem zgs_nil:ZGs X [] gNil:=⟨pgs_nil⟩
theorem zgs_cons {t:TG} {u:TGs} (h1:ZG X e t) (h2:ZGs X es u) (hs:(assignEach (e :: es) X.env).map (·.2)=assign e X.env :: (assignEach es X.env).map (·.2):=by rfl):ZGs X (e :: es) (gCons t u):=⟨pgs_cons h1.out h2.out hs⟩
theorem zi_list (hl:ZE X e te):ZI X tg e (iList X.K te):=⟨pi_list hl.out⟩
theorem zi_tup (hl:ZE X e te):ZI X tg e (iTup X.K te):=⟨pi_tup hl.out⟩
theorem zi_range1 {ta:TA} (hg:Gl X "range") (hm:X.mg "range" = none) (ha:ZA X [a] ta) (hs:starEach [a] X.env=[(false,eval a X.env)]:=by rfl):ZI X tg (.Call (.Name "range" p) [a] [] pos) (iRng1 ta):=⟨pi_range1 hg hm ha.out hs⟩
theorem zts_nil:ZTs X [] tAll:=⟨pts_nil⟩
theorem zts_one {t:TT} (h:ZT X c t):ZTs X [c] t:=⟨pts_one h.out⟩
theorem ze_comp {own:List Str} {scope sc:Scope} {iter elt:Expr} {ifs:List Expr} {wi:TI} {g:TG} {tt:TT} {N0 P0:List Str} (S0:FnScope N0 P0 sc) (hc:X.calm=true) (S1:CompScope own N0 sc scope) (hi:ZI X tg iter wi)
    (hg:∀ C fp s H,(maskN own N0).Nodup->ZG (cxComp X own scope C fp s H) tg g) (ht:∀ C fp s H,ZTs (cxComp X own scope C fp s H) ifs tt) (he:∀ C fp s H,ZE (cxComp X own scope C fp s H) elt te)
    (hs:∀ x,foldedSetIterable iter X.env x=pure x:=by intro _;rfl) (hN0:X.N=N0:=by rfl) (hsc:X.env.scope=sc:=by rfl):ZE X (.ListComp elt [⟨tg,iter,ifs,0⟩] scope pos) (tCompB own.length wi g tt te) :=
  ⟨pe_comp S0 hc S1 hi.out (fun C fp s H n=>(hg C fp s H n).out) (fun C fp s H=>(ht C fp s H).out) (fun C fp s H=>(he C fp s H).out) hs hN0 hsc⟩
theorem zs_comp {own:List Str} {scope sc:Scope} {iter elt:Expr} {ifs:List Expr} {wi:TI} {g:TG} {tt:TT} {i:Nat} {pos' spos:Pos} {N0 P0:List Str} (S0:FnScope N0 P0 sc) (hc:X.calm=true) (S1:CompScope own N0 sc scope) (hi:ZI X tg iter wi)
    (hg:∀ C fp s H,(maskN own N0).Nodup->ZG (cxComp X own scope C fp s H) tg g) (ht:∀ C fp s H,ZTs (cxComp X own scope C fp s H) ifs tt) (he:∀ C fp s H,ZE (cxComp X own scope C fp s H) elt te)
    (hN:X.N.Nodup) (hiN:X.N[i]?=some x) (hx:Loc X.env.scope x)
    (hsw:swapsWith (.ListComp elt [⟨tg,iter,ifs,0⟩] scope pos) (some (.Name x pos')) spos.line X.env=pure true)
    (hs:∀ x,foldedSetIterable iter X.env x=pure x:=by intro _;rfl) (hf:X.fn x=true\/X.env.scope.names.lookup x=some .local:=by first | exact .inl rfl | exact .inr rfl | assumption) (hN0:X.N=N0:=by rfl) (hsc:X.env.scope=sc:=by rfl) :
    ZS X (.Assign [.Name x pos'] (.ListComp elt [⟨tg,iter,ifs,0⟩] scope pos) spos) (tAsg (tCompB own.length wi g tt te) (gName i)) :=
  ⟨ps_comp S0 hc S1 hi.out (fun C fp s H n=>(hg C fp s H n).out) (fun C fp s H=>(ht C fp s H).out) (fun C fp s H=>(he C fp s H).out) hN hiN hx hsw hs hf hN0 hsc⟩
end
section
variable {P:Program} {w:World} {K:PySem.W.Frag} {mg:Str->Option Value} {base:Heap}
theorem Fun.okZ {x qual:Str} {st:Stmt} {f:Addr} {fd:FuncData} {N ps:List Str} {k:Nat} {sp:Sp} (F:Fun K x qual st f fd) (S:FnScope N ps (defScope st)) (len:∀ vs H Q E,sp vs H Q E->vs.length=ps.length)
    (hbody:∀ (cdv:Value) (A:Around) (outer:List Env) (s:Shared) (H:Hp) (vs:List V) (Q:VK) (E:XK),Room k (A.deeper (envOfC qual (defScope st) s.heap.objs.size f cdv))->sp vs H Q E ->
      ∃ t,ZSs (cxOf CX0 P w K mg base N qual (defScope st) f cdv A outer s H E).nox (defBody st) t/\t { nx:=fun _ H'=>Q .non H',rt:=Q } (start N vs) H):FnOk P w K mg base CX0 (k + 1) f fd ps sp :=
  F.ok S len fun cdv A outer s H vs Q E hr h=>let ⟨t,b,q⟩:=hbody cdv A outer s H vs Q E hr h;⟨t,b.out,q⟩
end
end L2
end
section
namespace L2
open PySem PySem.Spec PyProof.Rows
open PySem.W (Dat)
section
variable {K:PySem.W.Frag} {H:Hp}
end
section
variable {X:Cx}
end
section
variable {X:Cx} {own:List Str} {scope:Scope} {C:Addr} {fp:List Addr} {s:Shared} {H:Hp}
theorem ix_tupC:IxR (cxComp X own scope C fp s H) (rIxT X.K):=ix_tup
theorem ix_listC:IxR (cxComp X own scope C fp s H) (rIxL X.K):=ix_list
end
section
variable {X:Cx}
end
end L2
end
section
namespace Num
noncomputable def gcdN (ns:List Int):Nat:=ns.foldl (fun d n=>Nat.gcd d n.natAbs) 0
theorem gcdN_snoc (ns:List Int) (n:Int):gcdN (ns ++ [n])=Nat.gcd (gcdN ns) n.natAbs:=by
  unfold gcdN;rw [List.foldl_append];rfl
theorem foldl_gcd (ns:List Int):∀ d:Nat,ns.foldl (fun d n=>Nat.gcd d n.natAbs) d=Nat.gcd d (gcdN ns):=by
  induction ns with
  | nil=>intro d;simp [gcdN]
  | cons n ns ih =>
    intro d
    unfold gcdN
    rw [List.foldl_cons,List.foldl_cons,ih,ih,Nat.gcd_assoc,Nat.gcd_zero_left]
theorem gcdN_cons (n:Int) (ns:List Int):gcdN (n :: ns)=Nat.gcd n.natAbs (gcdN ns):=by
  show List.foldl _ _ _=_
  rw [List.foldl_cons,foldl_gcd,Nat.gcd_zero_left]
theorem gcdN_dvd:∀ {ns:List Int} {n:Int},n ∈ ns->(gcdN ns:Int) ∣ n
  | m :: ns,n,h=>by
    rw [gcdN_cons]
    rcases List.mem_cons.mp h with rfl | h
    . exact Int.ofNat_dvd_left.mpr (Nat.gcd_dvd_left _ _)
    . exact Int.dvd_trans (Int.natCast_dvd_natCast.mpr (Nat.gcd_dvd_right _ _)) (gcdN_dvd h)
theorem gcdN_zero:∀ {ns:List Int},gcdN ns=0->∀ n ∈ ns,n=0
  | m :: ns,h,n,hn=>by
    rw [gcdN_cons] at h
    obtain ⟨h1,h2⟩:=Nat.gcd_eq_zero_iff.mp h
    rcases List.mem_cons.mp hn with rfl | hn
    . omega
    . exact gcdN_zero h2 n hn
theorem gcdN_pos {ns:List Int} (h:∃ n ∈ ns,n ≠ 0):0 < gcdN ns:=by
  obtain ⟨n,hn,h0⟩:=h
  rcases Nat.eq_zero_or_pos (gcdN ns) with z | z
  . exact absurd (gcdN_zero z n hn) h0
  . exact z
theorem gcdN_mul (c:Int) (ns:List Int):gcdN (ns.map (c * ·))=c.natAbs * gcdN ns:=by
  induction ns with
  | nil=>simp [gcdN]
  | cons n ns ih=>rw [List.map_cons,gcdN_cons,gcdN_cons,ih,Int.natAbs_mul,Nat.gcd_mul_left]
theorem gcdN_le {ns:List Int} {n:Int} (h:n ∈ ns) (h0:n ≠ 0):gcdN ns<=n.natAbs:=Nat.le_of_dvd (by omega) (Int.ofNat_dvd_left.mp (gcdN_dvd h))
noncomputable def fst0:List Int->Int
  | []=>0
  | x :: r=>if x=0 then fst0 r else x
noncomputable def unit (ns:List Int):Int:=if fst0 ns < 0 then -(gcdN ns:Int) else gcdN ns
noncomputable def pl (ns:List Int):List Int:=ns.map fun n=>n / unit ns
end Num
end
section
namespace Num
noncomputable def qm:List Int->List Int->List Int
  | [a,b,c,d],[e,f,g,h]=>[a * e - b * f - c * g - d * h,a * f + b * e + c * h - d * g,a * g - b * h + c * e + d * f,a * h + b * g - c * f + d * e]
  | _,_=>[]
noncomputable def cj:List Int->List Int
  | [a,b,c,d]=>[a, -b, -c, -d]
  | _=>[]
noncomputable def nrm:List Int->Int
  | [a,b,c,d]=>a * a + b * b + c * c + d * d
  | _=>0
noncomputable def Bd (b:Nat) (ns:List Int):Prop:=∀ n ∈ ns,n.natAbs<=b
end Num
end
section
namespace K0
open PySem L2 Num
section
variable {K:PySem.W.Frag}
noncomputable def spCD (K:PySem.W.Frag):Sp:=fun vs H Q _=>∃ (a:Addr) (ns:List Int),vs=[.ref a]/\SqT K H a (ns.map V.int)/\Q (.int (gcdN ns)) H
theorem gcd_step {a b:Int} (ha:0<=a) (hb:0 < b):Nat.gcd b.toNat (a % b).toNat=Nat.gcd a.toNat b.toNat:=by
  have h1:(a % b).toNat=a.toNat % b.toNat:=by
    have e:=Int.toNat_emod ha (Int.le_of_lt hb)
    exact e
  rw [h1,Nat.gcd_comm, <- Nat.gcd_rec,Nat.gcd_comm]
noncomputable def red (ns:List Int):List Int:=ns.map fun n=>n / (gcdN ns:Int)
noncomputable def sop (ns ms:List Int):Int:=(List.zipWith (· * ·) ns ms).sum
theorem mulOk_of {i j:Int} (hi:i.natAbs < 2 ^ 100000) (hj:j.natAbs < 2 ^ 100000):IntMulOk i j:=by
  have b:∀ k:Int,k.natAbs < 2 ^ 100000->Builtin.Int.intBits k<=2 ^ 20:=fun k hk=>by
    unfold Builtin.Int.intBits
    split
    . exact Nat.zero_le _
    . rename_i h0
      have hne:k.natAbs ≠ 0:=by
        intro z
        apply h0
        have:k=0:=by omega
        simp [this]
      have:=(Nat.log2_lt hne).mpr hk
      omega
  exact IntMulOk.of_bits (b i hi) (b j hj)
theorem pow_lift {n:Nat} (h:n < 2 ^ 9000):n < 2 ^ 100000:=Nat.lt_of_lt_of_le h (Nat.pow_le_pow_right (by decide) (by decide))
noncomputable def Pu (H:Hp) (p:Addr):Prop:=∃ a b:Int,H p=some (.lst [.int a,.int b])
noncomputable def spDraw:Sp:=fun vs H Q _=>∃ (p:Addr) (m:Int),vs=[.ref p,.int m]/\Pu H p/\0 < m/\m < 2 ^ 200/\∀ (d:Int) (H':Hp),0<=d->d < m->SB p H H'->Pu H' p->Q (.int d) H'
theorem at_draw {ms:List Int} {d:Int} (h0:0<=d) (h1:d < (ms.length:Int)):∃ m ∈ ms,atI (ms.map V.int) d=some (.int m):=by
  obtain ⟨j,rfl⟩:=Int.eq_ofNat_of_zero_le h0
  have hj:j < ms.length:=by omega
  refine ⟨ms[j],List.getElem_mem hj,?_⟩
  exact atI_nat (by rw [List.getElem?_map];simp [hj])
theorem Pu.same {H H':Hp} {p:Addr} (h:Pu H p) (s:Same H H'):Pu H' p:=by
  obtain ⟨a,b,e⟩:=h;exact ⟨a,b,s _ _ e⟩
noncomputable def spWhole:Sp:=fun vs H Q _=>∃ (n:Int),vs=[.int n]/\Q (.bl true) H
noncomputable def spDiv:Sp:=fun vs H Q _=>∃ (a b:Int),vs=[.int a,.int b]/\Q (.int ((Nat.gcd a.natAbs b.natAbs:Nat):Int)) H
noncomputable def spLaw (K:PySem.W.Frag):Sp:=fun vs H Q _=>∃ (a:Addr) (ns:List Int),vs=[.ref a]/\SqL K H a (ns.map V.int)/\ns.length<=63/\(∀ v ∈ ns,Builtin.Int.intBits v<=2 ^ 20)/\∀ (H':Hp),Q (.bl true) H'
end
end K0
end
section
namespace K0
open PySem L2 Num
theorem red_scale {ns:List Int} {c:Int} (hc:0 < c):red (ns.map (c * ·))=red ns:=by
  unfold red
  rw [List.map_map,gcdN_mul]
  refine List.map_congr_left fun n _=>?_
  show c * n / ((c.natAbs * gcdN ns:Nat):Int)=n / (gcdN ns:Int)
  rw [Int.natCast_mul,Int.natAbs_of_nonneg (Int.le_of_lt hc),Int.mul_ediv_mul_of_pos _ _ hc]
noncomputable def fr (t b:Int):List Int:=red [t,b]
theorem fr_eq {t b t' b':Int} (hb:0 < b) (hb':0 < b') (h:t * b'=t' * b):fr t b=fr t' b':=by
  unfold fr
  rw [<- red_scale (ns:=[t,b]) hb', <- red_scale (ns:=[t',b']) hb]
  simp only [List.map_cons,List.map_nil]
  rw [Int.mul_comm b' t,h,Int.mul_comm b t',Int.mul_comm b' b]
theorem fr_two (t b:Int):∃ t' b',fr t b=[t',b']:=⟨_,_,rfl⟩
theorem fr_pos {t b t' b':Int} (hb:0 < b) (h:fr t b=[t',b']):0 < b'/\b'.natAbs<=b.natAbs/\t'.natAbs<=t.natAbs/\t * b'=t' * b/\Nat.gcd t'.natAbs b'.natAbs=1:=by
  have hg:0 < gcdN [t,b]:=gcdN_pos ⟨b,by simp,by omega⟩
  have d1:(gcdN [t,b]:Int) ∣ t:=gcdN_dvd (by simp)
  have d2:(gcdN [t,b]:Int) ∣ b:=gcdN_dvd (by simp)
  have e1:t'=t / (gcdN [t,b]:Int):=by injection h with h1 _;exact h1.symm
  have e2:b'=b / (gcdN [t,b]:Int):=by injection h with _ h2;injection h2 with h2 _;exact h2.symm
  obtain ⟨u,hu⟩:=d1
  obtain ⟨v,hv⟩:=d2
  have hgi:(0:Int) < (gcdN [t,b]:Int):=by omega
  have eg:gcdN [t,b]=gcdN [t,b] * Nat.gcd u.natAbs v.natAbs:=by
    have:gcdN ([u,v].map ((gcdN [t,b]:Int) * ·))=gcdN [t,b] * gcdN [u,v]:=by rw [gcdN_mul,Int.natAbs_natCast]
    rw [List.map_cons,List.map_cons,List.map_nil, <- hu, <- hv] at this
    have e:gcdN [u,v]=Nat.gcd u.natAbs v.natAbs:=by rw [gcdN_cons,gcdN_cons];simp [gcdN]
    rw [e] at this
    exact this
  generalize gcdN [t,b]=g at *
  have eu:t'=u:=by rw [e1,hu,Int.mul_ediv_cancel_left _ (by omega)]
  have ev:b'=v:=by rw [e2,hv,Int.mul_ediv_cancel_left _ (by omega)]
  subst eu ev
  have vp:0 < b':=by
    rcases Int.lt_trichotomy b' 0 with z | z | z
    . have:=Int.mul_neg_of_pos_of_neg hgi z;omega
    . subst z;simp at hv;omega
    . exact z
  refine ⟨vp,?_,?_,?_,?_⟩
  . rw [hv,Int.natAbs_mul,Int.natAbs_natCast];exact Nat.le_mul_of_pos_left _ hg
  . rw [hu,Int.natAbs_mul,Int.natAbs_natCast];exact Nat.le_mul_of_pos_left _ hg
  . rw [hu,hv,Int.mul_assoc,Int.mul_left_comm]
  . have:g * 1=g * Nat.gcd t'.natAbs b'.natAbs:=by omega
    exact (Nat.eq_of_mul_eq_mul_left hg this).symm
structure Pt (H:Hp) (p:Addr) (f1 f2 f3:List Int):Prop where
  ex:∃ p1 p2 p3,H p=some (.tup [.ref p1,.ref p2,.ref p3])/\H p1=some (.tup (f1.map V.int))/\H p2=some (.tup (f2.map V.int))/\H p3=some (.tup (f3.map V.int))
noncomputable def Bt (n:Int) (k:Nat):Prop:=n.natAbs<=2 ^ k
theorem Bt.up {a:Int} {x y:Nat} (h:Bt a x) (hxy:x<=y):Bt a y:=Nat.le_trans h (Nat.pow_le_pow_right (by decide) hxy)
theorem Bt.lt {a:Int} {x:Nat} (h:Bt a x) (hx:x < 9000):a.natAbs < 2 ^ 9000:=Nat.lt_of_le_of_lt h (Nat.pow_lt_pow_right (by decide) hx)
theorem Bt.mulOk {a b:Int} {x y:Nat} (ha:Bt a x) (hb:Bt b y) (hx:x < 9000:=by decide) (hy:y < 9000:=by decide):IntMulOk a b:=mulOk_of (pow_lift (ha.lt hx)) (pow_lift (hb.lt hy))
theorem Bt.log {a:Int} {x:Nat} (h:Bt a x) (h0:a ≠ 0) (hx:x < 9000:=by decide):a.natAbs.log2 < 9000:=(Nat.log2_lt (by omega)).mpr (h.lt hx)
noncomputable def rw1 (a b c d:Int):List Int:=[a * a + b * b - c * c - d * d,2 * (b * c - a * d),2 * (b * d + a * c)]
noncomputable def rw2 (a b c d:Int):List Int:=[2 * (b * c + a * d),a * a - b * b + c * c - d * d,2 * (c * d - a * b)]
noncomputable def rw3 (a b c d:Int):List Int:=[2 * (b * d - a * c),2 * (c * d + a * b),a * a - b * b - c * c + d * d]
noncomputable def tp (rw:List Int) (t1 b1 t2 b2 t3 b3:Int):Int:=sop rw [t1 * (b2 * b3),t2 * (b1 * b3),t3 * (b1 * b2)]
theorem atA {x y:V}:atI [x,y] 0=some x:=rfl
theorem atB {x y:V}:atI [x,y] 1=some y:=rfl
theorem gcdN2 (t b:Int):gcdN [t,b]=Nat.gcd t.natAbs b.natAbs:=by rw [gcdN_cons,gcdN_cons];simp [gcdN]
noncomputable def spMade (K:PySem.W.Frag):Sp:=fun vs H Q _=>∃ (t b:Int),vs=[.int t,.int b]/\0 < b/\Bt b 8000/\∀ (r:Addr) (H':Hp),Same H H'->H' r=some (.tup ((fr t b).map V.int))->Q (.ref r) H'
noncomputable def ptD (f1 f2 f3:List Int):PySem.W.Dat:=.tuple [.tuple (f1.map .int),.tuple (f2.map .int),.tuple (f3.map .int)]
end K0
end
section
namespace K0
open PySem L2 Num
noncomputable def qv (t b:Int):Rat:=(t:Rat) / (b:Rat)
theorem cast_ne {b:Int} (h:b ≠ 0):(b:Rat) ≠ 0:=fun z=>h (by exact_mod_cast z)
theorem fr_qv {t b t' b':Int} (hb:0 < b) (hb':0 < b') (h:qv t b=qv t' b'):fr t b=fr t' b':=by
  refine fr_eq hb hb' ?_
  have h1:=cast_ne (show b ≠ 0 by omega)
  have h2:=cast_ne (show b' ≠ 0 by omega)
  unfold qv at h
  have:(t:Rat) * b'=t' * b:=by grind
  exact_mod_cast this
theorem qv_of {t b t' b':Int} (hb:b ≠ 0) (hb':b' ≠ 0) (h:t * b'=t' * b):qv t b=qv t' b':=by
  have h1:=cast_ne hb
  have h2:=cast_ne hb'
  unfold qv
  have:(t:Rat) * b'=t' * b:=by exact_mod_cast h
  grind
noncomputable def R1 (a b c d x y z:Rat):Rat:=(a * a + b * b - c * c - d * d) * x + 2 * (b * c - a * d) * y + 2 * (b * d + a * c) * z
noncomputable def R2 (a b c d x y z:Rat):Rat:=2 * (b * c + a * d) * x + (a * a - b * b + c * c - d * d) * y + 2 * (c * d - a * b) * z
noncomputable def R3 (a b c d x y z:Rat):Rat:=2 * (b * d - a * c) * x + 2 * (c * d + a * b) * y + (a * a - b * b - c * c + d * d) * z
noncomputable def N4 (a b c d:Rat):Rat:=a * a + b * b + c * c + d * d
structure Lo (k:Nat) (t b:Int) (x:Rat):Prop where
  pos:0 < b
  low:Nat.gcd t.natAbs b.natAbs=1
  bt:Bt t k
  bb:Bt b k
  val:qv t b=x
theorem Lo.fr {k:Nat} {t b:Int} {x:Rat} (h:Lo k t b x):fr t b=[t,b]:=by
  unfold K0.fr red
  rw [gcdN2,h.low]
  simp
theorem Lo.eq {k k':Nat} {t b t' b':Int} {x:Rat} (h:Lo k t b x) (h':Lo k' t' b' x):[t,b]=[t',b']:=by
  rw [<- h.fr, <- h'.fr]
  exact fr_qv h.pos h'.pos (by rw [h.val,h'.val])
theorem Lo.of {k:Nat} {T B t b:Int} {x:Rat} (hB:0 < B) (hT:Bt T k) (hb:Bt B k) (h:K0.fr T B=[t,b]) (hv:qv T B=x):Lo k t b x:=by
  obtain ⟨h1,h2,h3,h4,h5⟩:=fr_pos hB h
  refine ⟨h1,h5,Nat.le_trans h3 hT,Nat.le_trans h2 hb,?_⟩
  rw [<- hv]
  exact (qv_of (by omega) (by omega) h4).symm
end K0
end
section
namespace K0
open PySem L2 Num
structure PC (H:Hp) (r:Addr) (c:Nat) (x y z:Rat):Prop where
  ex:∃ t1 b1 t2 b2 t3 b3,Pt H r [t1,b1] [t2,b2] [t3,b3]/\Lo c t1 b1 x/\Lo c t2 b2 y/\Lo c t3 b3 z/\∃ C T1 T2 T3:Int,0 < C/\Bt C c/\Bt T1 c/\Bt T2 c/\Bt T3 c/\qv T1 C=x/\qv T2 C=y/\qv T3 C=z
noncomputable def bk (n:List Int):List Int:=pl (cj n)
end K0
end
section
namespace K0
open PySem L2 Num
noncomputable def spPurse2:Sp:=fun vs H Q _=>∃ (c:Int),vs=[.int c]/\∀ (p:Addr) (H':Hp),H p=none->Same H H'->Pu H' p->Q (.ref p) H'
noncomputable def spNumber2:Sp:=fun vs H Q _=>∃ (p:Addr) (k:Int),vs=[.ref p,.int k]/\Pu H p/\∀ (d:Int) (H':Hp),d.natAbs<=10 ^ 30->SB p H H'->Pu H' p->Q (.int d) H'
theorem okL {i j:Int} (h1 : -(2 ^ 64) < i) (h2:i < 2 ^ 64):IntMulOk i j:=CMul.ok (.inl ⟨h1,h2⟩)
theorem okR {i j:Int} (h1 : -(2 ^ 64) < j) (h2:j < 2 ^ 64):IntMulOk i j:=CMul.ok (.inr ⟨h1,h2⟩)
theorem fmod_gcd {a b:Int} (hb:b ≠ 0):Nat.gcd b.natAbs (a.fmod b).natAbs=Nat.gcd a.natAbs b.natAbs:=by
  have e:=Int.fmod_add_mul_fdiv a b
  have h1:Int.gcd b (a.fmod b)=Int.gcd b a:=by
    conv=>rhs;rw [<- e]
    rw [Int.gcd_add_mul_left_right]
  have h2:Int.gcd b (a.fmod b)=Nat.gcd b.natAbs (a.fmod b).natAbs:=rfl
  have h3:Int.gcd b a=Nat.gcd b.natAbs a.natAbs:=rfl
  rw [h2,h3] at h1
  rw [h1,Nat.gcd_comm]
theorem fmod_lt {a b:Int} (hb:b ≠ 0):(a.fmod b).natAbs < b.natAbs:=by
  rw [Int.fmod_eq_emod]
  have e0:=Int.emod_nonneg a hb
  have e1:=Int.emod_lt a hb
  split
  . omega
  . rename_i h
    have h1:¬ 0<=b:=fun z=>h (.inl z)
    have h2:a % b ≠ 0:=fun z=>h (.inr (Int.dvd_of_emod_eq_zero z))
    omega
end K0
end
section
namespace L2
open PySem PySem.Spec PyProof.Rows
end L2
namespace K0
open PySem L2 Num
open PySem.W (Dat)
noncomputable def rs (ns:List Int):List Int:=match ns with | [a,_,_,_]=>fr (a * a) (nrm ns) | _=>[]
noncomputable def ax (ns:List Int):Option (List Int):=if (pl ns).drop 1=[0,0,0] then none else some (red ((pl ns).drop 1))
noncomputable def cr (a b c d e f:Int):List Int:=[b * f - c * e,c * d - a * f,a * e - b * d]
noncomputable def ps (k l:Int):List Int:=[k / unit [l,k],l / unit [l,k]]
end K0
end
section
namespace D
open PySem L2 K0
open PySem.W (Dat)
noncomputable def SqN (N:Addr->Prop) (K:PySem.W.Frag) (H:Hp) (a:Addr) (xs:List V):Prop:=(N a/\Rd H a (.lst xs))\/SqL K (fun _=>none) a xs
theorem SqN.sq {N:Addr->Prop} {K:PySem.W.Frag} {H:Hp} {a:Addr} {xs:List V} (h:SqN N K H a xs):SqL K H a xs:=by
  rcases h with ⟨_,h⟩ | (h | ⟨o,h⟩) | h
  . exact .inl h
  . cases h
  . cases h
  . exact .inr h
mutual
inductive Dz (N:Addr->Prop) (K:PySem.W.Frag) (H:Hp):V->Dat->Prop
  | none:Dz N K H .non .none
  | bool (b:Bool):Dz N K H (.bl b) (.bool b)
  | int (i:Int):Dz N K H (.int i) (.int i)
  | str (x:Str):Dz N K H (.str x) (.str x)
  | tup {a:Addr} {xs:List V} {ds:List Dat}:SqT K H a xs->Dzs N K H xs ds->Dz N K H (.ref a) (.tuple ds)
  | lst {a:Addr} {xs:List V} {ds:List Dat}:SqN N K H a xs->Dzs N K H xs ds->Dz N K H (.ref a) (.list ds)
  | exc {a:Addr} {c:Array UInt8}:N a->XAt K H a c->Dz N K H (.ref a) (.bytes c)
inductive Dzs (N:Addr->Prop) (K:PySem.W.Frag) (H:Hp):List V->List Dat->Prop
  | nil:Dzs N K H [] []
  | cons {x:V} {d:Dat} {xs:List V} {ds:List Dat}:Dz N K H x d->Dzs N K H xs ds->Dzs N K H (x :: xs) (d :: ds)
end
structure Ev (W:Addr->Prop) (H H':Hp):Prop where
  keep:∀ b o,¬ W b->H b=some o->H' b=some o
  tm:Tm H H'
theorem Ev.refl {W:Addr->Prop} {H:Hp}:Ev W H H:=⟨fun _ _ _ h=>h,Tm.refl _⟩
theorem Ev.trans {W:Addr->Prop} {H H1 H2:Hp} (a:Ev W H H1) (b:Ev W H1 H2):Ev W H H2:=⟨fun c o n h=>b.keep c o n (a.keep c o n h),a.tm.trans b.tm⟩
theorem Ev.of {W:Addr->Prop} {H H':Hp} (s:Same H H'):Ev W H H':=⟨fun c o _ h=>s c o h,s.tm⟩
theorem Ev.mono {W W':Addr->Prop} {H H':Hp} (a:Ev W H H') (m:∀ b,W b->W' b):Ev W' H H':=⟨fun c o n h=>a.keep c o (fun z=>n (m c z)) h,a.tm⟩
structure Own where
  R:(Addr->Prop)->PySem.W.Frag->Hp->Addr->List Addr->Prop
  ev:∀ {N W:Addr->Prop} {K:PySem.W.Frag} {H H':Hp} {a:Addr} {l:List Addr},R N K H a l->Ev W H H'->(∀ a,N a->¬ W a)->(∀ b o,b ∈ l->H b=some o->H' b=some o)->R N K H' a l
  wide:∀ {N N':Addr->Prop} {K:PySem.W.Frag} {H:Hp} {a:Addr} {l:List Addr},R N K H a l->(∀ a o,N a->H a=some o->N' a)->R N' K H a l
  al:∀ {N:Addr->Prop} {K:PySem.W.Frag} {H:Hp} {a:Addr} {l:List Addr},R N K H a l->∀ b,b ∈ l->∃ o,H b=some o
inductive Sl where
  | un | dat (d:Dat) | pu | own (ds:List Dat) | vw (ds:List Dat) | dt (o:Own)
section
variable {N N':Addr->Prop} {K:PySem.W.Frag} {H H':Hp}
mutual
theorem Dz.ev {W:Addr->Prop} (e:Ev W H H') (nw:∀ a,N a->¬ W a):∀ {v:V} {d:Dat},Dz N K H v d->Dz N K H' v d
  | _,_,.none=>.none
  | _,_,.bool b=>.bool b
  | _,_,.int i=>.int i
  | _,_,.str x=>.str x
  | _,_,.tup h r=>.tup (e.tm _ _ _ h) (Dzs.ev e nw r)
  | _,_,.lst h r=>.lst (by
      rcases h with ⟨n,h | ⟨o,h⟩⟩ | h
      . exact .inl ⟨n,.inl (e.keep _ _ (nw _ n) h)⟩
      . exact .inl ⟨n,.inr ⟨o,e.keep _ _ (nw _ n) h⟩⟩
      . exact .inr h) (Dzs.ev e nw r)
  | _,_,.exc n h=>.exc n (let ⟨ob,C,q,z⟩:=h;⟨ob,C,e.keep _ _ (nw _ n) q,z⟩)
theorem Dzs.ev {W:Addr->Prop} (e:Ev W H H') (nw:∀ a,N a->¬ W a):∀ {v:List V} {d:List Dat},Dzs N K H v d->Dzs N K H' v d
  | _,_,.nil=>.nil
  | _,_,.cons h r=>.cons (Dz.ev e nw h) (Dzs.ev e nw r)
end
mutual
theorem Dz.mono (m:∀ a,N a->N' a):∀ {v:V} {d:Dat},Dz N K H v d->Dz N' K H v d
  | _,_,.none=>.none
  | _,_,.bool b=>.bool b
  | _,_,.int i=>.int i
  | _,_,.str x=>.str x
  | _,_,.tup h r=>.tup h (Dzs.mono m r)
  | _,_,.lst h r=>.lst (h.elim (fun z=>.inl ⟨m _ z.1,z.2⟩) .inr) (Dzs.mono m r)
  | _,_,.exc n h=>.exc (m _ n) h
theorem Dzs.mono (m:∀ a,N a->N' a):∀ {v:List V} {d:List Dat},Dzs N K H v d->Dzs N' K H v d
  | _,_,.nil=>.nil
  | _,_,.cons h r=>.cons (Dz.mono m h) (Dzs.mono m r)
end
mutual
theorem Dz.is:∀ {v:V} {d:Dat},Dz N K H v d->Is K H v d
  | _,_,.none=>.none
  | _,_,.bool b=>.bool b
  | _,_,.int i=>.int i
  | _,_,.str x=>.str x
  | _,_,.tup h r=>.tup h (Dzs.is r)
  | _,_,.lst h r=>.lst h.sq (Dzs.is r)
  | _,_,.exc _ h=>.exc h
theorem Dzs.is:∀ {v:List V} {d:List Dat},Dzs N K H v d->Iss K H v d
  | _,_,.nil=>.nil
  | _,_,.cons h r=>.cons (Dz.is h) (Dzs.is r)
end
theorem Dzs.len:∀ {v:List V} {d:List Dat},Dzs N K H v d->v.length=d.length
  | _,_,.nil=>rfl
  | _,_,.cons _ r=>by rw [List.length_cons,List.length_cons,Dzs.len r]
theorem Dzs.app:∀ {v v':List V} {d d':List Dat},Dzs N K H v d->Dzs N K H v' d'->Dzs N K H (v ++ v') (d ++ d')
  | _,_,_,_,.nil,h=>h
  | _,_,_,_,.cons a r,h=>.cons a (Dzs.app r h)
theorem Dzs.get:∀ {v:List V} {d:List Dat} {i:Nat} {e:Dat},Dzs N K H v d->d[i]?=some e->∃ x,v[i]?=some x/\Dz N K H x e
  | _,_,_,_,.nil,h=>by simp at h
  | _,_,0,_,.cons a r,h=>by simp at h;subst h;exact ⟨_,rfl,a⟩
  | _,_,i + 1,e,.cons a r,h=>by
    obtain ⟨x,q,z⟩:=Dzs.get (i:=i) r (by simpa using h)
    exact ⟨x,by simpa using q,z⟩
theorem Dzs.drop:∀ {v:List V} {d:List Dat} (n:Nat),Dzs N K H v d->Dzs N K H (v.drop n) (d.drop n)
  | _,_,0,h=>h
  | _,_,n + 1,.nil=>.nil
  | _,_,n + 1,.cons a r=>by simpa using Dzs.drop n r
theorem Dzs.take:∀ {v:List V} {d:List Dat} (n:Nat),Dzs N K H v d->Dzs N K H (v.take n) (d.take n)
  | _,_,0,h=>by simpa using Dzs.nil
  | _,_,n + 1,.nil=>.nil
  | _,_,n + 1,.cons a r=>by simpa using Dzs.cons a (Dzs.take n r)
theorem Dzs.ints (ns:List Int):Dzs N K H (ns.map V.int) (ns.map Dat.int):=by
  induction ns with
  | nil=>exact .nil
  | cons n ns ih=>exact .cons (.int n) ih
theorem Dzs.inv:∀ {vs:List V} {ns:List Int},Dzs N K H vs (ns.map Dat.int)->vs=ns.map V.int
  | _,[],h=>by cases h;rfl
  | _,n :: ns,h=>by
    cases h with
    | cons a r=>cases a;rw [Dzs.inv r];rfl
theorem Dzs.set:∀ {v:List V} {d:List Dat} {x:V} {e:Dat} (i:Nat),Dzs N K H v d->Dz N K H x e->Dzs N K H (v.set i x) (d.set i e)
  | _,_,_,_,_,.nil,_=>.nil
  | _,_,_,_,0,.cons a r,h=>.cons h r
  | _,_,_,_,i + 1,.cons a r,h=>.cons a (Dzs.set i r h)
end
mutual
noncomputable def noL:Dat->Bool
  | .tuple ds=>noLs ds
  | .list _=>false
  | .none=>true
  | .bool _=>true
  | .int _=>true
  | .str _=>true
  | _=>false
noncomputable def noLs:List Dat->Bool
  | []=>true
  | d :: r=>noL d && noLs r
end
section
variable {N N':Addr->Prop} {K:PySem.W.Frag} {H H':Hp}
mutual
theorem Dz.free:∀ {v:V} {d:Dat},Dz N K H v d->noL d=true->Dz N' K H v d
  | _,_,.none,_=>.none
  | _,_,.bool b,_=>.bool b
  | _,_,.int i,_=>.int i
  | _,_,.str x,_=>.str x
  | _,_,.tup h r,z=>.tup h (Dzs.free r (by rw [noL] at z;exact z))
  | _,_,.lst h r,z=>by rw [noL] at z;cases z
  | _,_,.exc _ h,z=>by simp [noL] at z
theorem Dzs.free:∀ {v:List V} {d:List Dat},Dzs N K H v d->noLs d=true->Dzs N' K H v d
  | _,_,.nil,_=>.nil
  | _,_,.cons h r,z=>by
    rw [noLs,Bool.and_eq_true] at z
    exact .cons (Dz.free h z.1) (Dzs.free r z.2)
end
end
theorem noLs_ints (ns:List Int):noLs (ns.map .int)=true:=by
  induction ns with
  | nil=>rw [List.map_nil,noLs]
  | cons n r ih=>rw [List.map_cons,noLs,ih,noL];rfl
section
variable {N N':Addr->Prop} {K:PySem.W.Frag} {H:Hp}
end
structure Ok (p:Option Addr) (W:Addr->Prop) (H:Hp):Prop where
  pu:∀ q,p=some q->Pu H q/\W q
  al:∀ a,W a->∃ ys,H a=some ys
inductive Rs (p:Option Addr) (W:Addr->Prop) (K:PySem.W.Frag) (H:Hp):List Addr->St->List Sl->Prop
  | nil:Rs p W K H [] [] []
  | un {L:List Addr} {σ:St} {τ:List Sl} {o:Option V}:Rs p W K H L σ τ->Rs p W K H L (o :: σ) (.un :: τ)
  | dat {L:List Addr} {σ:St} {τ:List Sl} {v:V} {d:Dat}:Dz (fun a=>¬ W a) K H v d->Rs p W K H L σ τ->Rs p W K H L (some v :: σ) (.dat d :: τ)
  | pu {L:List Addr} {σ:St} {τ:List Sl} {q:Addr}:p=some q->Rs p W K H L σ τ->Rs p W K H L (some (.ref q) :: σ) (.pu :: τ)
  | own {L:List Addr} {σ:St} {τ:List Sl} {a:Addr} {vs:List V} {ds:List Dat}:W a->p ≠ some a->a ∉ L->H a=some (.lst vs)->Dzs (fun a=>¬ W a) K H vs ds->Rs p W K H L σ τ->Rs p W K H (a :: L) (some (.ref a) :: σ) (.own ds :: τ)
  | dt {L l:List Addr} {σ:St} {τ:List Sl} {a:Addr} {o:Own}:(∀ b,b ∈ l->W b)->(∀ b,b ∈ l->p ≠ some b)->(∀ b,b ∈ l->b ∉ L)->o.R (fun a=>¬ W a) K H a l->Rs p W K H L σ τ->Rs p W K H (l ++ L) (some (.ref a) :: σ) (.dt o :: τ)
noncomputable def Rv (p:Option Addr) (W:Addr->Prop) (K:PySem.W.Frag) (H H':Hp) (v:V):Sl->Prop
  | .un=>True
  | .dat d=>Dz (fun a=>¬ W a) K H' v d
  | .pu=>∃ q,p=some q/\v = .ref q
  | .own ds=>∃ a vs,v = .ref a/\H a=none/\H' a=some (.lst vs)/\Dzs (fun a=>¬ W a) K H' vs ds
  | .dt o=>∃ a l,v = .ref a/\(∀ b,b ∈ l->H b=none)/\o.R (fun a=>¬ W a) K H' a l
  | .vw ds=>∃ a vs,v = .ref a/\SqN (fun a=>p ≠ some a) K H' a vs/\Dzs (fun a=>¬ W a) K H' vs ds
inductive Rvs (p:Option Addr) (W:Addr->Prop) (K:PySem.W.Frag) (H H':Hp):List V->List Sl->Prop
  | nil:Rvs p W K H H' [] []
  | cons {v:V} {s:Sl} {vs:List V} {ss:List Sl}:Rv p W K H H' v s->Rvs p W K H H' vs ss->Rvs p W K H H' (v :: vs) (s :: ss)
noncomputable def Pp (p:Option Addr):Addr->Prop:=fun a=>p=some a
section
variable {p:Option Addr} {W:Addr->Prop} {K:PySem.W.Frag} {H H1 H':Hp} {σ:St} {τ:List Sl} {L:List Addr} {v:V} {s:Sl}
theorem Ok.ev (o:Ok p W H) (e:Ev (Pp p) H H') (q:∀ q,p=some q->Pu H' q):Ok p W H':=⟨fun a ha=>⟨q a ha,(o.pu a ha).2⟩,fun a ha=>by
  by_cases z:p=some a
  . obtain ⟨x,y,h⟩:=q a z;exact ⟨_,h⟩
  . obtain ⟨ys,h⟩:=o.al a ha;exact ⟨ys,e.keep _ _ z h⟩⟩
theorem Rs.ev (r:Rs p W K H L σ τ) (e:Ev (Pp p) H H') (pw:∀ q,p=some q->W q):Rs p W K H' L σ τ:=by
  have nw:∀ a,¬ W a->¬ Pp p a:=fun a n z=>n (pw a z)
  induction r with
  | nil=>exact .nil
  | un _ ih=>exact .un ih
  | dat h _ ih=>exact .dat (h.ev e nw) ih
  | pu h _ ih=>exact .pu h ih
  | own h1 h2 h3 h4 h5 _ ih=>exact .own h1 h2 h3 (e.keep _ _ h2 h4) (h5.ev e nw) ih
  | dt h1 h2 h3 h4 _ ih=>exact .dt h1 h2 h3 (Own.ev _ h4 e nw fun b o hb h=>e.keep _ _ (h2 b hb) h) ih
theorem Rs.get_dat (r:Rs p W K H L σ τ):∀ {i:Nat} {d:Dat},τ[i]?=some (.dat d)->∃ v,σ[i]?=some (some v)/\Dz (fun a=>¬ W a) K H v d:=by
  induction r with
  | nil=>intro i d h;simp at h
  | un _ ih =>
    intro i d h
    match i,h with
    | 0,h=>simp at h
    | i + 1,h=>exact ih (i:=i) (by simpa using h)
  | dat z _ ih =>
    intro i d h
    match i,h with
    | 0,h=>simp at h;subst h;exact ⟨_,rfl,z⟩
    | i + 1,h=>exact ih (i:=i) (by simpa using h)
  | pu _ _ ih =>
    intro i d h
    match i,h with
    | 0,h=>simp at h
    | i + 1,h=>exact ih (i:=i) (by simpa using h)
  | own _ _ _ _ _ _ ih =>
    intro i d h
    match i,h with
    | 0,h=>simp at h
    | i + 1,h=>exact ih (i:=i) (by simpa using h)
  | dt _ _ _ _ _ ih =>
    intro i d h
    match i,h with
    | 0,h=>simp at h
    | i + 1,h=>exact ih (i:=i) (by simpa using h)
theorem Rs.get_pu (r:Rs p W K H L σ τ):∀ {i:Nat},τ[i]?=some .pu->∃ q,p=some q/\σ[i]?=some (some (.ref q)):=by
  induction r with
  | nil=>intro i h;simp at h
  | un _ ih =>
    intro i h
    match i,h with
    | 0,h=>simp at h
    | i + 1,h=>exact ih (i:=i) (by simpa using h)
  | dat z _ ih =>
    intro i h
    match i,h with
    | 0,h=>simp at h
    | i + 1,h=>exact ih (i:=i) (by simpa using h)
  | pu z _ ih =>
    intro i h
    match i,h with
    | 0,h=>exact ⟨_,z,rfl⟩
    | i + 1,h=>exact ih (i:=i) (by simpa using h)
  | own _ _ _ _ _ _ ih =>
    intro i h
    match i,h with
    | 0,h=>simp at h
    | i + 1,h=>exact ih (i:=i) (by simpa using h)
  | dt _ _ _ _ _ ih =>
    intro i h
    match i,h with
    | 0,h=>simp at h
    | i + 1,h=>exact ih (i:=i) (by simpa using h)
theorem Rs.get_own (r:Rs p W K H L σ τ):∀ {i:Nat} {ds:List Dat},τ[i]?=some (.own ds)->∃ a vs,σ[i]?=some (some (.ref a))/\W a/\p ≠ some a/\a ∈ L/\H a=some (.lst vs)/\Dzs (fun a=>¬ W a) K H vs ds:=by
  induction r with
  | nil=>intro i ds h;simp at h
  | un _ ih =>
    intro i ds h
    match i,h with
    | 0,h=>simp at h
    | i + 1,h=>exact ih (i:=i) (by simpa using h)
  | dat z _ ih =>
    intro i ds h
    match i,h with
    | 0,h=>simp at h
    | i + 1,h=>exact ih (i:=i) (by simpa using h)
  | pu z _ ih =>
    intro i ds h
    match i,h with
    | 0,h=>simp at h
    | i + 1,h=>exact ih (i:=i) (by simpa using h)
  | own h1 h2 h3 h4 h5 _ ih =>
    intro i ds h
    match i,h with
    | 0,h=>simp at h;subst h;exact ⟨_,_,rfl,h1,h2,List.mem_cons_self,h4,h5⟩
    | i + 1,h =>
      obtain ⟨a,vs,e1,e2,e3,e4,e5⟩:=ih (i:=i) (by simpa using h)
      exact ⟨a,vs,by simpa using e1,e2,e3,List.mem_cons_of_mem _ e4,e5⟩
  | dt h1 h2 h3 h4 _ ih =>
    intro i ds h
    match i,h with
    | 0,h=>simp at h
    | i + 1,h =>
      obtain ⟨a,vs,e1,e2,e3,e4,e5⟩:=ih (i:=i) (by simpa using h)
      exact ⟨a,vs,by simpa using e1,e2,e3,List.mem_append_right _ e4,e5⟩
theorem Rs.set (r:Rs p W K H L σ τ) {v:V} {s:Sl} (hs:(s = .un)\/(∃ d,s = .dat d/\Dz (fun a=>¬ W a) K H v d)\/(s = .pu/\∃ q,p=some q/\v = .ref q)):∀ (i:Nat),∃ L',(∀ a,a ∈ L'->a ∈ L)/\Rs p W K H L' (σ.set i (some v)) (τ.set i s):=by
  induction r with
  | nil=>intro i;exact ⟨[],fun _ h=>h,.nil⟩
  | un r ih =>
    intro i
    match i with
    | 0 =>
      rcases hs with rfl | ⟨d,rfl,z⟩ | ⟨rfl,q,z,rfl⟩
      . exact ⟨_,fun _ h=>h,.un r⟩
      . exact ⟨_,fun _ h=>h,.dat z r⟩
      . exact ⟨_,fun _ h=>h,.pu z r⟩
    | i + 1=>obtain ⟨L',h1,h2⟩:=ih i;exact ⟨L',h1,.un h2⟩
  | dat y r ih =>
    intro i
    match i with
    | 0 =>
      rcases hs with rfl | ⟨d,rfl,z⟩ | ⟨rfl,q,z,rfl⟩
      . exact ⟨_,fun _ h=>h,.un r⟩
      . exact ⟨_,fun _ h=>h,.dat z r⟩
      . exact ⟨_,fun _ h=>h,.pu z r⟩
    | i + 1=>obtain ⟨L',h1,h2⟩:=ih i;exact ⟨L',h1,.dat y h2⟩
  | pu y r ih =>
    intro i
    match i with
    | 0 =>
      rcases hs with rfl | ⟨d,rfl,z⟩ | ⟨rfl,q,z,rfl⟩
      . exact ⟨_,fun _ h=>h,.un r⟩
      . exact ⟨_,fun _ h=>h,.dat z r⟩
      . exact ⟨_,fun _ h=>h,.pu z r⟩
    | i + 1=>obtain ⟨L',h1,h2⟩:=ih i;exact ⟨L',h1,.pu y h2⟩
  | own h1 h2 h3 h4 h5 r ih =>
    intro i
    match i with
    | 0 =>
      rcases hs with rfl | ⟨d,rfl,z⟩ | ⟨rfl,q,z,rfl⟩
      . exact ⟨_,fun _ h=>List.mem_cons_of_mem _ h,.un r⟩
      . exact ⟨_,fun _ h=>List.mem_cons_of_mem _ h,.dat z r⟩
      . exact ⟨_,fun _ h=>List.mem_cons_of_mem _ h,.pu z r⟩
    | i + 1 =>
      obtain ⟨L',g1,g2⟩:=ih i
      refine ⟨_ :: L',fun b hb=>?_,.own h1 h2 (fun z=>h3 (g1 _ z)) h4 h5 g2⟩
      rcases List.mem_cons.mp hb with rfl | hb
      . exact List.mem_cons_self
      . exact List.mem_cons_of_mem _ (g1 b hb)
  | dt h1 h2 h3 h4 r ih =>
    intro i
    match i with
    | 0 =>
      rcases hs with rfl | ⟨d,rfl,z⟩ | ⟨rfl,q,z,rfl⟩
      . exact ⟨_,fun _ h=>List.mem_append_right _ h,.un r⟩
      . exact ⟨_,fun _ h=>List.mem_append_right _ h,.dat z r⟩
      . exact ⟨_,fun _ h=>List.mem_append_right _ h,.pu z r⟩
    | i + 1 =>
      obtain ⟨L',g1,g2⟩:=ih i
      exact ⟨_ ++ L',fun b hb=>(List.mem_append.mp hb).elim (List.mem_append_left _) (fun z=>List.mem_append_right _ (g1 b z)),.dt h1 h2 (fun b hb z=>h3 b hb (g1 _ z)) h4 g2⟩
theorem Rs.wide {W':Addr->Prop} (r:Rs p W K H L σ τ) (m:∀ a,W a->W' a) (n:∀ a,W' a->¬ W a->H a=none):Rs p W' K H L σ τ:=by
  induction r with
  | nil=>exact .nil
  | un _ ih=>exact .un ih
  | dat h _ ih=>exact .dat (wideZ h) ih
  | pu h _ ih=>exact .pu h ih
  | own h1 h2 h3 h4 h5 _ ih=>exact .own (m _ h1) h2 h3 h4 (wideZs h5) ih
  | dt h1 h2 h3 h4 _ ih=>exact .dt (fun b hb=>m _ (h1 b hb)) h2 h3 (Own.wide _ h4 fun a o na ha wa=>by rw [n a wa na] at ha;cases ha) ih
where
  wideZ : ∀ {v : V} {d : Dat}, Dz (fun a => ¬ W a) K H v d -> Dz (fun a => ¬ W' a) K H v d
    | _,_,.none=>.none
    | _,_,.bool b=>.bool b
    | _,_,.int i=>.int i
    | _,_,.str x=>.str x
    | _,_,.tup h r=>.tup h (wideZs r)
    | _,_,.lst h r=>.lst (by
        rcases h with ⟨nn,h⟩ | h
        . refine .inl ⟨fun z=>?_,h⟩
          have e1:=n _ z nn
          rcases h with h | ⟨o,h⟩
          . rw [e1] at h;cases h
          . rw [e1] at h;cases h
        . exact .inr h) (wideZs r)
    | _,_,.exc nn h=>.exc (fun z=>by obtain ⟨_,_,q,_⟩:=h;rw [n _ z nn] at q;cases q) h
  wideZs:∀ {v:List V} {d:List Dat},Dzs (fun a=>¬ W a) K H v d->Dzs (fun a=>¬ W' a) K H v d
    | _,_,.nil=>.nil
    | _,_,.cons h r=>.cons (wideZ h) (wideZs r)
end
end D
end
section
namespace D
open PySem L2 K0
open PySem.W (Dat)
section
variable (p:Option Addr) (K:PySem.W.Frag)
noncomputable def E (te:TE) (τ:List Sl) (C:Sl->Prop):Prop:=∀ (W:Addr->Prop) (L:List Addr) (σ:St) (H:Hp) (Q:VK),Rs p W K H L σ τ->Ok p W H->(∀ v H' s,C s->Ev (Pp p) H H'->Ok p W H'->Rv p W K H H' v s->Q v H')->te σ H Q
noncomputable def E1 (te:TE) (τ:List Sl) (s:Sl):Prop:=E p K te τ (fun x=>s=x)
noncomputable def A (ta:TA) (τ:List Sl) (C:List Sl->Prop):Prop:=∀ (W:Addr->Prop) (L:List Addr) (σ:St) (H:Hp) (Q:List V->Hp->Prop),Rs p W K H L σ τ->Ok p W H->(∀ vs H' ss,C ss->Ev (Pp p) H H'->Ok p W H'->Rvs p W K H H' vs ss->Q vs H')->ta σ H Q
noncomputable def A1 (ta:TA) (τ:List Sl) (ss:List Sl):Prop:=A p K ta τ (fun x=>ss=x)
noncomputable def T (tt:TT) (τ:List Sl) (C:Bool->Prop):Prop:=∀ (W:Addr->Prop) (L:List Addr) (σ:St) (H:Hp) (Q:Bool->Hp->Prop),Rs p W K H L σ τ->Ok p W H->(∀ b H',C b->Ev (Pp p) H H'->Ok p W H'->Q b H')->tt σ H Q
noncomputable def T1 (tt:TT) (τ:List Sl) (b:Bool):Prop:=T p K tt τ (fun x=>b=x)
end
section
variable {p:Option Addr} {K:PySem.W.Frag} {W:Addr->Prop} {L:List Addr} {σ:St} {H H0 H1 H2:Hp} {τ:List Sl} {ta tb te:TE} {tas:TA} {v:V} {s:Sl}
theorem Ok.pw (o:Ok p W H):∀ q,p=some q->W q:=fun q h=>(o.pu q h).2
theorem Ok.nw (o:Ok p W H):∀ a,¬ W a->¬ Pp p a:=fun a n z=>n (o.pw a z)
theorem Ok.same (o:Ok p W H) (s:Same H H1):Ok p W H1:=o.ev (Ev.of s) fun q h=>(o.pu q h).1.same s
theorem Ok.back (o:Ok p W H1) (e:Ev (Pp p) H H1) {a:Addr} (h:H1 a=none):H a=none:=by
  cases q:H a with
  | none=>rfl
  | some u =>
    by_cases z:p=some a
    . obtain ⟨x,y,e2⟩:=(o.pu a z).1;rw [h] at e2;cases e2
    . rw [e.keep _ _ z q] at h;cases h
theorem Ok.fresh (o:Ok p W H) {a:Addr} (h:H a=none):¬ W a:=fun z=>by
  obtain ⟨ys,e⟩:=o.al a z;rw [h] at e;cases e
theorem Ok.np (o:Ok p W H) {a:Addr} (h:H a=none):p ≠ some a:=fun z=>o.fresh h (o.pw a z)
theorem Rv.ev (h:Rv p W K H0 H v s) (e:Ev (Pp p) H H1) (o:Ok p W H) (o0:Ok p W H0):Rv p W K H0 H1 v s:=by
  cases s with
  | un=>trivial
  | dat d=>exact Dz.ev e o.nw h
  | pu=>exact h
  | own ds =>
    obtain ⟨a,vs,rfl,h1,h2,h3⟩:=h
    exact ⟨a,vs,rfl,h1,e.keep _ _ (o0.np h1) h2,h3.ev e o.nw⟩
  | dt ds =>
    obtain ⟨a,l,rfl,h1,h2⟩:=h
    exact ⟨a,l,rfl,h1,Own.ev _ h2 e o.nw fun b u hb h=>e.keep _ _ (o0.np (h1 b hb)) h⟩
  | vw ds =>
    obtain ⟨a,vs,rfl,h2,h3⟩:=h
    refine ⟨a,vs,rfl,?_,h3.ev e o.nw⟩
    rcases h2 with ⟨z,h2 | ⟨u,h2⟩⟩ | h2
    . exact .inl ⟨z,.inl (e.keep _ _ z h2)⟩
    . exact .inl ⟨z,.inr ⟨u,e.keep _ _ z h2⟩⟩
    . exact .inr h2
theorem Rv.base (h:Rv p W K H1 H v s) (e:Ev (Pp p) H0 H1) (o1:Ok p W H1):Rv p W K H0 H v s:=by
  cases s with
  | own ds=>obtain ⟨a,vs,rfl,h1,h2⟩:=h;exact ⟨a,vs,rfl,o1.back e h1,h2⟩
  | dt ds=>obtain ⟨a,vs,rfl,h1,h2⟩:=h;exact ⟨a,vs,rfl,fun b hb=>o1.back e (h1 b hb),h2⟩
  | _=>exact h
theorem Rvs.base {vs:List V} {ss:List Sl} (h:Rvs p W K H1 H vs ss) (e:Ev (Pp p) H0 H1) (o1:Ok p W H1):Rvs p W K H0 H vs ss:=by
  induction h with
  | nil=>exact .nil
  | cons a _ ih=>exact .cons (a.base e o1) ih
theorem E.mono {C C':Sl->Prop} (h:E p K te τ C) (m:∀ s,C s->C' s):E p K te τ C':=fun W L σ H Q r o q=>h W L σ H Q r o fun v H' s c=>q v H' s (m s c)
theorem E1.var {i:Nat} {d:Dat} (h:τ[i]?=some (.dat d)):E1 p K (tVar i) τ (.dat d):=fun W L σ H Q r o q=>by
  obtain ⟨v,e,z⟩:=r.get_dat h
  exact ⟨v,e,q v H _ rfl Ev.refl o z⟩
theorem E1.varP {i:Nat} (h:τ[i]?=some .pu):E1 p K (tVar i) τ .pu:=fun W L σ H Q r o q=>by
  obtain ⟨a,e,z⟩:=r.get_pu h
  exact ⟨_,z,q _ H _ rfl Ev.refl o ⟨a,e,rfl⟩⟩
theorem E1.varO {i:Nat} {ds:List Dat} (h:τ[i]?=some (.own ds)):E1 p K (tVar i) τ (.vw ds):=fun W L σ H Q r o q=>by
  obtain ⟨a,vs,e,w,n,_,h1,z⟩:=r.get_own h
  exact ⟨_,e,q _ H _ rfl Ev.refl o ⟨a,vs,rfl,.inl ⟨n,.inl h1⟩,z⟩⟩
theorem E1.varL {i:Nat} {ds:List Dat} (h:τ[i]?=some (.dat (.list ds))):E1 p K (tVar i) τ (.vw ds):=fun W L σ H Q r o q=>by
  obtain ⟨v,e,z⟩:=r.get_dat h
  cases z with
  | lst h1 h2=>exact ⟨_,e,q _ H _ rfl Ev.refl o ⟨_,_,rfl,h1.elim (fun z=>.inl ⟨fun y=>z.1 (o.pw _ y),z.2⟩) .inr,h2⟩⟩
theorem E1.int {i:Int}:E1 p K (tC (.int i)) τ (.dat (.int i)):=fun W L σ H Q r o q=>q _ H _ rfl Ev.refl o (.int i)
theorem E1.bl {i:Bool}:E1 p K (tC (.bl i)) τ (.dat (.bool i)):=fun W L σ H Q r o q=>q _ H _ rfl Ev.refl o (.bool i)
theorem E1.non:E1 p K (tC .non) τ (.dat .none):=fun W L σ H Q r o q=>q _ H _ rfl Ev.refl o .none
theorem E1.str {x:Str}:E1 p K (tC (.str x)) τ (.dat (.str x)):=fun W L σ H Q r o q=>q _ H _ rfl Ev.refl o (.str x)
theorem E1.frz {ds:List Dat} (h:E1 p K te τ (.own ds)):E1 p K te τ (.dat (.list ds)):=fun W L σ H Q r o q=>h W L σ H Q r o fun v H' s e ev o' rv=>by
  subst e
  obtain ⟨a,vs,rfl,h1,h2,h3⟩:=rv
  exact q _ H' _ rfl ev o' (.lst (.inl ⟨o.fresh h1,.inl h2⟩) h3)
theorem E1.vwo {ds:List Dat} (h:E1 p K te τ (.own ds)):E1 p K te τ (.vw ds):=fun W L σ H Q r o q=>h W L σ H Q r o fun v H' s e ev o' rv=>by
  subst e
  obtain ⟨a,vs,rfl,h1,h2,h3⟩:=rv
  exact q _ H' _ rfl ev o' ⟨a,vs,rfl,.inl ⟨o.np h1,.inl h2⟩,h3⟩
theorem E.op2 {r:R2} {A B C:Sl->Prop} {B':Sl->Sl->Prop} (ha:E p K ta τ A) (hb:∀ s,A s->E p K tb τ (B' s))
    (hr:∀ s t,A s->B' s t->∀ (W:Addr->Prop) (H0 H:Hp) (x y:V) (Q:VK),Ok p W H0->Ok p W H->Rv p W K H0 H x s->Rv p W K H0 H y t->(∀ v H' u,C u->Ev (Pp p) H H'->Ok p W H'->Rv p W K H0 H' v u->Q v H')->r x y H Q):E p K (tOp r ta tb) τ C :=
  fun W L σ H Q rs o q=>ha W L σ H _ rs o fun x H1 s cs e1 o1 rv1=>hb s cs W L σ H1 _ (rs.ev e1 o.pw) o1 fun y H2 t ct e2 o2 rv2 =>
    hr s t cs ct W H H2 x y _ o o2 (rv1.ev e2 o1 o) (rv2.base e1 o1) fun v H' u cu e3 o3 rv3=>q v H' u cu ((e1.trans e2).trans e3) o3 rv3
theorem E1.op2 {r:R2} {a b c:Sl} (ha:E1 p K ta τ a) (hb:E1 p K tb τ b)
    (hr:∀ (W:Addr->Prop) (H0 H:Hp) (x y:V) (Q:VK),Ok p W H0->Ok p W H->Rv p W K H0 H x a->Rv p W K H0 H y b->(∀ v H',Ev (Pp p) H H'->Ok p W H'->Rv p W K H0 H' v c->Q v H')->r x y H Q):E1 p K (tOp r ta tb) τ c :=
  E.op2 (B:=fun _=>True) (B':=fun _ x=>b=x) ha (fun _ _=>hb) fun s t hs ht W H0 H x y Q o0 o r1 r2 q=>by
    subst hs ht
    exact hr W H0 H x y Q o0 o r1 r2 fun v H'=>q v H' c rfl
theorem Rv.int_inv {i:Int} (h:Rv p W K H0 H v (.dat (.int i))):v = .int i:=by cases h;rfl
theorem Rv.bl_inv {i:Bool} (h:Rv p W K H0 H v (.dat (.bool i))):v = .bl i:=by cases h;rfl
theorem Rv.non_inv (h:Rv p W K H0 H v (.dat .none)):v = .non:=by cases h;rfl
theorem E1.opI0 {g:Int->Int->V} {i j:Int} {d:Dat} (ha:E1 p K ta τ (.dat (.int i))) (hb:E1 p K tb τ (.dat (.int j))) (hd:∀ (N:Addr->Prop) (K:PySem.W.Frag) (H:Hp),Dz N K H (g i j) d):E1 p K (tOp (rI0 g) ta tb) τ (.dat d) :=
  E1.op2 ha hb fun W H0 H x y Q o0 o r1 r2 q=>⟨i,j,r1.int_inv,r2.int_inv,q _ H Ev.refl o (hd _ K H)⟩
theorem E1.opI {g:Int->Int->V} {Cn:Int->Int->Prop} {i j:Int} {d:Dat} (ha:E1 p K ta τ (.dat (.int i))) (hb:E1 p K tb τ (.dat (.int j))) (hc:Cn i j) (hd:∀ (N:Addr->Prop) (K:PySem.W.Frag) (H:Hp),Dz N K H (g i j) d):E1 p K (tOp (rI Cn g) ta tb) τ (.dat d) :=
  E1.op2 ha hb fun W H0 H x y Q o0 o r1 r2 q=>⟨i,j,r1.int_inv,r2.int_inv,hc,q _ H Ev.refl o (hd _ K H)⟩
section
variable {i j:Int} (ha:E1 p K ta τ (.dat (.int i))) (hb:E1 p K tb τ (.dat (.int j)))
include ha hb
theorem E1.add:E1 p K (tOp (rI0 fun i j=>.int (i + j)) ta tb) τ (.dat (.int (i + j))):=E1.opI0 ha hb fun _ _ _=>.int _
theorem E1.sub:E1 p K (tOp (rI0 fun i j=>.int (i - j)) ta tb) τ (.dat (.int (i - j))):=E1.opI0 ha hb fun _ _ _=>.int _
theorem E1.pow (hc:CPow i j):E1 p K (tOp (rI CPow fun i j=>.int (i ^ j.toNat)) ta tb) τ (.dat (.int (i ^ j.toNat))):=E1.opI ha hb hc fun _ _ _=>.int _
theorem E1.lt:E1 p K (tOp (rI0 fun i j=>.bl (decide (i < j))) ta tb) τ (.dat (.bool (decide (i < j)))):=E1.opI0 ha hb fun _ _ _=>.bool _
theorem E1.gt:E1 p K (tOp (rI0 fun i j=>.bl (decide (j < i))) ta tb) τ (.dat (.bool (decide (j < i)))):=E1.opI0 ha hb fun _ _ _=>.bool _
theorem E1.eq:E1 p K (tOp rEq ta tb) τ (.dat (.bool (decide (i=j)))):=E1.op2 ha hb fun W H0 H x y Q o0 o r1 r2 q=>by
  cases r1.int_inv;cases r2.int_inv
  refine ⟨rfl,q _ H Ev.refl o ?_⟩
  have e:decide (V.int i=V.int j)=decide (i=j):=by rw [decide_eq_decide];exact ⟨fun h=>by injection h,fun h=>by rw [h]⟩
  rw [e];exact .bool _
theorem E1.ne:E1 p K (tOp rNe ta tb) τ (.dat (.bool (!decide (i=j)))):=E1.op2 ha hb fun W H0 H x y Q o0 o r1 r2 q=>by
  cases r1.int_inv;cases r2.int_inv
  refine ⟨rfl,q _ H Ev.refl o ?_⟩
  have e:decide (V.int i=V.int j)=decide (i=j):=by rw [decide_eq_decide];exact ⟨fun h=>by injection h,fun h=>by rw [h]⟩
  rw [e];exact .bool _
end
theorem E1.neg {i:Int} (ha:E1 p K ta τ (.dat (.int i))):E1 p K (tUn (rU fun i=>.int (-i)) ta) τ (.dat (.int (-i))):=fun W L σ H Q rs o q=>ha W L σ H _ rs o fun x H1 s e e1 o1 rv=>by
  subst e;cases rv.int_inv
  exact ⟨i,rfl,q _ H1 _ rfl e1 o1 (.int _)⟩
noncomputable def datOf:Sl->Option Dat
  | .dat d=>some d
  | .vw ds=>some (.list ds)
  | .own ds=>some (.list ds)
  | _=>none
theorem Rv.isD {d:Dat} (h:Rv p W K H0 H v s) (e:datOf s=some d):Is K H v d:=by
  cases s with
  | un=>cases e
  | pu=>cases e
  | dat d'=>cases e;exact Dz.is h
  | own ds=>cases e;obtain ⟨a,vs,rfl,_,h2,h3⟩:=h;exact .lst (SqL.of h2) h3.is
  | dt ds=>cases e
  | vw ds=>cases e;obtain ⟨a,vs,rfl,h2,h3⟩:=h;exact .lst h2.sq h3.is
theorem E1.eqD {a b:Sl} {d e:Dat} (ha:E1 p K ta τ a) (hb:E1 p K tb τ b) (ea:datOf a=some d) (eb:datOf b=some e) (k1:PySem.W.kqdOk 9 d=true) (k2:PySem.W.kqdOk 9 e=true):E1 p K (tOp (rEqD K false) ta tb) τ (.dat (.bool (deq d e))) :=
  E1.op2 ha hb fun W H0 H x y Q o0 o r1 r2 q=>⟨d,e,r1.isD ea,r2.isD eb,k1,k2,q _ H Ev.refl o (.bool _)⟩
theorem E1.neD {a b:Sl} {d e:Dat} (ha:E1 p K ta τ a) (hb:E1 p K tb τ b) (ea:datOf a=some d) (eb:datOf b=some e) (k1:PySem.W.kqdOk 9 d=true) (k2:PySem.W.kqdOk 9 e=true):E1 p K (tOp (rEqD K true) ta tb) τ (.dat (.bool (!deq d e))) :=
  E1.op2 ha hb fun W H0 H x y Q o0 o r1 r2 q=>⟨d,e,r1.isD ea,r2.isD eb,k1,k2,q _ H Ev.refl o (.bool _)⟩
theorem atI_dz {N:Addr->Prop} {xs:List V} {ds:List Dat} {i:Int} {d:Dat} (h:Dzs N K H xs ds) (e:atI ds i=some d):∃ x,atI xs i=some x/\Dz N K H x d:=by
  unfold atI at e ⊢
  rw [h.len]
  cases q:ixN ds.length i with
  | none=>rw [q] at e;cases e
  | some j =>
    rw [q] at e
    obtain ⟨x,e1,e2⟩:=h.get (i:=j) (by simpa using e)
    exact ⟨x,by simpa using e1,e2⟩
theorem E1.ixT {ds:List Dat} {i:Int} {d:Dat} (ha:E1 p K ta τ (.dat (.tuple ds))) (hb:E1 p K tb τ (.dat (.int i))) (h:atI ds i=some d):E1 p K (tOp (rIxT K) ta tb) τ (.dat d) :=
  E1.op2 ha hb fun W H0 H x y Q o0 o r1 r2 q=>by
    cases r2.int_inv
    cases r1 with
    | tup h1 h2 =>
      obtain ⟨x,e1,e2⟩:=atI_dz h2 h
      exact ⟨_,_,i,x,rfl,rfl,h1,e1,q _ H Ev.refl o e2⟩
theorem E1.ixL {ds:List Dat} {i:Int} {d:Dat} (ha:E1 p K ta τ (.vw ds)) (hb:E1 p K tb τ (.dat (.int i))) (h:atI ds i=some d):E1 p K (tOp (rIxL K) ta tb) τ (.dat d) :=
  E1.op2 ha hb fun W H0 H x y Q o0 o r1 r2 q=>by
    cases r2.int_inv
    obtain ⟨a,vs,rfl,h1,h2⟩:=r1
    obtain ⟨x,e1,e2⟩:=atI_dz h2 h
    exact ⟨_,_,i,x,rfl,rfl,h1.sq,e1,q _ H Ev.refl o e2⟩
theorem E1.isN {d:Dat} (ha:E1 p K ta τ (.dat d)) (hb:E1 p K tb τ (.dat .none)):E1 p K (tOp (fun x y H Q=>y = .non/\Q (.bl (decide (x = .non))) H) ta tb) τ (.dat (.bool (match d with | .none=>true | _=>false))) :=
  E1.op2 ha hb fun W H0 H x y Q o0 o r1 r2 q=>by
    refine ⟨r2.non_inv,q _ H Ev.refl o ?_⟩
    cases r1 <;> exact .bool _
theorem E1.notN {d:Dat} (ha:E1 p K ta τ (.dat d)) (hb:E1 p K tb τ (.dat .none)):E1 p K (tOp (fun x y H Q=>y = .non/\Q (.bl (!decide (x = .non))) H) ta tb) τ (.dat (.bool (match d with | .none=>false | _=>true))) :=
  E1.op2 ha hb fun W H0 H x y Q o0 o r1 r2 q=>by
    refine ⟨r2.non_inv,q _ H Ev.refl o ?_⟩
    cases r1 <;> exact .bool _
theorem A1.nil:A1 p K tNil τ []:=fun W L σ H Q rs o q=>q [] H _ rfl Ev.refl o .nil
theorem A.cons {C1:Sl->Prop} {C2:Sl->List Sl->Prop} {C:List Sl->Prop} (ha:E p K te τ C1) (hr:∀ s,C1 s->A p K tas τ (C2 s)) (m:∀ s ss,C1 s->C2 s ss->C (s :: ss)):A p K (tCons te tas) τ C:=fun W L σ H Q rs o q =>
  ha W L σ H _ rs o fun x H1 s c1 e1 o1 rv1=>hr s c1 W L σ H1 _ (rs.ev e1 o.pw) o1 fun xs H2 ss c2 e2 o2 rv2=>q _ H2 _ (m s ss c1 c2) (e1.trans e2) o2 (.cons (rv1.ev e2 o1 o) (rv2.base e1 o1))
theorem A1.cons {ss:List Sl} (ha:E1 p K te τ s) (hr:A1 p K tas τ ss):A1 p K (tCons te tas) τ (s :: ss):=A.cons (C2:=fun _ x=>ss=x) ha (fun _ _=>hr) fun s ss h1 h2=>by rw [h1,h2]
theorem Rvs.dats {ds:List Dat} {vs:List V} (h:Rvs p W K H0 H vs (ds.map .dat)):Dzs (fun a=>¬ W a) K H vs ds:=by
  induction ds generalizing vs with
  | nil=>cases h;exact .nil
  | cons d r ih =>
    cases h with
    | cons a t=>exact .cons a (ih t)
theorem Rvs.len {ss:List Sl} {vs:List V} (h:Rvs p W K H0 H vs ss):vs.length=ss.length:=by
  induction h with
  | nil=>rfl
  | cons _ _ ih=>rw [List.length_cons,List.length_cons,ih]
theorem E1.tup {ds:List Dat} (h:A1 p K tas τ (ds.map .dat)) (hz:ds.length<=sizeLine):E1 p K (tTup tas) τ (.dat (.tuple ds)):=fun W L σ H Q rs o q =>
  h W L σ H _ rs o fun vs H1 ss e e1 o1 rv=>by
    subst e
    refine ⟨by rw [rv.len,List.length_map];exact hz,fun a ha=>?_⟩
    have s1:=Same.new ha (.tup vs)
    exact q _ _ _ rfl (e1.trans (Ev.of s1)) (o1.same s1) (.tup (SqT.of upd_same) (rv.dats.ev (W:=Pp p) (Ev.of s1) o1.nw))
theorem E1.lst {ds:List Dat} (h:A1 p K tas τ (ds.map .dat)) (hz:ds.length<=sizeLine):E1 p K (tLst tas) τ (.own ds):=fun W L σ H Q rs o q =>
  h W L σ H _ rs o fun vs H1 ss e e1 o1 rv=>by
    subst e
    refine ⟨by rw [rv.len,List.length_map];exact hz,fun a ha=>?_⟩
    have s1:=Same.new ha (.lst vs)
    exact q _ _ _ rfl (e1.trans (Ev.of s1)) (o1.same s1) ⟨a,vs,rfl,o1.back e1 ha,upd_same,rv.dats.ev (W:=Pp p) (Ev.of s1) o1.nw⟩
theorem E1.to {s':Sl} (h:E1 p K te τ s) (e:s=s'):E1 p K te τ s':=e ▸ h
theorem T1.test {b:Bool} (h:E1 p K te τ (.dat (.bool b))):T1 p K (tTest te) τ b:=fun W L σ H Q rs o q=>h W L σ H _ rs o fun v H' s e e1 o1 rv=>by
  subst e;cases rv.bl_inv;exact ⟨b,rfl,q b H' rfl e1 o1⟩
theorem T1.val {b:Bool} (h:E1 p K te τ (.dat (.bool b))):T1 p K (tB te) τ b:=fun W L σ H Q rs o q=>h W L σ H _ rs o fun v H' s e e1 o1 rv=>by
  subst e;cases rv.bl_inv;exact ⟨b,rfl,q b H' rfl e1 o1⟩
theorem T1.not {tt:TT} {b:Bool} (h:T1 p K tt τ b):T1 p K (tNot tt) τ (!b):=fun W L σ H Q rs o q=>h W L σ H _ rs o fun v H' e e1 o1=>by
  subst e;exact q _ H' rfl e1 o1
theorem T.and {tt tu:TT} {C D:Bool->Prop} (h:T p K tt τ C) (ht:C true->T p K tu τ D) (hf:C false->D false):T p K (tAnd tt tu) τ D:=fun W L σ H Q rs o q=>h W L σ H _ rs o fun v H' c e1 o1=>by
  cases v with
  | true=>rw [if_pos rfl];exact ht c W L σ H' _ (rs.ev e1 o.pw) o1 fun b H2 d e2=>q b H2 d (e1.trans e2)
  | false=>rw [if_neg (by decide)];exact q _ H' (hf c) e1 o1
theorem T.or {tt tu:TT} {C D:Bool->Prop} (h:T p K tt τ C) (ht:C true->D true) (hf:C false->T p K tu τ D):T p K (tOr tt tu) τ D:=fun W L σ H Q rs o q=>h W L σ H _ rs o fun v H' c e1 o1=>by
  cases v with
  | false=>rw [if_neg (by decide)];exact hf c W L σ H' _ (rs.ev e1 o.pw) o1 fun b H2 d e2=>q b H2 d (e1.trans e2)
  | true=>rw [if_pos rfl];exact q _ H' (ht c) e1 o1
theorem T1.orF {tt tu:TT} (h:T1 p K tt τ false) (h2:T1 p K tu τ false):T1 p K (tOr tt tu) τ false:=T.or h (fun z=>by cases z) fun _=>h2
theorem T1.or1 {tt tu:TT} {b c:Bool} (h:T1 p K tt τ b) (h2:T1 p K tu τ c):T1 p K (tOr tt tu) τ (b || c):=T.or h (fun z=>by rw [z];rfl) fun z=>by rw [z];exact h2
theorem T1.and1 {tt tu:TT} {b c:Bool} (h:T1 p K tt τ b) (h2:T1 p K tu τ c):T1 p K (tAnd tt tu) τ (b && c):=T.and h (fun z=>by rw [z];exact h2) fun z=>by rw [z];rfl
theorem E1.andV {b c:Bool} (h:E1 p K ta τ (.dat (.bool b))) (h2:b=true->E1 p K tb τ (.dat (.bool c))) (hc:b=false->c=false):E1 p K (tAndV ta tb) τ (.dat (.bool c)):=fun W L σ H Q rs o q=>h W L σ H _ rs o fun v H' s e e1 o1 rv=>by
  subst e;cases rv.bl_inv
  refine ⟨b,rfl,?_⟩
  cases b with
  | true=>rw [if_pos rfl];exact h2 rfl W L σ H' _ (rs.ev e1 o.pw) o1 fun v H2 s e e2 o2 rv=>q v H2 s e (e1.trans e2) o2 (rv.base e1 o1)
  | false=>rw [if_neg (by decide)];rw [hc rfl] at q;exact q _ H' _ rfl e1 o1 (.bool _)
theorem E1.orV {b c:Bool} (h:E1 p K ta τ (.dat (.bool b))) (h2:b=false->E1 p K tb τ (.dat (.bool c))) (hc:b=true->c=true):E1 p K (tOrV ta tb) τ (.dat (.bool c)):=fun W L σ H Q rs o q=>h W L σ H _ rs o fun v H' s e e1 o1 rv=>by
  subst e;cases rv.bl_inv
  refine ⟨b,rfl,?_⟩
  cases b with
  | false=>rw [if_neg (by decide)];exact h2 rfl W L σ H' _ (rs.ev e1 o.pw) o1 fun v H2 s e e2 o2 rv=>q v H2 s e (e1.trans e2) o2 (rv.base e1 o1)
  | true=>rw [if_pos rfl];rw [hc rfl] at q;exact q _ H' _ rfl e1 o1 (.bool _)
end
end D
end
section
namespace D
open PySem L2 K0
open PySem.W (Dat)
noncomputable def Rr (p:Option Addr) (W:Addr->Prop) (K:PySem.W.Frag) (L:List Addr) (H H':Hp) (v:V):Sl->Prop
  | .own ds=>∃ a vs,v = .ref a/\(a ∈ L\/H a=none)/\H' a=some (.lst vs)/\Dzs (fun a=>¬ W a) K H' vs ds
  | .dt o=>∃ a l,v = .ref a/\(∀ b,b ∈ l->b ∈ L\/H b=none)/\o.R (fun a=>¬ W a) K H' a l
  | s=>Rv p W K H H' v s
section
variable (p:Option Addr) (K:PySem.W.Frag)
noncomputable def S (ts:TS) (τ:List Sl) (nx:List Sl->Prop) (rt:Sl->Prop):Prop:=∀ (W:Addr->Prop) (L:List Addr) (σ:St) (H:Hp) (D:Ends),Rs p W K H L σ τ->Ok p W H ->
  (∀ (W':Addr->Prop) (L':List Addr) σ' H' τ',nx τ'->Ev W H H'->Ok p W' H'->(∀ a,W a->∃ ys,H' a=some ys)->(∀ a,W' a->W a\/H a=none)->(∀ a,a ∈ L'->a ∈ L\/H a=none)->Rs p W' K H' L' σ' τ'->D.nx σ' H') ->
  (∀ (W':Addr->Prop) H' v s,rt s->Ev W H H'->Ok p W' H'->(∀ a,W a->∃ ys,H' a=some ys)->(∀ a,W' a->W a\/H a=none)->Rr p W' K L H H' v s->D.rt v H')->ts D σ H
end
section
variable {p:Option Addr} {K:PySem.W.Frag} {W:Addr->Prop} {L:List Addr} {σ:St} {H H0 H1 H2:Hp} {τ:List Sl} {te:TE} {v:V} {s:Sl} {nx:List Sl->Prop} {rt:Sl->Prop} {t u:TS}
theorem Rv.rr (h:Rv p W K H0 H v s):Rr p W K L H0 H v s:=by
  cases s with
  | own ds=>obtain ⟨a,vs,e,h1,h2⟩:=h;exact ⟨a,vs,e,.inr h1,h2⟩
  | dt ds=>obtain ⟨a,vs,e,h1,h2⟩:=h;exact ⟨a,vs,e,fun b hb=>.inr (h1 b hb),h2⟩
  | _=>exact h
theorem Rr.base {L':List Addr} (h:Rr p W K L' H1 H v s) (hn:∀ a,H1 a=none->H0 a=none) (hl:∀ a,a ∈ L'->a ∈ L\/H0 a=none):Rr p W K L H0 H v s:=by
  cases s with
  | own ds=>obtain ⟨a,vs,e,h1,h2⟩:=h;exact ⟨a,vs,e,h1.elim (hl a) fun z=>.inr (hn a z),h2⟩
  | dt ds=>obtain ⟨a,vs,e,h1,h2⟩:=h;exact ⟨a,vs,e,fun b hb=>(h1 b hb).elim (hl b) fun z=>.inr (hn b z),h2⟩
  | _=>exact h
theorem Ev.ofP (e:Ev (Pp p) H H1) (o:Ok p W H):Ev W H H1:=e.mono o.pw
theorem Ev.chain {W W':Addr->Prop} (e:Ev W H H1) (e2:Ev W' H1 H2) (n:∀ a,W' a->W a\/H a=none):Ev W H H2:=⟨fun b o nb h=>e2.keep b o (fun z=>by
  rcases n b z with y | y
  . exact nb y
  . rw [h] at y;cases y) (e.keep b o nb h),e.tm.trans e2.tm⟩
theorem Ev.none (e:Ev W H H1) (al:∀ a,W a->∃ ys,H1 a=some ys) {a:Addr} (h:H1 a=none):H a=none:=by
  cases q:H a with
  | none=>rfl
  | some u =>
    by_cases z:W a
    . obtain ⟨ys,e2⟩:=al a z;rw [h] at e2;cases e2
    . rw [e.keep _ _ z q] at h;cases h
theorem al_chain {W W1:Addr->Prop} (w1:∀ a,W a->∃ ys,H1 a=some ys) (w2:∀ a,W1 a->∃ ys,H2 a=some ys) (e2:Ev W1 H1 H2):∀ a,W a->∃ ys,H2 a=some ys:=fun a ha=>by
  by_cases z:W1 a
  . exact w2 a z
  . obtain ⟨ys,h⟩:=w1 a ha;exact ⟨ys,e2.keep _ _ z h⟩
theorem S.seq {M:List Sl->Prop} (h1:S p K t τ M rt) (h2:∀ τ',M τ'->S p K u τ' nx rt):S p K (tSeq t u) τ nx rt:=fun W L σ H D r o q1 q2 =>
  h1 W L σ H _ r o (fun W1 L1 σ1 H1 τ1 m e1 o1 w1 n1 l1 r1=>by
    have hn:∀ a,H1 a=none->H a=none:=fun a ha=>e1.none w1 ha
    exact h2 τ1 m W1 L1 σ1 H1 D r1 o1 (fun W2 L2 σ2 H2 τ2 c e2 o2 w2 n2 l2 r2=>q1 W2 L2 σ2 H2 τ2 c (e1.chain e2 n1) o2 (al_chain w1 w2 e2)
        (fun a ha=>(n2 a ha).elim (n1 a) fun z=>.inr (hn a z)) (fun a ha=>(l2 a ha).elim (l1 a) fun z=>.inr (hn a z)) r2)
      fun W2 H2 v s c e2 o2 w2 n2 rv=>q2 W2 H2 v s c (e1.chain e2 n1) o2 (al_chain w1 w2 e2) (fun a ha=>(n2 a ha).elim (n1 a) fun z=>.inr (hn a z)) (rv.base hn l1)) q2
theorem S.next (h:nx τ):S p K tNext τ nx rt:=fun W L σ H D r o q1 q2=>q1 W L σ H τ h Ev.refl o o.al (fun _ h=>.inl h) (fun _ h=>.inl h) r
theorem S.ret {C:Sl->Prop} (h:E p K te τ C) (m:∀ s,C s->rt s):S p K (tRet te) τ nx rt:=fun W L σ H D r o q1 q2=>h W L σ H _ r o fun v H' s c e o' rv=>q2 W H' v s (m s c) (e.ofP o) o' o'.al (fun _ h=>.inl h) rv.rr
theorem S.ret1 (h:E1 p K te τ s) (m:rt s):S p K (tRet te) τ nx rt:=S.ret h fun x e=>e ▸ m
theorem S.retO {i:Nat} {ds:List Dat} (h:τ[i]?=some (.own ds)) (m:rt (.own ds)):S p K (tRet (tVar i)) τ nx rt:=fun W L σ H D r o q1 q2=>by
  obtain ⟨a,vs,e,w,n,l,h1,z⟩:=r.get_own h
  exact ⟨_,e,q2 W H _ _ m Ev.refl o o.al (fun _ h=>.inl h) ⟨a,vs,rfl,.inl l,h1,z⟩⟩
theorem S.iff {tc:TT} {C:Bool->Prop} (h:T p K tc τ C) (ht:C true->S p K t τ nx rt) (hf:C false->S p K u τ nx rt):S p K (tIfS tc t u) τ nx rt:=fun W L σ H D r o q1 q2=>h W L σ H _ r o fun b H1 c e o1=>by
  have e1:=e.ofP o
  have hn:∀ a,H1 a=none->H a=none:=fun a ha=>e1.none (fun a h=>o1.al a h) ha
  have go:∀ {t:TS},S p K t τ nx rt->t D σ H1:=fun h=>h W L σ H1 D (r.ev e o.pw) o1 (fun W2 L2 σ2 H2 τ2 c e2 o2 w2 n2 l2 r2=>q1 W2 L2 σ2 H2 τ2 c (e1.trans e2) o2 (al_chain o1.al w2 e2) (fun a ha=>(n2 a ha).elim .inl fun z=>.inr (hn a z)) (fun a ha=>(l2 a ha).elim .inl fun z=>.inr (hn a z)) r2)
      fun W2 H2 v s c e2 o2 w2 n2 rv=>q2 W2 H2 v s c (e1.trans e2) o2 (al_chain o1.al w2 e2) (fun a ha=>(n2 a ha).elim .inl fun z=>.inr (hn a z)) (rv.base hn fun _ h=>.inl h)
  cases b with
  | true=>rw [if_pos rfl];exact go (ht c)
  | false=>rw [if_neg (by decide)];exact go (hf c)
theorem S.if1 {tc:TT} {b:Bool} (h:T1 p K tc τ b) (ht:b=true->S p K t τ nx rt) (hf:b=false->S p K u τ nx rt):S p K (tIfS tc t u) τ nx rt:=S.iff h ht hf
theorem S.ifF {tc:TT} (h:T1 p K tc τ false) (hf:S p K u τ nx rt):S p K (tIfS tc t u) τ nx rt:=S.iff h (fun z=>by cases z) fun _=>hf
theorem S.ifs {tc:TT} {b:Bool} (h:T1 p K tc τ b) (ht:b=true->S p K t τ (fun τ'=>S p K u τ' nx rt) rt) (hf:b=false->S p K u τ nx rt):S p K (tSeq (tIfS tc t tNext) u) τ nx rt :=
  S.seq (M:=fun τ'=>S p K u τ' nx rt) (S.if1 h ht fun z=>S.next (hf z)) fun _ h=>h
theorem S.ifsF {tc:TT} (h:T1 p K tc τ false) (hf:S p K u τ nx rt):S p K (tSeq (tIfS tc t tNext) u) τ nx rt:=S.ifs h (fun z=>by cases z) fun _=>hf
noncomputable def flat:Sl->Bool
  | .own _=>false
  | .dt _=>false
  | .vw _=>false
  | _=>true
theorem S.asg {C:Sl->Prop} {i:Nat} (h:E p K te τ C) (hf:∀ s,C s->flat s=true) (m:∀ s,C s->nx (τ.set i s)):S p K (tAsg te (gName i)) τ nx rt:=fun W L σ H D r o q1 q2=>h W L σ H _ r o fun v H1 s c e o1 rv=>by
  have z:=hf s c
  obtain ⟨L',l,r'⟩:=(r.ev e o.pw).set (v:=v) (s:=s) (by
    cases s with
    | un=>exact .inl rfl
    | dat d=>exact .inr (.inl ⟨d,rfl,rv⟩)
    | pu=>exact .inr (.inr ⟨rfl,rv⟩)
    | own ds=>cases z
    | dt ds=>cases z
    | vw ds=>cases z) i
  exact q1 W L' _ H1 _ (m s c) (e.ofP o) o1 o1.al (fun _ h=>.inl h) (fun a ha=>.inl (l a ha)) r'
theorem S.letC {C:Sl->Prop} {i:Nat} (h:E p K te τ C) (hf:∀ s,C s->flat s=true) (m:∀ s,C s->S p K u (τ.set i s) nx rt):S p K (tSeq (tAsg te (gName i)) u) τ nx rt :=
  S.seq (M:=fun τ'=>∃ s,C s/\τ'=τ.set i s) (S.asg h hf fun s c=>⟨s,c,rfl⟩) fun τ' ⟨s,c,e⟩=>e ▸ m s c
theorem S.let1 {i:Nat} {τ':List Sl} (h:E1 p K te τ s) (m:S p K u τ' nx rt) (e:τ.set i s=τ':=by rfl) (hf:flat s=true:=by rfl):S p K (tSeq (tAsg te (gName i)) u) τ nx rt :=
  S.letC h (fun x y=>y ▸ hf) fun x y=>by subst y;rw [e];exact m
theorem S.asg1 {i:Nat} {τ':List Sl} (h:E1 p K te τ s) (m:nx τ') (e:τ.set i s=τ':=by rfl) (hf:flat s=true:=by rfl):S p K (tAsg te (gName i)) τ nx rt :=
  S.asg h (fun x y=>y ▸ hf) fun x y=>by subst y;rw [e];exact m
theorem Rs.setO (r:Rs p W K H L σ τ) {a:Addr} {vs:List V} {ds:List Dat} (wa:W a) (np:p ≠ some a) (nl:a ∉ L) (h:H a=some (.lst vs)) (z:Dzs (fun a=>¬ W a) K H vs ds):∀ (i:Nat),∃ L',(∀ b,b ∈ L'->b=a\/b ∈ L)/\Rs p W K H L' (σ.set i (some (.ref a))) (τ.set i (.own ds)):=by
  induction r with
  | nil=>intro i;exact ⟨[],fun _ h=>.inr h,.nil⟩
  | un r ih =>
    intro i
    match i with
    | 0=>exact ⟨_,fun b hb=>by simpa using hb,.own wa np nl h z r⟩
    | i + 1=>obtain ⟨L',h1,h2⟩:=ih nl i;exact ⟨L',h1,.un h2⟩
  | dat y r ih =>
    intro i
    match i with
    | 0=>exact ⟨_,fun b hb=>by simpa using hb,.own wa np nl h z r⟩
    | i + 1=>obtain ⟨L',h1,h2⟩:=ih nl i;exact ⟨L',h1,.dat y h2⟩
  | pu y r ih =>
    intro i
    match i with
    | 0=>exact ⟨_,fun b hb=>by simpa using hb,.own wa np nl h z r⟩
    | i + 1=>obtain ⟨L',h1,h2⟩:=ih nl i;exact ⟨L',h1,.pu y h2⟩
  | own g1 g2 g3 g4 g5 r ih =>
    intro i
    have nl':=fun y=>nl (List.mem_cons_of_mem _ y)
    match i with
    | 0=>exact ⟨_,fun b hb=>(List.mem_cons.mp hb).imp id (List.mem_cons_of_mem _),.own wa np nl' h z r⟩
    | i + 1 =>
      obtain ⟨L',h1,h2⟩:=ih nl' i
      refine ⟨_ :: L',fun b hb=>?_,.own g1 g2 (fun y=>?_) g4 g5 h2⟩
      . rcases List.mem_cons.mp hb with rfl | hb
        . exact .inr List.mem_cons_self
        . exact (h1 b hb).imp id (List.mem_cons_of_mem _)
      . rcases h1 _ y with y | y
        . exact nl (y ▸ List.mem_cons_self)
        . exact g3 y
  | dt g1 g2 g3 g4 r ih =>
    intro i
    have nl':=fun y=>nl (List.mem_append_right _ y)
    match i with
    | 0=>exact ⟨_,fun b hb=>(List.mem_cons.mp hb).imp id (List.mem_append_right _),.own wa np nl' h z r⟩
    | i + 1 =>
      obtain ⟨L',h1,h2⟩:=ih nl' i
      refine ⟨_ ++ L',fun b hb=>?_,.dt g1 g2 (fun b hb y=>?_) g4 h2⟩
      . rcases List.mem_append.mp hb with hb | hb
        . exact .inr (List.mem_append_left _ hb)
        . exact (h1 b hb).imp id (List.mem_append_right _)
      . rcases h1 _ y with y | y
        . exact nl (y ▸ List.mem_append_left _ hb)
        . exact g3 b hb y
theorem Rs.own_in (r:Rs p W K H L σ τ):∀ a,a ∈ L->∃ vs,H a=some vs:=by
  induction r with
  | nil=>intro a h;cases h
  | un _ ih=>exact ih
  | dat _ _ ih=>exact ih
  | pu _ _ ih=>exact ih
  | own _ _ _ h4 _ _ ih => intro a h; rcases List.mem_cons.mp h with rfl | h
                           . exact ⟨_,h4⟩
                           . exact ih a h
  | dt _ _ _ h4 _ ih =>
    intro a h;rcases List.mem_append.mp h with h | h
    . exact Own.al _ h4 a h
    . exact ih a h
theorem Dzs.wide {W W':Addr->Prop} {vs:List V} {ds:List Dat} (h:Dzs (fun a=>¬ W a) K H vs ds) (n:∀ a,W' a->¬ W a->H a=none):Dzs (fun a=>¬ W' a) K H vs ds:=by
  exact go n h
where
  go {W W':Addr->Prop} (n:∀ a,W' a->¬ W a->H a=none):∀ {vs:List V} {ds:List Dat},Dzs (fun a=>¬ W a) K H vs ds->Dzs (fun a=>¬ W' a) K H vs ds
    | _,_,.nil=>.nil
    | _,_,.cons h r=>.cons (go1 n h) (go n r)
  go1 {W W':Addr->Prop} (n:∀ a,W' a->¬ W a->H a=none):∀ {v:V} {d:Dat},Dz (fun a=>¬ W a) K H v d->Dz (fun a=>¬ W' a) K H v d
    | _,_,.none=>.none
    | _,_,.bool b=>.bool b
    | _,_,.int i=>.int i
    | _,_,.str x=>.str x
    | _,_,.tup h r=>.tup h (go n r)
    | _,_,.lst h r=>.lst (by
        rcases h with ⟨nn,h⟩ | h
        . refine .inl ⟨fun z=>?_,h⟩
          have e1:=n _ z nn
          rcases h with h | ⟨o,h⟩
          . rw [e1] at h;cases h
          . rw [e1] at h;cases h
        . exact .inr h) (go n r)
    | _,_,.exc nn h=>.exc (fun z=>by obtain ⟨_,_,q,_⟩:=h;rw [n _ z nn] at q;cases q) h
theorem Dzs.old {W W':Addr->Prop} {H H':Hp} (e:Ev W H H') (n:∀ a,W' a->W a\/H a=none):∀ {vs:List V} {ds:List Dat},Dzs (fun a=>¬ W a) K H vs ds->Dzs (fun a=>¬ W' a) K H' vs ds
    | _,_,.nil=>.nil
    | _,_,.cons h r=>.cons (go1 h) (Dzs.old e n r)
where
  go1 : ∀ {v : V} {d : Dat}, Dz (fun a => ¬ W a) K H v d -> Dz (fun a => ¬ W' a) K H' v d
    | _,_,.none=>.none
    | _,_,.bool b=>.bool b
    | _,_,.int i=>.int i
    | _,_,.str x=>.str x
    | _,_,.tup h r=>.tup (e.tm _ _ _ h) (Dzs.old e n r)
    | _, _, .lst h r => .lst (by
        rcases h with ⟨nn,h⟩ | h
        . refine .inl ⟨fun z=>?_,?_⟩
          . have e1:=(n _ z).resolve_left nn
            rcases h with h | ⟨o,h⟩
            . rw [e1] at h;cases h
            . rw [e1] at h;cases h
          . exact h.imp (e.keep _ _ nn) fun ⟨o,h⟩=>⟨o,e.keep _ _ nn h⟩
        . exact .inr h) (Dzs.old e n r)
    | _,_,.exc nn h=>.exc (fun z=>by obtain ⟨_,_,q,_⟩:=h;rw [(n _ z).resolve_left nn] at q;cases q) (let ⟨ob,C,q,z⟩:=h;⟨ob,C,e.keep _ _ nn q,z⟩)
theorem S.letOC {C:List Dat->Prop} {i:Nat} (h:E p K te τ (fun s=>∃ ds,s = .own ds/\noLs ds=true/\C ds)) (m:∀ ds,C ds->S p K u (τ.set i (.own ds)) nx rt):S p K (tSeq (tAsg te (gName i)) u) τ nx rt:=by
  refine S.seq (M:=fun τ'=>∃ ds,C ds/\τ'=τ.set i (.own ds)) (fun W L σ H D r o q1 q2=>?_) fun τ' ⟨ds,c,e⟩=>e ▸ m ds c
  refine h W L σ H _ r o fun v H1 s c e o1 rv=>?_
  obtain ⟨ds,rfl,nl,cd⟩:=c
  obtain ⟨a,vs,rfl,h1,h2,h3⟩:=rv
  have nw:=o.fresh h1
  have wid:∀ b,(W b\/b=a)->¬ W b->H b=none:=fun b hb nb=>(hb.resolve_left nb) ▸ h1
  have r1:Rs p (fun b=>W b\/b=a) K H1 L σ τ:=(r.wide (fun _ h=>.inl h) wid).ev e fun q hq=>.inl (o.pw q hq)
  have al:a ∉ L:=fun z=>by obtain ⟨_,y⟩:=r.own_in a z;rw [h1] at y;cases y
  obtain ⟨L',l,r2⟩:=r1.setO (.inr rfl) (o.np h1) al h2 (h3.free nl) i
  refine q1 _ L' _ H1 _ ⟨ds,cd,rfl⟩ (e.ofP o) ⟨fun q hq=>⟨(o1.pu q hq).1,.inl (o1.pw q hq)⟩,fun b hb=>?_⟩ o1.al (fun b hb=>hb.imp id fun (z:b=a)=>by rw [z];exact h1) (fun b hb=>?_) r2
  . rcases hb with hb | rfl
    . exact o1.al b hb
    . exact ⟨_,h2⟩
  . rcases l b hb with rfl | hb
    . exact .inr h1
    . exact .inl hb
theorem S.letO {ds:List Dat} {i:Nat} {τ':List Sl} (h:E1 p K te τ (.own ds)) (nl:noLs ds=true) (m:S p K u τ' nx rt) (e:τ.set i (.own ds)=τ':=by rfl):S p K (tSeq (tAsg te (gName i)) u) τ nx rt :=
  S.letOC (C:=fun x=>ds=x) (E.mono h fun s hs=>⟨ds,hs.symm,nl,rfl⟩) fun x hx=>by subst hx;rw [e];exact m
theorem Rs.chg (r:Rs p W K H L σ τ) {a:Addr} {vs0 vs:List V} (ha:W a) (h0:H a=some (.lst vs0)):a ∉ L->Rs p W K (upd H a (.lst vs)) L σ τ:=by
  have ev:Ev (fun b=>b=a) H (upd H a (.lst vs)):=⟨fun b o n h=>by rw [upd_ne n];exact h,Tm.lst h0 _⟩
  have nw:∀ b,¬ W b->¬ b=a:=fun b n z=>n (z ▸ ha)
  induction r with
  | nil=>intro _;exact .nil
  | un _ ih=>intro h;exact .un (ih h)
  | dat h _ ih=>intro n;exact .dat (h.ev ev nw) (ih n)
  | pu h _ ih=>intro n;exact .pu h (ih n)
  | own h1 h2 h3 h4 h5 _ ih =>
    intro n
    refine .own h1 h2 h3 ?_ (h5.ev ev nw) (ih fun z=>n (List.mem_cons_of_mem _ z))
    rw [upd_ne (fun z=>n (by rw [<- z];exact List.mem_cons_self))];exact h4
  | dt h1 h2 h3 h4 _ ih =>
    intro n
    exact .dt h1 h2 h3 (Own.ev _ h4 ev nw fun b o hb h=>by rw [upd_ne (fun (z:b=a)=>n (z ▸ List.mem_append_left _ hb))];exact h) (ih fun z=>n (List.mem_append_right _ z))
theorem Rs.chgO {a:Addr} {vs0 vs:List V} {ds:List Dat} (ha:W a) (h0:H a=some (.lst vs0)) (hz:Dzs (fun a=>¬ W a) K (upd H a (.lst vs)) vs ds):∀ {L:List Addr} {σ:St} {τ:List Sl},Rs p W K H L σ τ->∀ {i:Nat} {ds0:List Dat},τ[i]?=some (.own ds0)->σ[i]?=some (some (.ref a))->Rs p W K (upd H a (.lst vs)) L σ (τ.set i (.own ds)):=by
  have ev:Ev (fun b=>b=a) H (upd H a (.lst vs)):=⟨fun b o n h=>by rw [upd_ne n];exact h,Tm.lst h0 _⟩
  have nw:∀ b,¬ W b->¬ b=a:=fun b n z=>n (z ▸ ha)
  intro L σ τ r
  induction r with
  | nil=>intro i ds0 h;simp at h
  | un r ih =>
    intro i ds0 h e
    match i,h,e with
    | 0,h,_=>simp at h
    | i + 1,h,e=>exact .un (ih (i:=i) (by simpa using h) (by simpa using e))
  | dat y r ih =>
    intro i ds0 h e
    match i,h,e with
    | 0,h,_=>simp at h
    | i + 1,h,e=>exact .dat (y.ev ev nw) (ih (i:=i) (by simpa using h) (by simpa using e))
  | pu y r ih =>
    intro i ds0 h e
    match i,h,e with
    | 0,h,_=>simp at h
    | i + 1,h,e=>exact .pu y (ih (i:=i) (by simpa using h) (by simpa using e))
  | own h1 h2 h3 h4 h5 r ih =>
    intro i ds0 h e
    match i,h,e with
    | 0,h,e =>
      simp at e;subst e
      exact .own h1 h2 h3 upd_same hz (r.chg h1 h4 h3)
    | i + 1,h,e =>
      have e':_:=e
      simp only [List.getElem?_cons_succ] at e'
      obtain ⟨a',vs',g1,g2,g3,g4,g5,g6⟩:=r.get_own (i:=i) (by simpa using h)
      rw [e'] at g1;cases g1
      refine .own h1 h2 h3 ?_ (h5.ev ev nw) (ih (i:=i) (by simpa using h) e')
      rw [upd_ne (fun z=>h3 (by rw [z];exact g4))];exact h4
  | dt h1 h2 h3 h4 r ih =>
    intro i ds0 h e
    match i,h,e with
    | 0,h,e =>
      simp at h
    | i + 1,h,e =>
      have e':_:=e
      simp only [List.getElem?_cons_succ] at e'
      obtain ⟨a',vs',g1,g2,g3,g4,g5,g6⟩:=r.get_own (i:=i) (by simpa using h)
      rw [e'] at g1;cases g1
      exact .dt h1 h2 h3 (Own.ev _ h4 ev nw fun b o hb h=>by rw [upd_ne (fun (z:b=a)=>h3 b hb (z ▸ g4))];exact h) (ih (i:=i) (by simpa using h) e')
end
end D
end
section
namespace D
open PySem L2 K0
open PySem.W (Dat)
noncomputable def Jd (W:Addr->Prop) (K:PySem.W.Frag) (J:It) (H:Hp) (ds:List Dat):Prop:=∀ (W':Addr->Prop) (H':Hp),Ev W H H'->(∀ a,W' a->W a\/H a=none)->J.stop ds.length H'/\∀ i d,ds[i]?=some d->J.go i H'/\∀ y H2,J.yld i H' y H2->Same H' H2/\Dz (fun a=>¬ W' a) K H2 y d
section
variable (p:Option Addr) (K:PySem.W.Frag)
noncomputable def Wk (wi:TI) (τ:List Sl) (ds:List Dat):Prop:=∀ (W:Addr->Prop) (L:List Addr) (σ:St) (H:Hp) (R:It->Hp->Prop),Rs p W K H L σ τ->Ok p W H->(∀ J H1,Ev (Pp p) H H1->Ok p W H1->Jd W K J H1 ds->R J H1)->wi σ H R
noncomputable def Gd (g:TG) (d:Dat) (τ τ':List Sl):Prop:=∀ (W:Addr->Prop) (L:List Addr) (σ:St) (H:Hp) (v:V) (Q:St->Hp->Prop),Rs p W K H L σ τ->Dz (fun a=>¬ W a) K H v d->(∀ L' σ',(∀ a,a ∈ L'->a ∈ L)->Rs p W K H L' σ' τ'->Q σ' H)->g v σ H Q
end
section
variable {p:Option Addr} {K:PySem.W.Frag} {W:Addr->Prop} {L:List Addr} {σ:St} {H H1 H2:Hp} {τ τ':List Sl} {tb te:TE} {tas:TA} {v:V} {s:Sl} {nx:List Sl->Prop} {rt:Sl->Prop} {t:TS} {ds:List Dat} {wi:TI}
theorem Wk.tup (h:E1 p K te τ (.dat (.tuple ds))):Wk p K (iTup K te) τ ds:=fun W L σ H R r o q=>h W L σ H _ r o fun v H1 s e e1 o1 rv=>by
  subst e
  cases rv with
  | tup h1 h2 =>
    rename_i a xs
    refine ⟨a,rfl,⟨xs,h1⟩,q _ H1 e1 o1 fun W' H' ev n=>?_⟩
    have h1':=ev.tm _ _ _ h1
    have h2':=Dzs.old ev n h2
    refine ⟨⟨xs,h1',by rw [h2.len];exact Nat.le_refl _⟩,fun i d hd=>?_⟩
    obtain ⟨x,ex,zx⟩:=h2'.get hd
    exact ⟨⟨xs,x,h1',ex⟩,fun y H2 ⟨e,q⟩=>by
      subst e
      have:=q xs h1'
      rw [ex] at this;cases this
      exact ⟨Same.refl _,zx⟩⟩
theorem Wk.lst (h:E1 p K te τ (.dat (.list ds))):Wk p K (iList K te) τ ds:=fun W L σ H R r o q=>h W L σ H _ r o fun v H1 s e e1 o1 rv=>by
  subst e
  cases rv with
  | lst h1 h2 =>
    rename_i a xs
    refine ⟨a,rfl,⟨xs,h1.sq⟩,q _ H1 e1 o1 fun W' H' ev n=>?_⟩
    have h1':SqL K H' a xs:=by
      rcases h1 with ⟨nn,h1⟩ | h1
      . exact .inl (h1.imp (ev.keep _ _ nn) fun ⟨o,h⟩=>⟨o,ev.keep _ _ nn h⟩)
      . exact SqN.sq (N:=fun _=>True) (.inr h1)
    have h2':=Dzs.old ev n h2
    refine ⟨⟨xs,h1',by rw [h2.len];exact Nat.le_refl _⟩,fun i d hd=>?_⟩
    obtain ⟨x,ex,zx⟩:=h2'.get hd
    exact ⟨⟨xs,x,h1',ex⟩,fun y H2 ⟨e,q⟩=>by
      subst e
      have:=q xs h1'
      rw [ex] at this;cases this
      exact ⟨Same.refl _,zx⟩⟩
noncomputable def rangeD (lo:Int) (n:Nat):List Dat:=(List.range n).map fun (i:Nat)=>.int (lo + i)
theorem rangeD_get {lo:Int} {n i:Nat} {d:Dat} (h:(rangeD lo n)[i]?=some d):i < n/\d = .int (lo + i):=by
  unfold rangeD at h
  rw [List.getElem?_map] at h
  cases e:(List.range n)[i]? with
  | none=>rw [e] at h;cases h
  | some j =>
    rw [e] at h;cases h
    have hi:i < n:=by simpa using (List.getElem?_eq_some_iff.mp e).1
    have hj:j=i:=by
      have:=(List.getElem?_eq_some_iff.mp e).2
      simpa using this.symm
    subst hj
    exact ⟨hi,rfl⟩
theorem rangeD_len {lo:Int} {n:Nat}:(rangeD lo n).length=n:=by unfold rangeD;simp
theorem jd_rng {lo:Int} {n:Nat}:Jd W K (Itr lo n) H (rangeD lo n):=fun W' H' ev nn=>⟨by show n<=_;rw [rangeD_len];exact Nat.le_refl _,fun i d hd=>by
  obtain ⟨hi,rfl⟩:=rangeD_get hd
  exact ⟨hi,fun y H2 ⟨e1,e2⟩=>by subst e1 e2;exact ⟨Same.refl _,.int _⟩⟩⟩
theorem Wk.rng {j:Int} {n:Nat} (h:A1 p K tas τ [.dat (.int j)]) (hn:j.toNat=n) (h1 : -(2 ^ 62)<=j:=by decide) (h2:j < 2 ^ 62:=by decide):Wk p K (iRng1 tas) τ (rangeD 0 n):=fun W L σ H R r o q=>h W L σ H _ r o fun vs H1 ss e e1 o1 rv=>by
  subst e hn
  cases rv with
  | cons a t =>
    cases t
    cases a.int_inv
    exact ⟨j,rfl,h1,h2,q _ H1 e1 o1 jd_rng⟩
theorem Gd.name {i:Nat} {d:Dat} (e:τ.set i (.dat d)=τ':=by rfl):Gd p K (gName i) d τ τ':=fun W L σ H v Q r z q=>by
  obtain ⟨L',l,r'⟩:=r.set (v:=v) (s:=.dat d) (.inr (.inl ⟨d,rfl,z⟩)) i
  rw [e] at r'
  exact q L' _ l r'
theorem S.for {g:TG} {tb:TS} (hw:Wk p K wi τ ds) (I:Nat->List Sl->Prop) (h0:I 0 τ) (turn:∀ i d τ1,ds[i]?=some d->I i τ1->∃ τ2,Gd p K g d τ1 τ2/\S p K tb τ2 (I (i + 1)) rt) (done:∀ τ1,I ds.length τ1->nx τ1):S p K (tFor wi g tb) τ nx rt:=fun W L σ H D r o q1 q2=>by
  refine hw W L σ H _ r o fun J H1 e1 o1 jd=>?_
  have ew:=e1.ofP o
  have hn:∀ a,H1 a=none->H a=none:=fun a ha=>ew.none o1.al ha
  refine ⟨fun i m σ' H'=>m=ds.length - i/\i<=ds.length/\∃ (W':Addr->Prop) (L':List Addr) (τ1:List Sl),I i τ1/\Ev W H1 H'/\Ok p W' H'/\(∀ a,W a->∃ ys,H' a=some ys)/\(∀ a,W' a->W a\/H1 a=none)/\(∀ a,a ∈ L'->a ∈ L\/H1 a=none)/\Rs p W' K H' L' σ' τ1,
    ⟨ds.length,by omega,Nat.zero_le _,W,L,τ,h0,Ev.refl,o1,o1.al,fun _ h=>.inl h,fun _ h=>.inl h,r.ev e1 o.pw⟩,?_⟩
  rintro i m σ' H' ⟨rfl,hi,W',L',τ1,hI,ev,ok,al,nn,ll,rs⟩
  obtain ⟨stop,each⟩:=jd W' H' ev nn
  by_cases hlt:i < ds.length
  . have hd:ds[i]?=some ds[i]:=by simp [hlt]
    obtain ⟨go,yl⟩:=each i _ hd
    obtain ⟨τ2,hg,hb⟩:=turn i _ τ1 hd hI
    refine .inr ⟨go,fun σ'' H''=>ds.length - (i + 1)=ds.length - (i + 1)/\i + 1<=ds.length/\∃ (W':Addr->Prop) (L':List Addr) (τ1:List Sl),I (i + 1) τ1/\Ev W H1 H''/\Ok p W' H''/\(∀ a,W a->∃ ys,H'' a=some ys)/\(∀ a,W' a->W a\/H1 a=none)/\(∀ a,a ∈ L'->a ∈ L\/H1 a=none)/\Rs p W' K H'' L' σ'' τ1,fun σ'' H'' h=>⟨_,by omega,h⟩,fun x H2 y=>?_⟩
    obtain ⟨s2,z2⟩:=yl x H2 y
    have e2:Ev (Pp p) H' H2:=Ev.of s2
    have o2:=ok.same s2
    have ev2:Ev W H1 H2:=ev.trans (Ev.of s2)
    have al2:∀ a,W a->∃ ys,H2 a=some ys:=fun a ha=>let ⟨ys,h⟩:=al a ha;⟨ys,s2 _ _ h⟩
    have hn2:∀ a,H2 a=none->H1 a=none:=fun a ha=>ev2.none al2 ha
    refine hg W' L' σ' H2 x _ (rs.ev e2 ok.pw) z2 fun L3 σ3 l3 rs3=>?_
    refine hb W' L3 σ3 H2 _ rs3 o2 (fun W4 L4 σ4 H4 τ4 c e4 o4 w4 n4 l4 r4=>?_) (fun W4 H4 v s c e4 o4 w4 n4 rv=>?_)
    . exact ⟨rfl,hlt,W4,L4,τ4,c,ev2.chain e4 nn,o4,al_chain al2 w4 e4,fun a ha=>(n4 a ha).elim (nn a) fun z=>.inr (hn2 a z),fun a ha=>(l4 a ha).elim (fun z=>ll a (l3 a z)) fun z=>.inr (hn2 a z),r4⟩
    . have nn':∀ a,W' a->W a\/H a=none:=fun a ha=>(nn a ha).imp id (hn a)
      refine q2 W4 H4 v s c ((ew.trans ev2).chain e4 nn') o4 (al_chain al2 w4 e4) (fun a ha=>(n4 a ha).elim (nn' a) fun z=>.inr (hn a (hn2 a z))) (rv.base (fun a z=>hn a (hn2 a z)) fun a ha=>?_)
      exact (ll a (l3 a ha)).imp id (hn a)
  . have e:i=ds.length:=by omega
    subst e
    exact .inl ⟨stop,q1 W' L' σ' H' τ1 (done τ1 hI) (ew.trans ev) ok al (fun a ha=>(nn a ha).imp id (hn a)) (fun a ha=>(ll a ha).imp id (hn a)) rs⟩
end
end D
end
section
namespace D
open PySem L2 K0
open PySem.W (Dat)
section
variable {p:Option Addr} {K:PySem.W.Frag} {W:Addr->Prop} {L:List Addr} {σ:St} {H H1 H2:Hp} {τ:List Sl} {te:TE} {v:V} {s:Sl} {nx:List Sl->Prop} {u:TS} {ds:List Dat} {wi:TI} {tt:TT}
noncomputable def Gc (p:Option Addr) (K:PySem.W.Frag) (no:Nat) (g:TG) (d:Dat) (own:List Sl):Prop:=∀ (W:Addr->Prop) (L:List Addr) (ρ σ:St) (τ:List Sl) (H:Hp) (v:V) (Q:St->Hp->Prop),ρ.length=no->Rs p W K H L σ τ->Dz (fun a=>¬ W a) K H v d->(∀ ρ',ρ'.length=no->Rs p W K H L (ρ' ++ σ) (own ++ τ)->Q (ρ' ++ σ) H)->g v (ρ ++ σ) H Q
theorem Gc.name {d:Dat}:Gc p K 1 (gName 0) d [.dat d]:=fun W L ρ σ τ H v Q l r z q=>by
  match ρ,l with
  | [o],_=>exact q [some v] rfl (.dat z r)
theorem Rs.evx {X:Addr->Prop} {H':Hp} (r:Rs p W K H L σ τ) (e:Ev X H H') (nx:∀ a,¬ W a->¬ X a) (no:∀ a o,H a=some o->p ≠ some a->¬ X a):Rs p W K H' L σ τ:=by
  induction r with
  | nil=>exact .nil
  | un _ ih=>exact .un ih
  | dat h _ ih=>exact .dat (h.ev e nx) ih
  | pu h _ ih=>exact .pu h ih
  | own h1 h2 h3 h4 h5 _ ih=>exact .own h1 h2 h3 (e.keep _ _ (no _ _ h4 h2) h4) (h5.ev e nx) ih
  | dt h1 h2 h3 h4 _ ih=>exact .dt h1 h2 h3 (Own.ev _ h4 e nx fun b o hb h=>e.keep _ _ (no _ _ h (h2 b hb)) h) ih
theorem E.comp {no:Nat} {g:TG} (hw:Wk p K wi τ ds) (own:Dat->List Sl) (hg:∀ d,d ∈ ds->Gc p K no g d (own d)) (kp:Dat->Bool) (Cd:Dat->Dat->Prop) (ht:∀ d,d ∈ ds->T1 p K tt (own d ++ τ) (kp d))
    (turn:∀ d,d ∈ ds->kp d=true->E p K te (own d ++ τ) (fun s=>∃ e,s = .dat e/\Cd d e)) (hz:ds.length<=sizeLine) :
    E p K (tCompB no wi g tt te) τ (fun s=>∃ es,s = .own es/\es.length=(ds.filter kp).length/\∀ (i:Nat) (e:Dat),es[i]?=some e->∃ d,(ds.filter kp)[i]?=some d/\Cd d e):=fun W L σ H Q r o q=>by
  refine hw W L σ H _ r o fun J H1 e1 o1 jd=>?_
  intro D hD
  have nD:=o1.fresh hD
  have pD:=o1.np hD
  have r1:=r.ev e1 o.pw
  have r1':Rs p (fun b=>W b\/b=D) K H1 L σ τ:=r1.wide (fun _ h=>.inl h) fun b hb nb=>(hb.resolve_left nb) ▸ hD
  refine ⟨fun i m σ' H'=>m=ds.length - i/\i<=ds.length/\(∃ ρ,ρ.length=no/\σ'=ρ ++ σ)/\Ev (fun a=>Pp p a\/a=D) H1 H'/\(∀ q,p=some q->Pu H' q)/\∃ (vs:List V) (es:List Dat),H' D=some (.lst vs)/\Dzs (fun b=>¬ (W b\/b=D)) K H' vs es/\es.length=((ds.take i).filter kp).length/\∀ (j:Nat) (e:Dat),es[j]?=some e->∃ d,((ds.take i).filter kp)[j]?=some d/\Cd d e,
    ⟨ds.length,by omega,Nat.zero_le _,⟨List.replicate no none,by simp,rfl⟩,⟨fun b u nb h=>by rw [upd_ne (fun z=>nb (.inr z))];exact h,(Same.new hD _).tm⟩,fun q hq=>(o1.pu q hq).1.same (Same.new hD _),[],[],upd_same,.nil,by simp,fun j e h=>by simp at h⟩,?_⟩
  rintro i m σ' H' ⟨rfl,hi,⟨ρ,lρ,rfl⟩,ev,pu,vs,es,hv,zv,le,hes⟩
  have evW:Ev W H1 H':=⟨fun b u nb h=>ev.keep b u (fun z=>z.elim (fun y=>nb (o1.pw b y)) fun y=>by rw [y] at h;rw [hD] at h;cases h) h,ev.tm⟩
  have ok':Ok p (fun b=>W b\/b=D) H':=⟨fun q hq=>⟨pu q hq,.inl (o1.pw q hq)⟩,fun b hb=>by
    by_cases z:b=D
    . subst z;exact ⟨_,hv⟩
    . by_cases y:p=some b
      . obtain ⟨x1,x2,h⟩:=pu b y;exact ⟨_,h⟩
      . obtain ⟨ys,h⟩:=o1.al b (hb.resolve_right z)
        exact ⟨ys,ev.keep _ _ (fun w=>w.elim y z) h⟩⟩
  have evD:Ev (fun b=>W b\/b=D) H1 H':=evW.mono fun _ h=>.inl h
  have rs':Rs p (fun b=>W b\/b=D) K H' L σ τ:=by
    refine Rs.evx r1' ev (fun a ha z=>?_) fun a u ha np z=>?_
    . rcases z with z | z
      . exact ha (.inl (o1.pw a z))
      . exact ha (.inr z)
    . rcases z with z | z
      . exact np z
      . rw [z,hD] at ha;cases ha
  obtain ⟨stop,each⟩:=jd (fun b=>W b\/b=D) H' evW fun a ha=>ha.imp id fun z=>by rw [z];exact hD
  have o1f:H D=none:=o1.back e1 hD
  by_cases hlt:i < ds.length
  . have hd : ds[i]? = some ds[i] := by simp [hlt]
    have hm:ds[i] ∈ ds:=List.getElem_mem hlt
    obtain ⟨go,yl⟩:=each i _ hd
    have tk:ds.take (i + 1)=ds.take i ++ [ds[i]]:=by rw [List.take_add_one];simp [hlt]
    refine .inr ⟨go,fun x H2 y=>?_⟩
    obtain ⟨s2,z2⟩:=yl x H2 y
    have ok2:=ok'.same s2
    refine hg _ hm _ L ρ σ τ H2 x _ lρ (rs'.ev (Ev.of s2) ok'.pw) z2 fun ρ' lρ' rs2=>?_
    refine ht _ hm _ L _ H2 _ rs2 ok2 fun b H4 eb e4 o4=>?_
    have pvH:Ev (fun a=>Pp p a\/a=D) H' H4:=(Ev.of s2).trans (e4.mono fun _ h=>.inl h)
    have hv4:H4 D=some (.lst vs):=e4.keep _ _ pD (s2 _ _ hv)
    have zv4:Dzs (fun b=>¬ (W b\/b=D)) K H4 vs es:=(zv.ev (W:=fun _=>False) (Ev.of s2) fun _ _ h=>h).ev e4 fun a ha z=>ha (.inl (o1.pw a z))
    subst eb
    by_cases hk:kp ds[i]=true
    . rw [if_pos hk]
      refine turn _ hm hk _ L _ H4 _ (rs2.ev e4 ok2.pw) o4 fun v H5 s c e5 o5 rv=>?_
      obtain ⟨e,rfl,ce⟩:=c
      have hv5:H5 D=some (.lst vs):=e5.keep _ _ pD hv4
      have zv5:=zv4.ev e5 fun a ha z=>ha (.inl (o1.pw a z))
      have ll:vs.length<=i:=by rw [zv.len,le];exact Nat.le_trans (List.length_filter_le _ _) (by rw [List.length_take];omega)
      have evu:Ev (fun b=>b=D) H5 (upd H5 D (.lst (vs ++ [v]))):=⟨fun b o n h=>by rw [upd_ne n];exact h,Tm.lst hv5 _⟩
      refine ⟨vs,hv5,by omega,ds.length - (i + 1),by omega,rfl,hlt,⟨ρ',lρ',rfl⟩,(ev.trans (pvH.trans (e5.mono fun _ h=>.inl h))).trans (evu.mono fun _ h=>.inr h),fun q hq=>?_,vs ++ [v],es ++ [e],upd_same,(zv5.app (.cons rv .nil)).ev evu fun b hb z=>hb (.inr z),?_,fun j f hj=>?_⟩
      . obtain ⟨x1,x2,h⟩:=(o5.pu q hq).1
        exact ⟨x1,x2,by rw [upd_ne (fun z=>pD (by rw [<- z];exact hq))];exact h⟩
      . rw [tk,List.filter_append,List.length_append,List.length_append,le];simp [hk]
      . rw [tk,List.filter_append]
        have h1:[ds[i]].filter kp=[ds[i]]:=by simp [hk]
        rw [h1]
        by_cases hj2:j < es.length
        . rw [List.getElem?_append_left hj2] at hj
          rw [List.getElem?_append_left (by rw [<- le];exact hj2)]
          exact hes j f hj
        . rw [List.getElem?_append_right (by omega)] at hj
          have ej:j - es.length=0:=by
            have:=(List.getElem?_eq_some_iff.mp hj).1
            simp at this;omega
          rw [ej] at hj
          cases hj
          rw [List.getElem?_append_right (by omega), <- le,ej]
          exact ⟨_,rfl,ce⟩
    . rw [if_neg hk]
      refine ⟨ds.length - (i + 1),by omega,rfl,hlt,⟨ρ',lρ',rfl⟩,ev.trans pvH,fun q hq=>(o4.pu q hq).1,vs,es,hv4,zv4,?_,fun j f hj=>?_⟩
      . rw [tk,List.filter_append,List.length_append,le];simp [hk]
      . obtain ⟨d,h1,h2⟩:=hes j f hj
        rw [tk,List.filter_append]
        have h3:[ds[i]].filter kp=[]:=by simp [hk]
        rw [h3,List.append_nil]
        exact ⟨d,h1,h2⟩
  . have e:i=ds.length:=by omega
    subst e
    rw [List.take_length] at le hes
    have evP:Ev (Pp p) H1 H':=⟨fun b u nb h=>ev.keep b u (fun z=>z.elim nb fun y=>by rw [y] at h;rw [hD] at h;cases h) h,ev.tm⟩
    refine .inl ⟨stop,q _ H' _ ⟨es,rfl,le,hes⟩ (e1.trans evP) (o1.ev evP pu) ⟨D,vs,rfl,o1f,hv,zv.mono fun a ha z=>ha (.inl z)⟩⟩
end
end D
end
section
namespace D
open PySem L2 K0
open PySem.W (Dat)
section
variable {p:Option Addr} {K:PySem.W.Frag} {W:Addr->Prop} {L:List Addr} {σ:St} {H H0 H1 H2:Hp} {τ τ':List Sl} {te:TE} {tas:TA} {v:V} {s:Sl} {t:TS} {ds:List Dat} {wi:TI} {tt:TT}
theorem T1.all:T1 p K tAll τ true:=fun W L σ H Q r o q=>q true H rfl Ev.refl o
theorem filter_true (ds:List Dat):ds.filter (fun _=>true)=ds:=List.filter_eq_self.mpr fun _ _=>rfl
theorem E.compC {Cd:Dat->Dat->Prop} (hw:Wk p K wi τ ds) (turn:∀ d,d ∈ ds->E p K te (.dat d :: τ) (fun s=>∃ e,s = .dat e/\Cd d e)) (hz:ds.length<=sizeLine) :
    E p K (tCompB 1 wi (gName 0) tAll te) τ (fun s=>∃ es,s = .own es/\es.length=ds.length/\∀ (i:Nat) (e:Dat),es[i]?=some e->∃ d,ds[i]?=some d/\Cd d e):=by
  have h:=E.comp (tt:=tAll) hw (fun d=>[.dat d]) (fun d _=>Gc.name) (fun _=>true) Cd (fun _ _=>T1.all) (fun d hd _=>turn d hd) hz
  rw [filter_true] at h
  exact h
theorem map_of {f:Dat->Dat} {es:List Dat} (l:es.length=ds.length) (h:∀ (i:Nat) (e:Dat),es[i]?=some e->∃ d,ds[i]?=some d/\f d=e):es=ds.map f:=by
  apply List.ext_getElem?
  intro i
  rw [List.getElem?_map]
  cases q:es[i]? with
  | none =>
    have:=List.getElem?_eq_none_iff.mp q
    rw [List.getElem?_eq_none (by omega)];rfl
  | some e=>obtain ⟨d,h1,h2⟩:=h i e q;rw [h1, <- h2];rfl
theorem E1.compM {f:Dat->Dat} (hw:Wk p K wi τ ds) (turn:∀ d,d ∈ ds->E1 p K te (.dat d :: τ) (.dat (f d))) (hz:ds.length<=sizeLine):E1 p K (tCompB 1 wi (gName 0) tAll te) τ (.own (ds.map f)):=by
  refine E.mono (E.compC (Cd:=fun d e=>f d=e) hw (fun d hd=>E.mono (turn d hd) fun s hs=>⟨_,hs.symm,rfl⟩) hz) fun s hs=>?_
  obtain ⟨es,rfl,l,h⟩:=hs
  rw [map_of l h]
theorem E1.compF {f:Dat->Dat} {kp:Dat->Bool} (hw:Wk p K wi τ ds) (ht:∀ d,d ∈ ds->T1 p K tt (.dat d :: τ) (kp d)) (turn:∀ d,d ∈ ds->kp d=true->E1 p K te (.dat d :: τ) (.dat (f d))) (hz:ds.length<=sizeLine):E1 p K (tCompB 1 wi (gName 0) tt te) τ (.own ((ds.filter kp).map f)):=by
  refine E.mono (E.comp hw (fun d=>[.dat d]) (fun d _=>Gc.name) kp (fun d e=>f d=e) ht (fun d hd hk=>E.mono (turn d hd hk) fun s hs=>⟨_,hs.symm,rfl⟩) hz) fun s hs=>?_
  obtain ⟨es,rfl,l,h⟩:=hs
  rw [map_of l h]
noncomputable def p1:Dat->Dat
  | .tuple [x,_]=>x
  | d=>d
noncomputable def p2:Dat->Dat
  | .tuple [_,y]=>y
  | d=>d
theorem E1.cb1 {r:List V->Hp->VK->Prop} {a c:Sl} (ha:A1 p K tas τ [a]) (hr:∀ (W:Addr->Prop) (H0 H:Hp) (x:V) (Q:VK),Ok p W H0->Ok p W H->Ev (Pp p) H0 H->Rv p W K H0 H x a->(∀ v H',Ev (Pp p) H H'->Ok p W H'->Rv p W K H0 H' v c->Q v H')->r [x] H Q):E1 p K (tCB r tas) τ c:=fun W L σ H Q rs o q =>
  ha W L σ H _ rs o fun vs H1 ss e e1 o1 rv=>by
    subst e
    cases rv with
    | cons a t =>
      cases t
      exact hr W H H1 _ _ o o1 e1 a fun v H' e2 o2 rv=>q v H' _ rfl (e1.trans e2) o2 rv
theorem E1.tupleL {ds:List Dat} (ha:A1 p K tas τ [.vw ds]):E1 p K (tCB (fun xs H Q=>∃ p ys,xs=[.ref p]/\((SqL K H p ys/\∀ l,H l=none->Q (.ref l) (upd H l (.tup ys)))\/(SqT K H p ys/\Q (.ref p) H))) tas) τ (.dat (.tuple ds)) :=
  E1.cb1 ha fun W H0 H x Q o0 o _ r q=>by
    obtain ⟨a,vs,rfl,h1,h2⟩:=r
    refine ⟨a,vs,rfl,.inl ⟨h1.sq,fun l hl=>?_⟩⟩
    have s:=Same.new hl (.tup vs)
    exact q _ _ (Ev.of s) (o.same s) (.tup (SqT.of upd_same) (h2.ev (W:=Pp p) (Ev.of s) o.nw))
theorem E1.lenL {ds:List Dat} (ha:A1 p K tas τ [.vw ds]):E1 p K (tCB (fun xs H Q=>∃ p ys,xs=[.ref p]/\(SqL K H p ys\/SqT K H p ys)/\Q (.int ys.length) H) tas) τ (.dat (.int ds.length)) :=
  E1.cb1 ha fun W H0 H x Q o0 o _ r q=>by
    obtain ⟨a,vs,rfl,h1,h2⟩:=r
    refine ⟨a,vs,rfl,.inl h1.sq,?_⟩
    rw [h2.len]
    exact q _ H Ev.refl o (.int _)
theorem E1.lenT {ds:List Dat} (ha:A1 p K tas τ [.dat (.tuple ds)]):E1 p K (tCB (fun xs H Q=>∃ p ys,xs=[.ref p]/\(SqL K H p ys\/SqT K H p ys)/\Q (.int ys.length) H) tas) τ (.dat (.int ds.length)) :=
  E1.cb1 ha fun W H0 H x Q o0 o _ r q=>by
    cases r with
    | tup h1 h2 =>
      refine ⟨_,_,rfl,.inr h1,?_⟩
      rw [h2.len]
      exact q _ H Ev.refl o (.int _)
noncomputable def cutA {α:Type} (xs:List α) (lo hi:Option Int):List α:=(xs.drop (HT.sIx xs.length 0 lo)).take (HT.sIx xs.length xs.length hi - HT.sIx xs.length 0 lo)
noncomputable def O1 (p:Option Addr) (K:PySem.W.Frag) (to:TO) (τ:List Sl) (i:Option Int):Prop:=∀ (W:Addr->Prop) (L:List Addr) (σ:St) (H:Hp) (Q:Option Int->Hp->Prop),Rs p W K H L σ τ->Ok p W H->(∀ H',Ev (Pp p) H H'->Ok p W H'->Q i H')->to σ H Q
theorem O1.none:O1 p K tNoPart τ Option.none:=fun W L σ H Q r o q=>q H Ev.refl o
theorem O1.some {i:Int} (h:E1 p K te τ (.dat (.int i))):O1 p K (tPart te) τ (Option.some i):=fun W L σ H Q r o q=>h W L σ H _ r o fun v H1 s e e1 o1 rv=>by
  subst e;cases rv.int_inv;exact ⟨i,rfl,q H1 e1 o1⟩
theorem cut_dz {N:Addr->Prop} {vs:List V} {ds:List Dat} {lo hi:Option Int} (h:Dzs N K H vs ds):Dzs N K H (cutV vs lo hi) (cutA ds lo hi):=by
  unfold cutV cutA
  rw [h.len]
  exact (h.drop _).take _
theorem E1.slL {ds:List Dat} {lo hi:Option Int} {tl th:TO} (h:E1 p K te τ (.vw ds)) (hl:O1 p K tl τ lo) (hh:O1 p K th τ hi):E1 p K (tSl (rSlL K) te tl th) τ (.own (cutA ds lo hi)):=fun W L σ H Q r o q =>
  h W L σ H _ r o fun v H1 s e e1 o1 rv=>by
    subst e
    refine hl W L σ H1 _ (r.ev e1 o.pw) o1 fun H2 e2 o2=>hh W L σ H2 _ ((r.ev e1 o.pw).ev e2 o.pw) o2 fun H3 e3 o3=>?_
    obtain ⟨a,vs,rfl,h1,h2⟩:=rv.ev (e2.trans e3) o1 o
    refine ⟨a,vs,rfl,h1.sq,fun l hl=>?_⟩
    have s:=Same.new hl (.lst (cutV vs lo hi))
    exact q _ _ _ rfl ((e1.trans (e2.trans e3)).trans (Ev.of s)) (o3.same s) ⟨l,_,rfl,o3.back (e1.trans (e2.trans e3)) hl,upd_same,(cut_dz h2).ev (W:=Pp p) (Ev.of s) o3.nw⟩
end
noncomputable def spP (K:PySem.W.Frag) (R:List Dat->Dat->Prop):Sp:=fun vs H Q _=>∃ ds d,Dzs (fun _=>True) K H vs ds/\R ds d/\∀ v H',Same H H'->Dz (fun a=>H a=none) K H' v d->Q v H'
noncomputable def spU (K:PySem.W.Frag) (R:List Dat->(Dat->Prop)->Prop):Sp:=fun vs H Q _=>∃ q us ds C,vs = .ref q :: us/\Dzs (fun a=>a ≠ q) K H us ds/\Pu H q/\R ds C/\∀ v H' d,C d->Ev (fun a=>a=q) H H'->Pu H' q->Dz (fun a=>H a=none) K H' v d->Q v H'
section
variable {p:Option Addr} {K:PySem.W.Frag} {W:Addr->Prop} {L:List Addr} {σ:St} {H H0 H1 H2:Hp} {τ τ':List Sl} {te:TE} {tas:TA} {v:V} {s:Sl} {t:TS} {ds:List Dat} {E':XK}
noncomputable def datsOf:List Sl->Option (List Dat)
  | []=>some []
  | s :: r=>match datOf s,datsOf r with
    | some d,some ds=>some (d :: ds)
    | _,_=>none
theorem Rvs.dz {ss:List Sl} {vs:List V} (h:Rvs p W K H0 H vs ss):∀ {ds:List Dat},datsOf ss=some ds->Dzs (fun _=>True) K H vs ds:=by
  induction h with
  | nil=>intro ds e;cases e;exact .nil
  | cons a t ih =>
    rename_i v s vs ss
    intro ds e
    unfold datsOf at e
    cases e1:datOf s with
    | none=>rw [e1] at e;simp at e
    | some d =>
      cases e2:datsOf ss with
      | none=>rw [e1,e2] at e;simp at e
      | some r =>
        rw [e1,e2] at e;cases e
        refine .cons ?_ (ih e2)
        cases s with
        | un=>cases e1
        | pu=>cases e1
        | dat d'=>cases e1;exact Dz.mono (fun _ _=>trivial) a
        | own ds=>cases e1;obtain ⟨a,vs,rfl,_,h2,h3⟩:=a;exact .lst (.inl ⟨trivial,.inl h2⟩) (h3.mono fun _ _=>trivial)
        | dt ds=>cases e1
        | vw ds=>cases e1;obtain ⟨a,vs,rfl,h2,h3⟩:=a;exact .lst (h2.elim (fun z=>.inl ⟨trivial,z.2⟩) .inr) (h3.mono fun _ _=>trivial)
theorem E1.call {R:List Dat->Dat->Prop} {ss:List Sl} {ds:List Dat} {d:Dat} (ha:A1 p K tas τ ss) (hr:R ds d) (hd:datsOf ss=some ds:=by rfl):E1 p K (tCall (spP K R) [] E' tas) τ (.dat d):=fun W L σ H Q rs o q=>ha W L σ H _ rs o fun vs H1 ss e e1 o1 rv=>by
  subst e
  rw [List.append_nil]
  exact ⟨ds,d,rv.dz hd,hr,fun v H' s z=>q v H' _ rfl (e1.trans (Ev.of s)) (o1.same s) (z.mono fun a ha=>o1.fresh ha)⟩
theorem Rvs.dzp {q:Addr} {vs:List V} {ds:List Dat} (h:Rvs (some q) W K H0 H vs (ds.map .dat)) (w:W q):Dzs (fun a=>a ≠ q) K H vs ds:=h.dats.mono fun a n z=>n (by rw [z];exact w)
theorem E.callU {R:List Dat->(Dat->Prop)->Prop} {ds:List Dat} {C:Dat->Prop} (ha:A1 p K tas τ (.pu :: ds.map .dat)) (hr:R ds C):E p K (tCall (spU K R) [] E' tas) τ (fun s=>∃ d,s = .dat d/\C d):=fun W L σ H Q rs o q=>ha W L σ H _ rs o fun vs H1 ss e e1 o1 rv=>by
  subst e
  rw [List.append_nil]
  cases rv with
  | cons a t =>
    obtain ⟨q0,rfl,rfl⟩:=a
    have w:=o1.pw q0 rfl
    refine ⟨q0,_,ds,C,rfl,Rvs.dzp t w,(o1.pu q0 rfl).1,hr,fun v H' d c ev pu z=>?_⟩
    have e2:Ev (Pp (some q0)) H1 H':=ev.mono fun a h=>by rw [h];rfl
    exact q v H' _ ⟨d,rfl,c⟩ (e1.trans e2) (o1.ev e2 fun q hq=>by cases hq;exact pu) (z.mono fun a ha=>o1.fresh ha)
noncomputable def Gives (d:Dat):Sl->Prop
  | .dat e=>d=e/\noL d=true
  | .own ds=>d = .list ds/\noLs ds=true
  | _=>False
theorem rs_start {N:Addr->Prop}:∀ {vs:List V} {ds:List Dat} (n:Nat),Dzs N K H vs ds->(∀ a,N a->¬ W a)->Rs p W K H [] (vs.map some ++ List.replicate n none) (ds.map .dat ++ List.replicate n .un)
  | _,_,0,.nil,_=>.nil
  | _,_,n + 1,.nil,h=>by
    have:=rs_start n (Dzs.nil (N:=N) (K:=K) (H:=H)) h
    rw [List.replicate_succ,List.replicate_succ]
    exact .un this
  | _,_,n,.cons a r,h=>.dat (a.mono h) (rs_start n r h)
variable {P:Program} {w:World} {mg:Str->Option Value} {base:Heap}
theorem okP {x qual:Str} {st:Stmt} {f:Addr} {fd:FuncData} {N ps:List Str} {k:Nat} {R:List Dat->Dat->Prop} (F:Fun K x qual st f fd) (S0:FnScope N ps (defScope st)) (len:∀ ds d,R ds d->ds.length=ps.length)
    (body:∀ (cdv:Value) (A:Around) (outer:List Env) (s:Shared) (H:Hp) (E:XK),Room k (A.deeper (PyProof.Rows.envOfC qual (defScope st) s.heap.objs.size f cdv)) ->
      ∃ t,ZSs (cxOf CX0 P w K mg base N qual (defScope st) f cdv A outer s H E).nox (defBody st) t/\∀ ds d,R ds d->S none K t (ds.map .dat ++ List.replicate (N.length - ps.length) .un) (fun _=>d = .none) (Gives d)):FnOk P w K mg base CX0 (k + 1) f fd ps (spP K R):=by
  refine F.okZ S0 (fun vs H Q E h=>?_) (fun cdv A outer s H vs Q E hr h=>?_)
  . obtain ⟨ds,d,z,r,_⟩:=h;rw [z.len];exact len ds d r
  . obtain ⟨ds,d,z,r,q⟩:=h
    obtain ⟨t,hz,hs⟩:=body cdv A outer s H E hr
    refine ⟨t,hz,?_⟩
    have l:vs.length=ps.length:=by rw [z.len];exact len ds d r
    have r0:Rs none (fun _=>False) K H [] (L2.start N vs) (ds.map .dat ++ List.replicate (N.length - ps.length) .un):=by
      unfold L2.start
      rw [l]
      exact rs_start _ z fun a _ h=>h
    have same:∀ {H':Hp},Ev (fun _=>False) H H'->Same H H':=fun e b o h=>e.keep b o (fun z=>z) h
    refine hs ds d r (fun _=>False) [] _ H _ r0 ⟨fun q h=>(by cases h),fun a h=>False.elim h⟩ (fun W' L' σ' H' τ' e ev o' al n l r'=>?_) (fun W' H' v s e ev o' al n rv=>?_)
    . subst e;exact q .non H' (same ev) .none
    . cases s with
      | dat d' =>
        obtain ⟨rfl,nl⟩:=e
        exact q v H' (same ev) (Dz.free rv nl)
      | own es =>
        obtain ⟨rfl,nl⟩:=e
        obtain ⟨a,vs,rfl,h1,h2,h3⟩:=rv
        exact q _ H' (same ev) (.lst (.inl ⟨h1.resolve_left (fun z=>by cases z),.inl h2⟩) (h3.free nl))
      | dt es=>cases e
      | un=>cases e
      | pu=>cases e
      | vw ds=>cases e
theorem okU {x qual:Str} {st:Stmt} {f:Addr} {fd:FuncData} {N ps:List Str} {k:Nat} {R:List Dat->(Dat->Prop)->Prop} (F:Fun K x qual st f fd) (S0:FnScope N ps (defScope st)) (len:∀ ds C,R ds C->ds.length + 1=ps.length)
    (body:∀ (cdv:Value) (A:Around) (outer:List Env) (s:Shared) (H:Hp) (E:XK),Room k (A.deeper (PyProof.Rows.envOfC qual (defScope st) s.heap.objs.size f cdv)) ->
      ∃ t,ZSs (cxOf CX0 P w K mg base N qual (defScope st) f cdv A outer s H E).nox (defBody st) t/\∀ (q:Addr) ds C,R ds C->S (some q) K t (.pu :: ds.map .dat ++ List.replicate (N.length - ps.length) .un) (fun _=>False) (fun s=>∃ d,C d/\Gives d s)):FnOk P w K mg base CX0 (k + 1) f fd ps (spU K R):=by
  refine F.okZ S0 (fun vs H Q E h=>?_) (fun cdv A outer s H vs Q E hr h=>?_)
  . obtain ⟨q,us,ds,C,rfl,z,_,r,_⟩:=h;rw [List.length_cons,z.len];exact len ds C r
  . obtain ⟨q0,us,ds,C,rfl,z,pu,r,q⟩:=h
    obtain ⟨t,hz,hs⟩:=body cdv A outer s H E hr
    refine ⟨t,hz,?_⟩
    have l:(V.ref q0 :: us).length=ps.length:=by rw [List.length_cons,z.len];exact len ds C r
    have r0:Rs (some q0) (fun a=>a=q0) K H [] (L2.start N (.ref q0 :: us)) (.pu :: ds.map .dat ++ List.replicate (N.length - ps.length) .un):=by
      unfold L2.start
      rw [l]
      exact .pu rfl (rs_start _ z fun a h=>h)
    have o0:Ok (some q0) (fun a=>a=q0) H:=⟨fun q h=>(by cases h;exact ⟨pu,rfl⟩),fun a h=>by obtain ⟨x,y,e⟩:=pu;exact ⟨_,by rw [h];exact e⟩⟩
    refine hs q0 ds C r (fun a=>a=q0) [] _ H _ r0 o0 (fun W' L' σ' H' τ' e ev o' al n l r'=>e.elim) (fun W' H' v s e ev o' al n rv=>?_)
    obtain ⟨d,c,e⟩:=e
    cases s with
    | dat d' =>
      obtain ⟨rfl,nl⟩:=e
      exact q v H' _ c ev (o'.pu q0 rfl).1 (Dz.free rv nl)
    | own es =>
      obtain ⟨rfl,nl⟩:=e
      obtain ⟨a,vs,rfl,h1,h2,h3⟩:=rv
      exact q _ H' _ c ev (o'.pu q0 rfl).1 (.lst (.inl ⟨h1.resolve_left (fun z=>by cases z),.inl h2⟩) (h3.free nl))
    | dt es=>cases e
    | un=>cases e
    | pu=>cases e
    | vw ds=>cases e
end
end D
end
section
namespace L2
open PySem PySem.Spec PyProof.Rows
open PySem.W (Dat)
noncomputable def tyD:Dat->String
  | .none => "NoneType"
  | .bool _ => "bool"
  | .int _ => "int"
  | .str _ => "str"
  | .tuple _ => "tuple"
  | .list _ => "list"
  | _ => "object"
noncomputable def kitD (K:PySem.W.Frag) (d:Dat) (T:String):Option Bool:=match d with
  | .bytes _=>Option.none
  | d=>PySem.W.kitOne K (.type (tyD d)) (.type T)
theorem call_isiD {X:Cx} {T:String}:CallR X (.builtin "isinstance") (fun xs H Q=>∃ x d b,xs=[x,.ty T]/\Is X.K H x d/\kitD X.K d T=some b/\Q (.bl b) H):=by
  intro pins s σ H xs us Q I r h
  obtain ⟨x,d,b,rfl,z,e,q⟩:=h
  cases r with
  | cons r1 r2 =>
    cases r2 with
    | cons r3 r4 =>
      cases r4
      cases (show _=Value.type T from r3)
      have fin:∀ tk,EP X pins σ Q (.bool b) { s with toks:=tk }:=fun tk=>⟨.bl b,H,I.tok tk,rfl,q⟩
      cases z with
      | none=>exact isinst_ok I r1 .non e fin
      | bool y=>exact isinst_ok I r1 (.bl y) e fin
      | int i=>exact isinst_ok I r1 (.int i) e fin
      | str y=>exact isinst_ok I r1 (.str y) e fin
      | @tup a ys ds h1 h2 =>
        cases (show _=Value.ref a from r1)
        obtain ⟨its,_,⟨o,h3,h4,_⟩,_⟩:=I.tuple h1
        exact PySem.W.kia_one PySem.W.kitx_tuple I.kIn ⟨o,h3,h4⟩ e (fun z=>nomatch z) fin
      | @lst a ys ds h1 h2 =>
        cases (show _=Value.ref a from r1)
        obtain ⟨its,_,⟨o,n,h3,h4,_⟩,_⟩:=I.list h1
        exact PySem.W.kia_one PySem.W.kitx_list I.kIn ⟨o,h3,h4⟩ e (fun z=>nomatch z) fin
      | exc h=>cases e
end L2
namespace D
open PySem L2 K0 Num
open PySem.W (Dat)
noncomputable abbrev tI (ns:List Int):Dat:=.tuple (ns.map .int)
section
variable {p:Option Addr} {K:PySem.W.Frag} {W:Addr->Prop} {L:List Addr} {σ:St} {H H0 H1:Hp} {τ:List Sl} {ta tb te:TE} {tas:TA} {v:V} {s:Sl} {t:TS} {ds:List Dat} {E':XK}
noncomputable def dOf:List Sl->Option (List Dat)
  | []=>some []
  | .dat d :: r=>match dOf r with
    | some ds=>some (d :: ds)
    | none=>none
  | _=>none
theorem dOf_eq:∀ {ss:List Sl} {ds:List Dat},dOf ss=some ds->ss=ds.map .dat
  | [],ds,h=>by cases h;rfl
  | .dat d :: r,ds,h=>by
    unfold dOf at h
    cases e:dOf r with
    | none=>rw [e] at h;cases h
    | some es=>rw [e] at h;cases h;rw [dOf_eq e];rfl
  | .un :: _,_,h=>by cases h
  | .pu :: _,_,h=>by cases h
  | .own _ :: _,_,h=>by cases h
  | .dt _ :: _,_,h=>by cases h
  | .vw _ :: _,_,h=>by cases h
theorem E1.tu {ss:List Sl} {ds:List Dat} (h:A1 p K tas τ ss) (e:dOf ss=some ds) (hz:ds.length<=sizeLine):E1 p K (tTup tas) τ (.dat (.tuple ds)):=E1.tup (dOf_eq e ▸ h) hz
theorem E1.li {ss:List Sl} {ds:List Dat} (h:A1 p K tas τ ss) (e:dOf ss=some ds) (hz:ds.length<=sizeLine):E1 p K (tLst tas) τ (.own ds):=E1.lst (dOf_eq e ▸ h) hz
theorem E1.isi {T:String} {s:Sl} {d:Dat} {b:Bool} (ha:E1 p K te τ s) (hd:datOf s=some d) (hb:∀ K,kitD K d T=some b):E1 p K (tCB (fun xs H Q=>∃ x d b,xs=[x,.ty T]/\Is K H x d/\kitD K d T=some b/\Q (.bl b) H) (tCons te (tCons (tC (.ty T)) tNil))) τ (.dat (.bool b)):=fun W L σ H Q r o q =>
  ha W L σ H _ r o fun v H1 s e e1 o1 rv=>by
    subst e
    exact ⟨v,d,b,rfl,rv.isD hd,hb K,q _ H1 _ rfl e1 o1 (.bool _)⟩
theorem tup_inv {N:Addr->Prop} {ns:List Int} {v:V} (h:Dz N K H v (tI ns)):∃ a,v = .ref a/\SqT K H a (ns.map V.int):=by
  cases h with
  | tup h1 h2=>have e:=h2.inv;subst e;exact ⟨_,rfl,h1⟩
theorem told {N:Addr->Prop} {ns:List Int} {r:Addr} (h:H r=some (.tup (ns.map V.int))):Dz N K H (.ref r) (tI ns):=.tup (SqT.of h) (Dzs.ints _)
theorem E.c1 {sp:Sp} {ns:List Int} {C:Sl->Prop} (ha:A1 p K tas τ [.dat (tI ns)]) (h:∀ (W:Addr->Prop) (H:Hp) (a:Addr) (Q:VK),SqT K H a (ns.map V.int)->(∀ v H' s,C s->Same H H'->(∀ W,Rv p W K H H' v s)->Q v H')->sp [.ref a] H Q E'):E p K (tCall sp [] E' tas) τ C:=fun W L σ H Q rs o q=>ha W L σ H _ rs o fun vs H1 ss e e1 o1 rv=>by
  subst e
  cases rv with
  | cons a t =>
    cases t
    obtain ⟨r,rfl,z⟩:=tup_inv a
    exact h W H1 r _ z fun v H' s c sm z=>q v H' s c (e1.trans (Ev.of sm)) (o1.same sm) ((z W).base e1 o1)
theorem E1.cCD {ns:List Int} (ha:A1 p K tas τ [.dat (tI ns)]):E1 p K (tCall (spCD K) [] E' tas) τ (.dat (.int (gcdN ns))) :=
  E.c1 ha fun W H a Q z q=>⟨a,ns,rfl,z,q _ H _ rfl (Same.refl _) fun W=>.int _⟩
theorem E.ci2 {sp:Sp} {a b:Int} {C:Sl->Prop} (ha:A1 p K tas τ [.dat (.int a),.dat (.int b)]) (h:∀ (H:Hp) (Q:VK),(∀ v H' s,C s->Same H H'->(∀ W,Rv p W K H H' v s)->Q v H')->sp [.int a,.int b] H Q E'):E p K (tCall sp [] E' tas) τ C:=fun W L σ H Q rs o q=>ha W L σ H _ rs o fun vs H1 ss e e1 o1 rv=>by
  subst e
  cases rv with
  | cons a t =>
    cases t with
    | cons b t =>
      cases t
      cases a.int_inv
      cases b.int_inv
      exact h H1 _ fun v H' s c sm z=>q v H' s c (e1.trans (Ev.of sm)) (o1.same sm) ((z W).base e1 o1)
theorem E1.cDiv {a b:Int} (ha:A1 p K tas τ [.dat (.int a),.dat (.int b)]):E1 p K (tCall spDiv [] E' tas) τ (.dat (.int ((Nat.gcd a.natAbs b.natAbs:Nat):Int))) :=
  E.ci2 ha fun H Q q=>⟨a,b,rfl,q _ H _ rfl (Same.refl _) fun W=>.int _⟩
theorem E1.cWhole {a:Int} (ha:A1 p K tas τ [.dat (.int a)]):E1 p K (tCall spWhole [] E' tas) τ (.dat (.bool true)):=fun W L σ H Q rs o q=>ha W L σ H _ rs o fun vs H1 ss e e1 o1 rv=>by
  subst e
  cases rv with
  | cons b t =>
    cases t
    cases b.int_inv
    exact ⟨a,rfl,q _ H1 _ rfl e1 o1 (.bool _)⟩
theorem sb_ev {q:Addr} {H H':Hp} (s:SB q H H') (pu:Pu H q):Ev (Pp (some q)) H H':=⟨fun b o n h=>s b o (fun z=>n (by rw [z];rfl)) h,by obtain ⟨x,y,e⟩:=pu;exact s.tm e⟩
noncomputable def EI (p:Option Addr) (K:PySem.W.Frag) (te:TE) (τ:List Sl) (P:Int->Prop):Prop:=E p K te τ (fun s=>∃ i,s = .dat (.int i)/\P i)
theorem EI.of {i:Int} {P:Int->Prop} (h:E1 p K te τ (.dat (.int i))) (hp:P i):EI p K te τ P:=E.mono h fun s e=>⟨i,e.symm,hp⟩
theorem EI.mono {P P':Int->Prop} (h:EI p K te τ P) (m:∀ i,P i->P' i):EI p K te τ P':=E.mono h fun s ⟨i,e,hp⟩=>⟨i,e,m i hp⟩
theorem EI.op {g:Int->Int->Int} {P Q:Int->Prop} (ha:EI p K ta τ P) (hb:EI p K tb τ Q):EI p K (tOp (rI0 fun i j=>.int (g i j)) ta tb) τ (fun k=>∃ i j,P i/\Q j/\k=g i j) :=
  E.op2 (B:=fun _=>True) ha (fun _ _=>hb) fun s t ⟨i,e1,h1⟩ ⟨j,e2,h2⟩ W H0 H x y R o0 o r1 r2 q=>by
    subst e1 e2
    exact ⟨i,j,r1.int_inv,r2.int_inv,q _ H _ ⟨_,rfl,i,j,h1,h2,rfl⟩ Ev.refl o (.int _)⟩
theorem EI.opC {g:Int->Int->Int} {Cn:Int->Int->Prop} {P Q:Int->Prop} (ha:EI p K ta τ P) (hb:EI p K tb τ Q) (hc:∀ i j,P i->Q j->Cn i j):EI p K (tOp (rI Cn fun i j=>.int (g i j)) ta tb) τ (fun k=>∃ i j,P i/\Q j/\k=g i j) :=
  E.op2 (B:=fun _=>True) ha (fun _ _=>hb) fun s t ⟨i,e1,h1⟩ ⟨j,e2,h2⟩ W H0 H x y R o0 o r1 r2 q=>by
    subst e1 e2
    exact ⟨i,j,r1.int_inv,r2.int_inv,hc i j h1 h2,q _ H _ ⟨_,rfl,i,j,h1,h2,rfl⟩ Ev.refl o (.int _)⟩
theorem EI.draw {m:Int} (ha:A1 p K tas τ [.pu,.dat (.int m)]) (h0:0 < m) (h1:m < 2 ^ 200):EI p K (tCall spDraw [] E' tas) τ (fun d=>0<=d/\d < m):=fun W L σ H Q rs o q=>ha W L σ H _ rs o fun vs H1 ss e e1 o1 rv=>by
  subst e
  cases rv with
  | cons a t =>
    cases t with
    | cons b t =>
      cases t
      obtain ⟨q0,rfl,rfl⟩:=a
      cases b.int_inv
      have pu:=(o1.pu q0 rfl).1
      refine ⟨q0,m,rfl,pu,h0,h1,fun d H' d0 d1 sb pu'=>?_⟩
      have ev:=sb_ev sb pu
      exact q _ H' _ ⟨d,rfl,d0,d1⟩ (e1.trans ev) (o1.ev ev fun q hq=>by cases hq;exact pu') (.int _)
end
section
variable {p:Option Addr} {K:PySem.W.Frag} {τ:List Sl} {te:TE} {ds:List Dat}
theorem lsz {α:Type} {l:List α} {n:Nat} (h:l.length=n) (hn:n<=sizeLine):l.length<=sizeLine:=h ▸ hn
theorem z1:1<=sizeLine:=by decide
theorem z2:2<=sizeLine:=by decide
theorem z3:3<=sizeLine:=by decide
theorem z4:4<=sizeLine:=by decide
theorem z0:0<=sizeLine:=by decide
end
end D
end
namespace D
open PySem L2 K0 Num
open PySem.W (Dat)
section
theorem map_set' {ns:List Int} {k:Nat} {m:Int}:(ns.map Dat.int).set k (.int m)=(ns.set k m).map Dat.int:=by rw [List.map_set]
theorem cpow10 {k:Int} (h0:0<=k) (h1:k<=1000000):CPow 10 k:=⟨h0,h1,by decide⟩
section
variable {p:Option Addr} {K:PySem.W.Frag} {τ:List Sl} {ta tb:TE}
theorem E1.neS {x y:Str} (ha:E1 p K ta τ (.dat (.str x))) (hb:E1 p K tb τ (.dat (.str y))):E1 p K (tOp rNe ta tb) τ (.dat (.bool (!decide (x=y)))):=E1.op2 ha hb fun W H0 H u v Q o0 o r1 r2 q=>by
  cases r1;cases r2
  refine ⟨rfl,q _ H Ev.refl o ?_⟩
  have e:decide (V.str x=V.str y)=decide (x=y):=by rw [decide_eq_decide];exact ⟨fun h=>by injection h,fun h=>by rw [h]⟩
  rw [e];exact .bool _
theorem E1.eqS {x y:Str} (ha:E1 p K ta τ (.dat (.str x))) (hb:E1 p K tb τ (.dat (.str y))):E1 p K (tOp rEq ta tb) τ (.dat (.bool (decide (x=y)))):=E1.op2 ha hb fun W H0 H u v Q o0 o r1 r2 q=>by
  cases r1;cases r2
  refine ⟨rfl,q _ H Ev.refl o ?_⟩
  have e:decide (V.str x=V.str y)=decide (x=y):=by rw [decide_eq_decide];exact ⟨fun h=>by injection h,fun h=>by rw [h]⟩
  rw [e];exact .bool _
end
theorem T1.eqn {p:Option Addr} {K:PySem.W.Frag} {τ:List Sl} {tt:TT} {b c:Bool} (h:T1 p K tt τ b) (e:b=c):T1 p K tt τ c:=e ▸ h
section
variable {p:Option Addr} {K:PySem.W.Frag} {τ:List Sl} {tt:TT}
theorem T1.notT (h:T1 p K tt τ true):T1 p K (tNot tt) τ false:=T1.not h
theorem T1.notF (h:T1 p K tt τ false):T1 p K (tNot tt) τ true:=T1.not h
theorem T1.neT {p:Option Addr} {K:PySem.W.Frag} {τ:List Sl} {ta tb:TE} {i j:Int} (ha:E1 p K ta τ (.dat (.int i))) (hb:E1 p K tb τ (.dat (.int j))) (e:i=j):T1 p K (tTest (tOp rNe ta tb)) τ false:=(T1.test (E1.ne ha hb)).eqn (by rw [decide_eq_true e];rfl)
end
end
section
section
variable {p:Option Addr} {K:PySem.W.Frag} {W:Addr->Prop} {L:List Addr} {σ:St} {H H0 H1 H2:Hp} {τ τ':List Sl} {ta tb te ti:TE} {tas:TA} {v:V} {s:Sl} {nx:List Sl->Prop} {rt:Sl->Prop} {t u:TS} {ds:List Dat} {E':XK} {wi:TI}
theorem T.cmpI {g:Int->Int->Bool} {P Q:Int->Prop} (ha:EI p K ta τ P) (hb:EI p K tb τ Q):T p K (tTest (tOp (rI0 fun i j=>.bl (g i j)) ta tb)) τ (fun b=>∃ i j,P i/\Q j/\b=g i j):=fun W L σ H R rs o q =>
  ha W L σ H _ rs o fun x H1 s ⟨i,e,h1⟩ e1 o1 rv1=>hb W L σ H1 _ (rs.ev e1 o.pw) o1 fun y H2 t ⟨j,e',h2⟩ e2 o2 rv2=>by
    subst e e'
    cases rv1.int_inv;cases rv2.int_inv
    exact ⟨i,j,rfl,rfl,_,rfl,q _ H2 ⟨i,j,h1,h2,rfl⟩ (e1.trans e2) o2⟩
theorem EI.lit {i:Int}:EI p K (tC (.int i)) τ (fun k=>k=i):=EI.of E1.int rfl
theorem EI.pick {ms:List Int} {P:Int->Prop} (hl:E1 p K ta τ (.vw (ms.map .int))) (hd:EI p K tb τ P) (hp:∀ d,P d->0<=d/\d < (ms.length:Int)):EI p K (tOp (rIxL K) ta tb) τ (fun m=>m ∈ ms) :=
  E.op2 (B:=fun _=>True) (A:=fun x=>(Sl.vw (ms.map .int))=x) hl (fun _ _=>hd) fun s t e ⟨d,e2,h2⟩ W H0 H x y R o0 o r1 r2 q=>by
    subst e e2
    cases r2.int_inv
    obtain ⟨a,vs,rfl,h1,hz⟩:=r1
    have e:=hz.inv
    subst e
    obtain ⟨d0,d1⟩:=hp d h2
    obtain ⟨m,hm,e⟩:=at_draw d0 d1
    exact ⟨a,_,d,_,rfl,rfl,h1.sq,e,q _ H _ ⟨m,rfl,hm⟩ Ev.refl o (.int _)⟩
theorem E.pick {ms:List Dat} {P:Int->Prop} (hl:E1 p K ta τ (.vw ms)) (hd:EI p K tb τ P) (hp:∀ d,P d->0<=d/\d < (ms.length:Int)):E p K (tOp (rIxL K) ta tb) τ (fun s=>∃ d,s = .dat d/\d ∈ ms) :=
  E.op2 (B:=fun _=>True) (A:=fun x=>(Sl.vw ms)=x) hl (fun _ _=>hd) fun s t e ⟨d,e2,h2⟩ W H0 H x y R o0 o r1 r2 q=>by
    subst e e2
    cases r2.int_inv
    obtain ⟨a,vs,rfl,h1,hz⟩:=r1
    obtain ⟨d0,d1⟩:=hp d h2
    obtain ⟨j,rfl⟩:=Int.eq_ofNat_of_zero_le d0
    have hj:j < ms.length:=by omega
    obtain ⟨x,e1,e2⟩:=hz.get (i:=j) (e:=ms[j]) (by simp [hj])
    exact ⟨a,_,j,_,rfl,rfl,h1.sq,atI_nat e1,q _ H _ ⟨ms[j],rfl,List.getElem_mem hj⟩ Ev.refl o e2⟩
theorem ints_of {P:Int->Prop}:∀ {es:List Dat},(∀ (i:Nat) (e:Dat),es[i]?=some e->∃ n,e = .int n/\P n)->∃ ns:List Int,es=ns.map .int/\∀ n ∈ ns,P n
  | [],_=>⟨[],rfl,fun n hn=>by cases hn⟩
  | e :: r,h=>by
    obtain ⟨n,rfl,hn⟩:=h 0 e rfl
    obtain ⟨ns,rfl,hs⟩:=ints_of (es:=r) fun i e he=>h (i + 1) e (by simpa using he)
    exact ⟨n :: ns,rfl,fun m hm=>(List.mem_cons.mp hm).elim (fun z=>by rw [z];exact hn) (hs m)⟩
noncomputable def EL (p:Option Addr) (K:PySem.W.Frag) (te:TE) (τ:List Sl) (n:Nat) (P:Int->Prop):Prop:=E p K te τ (fun s=>∃ ns:List Int,s = .own (ns.map .int)/\ns.length=n/\∀ m ∈ ns,P m)
theorem EL.comp {P:Int->Prop} {n:Nat} (hw:Wk p K wi τ ds) (hn:ds.length=n) (turn:∀ d,d ∈ ds->EI p K te (.dat d :: τ) P) (hz:n<=sizeLine):EL p K (tCompB 1 wi (gName 0) tAll te) τ n P:=by
  refine E.mono (E.compC (Cd:=fun _ e=>∃ i,e = .int i/\P i) hw (fun d hd=>E.mono (turn d hd) fun s ⟨i,e,hp⟩=>⟨_,e,i,rfl,hp⟩) (by omega)) fun s ⟨es,e,l,h⟩=>?_
  obtain ⟨ns,rfl,hs⟩:=ints_of (P:=P) (es:=es) fun i e he=>let ⟨d,_,h⟩:=h i e he;h
  exact ⟨ns,e,by rw [List.length_map] at l;omega,hs⟩
theorem S.setit {i:Nat} {C:Dat->Prop} {P:Int->Prop} (h:τ[i]?=some (.own ds)) (he:E p K te τ (fun s=>∃ d,s = .dat d/\noL d=true/\C d)) (hi:EI p K ti τ P) (hP:∀ k,P k->0<=k/\k < (ds.length:Int)) (m:∀ d (k:Int),C d->P k->nx (τ.set i (.own (ds.set k.toNat d)))):S p K (tAsg te (gSub (tVar i) ti rSetL)) τ nx rt:=fun W L σ H D r o q1 q2 =>
  he W L σ H _ r o fun v H1 s ⟨d,e0,nl,cd⟩ e1 o1 rv=>by
    subst e0
    have r1:=r.ev e1 o.pw
    obtain ⟨a,vs,e,w,n,l,h1,z⟩:=r1.get_own h
    refine ⟨_,e,hi W L σ H1 _ r1 o1 fun y H2 t ⟨k,e3,hk⟩ e2 o2 rv2=>?_⟩
    subst e3
    cases rv2.int_inv
    have r2:=r1.ev e2 o1.pw
    obtain ⟨a',vs',e',w',n',l',h1',z'⟩:=r2.get_own h
    rw [e] at e';cases e'
    obtain ⟨k0,k1⟩:=hP k hk
    have rv':Dz (fun a=>¬ W a) K H2 v d:=Dz.ev e2 o1.nw rv
    have ev:Ev (fun b=>b=a) H2 (upd H2 a (.lst (vs'.set k.toNat v))):=⟨fun b o n h=>by rw [upd_ne n];exact h,Tm.lst h1' _⟩
    have nw:∀ b,¬ W b->¬ b=a:=fun b n z=>n (z ▸ w)
    refine ⟨a,vs',k,k.toNat,rfl,rfl,h1',ixN_of k0 (by rw [z'.len];exact k1),?_⟩
    have alw:∀ b,W b->∃ ys,upd H2 a (.lst (vs'.set k.toNat v)) b=some ys:=fun b hb=>by
      by_cases zz:b=a
      . subst zz;exact ⟨_,upd_same⟩
      . rw [upd_ne zz];exact o2.al b hb
    refine q1 W L σ _ _ (m d k cd hk) (((e1.trans e2).ofP o).trans (ev.mono fun b hb=>hb ▸ w)) ⟨fun q hq=>⟨?_,o2.pw q hq⟩,alw⟩ alw (fun _ h=>.inl h) (fun _ h=>.inl h) (Rs.chgO w h1' ((z'.set k.toNat rv').ev ev nw) r2 h e)
    obtain ⟨x,y,u⟩:=(o2.pu q hq).1
    exact ⟨x,y,by rw [upd_ne (fun z=>n' (by rw [<- z];exact hq))];exact u⟩
theorem A.one {C:Sl->Prop} (h:E p K te τ C):A p K (tCons te tNil) τ (fun ss=>∃ s,ss=[s]/\C s):=A.cons (C2:=fun _ ss=>[]=ss) h (fun _ _=>A1.nil) fun s ss h1 h2=>⟨s,by rw [<- h2],h1⟩
theorem E.callC {R:List Dat->Dat->Prop} {C:List Sl->Prop} {d:Dat} (ha:A p K tas τ C) (hr:∀ ss,C ss->∃ ds,datsOf ss=some ds/\R ds d):E1 p K (tCall (spP K R) [] E' tas) τ (.dat d):=fun W L σ H Q rs o q=>ha W L σ H _ rs o fun vs H1 ss c e1 o1 rv=>by
  obtain ⟨ds,hd,hr⟩:=hr ss c
  rw [List.append_nil]
  exact ⟨ds,d,rv.dz hd,hr,fun v H' s z=>q v H' _ rfl (e1.trans (Ev.of s)) (o1.same s) (z.mono fun a ha=>o1.fresh ha)⟩
noncomputable def forget:Sl->Sl
  | .pu=>.un
  | s=>s
theorem Rs.forget {q:Addr} (r:Rs (some q) W K H L σ τ):Rs none W K H L σ (τ.map forget):=by
  induction r with
  | nil=>exact .nil
  | un _ ih=>exact .un ih
  | dat h _ ih=>exact .dat h ih
  | pu h _ ih=>exact .un ih
  | own h1 h2 h3 h4 h5 _ ih=>exact .own h1 (fun z=>by cases z) h3 h4 h5 ih
  | dt h1 h2 h3 h4 _ ih=>exact .dt h1 (fun b hb z=>by cases z) h3 h4 ih
theorem Rs.learn {q:Addr} {i:Nat} (r:Rs none W K H L σ τ) (nq:H q=none) (hw:∀ a,W a->∃ ys,H a=some ys):Rs (some q) (fun a=>W a\/a=q) K H L σ τ:=by
  have n:∀ a,(W a\/a=q)->¬ W a->H a=Option.none:=fun a h z=>(h.resolve_left z) ▸ nq
  induction r with
  | nil=>exact .nil
  | un _ ih=>exact .un ih
  | dat h _ ih =>
    refine .dat ?_ ih
    cases Dzs.wide (W':=fun a=>W a\/a=q) (.cons h .nil) n with
    | cons a _=>exact a
  | pu h _ ih=>cases h
  | own h1 h2 h3 h4 h5 _ ih=>exact .own (.inl h1) (fun z=>by cases z;rw [nq] at h4;cases h4) h3 h4 (Dzs.wide h5 n) ih
  | dt h1 h2 h3 h4 _ ih=>exact .dt (fun b hb=>.inl (h1 b hb)) (fun b hb z=>by cases z;obtain ⟨o,ho⟩:=Own.al _ h4 _ hb;rw [nq] at ho;cases ho) h3 (Own.wide _ h4 fun a o na ha wa=>by rw [n a wa na] at ha;cases ha) ih
theorem S.withPurse {sp:Sp} {ss:List Sl} {i:Nat} (ha:A1 none K tas τ ss) (hs:∀ (W:Addr->Prop) (H0 H:Hp) (vs:List V) (Q:VK),Rvs none W K H0 H vs ss->(∀ (q:Addr) (H':Hp),H q=none->Same H H'->Pu H' q->Q (.ref q) H')->sp (vs ++ []) H Q E')
    (m:∀ q,S (some q) K u (τ.set i .pu) (fun τ'=>nx (τ'.map forget)) rt) (hrt:∀ s,rt s->∃ d,s = .dat d):S none K (tSeq (tAsg (tCall sp [] E' tas) (gName i)) u) τ nx rt:=fun W L σ H D r o q1 q2 =>
  ha W L σ H _ r o fun vs H1 ss e e1 o1 rv=>by
    subst e
    refine hs W H H1 vs _ rv fun q H2 hq s2 pu=>?_
    have r1:=r.ev e1 o.pw
    have e2:Ev (Pp (some q)) H1 H2:=Ev.of s2
    have hq0:H q=none:=o1.back e1 hq
    have r2:Rs (some q) (fun a=>W a\/a=q) K H2 L σ τ:=(Rs.learn (i:=0) r1 hq o1.al).ev e2 fun a ha=>by cases ha;exact .inr rfl
    obtain ⟨L',l,r3⟩:=r2.set (v:=.ref q) (s:=.pu) (.inr (.inr ⟨rfl,q,rfl,rfl⟩)) i
    have o2:Ok (some q) (fun a=>W a\/a=q) H2:=⟨fun a ha=>by cases ha;exact ⟨pu,.inr rfl⟩,fun a ha=>by
      rcases ha with ha | rfl
      . obtain ⟨ys,h⟩:=o1.al a ha;exact ⟨ys,s2 _ _ h⟩
      . obtain ⟨x,y,h⟩:=pu;exact ⟨_,h⟩⟩
    have e02:Ev W H H2:=(e1.ofP o).trans (Ev.of s2)
    have n1:∀ a,(W a\/a=q)->W a\/H a=none:=fun a ha=>ha.imp id fun z=>by rw [z];exact hq0
    have al2:∀ a,W a->∃ ys,H2 a=some ys:=fun a ha=>let ⟨ys,h⟩:=o1.al a ha;⟨ys,s2 _ _ h⟩
    have hn:∀ a,H2 a=none->H a=none:=fun a ha=>e02.none al2 ha
    refine m q _ L' _ H2 _ r3 o2 (fun W4 L4 σ4 H4 τ4 c e4 o4 w4 n4 l4 r4=>?_) (fun W4 H4 v s c e4 o4 w4 n4 rv=>?_)
    . exact q1 W4 L4 σ4 H4 _ c (e02.chain e4 n1) ⟨fun q h=>(by cases h),o4.al⟩ (fun a ha=>w4 a (.inl ha)) (fun a ha=>(n4 a ha).elim (n1 a) fun z=>.inr (hn a z)) (fun a ha=>(l4 a ha).elim (fun z=>.inl (l a z)) fun z=>.inr (hn a z)) r4.forget
    . obtain ⟨d,rfl⟩:=hrt s c
      exact q2 W4 H4 v _ c (e02.chain e4 n1) ⟨fun q h=>(by cases h),o4.al⟩ (fun a ha=>w4 a (.inl ha)) (fun a ha=>(n4 a ha).elim (n1 a) fun z=>.inr (hn a z)) rv
theorem S.purse2 {i:Nat} {c:Int} (ha:A1 none K tas τ [.dat (.int c)]) (m:∀ q,S (some q) K u (τ.set i .pu) (fun τ'=>nx (τ'.map forget)) rt) (hrt:∀ s,rt s->∃ d,s = .dat d):S none K (tSeq (tAsg (tCall spPurse2 [] E' tas) (gName i)) u) τ nx rt :=
  S.withPurse ha (fun W H0 H vs Q rv q=>by
    cases rv with
    | cons a t =>
      cases t
      cases a.int_inv
      exact ⟨c,rfl,q⟩) m hrt
variable {P:Program} {w:World} {mg:Str->Option Value} {base:Heap}
theorem okL {x qual:Str} {st:Stmt} {f:Addr} {fd:FuncData} {N ps:List Str} {k:Nat} (F:Fun K x qual st f fd) (S0:FnScope N ps (defScope st)) (len:ps.length=1)
    (body:∀ (cdv:Value) (A:Around) (outer:List Env) (s:Shared) (H:Hp) (E:XK),Room k (A.deeper (PyProof.Rows.envOfC qual (defScope st) s.heap.objs.size f cdv)) ->
      ∃ t,ZSs (cxOf CX0 P w K mg base N qual (defScope st) f cdv A outer s H E).nox (defBody st) t/\∀ ns:List Int,ns.length<=63->(∀ v ∈ ns,Builtin.Int.intBits v<=2 ^ 20)->S none K t (.dat (.list (ns.map .int)) :: List.replicate (N.length - 1) .un) (fun _=>False) (fun s=>s = .dat (.bool true))):FnOk P w K mg base CX0 (k + 1) f fd ps (spLaw K):=by
  refine F.okZ S0 (fun vs H Q E h=>?_) (fun cdv A outer s H vs Q E hr h=>?_)
  . obtain ⟨a,ns,rfl,_⟩:=h;rw [len];rfl
  . obtain ⟨a,ns,rfl,hS,hl,hb,q⟩:=h
    obtain ⟨t,hz,hs⟩:=body cdv A outer s H E hr
    refine ⟨t,hz,?_⟩
    have z:Dzs (fun _=>True) K H [.ref a] [.list (ns.map .int)]:=.cons (.lst (by
      rcases hS with h | h
      . exact .inl ⟨trivial,h⟩
      . exact .inr (.inr h)) (Dzs.ints _)) .nil
    have r0:Rs none (fun _=>False) K H [] (L2.start N [.ref a]) (.dat (.list (ns.map .int)) :: List.replicate (N.length - 1) .un):=by
      unfold L2.start
      exact rs_start _ z fun a _ h=>h
    refine hs ns hl hb (fun _=>False) [] _ H _ r0 ⟨fun q h=>(by cases h),fun a h=>False.elim h⟩ (fun W' L' σ' H' τ' e ev o' al n l r'=>e.elim) (fun W' H' v s e ev o' al n rv=>?_)
    subst e
    cases (Rv.bl_inv (p:=none) (H0:=H) rv)
    exact q H'
end
end
end D
section
namespace D
open PySem L2 K0
open PySem.W (Dat)
section
variable {p:Option Addr} {K:PySem.W.Frag} {W:Addr->Prop} {L:List Addr} {σ:St} {H H1 H2:Hp} {τ:List Sl} {te:TE} {tas:TA} {v:V} {s:Sl} {u:TS} {ds:List Dat} {wi:TI}
theorem E.compX {no:Nat} {g:TG} (hw:Wk p K wi τ ds) (own:Dat->List Sl) (hg:∀ d,d ∈ ds->Gc p K no g d (own d)) (Cd:Nat->Dat->Prop)
    (turn:∀ (i:Nat) d,ds[i]?=some d->E p K te (own d ++ τ) (fun s=>∃ e,s = .dat e/\Cd i e)) (hz:ds.length<=sizeLine) :
    E p K (tCompB no wi g tAll te) τ (fun s=>∃ es,s = .own es/\es.length=ds.length/\∀ (i:Nat) (e:Dat),es[i]?=some e->Cd i e):=fun W L σ H Q r o q=>by
  refine hw W L σ H _ r o fun J H1 e1 o1 jd=>?_
  intro D hD
  have nD:=o1.fresh hD
  have pD:=o1.np hD
  have r1:=r.ev e1 o.pw
  have r1':Rs p (fun b=>W b\/b=D) K H1 L σ τ:=r1.wide (fun _ h=>.inl h) fun b hb nb=>(hb.resolve_left nb) ▸ hD
  refine ⟨fun i m σ' H'=>m=ds.length - i/\i<=ds.length/\(∃ ρ,ρ.length=no/\σ'=ρ ++ σ)/\Ev (fun a=>Pp p a\/a=D) H1 H'/\(∀ q,p=some q->Pu H' q)/\∃ (vs:List V) (es:List Dat),H' D=some (.lst vs)/\Dzs (fun b=>¬ (W b\/b=D)) K H' vs es/\es.length=i/\∀ (j:Nat) (e:Dat),es[j]?=some e->Cd j e,
    ⟨ds.length,by omega,Nat.zero_le _,⟨List.replicate no none,by simp,rfl⟩,⟨fun b u nb h=>by rw [upd_ne (fun z=>nb (.inr z))];exact h,(Same.new hD _).tm⟩,fun q hq=>(o1.pu q hq).1.same (Same.new hD _),[],[],upd_same,.nil,rfl,fun j e h=>by simp at h⟩,?_⟩
  rintro i m σ' H' ⟨rfl,hi,⟨ρ,lρ,rfl⟩,ev,pu,vs,es,hv,zv,le,hes⟩
  have evW:Ev W H1 H':=⟨fun b u nb h=>ev.keep b u (fun z=>z.elim (fun y=>nb (o1.pw b y)) fun y=>by rw [y] at h;rw [hD] at h;cases h) h,ev.tm⟩
  have ok':Ok p (fun b=>W b\/b=D) H':=⟨fun q hq=>⟨pu q hq,.inl (o1.pw q hq)⟩,fun b hb=>by
    by_cases z:b=D
    . subst z;exact ⟨_,hv⟩
    . by_cases y:p=some b
      . obtain ⟨x1,x2,h⟩:=pu b y;exact ⟨_,h⟩
      . obtain ⟨ys,h⟩:=o1.al b (hb.resolve_right z)
        exact ⟨ys,ev.keep _ _ (fun w=>w.elim y z) h⟩⟩
  have evD:Ev (fun b=>W b\/b=D) H1 H':=evW.mono fun _ h=>.inl h
  have rs':Rs p (fun b=>W b\/b=D) K H' L σ τ:=by
    refine Rs.evx r1' ev (fun a ha z=>?_) fun a u ha np z=>?_
    . rcases z with z | z
      . exact ha (.inl (o1.pw a z))
      . exact ha (.inr z)
    . rcases z with z | z
      . exact np z
      . rw [z,hD] at ha;cases ha
  obtain ⟨stop,each⟩:=jd (fun b=>W b\/b=D) H' evW fun a ha=>ha.imp id fun z=>by rw [z];exact hD
  have o1f:H D=none:=o1.back e1 hD
  by_cases hlt:i < ds.length
  . have hd:ds[i]?=some ds[i]:=by simp [hlt]
    have hm:ds[i] ∈ ds:=List.getElem_mem hlt
    obtain ⟨go,yl⟩:=each i _ hd
    refine .inr ⟨go,fun x H2 y=>?_⟩
    obtain ⟨s2,z2⟩:=yl x H2 y
    have ok2:=ok'.same s2
    refine hg _ hm _ L ρ σ τ H2 x _ lρ (rs'.ev (Ev.of s2) ok'.pw) z2 fun ρ' lρ' rs2=>?_
    have hv4:H2 D=some (.lst vs):=s2 _ _ hv
    have zv4:Dzs (fun b=>¬ (W b\/b=D)) K H2 vs es:=zv.ev (W:=fun _=>False) (Ev.of s2) fun _ _ h=>h
    show tAll _ _ _
    unfold tAll
    dsimp only
    rw [if_pos rfl]
    refine turn i _ hd _ L _ H2 _ rs2 ok2 fun v H5 s c e5 o5 rv=>?_
    obtain ⟨e,rfl,ce⟩:=c
    have hv5:H5 D=some (.lst vs):=e5.keep _ _ pD hv4
    have zv5:=zv4.ev e5 fun a ha z=>ha (.inl (o1.pw a z))
    have ll:vs.length<=i:=by rw [zv.len,le];exact Nat.le_refl _
    have evu:Ev (fun b=>b=D) H5 (upd H5 D (.lst (vs ++ [v]))):=⟨fun b o n h=>by rw [upd_ne n];exact h,Tm.lst hv5 _⟩
    have pvH:Ev (fun a=>Pp p a\/a=D) H' H2:=Ev.of s2
    refine ⟨vs,hv5,by omega,ds.length - (i + 1),by omega,rfl,hlt,⟨ρ',lρ',rfl⟩,(ev.trans (pvH.trans (e5.mono fun _ h=>.inl h))).trans (evu.mono fun _ h=>.inr h),fun q hq=>?_,vs ++ [v],es ++ [e],upd_same,(zv5.app (.cons rv .nil)).ev evu fun b hb z=>hb (.inr z),?_,fun j f hj=>?_⟩
    . obtain ⟨x1,x2,h⟩:=(o5.pu q hq).1
      exact ⟨x1,x2,by rw [upd_ne (fun z=>pD (by rw [<- z];exact hq))];exact h⟩
    . rw [List.length_append,le];rfl
    . by_cases hj2:j < es.length
      . rw [List.getElem?_append_left hj2] at hj
        exact hes j f hj
      . rw [List.getElem?_append_right (by omega)] at hj
        have ej:j - es.length=0:=by
          have:=(List.getElem?_eq_some_iff.mp hj).1
          simp at this;omega
        rw [ej] at hj
        cases hj
        have:j=i:=by omega
        rw [this];exact ce
  . have e:i=ds.length:=by omega
    subst e
    have evP:Ev (Pp p) H1 H':=⟨fun b u nb h=>ev.keep b u (fun z=>z.elim nb fun y=>by rw [y] at h;rw [hD] at h;cases h) h,ev.tm⟩
    refine .inl ⟨stop,q _ H' _ ⟨es,rfl,le,hes⟩ (e1.trans evP) (o1.ev evP pu) ⟨D,vs,rfl,o1f,hv,zv.mono fun a ha z=>ha (.inl z)⟩⟩
theorem ext_of {es fs:List Dat} (l:es.length=fs.length) (h:∀ (i:Nat) (e:Dat),es[i]?=some e->fs[i]?=some e):es=fs:=by
  apply List.ext_getElem?
  intro i
  cases q:es[i]? with
  | none =>
    have:=List.getElem?_eq_none_iff.mp q
    rw [List.getElem?_eq_none (by omega)]
  | some e=>rw [h i e q]
theorem E1.compX {no:Nat} {g:TG} (fs:List Dat) (hw:Wk p K wi τ ds) (own:Dat->List Sl) (hg:∀ d,d ∈ ds->Gc p K no g d (own d)) (hl:fs.length=ds.length) (turn:∀ (i:Nat) d f,ds[i]?=some d->fs[i]?=some f->E1 p K te (own d ++ τ) (.dat f)) (hz:ds.length<=sizeLine):E1 p K (tCompB no wi g tAll te) τ (.own fs):=by
  refine E.mono (E.compX hw own hg (fun i e=>fs[i]?=some e) (fun i d hd=>?_) hz) fun s ⟨es,e,l,h⟩=>?_
  . have hi:i < fs.length:=by rw [hl];exact (List.getElem?_eq_some_iff.mp hd).1
    have hf:fs[i]?=some fs[i]:=by simp [hi]
    exact E.mono (turn i d _ hd hf) fun s hs=>⟨_,hs.symm,hf⟩
  . rw [e,ext_of (by rw [l,hl]) h]
theorem rangeD_3:rangeD 0 3=[.int 0,.int 1,.int 2]:=rfl
theorem Wk.r3 (h:A1 p K tas τ [.dat (.int 3)]):Wk p K (iRng1 tas) τ [.int 0,.int 1,.int 2]:=rangeD_3 ▸ Wk.rng h rfl
end
end D
end
namespace D
open PySem L2 K0 Num
open PySem.W (Dat)
section
noncomputable def qf (x:Rat):List Int:=[x.num,(x.den:Int)]
theorem qf_val (x:Rat):qv x.num x.den=x:=by
  unfold qv
  rw [<- Rat.divInt_eq_div,Rat.num_divInt_den]
theorem bt_some (n:Int):∃ k,Bt n k:=⟨n.natAbs,by unfold Bt;exact Nat.le_of_lt Nat.lt_two_pow_self⟩
theorem lo_qf (x:Rat) {k:Nat} (h1:Bt x.num k) (h2:Bt (x.den:Int) k):Lo k x.num x.den x:=⟨by have:=x.den_pos;omega,by rw [Int.natAbs_natCast];exact x.reduced,h1,h2,qf_val x⟩
theorem lo_qf' (x:Rat):∃ k,Lo k x.num x.den x:=by
  obtain ⟨k1,h1⟩:=bt_some x.num
  obtain ⟨k2,h2⟩:=bt_some (x.den:Int)
  exact ⟨max k1 k2,lo_qf x (h1.up (Nat.le_max_left _ _)) (h2.up (Nat.le_max_right _ _))⟩
theorem fr_qf {t b:Int} (hb:0 < b):fr t b=qf (qv t b):=by
  obtain ⟨t',b',e⟩:=fr_two t b
  obtain ⟨k1,h1⟩:=bt_some t
  obtain ⟨k2,h2⟩:=bt_some b
  have l:=Lo.of hb (h1.up (Nat.le_max_left k1 k2)) (h2.up (Nat.le_max_right k1 k2)) e rfl
  obtain ⟨k,l2⟩:=lo_qf' (qv t b)
  rw [e]
  exact l.eq l2
theorem lo_is {k:Nat} {t b:Int} {x:Rat} (h:Lo k t b x):[t,b]=qf x:=by
  obtain ⟨k',l⟩:=lo_qf' x
  exact h.eq l
noncomputable def ptQ (x y z:Rat):Dat:=ptD (qf x) (qf y) (qf z)
theorem lo_over {c:Nat} {T C:Int} {x:Rat} (h0:0 < C) (hC:Bt C c) (hT:Bt T c) (e:qv T C=x):Lo c x.num x.den x:=by
  obtain ⟨t,b,e2⟩:=fr_two T C
  have l:=Lo.of h0 hT hC e2 e
  have:=lo_is l
  injection this with h1 h2
  injection h2 with h2 _
  rw [h1,h2] at l;exact l
section
variable {W:Addr->Prop}
end
noncomputable def sa (x y z a b c e:Int):Option (List Int):=if cr x y z b c e=[0,0,0] then some (if x=0 then (if y=0 then ps e (a * z) else ps c (a * y)) else ps b (a * x)) else none
end
section
noncomputable def isNo:Dat->Bool
  | .none=>true
  | _=>false
section
variable {p:Option Addr} {K:PySem.W.Frag} {τ:List Sl} {ta tb:TE}
theorem E1.isNo {d:Dat} (ha:E1 p K ta τ (.dat d)) (hb:E1 p K tb τ (.dat .none)):E1 p K (tOp (fun x y H Q=>y = .non/\Q (.bl (decide (x = .non))) H) ta tb) τ (.dat (.bool (D.isNo d))) :=
  E1.op2 ha hb fun W H0 H x y Q o0 o r1 r2 q=>by
    refine ⟨r2.non_inv,q _ H Ev.refl o ?_⟩
    cases r1 <;> exact .bool _
end
end
section
noncomputable def SmD:Nat->Dat->Prop
  | 0,_=>False
  | n + 1,d=>match d with
    | .int _=>True
    | .none=>True
    | .tuple ds=>ds.length<=1000/\∀ e ∈ ds,SmD n e
    | _=>False
noncomputable def RSm (n:Nat):List Dat->Dat->Prop:=fun ds d=>∃ x,ds=[x,x]/\SmD n x/\d = .bool true
theorem SmD.ints {n:Nat} {ns:List Int} (h:ns.length<=1000):SmD (n + 2) (tI ns):=⟨by rw [List.length_map];exact h,fun e he=>by
  obtain ⟨m,_,rfl⟩:=List.mem_map.mp he
  trivial⟩
section
variable {p:Option Addr} {K:PySem.W.Frag} {τ:List Sl} {ta tb te:TE}
theorem E1.eqB {a b:Bool} (ha:E1 p K ta τ (.dat (.bool a))) (hb:E1 p K tb τ (.dat (.bool b))):E1 p K (tOp rEq ta tb) τ (.dat (.bool (decide (a=b)))):=E1.op2 ha hb fun W H0 H u v Q o0 o r1 r2 q=>by
  cases r1.bl_inv;cases r2.bl_inv
  refine ⟨rfl,q _ H Ev.refl o ?_⟩
  have e:decide (V.bl a=V.bl b)=decide (a=b):=by rw [decide_eq_decide];exact ⟨fun h=>by injection h,fun h=>by rw [h]⟩
  rw [e];exact .bool _
theorem E1.neB {a b:Bool} (ha:E1 p K ta τ (.dat (.bool a))) (hb:E1 p K tb τ (.dat (.bool b))):E1 p K (tOp rNe ta tb) τ (.dat (.bool (!decide (a=b)))):=E1.op2 ha hb fun W H0 H u v Q o0 o r1 r2 q=>by
  cases r1.bl_inv;cases r2.bl_inv
  refine ⟨rfl,q _ H Ev.refl o ?_⟩
  have e:decide (V.bl a=V.bl b)=decide (a=b):=by rw [decide_eq_decide];exact ⟨fun h=>by injection h,fun h=>by rw [h]⟩
  rw [e];exact .bool _
theorem E1.eqNN (ha:E1 p K ta τ (.dat .none)) (hb:E1 p K tb τ (.dat .none)):E1 p K (tOp rEq ta tb) τ (.dat (.bool true)):=E1.op2 ha hb fun W H0 H u v Q o0 o r1 r2 q=>by
  cases r1.non_inv;cases r2.non_inv
  refine ⟨rfl,q _ H Ev.refl o ?_⟩
  rw [decide_eq_true rfl];exact .bool _
theorem E1.isi' {T:String} {d:Dat} (b':Bool) (ha:E1 p K te τ (.dat d)) (hb:∀ K,kitD K d T=some b'):E1 p K (tCB (fun xs H Q=>∃ x d b,xs=[x,.ty T]/\Is K H x d/\kitD K d T=some b/\Q (.bl b) H) (tCons te (tCons (tC (.ty T)) tNil))) τ (.dat (.bool b')):=E1.isi ha rfl hb
end
end
section
end
theorem cutA_to {α:Type} {xs:List α} {j:Nat}:cutA xs none (some (j:Int))=xs.take j:=by
  unfold cutA
  rw [HT.sIx_none,HT.sIx_nat,List.drop_zero,Nat.sub_zero]
  by_cases h:j<=xs.length
  . rw [Nat.min_eq_left h]
  . rw [Nat.min_eq_right (by omega),List.take_length,List.take_of_length_le (by omega)]
theorem mem_cells {sc:List Int} {ms:List Int} {j:Nat} {d:Dat} (h:d ∈ ms.map .int ++ cutA (sc.map .int) none (some (j:Int))):∃ c:Int,d = .int c:=by
  rw [cutA_to, <- List.map_take, <- List.map_append] at h
  obtain ⟨c,_,rfl⟩:=List.mem_map.mp h
  exact ⟨c,rfl⟩
section
noncomputable abbrev Q1 (a b d e:Int) (x y z:Rat):Rat:=K0.R1 a b d e x y z / N4 a b d e
noncomputable abbrev Q2 (a b d e:Int) (x y z:Rat):Rat:=K0.R2 a b d e x y z / N4 a b d e
noncomputable abbrev Q3 (a b d e:Int) (x y z:Rat):Rat:=K0.R3 a b d e x y z / N4 a b d e
section
variable {W:Addr->Prop}
end
end
noncomputable def MM (p q r x y z w v:Rat):Rat:=v - 2 * (p * x + q * y + r * z) / (p * p + q * q + r * r) * w
noncomputable abbrev M1 (p q r:Int) (x y z:Rat):Rat:=MM p q r x y z p x
end D
section
namespace D
open PySem PySem.Spec PyProof.Rows L2 K0 Num
open PySem.W (Dat)
noncomputable def gLst (K:PySem.W.Frag) (n:Nat) (t:TGs):TG:=fun v σ H Q=>∃ a xs,v = .ref a/\SqL K H a xs/\xs.length=n/\t xs σ H Q
section
variable {X:Cx} {pos:Pos}
theorem pg_lst {es:List Expr} {k:Nat} {t:TGs} {n:Nat} (hc:X.calm=true) (h:PGs X es t)
    (hn:(assignEach es X.env).length=n:=by rfl) (hst:(assignEach es X.env).findIdx? (·.1)=none:=by rfl):PG X (.Tuple es k pos) (gLst X.K n t):=by
  intro pins s σ H v u Q I r hw
  obtain ⟨a,xs,e1,hq,hl,hw⟩:=hw
  subst e1
  cases r
  obtain ⟨its,rv,⟨o,m,h1,h2,h3,h4⟩,hz⟩:=I.list hq
  rw [assign_Tuple]
  refine wpAny_bind (wpAny_standAt ?_)
  unfold unpack
  rw [hst,show (assignEach es X.env).length=its.toArray.size by simp [hn, <- hl,rv.length]]
  refine wpAny_bind (wpAny_holding (PySem.W.kun_itemsOf (I.ok.hd hc) ⟨o,h1,h2,m,h4⟩ fun h' hx=>?_))
  have I1:Inv X pins σ H { s with heap:=h' }:=I.kept (t':=s.toks) fun b o e=>hx b o (Nat.ne_of_lt (Heap.lt_size e)) e
  exact h pins _ σ H xs _ Q I1 (by simpa using rv) hw
end
theorem zg_lst {X:Cx} {pos:Pos} {es:List Expr} {k:Nat} {t:TGs} {n:Nat} (hc:X.calm=true) (h:ZGs X es t) (hn:(assignEach es X.env).length=n:=by rfl) (hst:(assignEach es X.env).findIdx? (·.1)=none:=by rfl):ZG X (.Tuple es k pos) (gLst X.K n t):=⟨pg_lst hc h.out hn hst⟩
section
variable {K:PySem.W.Frag} {u:TS}
end
end D
end
namespace D
open PySem L2 K0 Num
open PySem.W (Dat)
section
section
variable {p:Option Addr} {K:PySem.W.Frag} {W:Addr->Prop} {H:Hp} {τ:List Sl} {tas:TA} {E':XK} {a b:TI}
theorem EI.drawA {C:List Sl->Prop} {M:Int} (ha:A p K tas τ C) (hC:∀ ss,C ss->∃ m:Int,ss=[.pu,.dat (.int m)]/\0 < m/\m<=M) (hM:M < 2 ^ 200):EI p K (tCall spDraw [] E' tas) τ (fun d=>0<=d/\d < M):=fun W L σ H Q rs o q=>ha W L σ H _ rs o fun vs H1 ss c e1 o1 rv=>by
  obtain ⟨m,rfl,h0,h1⟩:=hC ss c
  cases rv with
  | cons a t =>
    cases t with
    | cons b t =>
      cases t
      obtain ⟨q0,rfl,rfl⟩:=a
      cases b.int_inv
      have pu:=(o1.pu q0 rfl).1
      refine ⟨q0,m,rfl,pu,h0,by omega,fun d H' d0 d1 sb pu'=>?_⟩
      have ev:=sb_ev sb pu
      exact q _ H' _ ⟨d,rfl,d0,by omega⟩ (e1.trans ev) (o1.ev ev fun q hq=>by cases hq;exact pu') (.int _)
theorem EI.drawP {ms:List Int} {tb:TE} {M:Int} (hb:EI p K tb τ (fun m=>m ∈ ms)) (hm:∀ m ∈ ms,0 < m/\m<=M) (hM:M < 2 ^ 200) {i:Nat} (hi:τ[i]?=some .pu):EI p K (tCall spDraw [] E' (tCons (tVar i) (tCons tb tNil))) τ (fun d=>0<=d/\d < M):=by
  refine EI.drawA (C:=fun ss=>∃ m:Int,ss=[.pu,.dat (.int m)]/\m ∈ ms) (A.cons (C1:=fun s=>.pu=s) (E1.varP hi) (fun _ _=>A.one hb) ?_) (fun ss ⟨m,e,h⟩=>⟨m,e,hm m h⟩) hM
  rintro s ss rfl ⟨s',rfl,m,rfl,h⟩
  exact ⟨m,rfl,h⟩
theorem E.cMadeA {C:List Sl->Prop} {P:Int->Int->Prop} (ha:A p K tas τ C) (hC:∀ ss,C ss->∃ t b:Int,ss=[.dat (.int t),.dat (.int b)]/\P t b/\0 < b/\Bt b 8000):E p K (tCall (spMade K) [] E' tas) τ (fun s=>∃ t b:Int,s = .dat (tI (qf (qv t b)))/\P t b):=fun W L σ H Q rs o q=>ha W L σ H _ rs o fun vs H1 ss c e1 o1 rv=>by
  obtain ⟨t,b,rfl,hp,h0,hb⟩:=hC ss c
  cases rv with
  | cons u v =>
    cases v with
    | cons v w =>
      cases w
      cases u.int_inv
      cases v.int_inv
      refine ⟨t,b,rfl,h0,hb,fun r H' s h=>?_⟩
      rw [fr_qf h0] at h
      exact q _ H' _ ⟨t,b,rfl,hp⟩ (e1.trans (Ev.of s)) (o1.same s) (told h)
end
end
noncomputable abbrev sl (p q r:Int) (x y z:Rat):Rat:=((p:Rat) * x + q * y + r * z) / ((p:Rat) * p + q * q + r * r)
end D
section
namespace L2
open PySem PySem.Spec PyProof.Rows
section
noncomputable abbrev zl (h:Heap) (l:Addr):Heap:=h.push { cls:=.type "list_iterator",data:=.fields #[.ref l,.int 0 0] }
end
end L2
end
section
namespace L2
open PySem PySem.Spec PyProof.Rows
noncomputable def SX (b:Bool) (K:PySem.W.Frag) (H:Hp) (a:Addr) (xs:List V):Prop:=match b with | true=>SqL K H a xs | false=>SqT K H a xs
section
end
end L2
end
namespace D
open PySem L2 K0 Num
open PySem.W (Dat)
section
section
variable {p:Option Addr} {K:PySem.W.Frag} {W:Addr->Prop} {H:Hp} {τ:List Sl} {tas:TA} {te:TE} {E':XK}
theorem E1.bi {b:Bool} (h:E1 p K te τ (.dat (.bool b))):E1 p K (tCB (fun xs H Q=>(∃ i,xs=[.int i]/\Q (.int i) H)\/∃ k,xs=[.bl k]/\Q (.int (if k then 1 else 0)) H) (tCons te tNil)) τ (.dat (.int (if b then 1 else 0))):=fun W L σ H Q rs o q =>
  h W L σ H _ rs o fun v H1 s e e1 o1 rv=>by
    subst e
    cases rv.bl_inv
    exact .inr ⟨b,rfl,q _ H1 _ rfl e1 o1 (.int _)⟩
theorem E.tupC {C:List Dat->Prop} (h:E p K te τ (fun s=>∃ es,s = .own es/\C es)):E p K (tCB (fun xs H Q=>∃ p ys,xs=[.ref p]/\((SqL K H p ys/\∀ l,H l=none->Q (.ref l) (upd H l (.tup ys)))\/(SqT K H p ys/\Q (.ref p) H))) (tCons te tNil)) τ (fun s=>∃ es,s = .dat (.tuple es)/\C es):=fun W L σ H Q rs o q =>
  h W L σ H _ rs o fun v H1 s ⟨es,e,c⟩ e1 o1 rv=>by
    subst e
    obtain ⟨a,vs,rfl,h0,h1,h2⟩:=rv
    refine ⟨a,_,rfl,.inl ⟨SqL.of h1,fun r hr=>?_⟩⟩
    have s:=Same.new hr (.tup vs)
    refine q _ _ _ ⟨es,rfl,c⟩ (e1.trans (Ev.of s)) (o1.same s) ?_
    exact .tup (SqT.of upd_same) (h2.ev (W:=fun _=>False) (Ev.of s) fun _ _ z=>z)
theorem EI.num2A {C:List Sl->Prop} (ha:A p K tas τ C) (hC:∀ ss,C ss->∃ m:Int,ss=[.pu,.dat (.int m)]):EI p K (tCall spNumber2 [] E' tas) τ (fun d=>d.natAbs<=10 ^ 30):=fun W L σ H Q rs o q=>ha W L σ H _ rs o fun vs H1 ss c e1 o1 rv=>by
  obtain ⟨m,rfl⟩:=hC ss c
  cases rv with
  | cons a t =>
    cases t with
    | cons b t =>
      cases t
      obtain ⟨q0,rfl,rfl⟩:=a
      cases b.int_inv
      have pu:=(o1.pu q0 rfl).1
      refine ⟨q0,m,rfl,pu,fun d H' d0 sb pu'=>?_⟩
      have ev:=sb_ev sb pu
      exact q _ H' _ ⟨d,rfl,d0⟩ (e1.trans ev) (o1.ev ev fun q hq=>by cases hq;exact pu') (.int _)
end
structure Row3 where
  x:Rat
  y:Rat
  z:Rat
noncomputable def Row3.d (r:Row3):Dat:=ptQ r.x r.y r.z
noncomputable def Row3.dot (r s:Row3):Rat:=r.x * s.x + r.y * s.y + r.z * s.z
end
end D
section
namespace L2
open PySem PySem.Spec PyProof.Rows
section
variable {X:Cx} {a b c o:Expr} {ta tb:TE} {tA:TT} {pos:Pos}
theorem ze_ifx (hc:ZT X c tA) (ha:ZE X a ta) (hb:ZE X b tb):ZE X (.IfExp c a b pos) (tIf tA ta tb):=⟨pe_ifExp hc.out ha.out hb.out⟩
end
end L2
namespace D
open PySem L2 K0 Num
open PySem.W (Dat)
section
variable {p:Option Addr} {K:PySem.W.Frag} {W:Addr->Prop} {H:Hp} {τ:List Sl} {ta tb:TE} {tt:TT}
theorem E.ifx {C:Bool->Prop} {D:Sl->Prop} (h:T p K tt τ C) (ht:C true->E p K ta τ D) (hf:C false->E p K tb τ D):E p K (tIf tt ta tb) τ D:=fun W L σ H Q rs o q=>h W L σ H _ rs o fun b H1 c e1 o1=>by
  have rs1:=rs.ev e1 o.pw
  cases b with
  | true=>exact ht c W L σ H1 Q rs1 o1 fun v H' s d e2 o2 rv=>q v H' s d (e1.trans e2) o2 (rv.base e1 o1)
  | false=>exact hf c W L σ H1 Q rs1 o1 fun v H' s d e2 o2 rv=>q v H' s d (e1.trans e2) o2 (rv.base e1 o1)
theorem E1.ifT {s:Sl} (h:T1 p K tt τ true) (ha:E1 p K ta τ s):E1 p K (tIf tt ta tb) τ s:=E.ifx h (fun _=>ha) (fun z=>by cases z)
theorem E1.ifF {s:Sl} (h:T1 p K tt τ false) (ha:E1 p K tb τ s):E1 p K (tIf tt ta tb) τ s:=E.ifx h (fun z=>by cases z) (fun _=>ha)
end
end D
namespace D
open PySem L2 K0 Num
open PySem.W (Dat)
end D
namespace D
open PySem L2 K0 Num
open PySem.W (Dat)
section
variable {p:Option Addr} {K:PySem.W.Frag} {W:Addr->Prop} {H:Hp} {L:List Addr} {σ:St} {τ:List Sl}
theorem Rs.less {a:Addr} (r:Rs p W K H L σ τ):a ∉ L->Rs p (fun b=>W b/\b ≠ a) K H L σ τ:=by
  induction r with
  | nil=>exact fun _=>.nil
  | un _ ih=>exact fun h=>.un (ih h)
  | dat h _ ih=>exact fun n=>.dat (h.mono fun _ nb z=>nb z.1) (ih n)
  | pu h _ ih=>exact fun n=>.pu h (ih n)
  | own h1 h2 h3 h4 h5 _ ih=>exact fun n=>.own ⟨h1,fun z=>n (z ▸ List.mem_cons_self)⟩ h2 h3 h4 (h5.mono fun _ nb z=>nb z.1) (ih fun z=>n (List.mem_cons_of_mem _ z))
  | dt h1 h2 h3 h4 _ ih=>exact fun n=>.dt (fun b hb=>⟨h1 b hb,fun z=>n (z ▸ List.mem_append_left _ hb)⟩) h2 h3 (Own.wide _ h4 fun _ _ nb _ z=>nb z.1) (ih fun z=>n (List.mem_append_right _ z))
theorem Rs.frz (r:Rs p W K H L σ τ):∀ {i:Nat} {ds:List Dat},τ[i]?=some (.own ds)->∃ (a:Addr) (L':List Addr),(∀ b,b ∈ L'->b ∈ L)/\a ∈ L/\W a/\p ≠ some a/\(∃ vs,H a=some (.lst vs))/\Rs p (fun b=>W b/\b ≠ a) K H L' σ (τ.set i (.dat (.list ds))):=by
  induction r with
  | nil=>exact fun h=>by simp at h
  | un r ih =>
    intro i ds h
    cases i with
    | zero=>cases h
    | succ i =>
      obtain ⟨a,L',h1,h2,h3,h4,h5,h6⟩:=ih (i:=i) h
      exact ⟨a,L',h1,h2,h3,h4,h5,.un h6⟩
  | dat z r ih =>
    intro i ds h
    cases i with
    | zero=>cases h
    | succ i =>
      obtain ⟨a,L',h1,h2,h3,h4,h5,h6⟩:=ih (i:=i) h
      exact ⟨a,L',h1,h2,h3,h4,h5,.dat (z.mono fun _ nb z=>nb z.1) h6⟩
  | pu z r ih =>
    intro i ds h
    cases i with
    | zero=>cases h
    | succ i =>
      obtain ⟨a,L',h1,h2,h3,h4,h5,h6⟩:=ih (i:=i) h
      exact ⟨a,L',h1,h2,h3,h4,h5,.pu z h6⟩
  | @own L σ τ a vs es h1 h2 h3 h4 h5 r ih =>
    intro i ds h
    cases i with
    | zero =>
      cases h
      exact ⟨a,L,fun b hb=>List.mem_cons_of_mem _ hb,List.mem_cons_self,h1,h2,⟨vs,h4⟩,.dat (.lst (.inl ⟨fun z=>z.2 rfl,.inl h4⟩) (h5.mono fun _ nb z=>nb z.1)) (r.less h3)⟩
    | succ i =>
      obtain ⟨c,L',g1,g2,g3,g4,g5,g6⟩:=ih (i:=i) h
      refine ⟨c,a :: L',fun b hb=>?_,List.mem_cons_of_mem _ g2,g3,g4,g5,.own ⟨h1,fun z=>h3 (z ▸ g2)⟩ h2 (fun z=>h3 (g1 _ z)) h4 (h5.mono fun _ nb z=>nb z.1) g6⟩
      rcases List.mem_cons.mp hb with rfl | hb
      . exact List.mem_cons_self
      . exact List.mem_cons_of_mem _ (g1 _ hb)
  | @dt L l σ τ a o h1 h2 h3 h4 r ih =>
    intro i ds h
    cases i with
    | zero=>cases h
    | succ i =>
      obtain ⟨c,L',g1,g2,g3,g4,g5,g6⟩:=ih (i:=i) h
      refine ⟨c,l ++ L',fun b hb=>?_,List.mem_append_right _ g2,g3,g4,g5,.dt (fun b hb=>⟨h1 b hb,fun z=>h3 b hb (z ▸ g2)⟩) h2 (fun b hb z=>h3 b hb (g1 _ z)) (Own.wide _ h4 fun _ _ nb _ z=>nb z.1) g6⟩
      rcases List.mem_append.mp hb with hb | hb
      . exact List.mem_append_left _ hb
      . exact List.mem_append_right _ (g1 _ hb)
end
end D
end
section
namespace HT
open PySem PySem.Spec PyProof.Rows
open MeetsSeq MeetsSeq2 MeetsSeq3
end HT
namespace L2
open PySem PySem.Spec PyProof.Rows
end L2
namespace D
open PySem L2 K0 Num
open PySem.W (Dat)
section
variable {K:PySem.W.Frag} {W:Addr->Prop} {H:Hp}
theorem Dzs.rep {N:Addr->Prop} {vs:List V} {ds:List Dat} (h:Dzs N K H vs ds):∀ n:Nat,Dzs N K H (List.replicate n vs).flatten (List.replicate n ds).flatten
  | 0=>.nil
  | n + 1=>by
    rw [List.replicate_succ,List.replicate_succ,List.flatten_cons,List.flatten_cons]
    exact h.app (Dzs.rep h n)
end
end D
namespace K0
open PySem L2
end K0
namespace D
open PySem L2 K0 Num
open PySem.W (Dat)
section
variable {K:PySem.W.Frag} {W:Addr->Prop} {H:Hp}
end
end D
end
namespace D
open PySem L2 K0 Num
open PySem.W (Dat)
section
section
variable {p:Option Addr} {K:PySem.W.Frag} {W:Addr->Prop} {L:List Addr} {σ:St} {H H1 H2:Hp} {τ:List Sl} {tb te:TE} {v:V} {s:Sl} {nx:List Sl->Prop} {rt:Sl->Prop} {ds:List Dat} {wi:TI}
noncomputable def WkC (p:Option Addr) (K:PySem.W.Frag) (wi:TI) (τ:List Sl) (DD:List Dat->Prop):Prop:=∀ (W:Addr->Prop) (L:List Addr) (σ:St) (H:Hp) (R:It->Hp->Prop),Rs p W K H L σ τ->Ok p W H->(∀ J H1 ds,DD ds->Ev (Pp p) H H1->Ok p W H1->Jd W K J H1 ds->R J H1)->wi σ H R
theorem WkC.rng {P:Int->Prop} (h:EI p K te τ P) (hp:∀ j,P j -> -(2 ^ 62)<=j/\j < 2 ^ 62):WkC p K (iRng1 (tCons te tNil)) τ (fun ds=>∃ j,P j/\ds=rangeD 0 j.toNat):=fun W L σ H R r o q=>by
  refine h W L σ H _ r o fun v H1 s ⟨j,e,hj⟩ e1 o1 rv=>?_
  subst e
  cases rv.int_inv
  exact ⟨j,rfl,(hp j hj).1,(hp j hj).2,q _ H1 _ ⟨j,hj,rfl⟩ e1 o1 jd_rng⟩
theorem S.forC {g:TG} {tb:TS} {DD:List Dat->Prop} (hw:WkC p K wi τ DD) (m:∀ ds,DD ds->∃ I:Nat->List Sl->Prop,I 0 τ/\(∀ i d τ1,ds[i]?=some d->I i τ1->∃ τ2,Gd p K g d τ1 τ2/\S p K tb τ2 (I (i + 1)) rt)/\∀ τ1,I ds.length τ1->nx τ1):S p K (tFor wi g tb) τ nx rt:=fun W L σ H D r o q1 q2=>by
  refine hw W L σ H _ r o fun J H1 ds hD e1 o1 jd=>?_
  obtain ⟨I,h0,turn,done⟩:=m ds hD
  have ew:=e1.ofP o
  have hn:∀ a,H1 a=none->H a=none:=fun a ha=>ew.none o1.al ha
  refine ⟨fun i m σ' H'=>m=ds.length - i/\i<=ds.length/\∃ (W':Addr->Prop) (L':List Addr) (τ1:List Sl),I i τ1/\Ev W H1 H'/\Ok p W' H'/\(∀ a,W a->∃ ys,H' a=some ys)/\(∀ a,W' a->W a\/H1 a=none)/\(∀ a,a ∈ L'->a ∈ L\/H1 a=none)/\Rs p W' K H' L' σ' τ1,
    ⟨ds.length,by omega,Nat.zero_le _,W,L,τ,h0,Ev.refl,o1,o1.al,fun _ h=>.inl h,fun _ h=>.inl h,r.ev e1 o.pw⟩,?_⟩
  rintro i m σ' H' ⟨rfl,hi,W',L',τ1,hI,ev,ok,al,nn,ll,rs⟩
  obtain ⟨stop,each⟩:=jd W' H' ev nn
  by_cases hlt:i < ds.length
  . have hd:ds[i]?=some ds[i]:=by simp [hlt]
    obtain ⟨go,yl⟩:=each i _ hd
    obtain ⟨τ2,hg,hb⟩:=turn i _ τ1 hd hI
    refine .inr ⟨go,fun σ'' H''=>ds.length - (i + 1)=ds.length - (i + 1)/\i + 1<=ds.length/\∃ (W':Addr->Prop) (L':List Addr) (τ1:List Sl),I (i + 1) τ1/\Ev W H1 H''/\Ok p W' H''/\(∀ a,W a->∃ ys,H'' a=some ys)/\(∀ a,W' a->W a\/H1 a=none)/\(∀ a,a ∈ L'->a ∈ L\/H1 a=none)/\Rs p W' K H'' L' σ'' τ1,fun σ'' H'' h=>⟨_,by omega,h⟩,fun x H2 y=>?_⟩
    obtain ⟨s2,z2⟩:=yl x H2 y
    have e2:Ev (Pp p) H' H2:=Ev.of s2
    have o2:=ok.same s2
    have ev2:Ev W H1 H2:=ev.trans (Ev.of s2)
    have al2:∀ a,W a->∃ ys,H2 a=some ys:=fun a ha=>let ⟨ys,h⟩:=al a ha;⟨ys,s2 _ _ h⟩
    have hn2:∀ a,H2 a=none->H1 a=none:=fun a ha=>ev2.none al2 ha
    refine hg W' L' σ' H2 x _ (rs.ev e2 ok.pw) z2 fun L3 σ3 l3 rs3=>?_
    refine hb W' L3 σ3 H2 _ rs3 o2 (fun W4 L4 σ4 H4 τ4 c e4 o4 w4 n4 l4 r4=>?_) (fun W4 H4 v s c e4 o4 w4 n4 rv=>?_)
    . exact ⟨rfl,hlt,W4,L4,τ4,c,ev2.chain e4 nn,o4,al_chain al2 w4 e4,fun a ha=>(n4 a ha).elim (nn a) fun z=>.inr (hn2 a z),fun a ha=>(l4 a ha).elim (fun z=>ll a (l3 a z)) fun z=>.inr (hn2 a z),r4⟩
    . have nn':∀ a,W' a->W a\/H a=none:=fun a ha=>(nn a ha).imp id (hn a)
      refine q2 W4 H4 v s c ((ew.trans ev2).chain e4 nn') o4 (al_chain al2 w4 e4) (fun a ha=>(n4 a ha).elim (nn' a) fun z=>.inr (hn a (hn2 a z))) (rv.base (fun a z=>hn a (hn2 a z)) fun a ha=>?_)
      exact (ll a (l3 a ha)).imp id (hn a)
  . have e:i=ds.length:=by omega
    subst e
    exact .inl ⟨stop,q1 W' L' σ' H' τ1 (done τ1 hI) (ew.trans ev) ok al (fun a ha=>(nn a ha).imp id (hn a)) (fun a ha=>(ll a ha).imp id (hn a)) rs⟩
end
noncomputable def rb (ns ms:List Int):List Int:=fr (sop ns ms * sop ns ms) (nrm ns * nrm ms)
end
end D
section
namespace D
open PySem L2 K0 Num
open PySem.W (Dat)
section
variable {c d x y v:Rat}
end
end D
namespace D
open PySem L2 K0 Num
open PySem.W (Dat)
section
variable {p:Option Addr} {K:PySem.W.Frag} {τ:List Sl}
end
end D
namespace D
open PySem L2 K0 Num
open PySem.W (Dat)
end D
namespace D
open PySem L2 K0 Num
open PySem.W (Dat)
section
variable {p:Option Addr} {K:PySem.W.Frag} {W:Addr->Prop} {H H0:Hp} {τ:List Sl} {te ti:TE}
theorem E.ixTC {C C':Dat->Prop} {i:Int} (h:E p K te τ (fun s=>∃ d,s = .dat d/\C d)) (hi:E1 p K ti τ (.dat (.int i))) (m:∀ d,C d->∃ ds e,d = .tuple ds/\atI ds i=some e/\C' e):E p K (tOp (rIxT K) te ti) τ (fun s=>∃ e,s = .dat e/\C' e) :=
  E.op2 (B:=fun _=>True) (A:=fun s=>∃ d,s = .dat d/\C d) (B':=fun _ s=>.dat (.int i)=s) h (fun _ _=>hi) fun s t ⟨d,e,c⟩ e2 W H0 H x y Q o0 o r1 r2 q=>by
    subst e e2
    cases r2.int_inv
    obtain ⟨ds,e,rfl,ha,c'⟩:=m d c
    cases r1 with
    | tup h1 h2 =>
      obtain ⟨v,hv,zv⟩:=atI_dz h2 ha
      exact ⟨_,_,i,_,rfl,rfl,h1,hv,q _ H _ ⟨e,rfl,c'⟩ Ev.refl o zv⟩
end
end D
namespace D
open PySem L2 K0 Num
open PySem.W (Dat)
end D
end
section
namespace L2
open PySem PySem.Spec PyProof.Rows
noncomputable abbrev jn (sep:Str) (ys:List Str):Str:=Txt.join sep ys
noncomputable def rJoin (K:PySem.W.Frag):V->List V->Hp->VK->Prop:=fun x vs H Q=>∃ (sep:Str) (a:Addr) (ys:List Str),x = .str sep/\vs=[.ref a]/\SqL K H a (ys.map V.str)/\(ys.map (·.length)).sum + ys.length * sep.length<=16777216/\Q (.str (Txt.join sep ys)) H
theorem strs_of:∀ {ys:List Str} {vs:List Value},Vals (ys.map V.str) vs->StrsAre vs ys
  | [],_,h=>by cases h;exact .nil
  | y :: r, _, h => by
    cases h with
    | cons h1 h2 =>
      obtain ⟨t,rfl⟩:=h1
      exact .cons y t (strs_of h2)
section
variable {X:Cx} {a c e o:Expr} {to te ta tb:TE} {apos cpos:Pos}
theorem mt_join:MtR X "str.join" (rJoin X.K):=by
  intro pins s σ H x vs v us Q I rx rv h
  obtain ⟨sep,a,ys,rfl,rfl,hs,hb,q⟩:=h
  obtain ⟨t,rfl⟩:=rx
  obtain ⟨u,rfl,ru⟩:=rv.one
  cases ru
  obtain ⟨its,r,p,_⟩:=I.list hs
  exact join_list p.isList (by simpa using strs_of r) hb fun t' k=>⟨.str _,H,I.tok _,⟨_,rfl⟩,q⟩
theorem ze_join (ho:ZE X o to) (ha:ZE X e te) (hbase:attributeBase o "join" X.env (eval o X.env)=eval o X.env:=by rfl)
    (hfew:((backTo cpos (starEach [e] X.env)).all (fun x => !x.1) && (backToKw cpos (keywordEach [] X.env)).all (fun x=>x.1.isSome)
      && decide ([e].length + ([]:List Keyword).length + (if ([]:List Keyword).isEmpty then 0 else 1) < 30))=true:=by rfl)
    (hline:(apos.endLine == cpos.line)=true:=by rfl) (hs:starEach [e] X.env=(false,eval e X.env) :: starEach [] X.env:=by rfl) :
    ZE X (.Call (.Attribute o "join" apos) [e] [] cpos) (tBM X.K "str" (rJoin X.K) to (tCons te tNil)) :=
  ⟨pe_bm PySem.F.plainAttrs_str PySem.F.slot_str_join (by rfl) mt_join ho.out (pa_cons ha.out pa_nil hs) hbase hfew hline hs⟩
end
end L2
namespace D
open PySem L2 K0 Num
open PySem.W (Dat)
section
variable {p:Option Addr} {K:PySem.W.Frag} {W:Addr->Prop} {H H0:Hp} {τ:List Sl} {tas:TA} {te ta tb:TE} {E':XK}
theorem Rv.str_inv {x:Str} {v:V} (h:Rv p W K H0 H v (.dat (.str x))):v = .str x:=by cases h;rfl
theorem Dzs.strs:∀ {N:Addr->Prop} {vs:List V} {ys:List Str},Dzs N K H vs (ys.map Dat.str)->vs=ys.map V.str
  | _,_,[],h=>by cases h;rfl
  | _,_,y :: r,h=>by
    cases h with
    | cons h1 h2=>cases h1;rw [Dzs.strs h2];rfl
theorem E1.addS {x y:Str} (ha:E1 p K ta τ (.dat (.str x))) (hb:E1 p K tb τ (.dat (.str y))) (h:x.length + y.length<=sizeLine):E1 p K (tOp (fun x y H Q=>∃ i j,x = .str i/\y = .str j/\i.length + j.length<=sizeLine/\Q (.str (i ++ j)) H) ta tb) τ (.dat (.str (x ++ y))) :=
  E1.op2 ha hb fun W H0 H u v Q o0 o r1 r2 q=>by
    cases r1.str_inv
    cases r2.str_inv
    exact ⟨x,y,rfl,rfl,h,q _ H Ev.refl o (.str _)⟩
theorem E1.join {sep:Str} {ys:List Str} (ha:E1 p K ta τ (.dat (.str sep))) (hb:E1 p K tb τ (.own (ys.map .str))) (h:(ys.map (·.length)).sum + ys.length * sep.length<=16777216):E1 p K (tBM K "str" (rJoin K) ta (tCons tb tNil)) τ (.dat (.str (jn sep ys))):=fun W L σ H Q rs o q =>
  ha W L σ H _ rs o fun v H1 s e e1 o1 rv=>by
    subst e
    cases rv.str_inv
    refine ⟨rfl,hb W L σ H1 _ (rs.ev e1 o.pw) o1 fun v2 H2 s2 e2 e3 o2 rv2=>?_⟩
    subst e2
    obtain ⟨a,vs,rfl,h0,h1,h2⟩:=rv2
    have ev:=h2.strs
    subst ev
    exact ⟨sep,a,ys,rfl,rfl,SqL.of h1,h,q _ H2 _ rfl (e1.trans e3) o2 (.str _)⟩
end
noncomputable def spV (K:PySem.W.Frag) (R:List Dat->(Dat->Prop)->Prop):Sp:=fun vs H Q _=>∃ q u us d0 ds C,vs=u :: .ref q :: us/\Dzs (fun a=>a ≠ q) K H (u :: us) (d0 :: ds)/\Pu H q/\R (d0 :: ds) C/\∀ v H' d,C d->Ev (fun a=>a=q) H H'->Pu H' q->Dz (fun a=>H a=none) K H' v d->Q v H'
section
variable {p:Option Addr} {K:PySem.W.Frag} {W:Addr->Prop} {L:List Addr} {σ:St} {H H0 H1 H2:Hp} {τ τ':List Sl} {ta tb te:TE} {tas:TA} {v:V} {s:Sl} {t u:TS} {ds:List Dat} {E':XK}
theorem E.callV {R:List Dat->(Dat->Prop)->Prop} {d0:Dat} {ds:List Dat} {C:Dat->Prop} (ha:A1 p K tas τ (.dat d0 :: .pu :: ds.map .dat)) (hr:R (d0 :: ds) C):E p K (tCall (spV K R) [] E' tas) τ (fun s=>∃ d,s = .dat d/\C d):=fun W L σ H Q rs o q=>ha W L σ H _ rs o fun vs H1 ss e e1 o1 rv=>by
  subst e
  rw [List.append_nil]
  cases rv with
  | cons x0 t =>
    cases t with
    | cons a t =>
      obtain ⟨q0,rfl,rfl⟩:=a
      have w:=o1.pw q0 rfl
      have z0:Rvs (some q0) W K H H1 _ ((d0 :: ds).map .dat):=.cons x0 t
      refine ⟨q0,_,_,d0,ds,C,rfl,Rvs.dzp z0 w,(o1.pu q0 rfl).1,hr,fun v H' d c ev pu z=>?_⟩
      have e2:Ev (Pp (some q0)) H1 H':=ev.mono fun a h=>by rw [h];rfl
      exact q v H' _ ⟨d,rfl,c⟩ (e1.trans e2) (o1.ev e2 fun q hq=>by cases hq;exact pu) (z.mono fun a ha=>o1.fresh ha)
variable {P:Program} {w:World} {mg:Str->Option Value} {base:Heap}
theorem okV {x qual:Str} {st:Stmt} {f:Addr} {fd:FuncData} {N ps:List Str} {k:Nat} {R:List Dat->(Dat->Prop)->Prop} (F:Fun K x qual st f fd) (S0:FnScope N ps (defScope st)) (len:∀ ds C,R ds C->ds.length + 1=ps.length)
    (body:∀ (cdv:Value) (A:Around) (outer:List Env) (s:Shared) (H:Hp) (E:XK),Room k (A.deeper (PyProof.Rows.envOfC qual (defScope st) s.heap.objs.size f cdv)) ->
      ∃ t,ZSs (cxOf CX0 P w K mg base N qual (defScope st) f cdv A outer s H E).nox (defBody st) t/\∀ (q:Addr) d0 ds C,R (d0 :: ds) C->S (some q) K t (.dat d0 :: .pu :: ds.map .dat ++ List.replicate (N.length - ps.length) .un) (fun _=>False) (fun s=>∃ d,C d/\Gives d s)):FnOk P w K mg base CX0 (k + 1) f fd ps (spV K R):=by
  refine F.okZ S0 (fun vs H Q E h=>?_) (fun cdv A outer s H vs Q E hr h=>?_)
  . obtain ⟨q,u,us,d0,ds,C,rfl,z,_,r,_⟩:=h
    have:=z.len
    have e:=len _ C r
    rw [List.length_cons,List.length_cons] at this
    rw [List.length_cons,List.length_cons]
    rw [List.length_cons] at e
    omega
  . obtain ⟨q0,u,us,d0,ds,C,rfl,z,pu,r,q⟩:=h
    obtain ⟨t,hz,hs⟩:=body cdv A outer s H E hr
    refine ⟨t,hz,?_⟩
    have l:(u :: V.ref q0 :: us).length=ps.length:=by
      have:=z.len
      have e:=len _ C r
      rw [List.length_cons,List.length_cons] at this
      rw [List.length_cons,List.length_cons]
      rw [List.length_cons] at e
      omega
    cases z with
    | cons zu zs =>
      have r0:Rs (some q0) (fun a=>a=q0) K H [] (L2.start N (u :: .ref q0 :: us)) (.dat d0 :: .pu :: ds.map .dat ++ List.replicate (N.length - ps.length) .un):=by
        unfold L2.start
        rw [l]
        exact .dat (zu.mono fun a h=>h) (.pu rfl (rs_start _ zs fun a h=>h))
      have o0:Ok (some q0) (fun a=>a=q0) H:=⟨fun q h=>(by cases h;exact ⟨pu,rfl⟩),fun a h=>by obtain ⟨x,y,e⟩:=pu;exact ⟨_,by rw [h];exact e⟩⟩
      refine hs q0 d0 ds C r (fun a=>a=q0) [] _ H _ r0 o0 (fun W' L' σ' H' τ' e ev o' al n l r'=>e.elim) (fun W' H' v s e ev o' al n rv=>?_)
      obtain ⟨d,c,e⟩:=e
      cases s with
      | dat d' =>
        obtain ⟨rfl,nl⟩:=e
        exact q v H' _ c ev (o'.pu q0 rfl).1 (Dz.free rv nl)
      | own es =>
        obtain ⟨rfl,nl⟩:=e
        obtain ⟨a,vs,rfl,h1,h2,h3⟩:=rv
        exact q _ H' _ c ev (o'.pu q0 rfl).1 (.lst (.inl ⟨h1.resolve_left (fun z=>by cases z),.inl h2⟩) (h3.free nl))
      | dt es=>cases e
      | un=>cases e
      | pu=>cases e
      | vw ds=>cases e
end
end D
end
namespace D
open PySem L2 K0 Num
open PySem.W (Dat)
noncomputable def txI (i:Int):Str:=toString i
theorem sline:16777216<=sizeLine:=by decide
theorem len_app (a b:Str):(a ++ b).length=a.length + b.length:=by simp [Str.length,PySem.Str.cps_append]
noncomputable def nd (kind:Int):Nat:=if kind=0 then 1 else if kind=4 then 3 else 2
theorem glue_len (sep:Str):∀ (ys:List Str),(jn sep ys).length<=(ys.map (·.length)).sum + ys.length * sep.length:=by
  intro ys
  show (Builtin.Str.glued sep ys).length<=_
  rw [StrLaws.glued_eq_join]
  exact StrLaws.join_length_le sep ys
theorem E1.frzI {p:Option Addr} {K:PySem.W.Frag} {τ τ':List Sl} {te:TE} {i:Nat} {ds:List Dat} {n:Int} (h:τ[i]?=some (.own ds)) (he:E1 p K te τ' (.dat (.int n))) (e:τ.set i (.dat (.list ds))=τ':=by rfl):E1 p K te τ (.dat (.int n)):=fun W L σ H Q r o q=>by
  subst e
  obtain ⟨a,L',h1,h2,h3,h4,⟨vs,h5⟩,h6⟩:=r.frz h
  have o1:Ok p (fun b=>W b/\b ≠ a) H:=⟨fun q hq=>⟨(o.pu q hq).1,(o.pu q hq).2,fun z=>h4 (z ▸ hq)⟩,fun b hb=>o.al b hb.1⟩
  refine he _ L' σ H _ h6 o1 fun v H' s e ev o' rv=>?_
  subst e
  cases rv.int_inv
  refine q _ H' _ rfl ev ⟨fun q hq=>⟨(o'.pu q hq).1,(o'.pu q hq).2.1⟩,fun b hb=>?_⟩ (.int _)
  by_cases z:b=a
  . subst z;exact ⟨_,ev.keep _ _ (fun z=>h4 z) h5⟩
  . exact o'.al b ⟨hb,z⟩
theorem z6:6<=sizeLine:=by decide
theorem T1.andT {p:Option Addr} {K:PySem.W.Frag} {τ:List Sl} {tt tu:TT} {c:Bool} (h:T1 p K tt τ true) (h2:T1 p K tu τ c):T1 p K (tAnd tt tu) τ c:=T.and h (fun _=>h2) fun z=>by cases z
theorem T1.andF {p:Option Addr} {K:PySem.W.Frag} {τ:List Sl} {tt tu:TT} (h:T1 p K tt τ false):T1 p K (tAnd tt tu) τ false:=T.and h (fun z=>by cases z) fun _=>rfl
theorem nd_le (k:Int):nd k<=3:=by
  unfold nd
  split
  . decide
  . split <;> decide
noncomputable def pw (ns:List Int):Nat->List Int
  | 0=>ns
  | k + 1=>qm ns (pw ns k)
section
end
noncomputable def tn (ns:List Int):Nat->List Int
  | 0=>[1,0,0,0]
  | k + 1=>pl (pw ns k)
end D
section
namespace L2
open PySem PySem.Spec PyProof.Rows
section
variable {X:Cx}
theorem zs_never {st:Stmt}:ZS X st tNever:=⟨ps_never⟩
end
end L2
end
section
namespace L2
open PySem PySem.Spec PyProof.Rows
noncomputable def Its (x:Str):It:=⟨fun i _=>i < x.cps.size,fun i H v H'=>H'=H/\∃ c,x.cps[i]?=some c/\v = .str ⟨#[c]⟩,fun i _=>x.cps.size<=i⟩
theorem turn_str {P:Program} {w:World} {K:PySem.W.Frag} {tg:Expr} (it:Addr) (x:Str) (t:Tok):Turn P w K tg (Its x) [it] it (fun i h=>h.IsStrIter it "str_ascii_iterator" x t i) where
  mem:=by simp
  obj:=fun i h st b hb=>by
    have e:b=it:=by simpa using hb
    subst e
    obtain ⟨o,e,c,d⟩:=st
    exact ⟨o,e,fun v z=>by rw [d] at z;cases z⟩
  keep:=fun i h h' st k=>by
    obtain ⟨o,e,c,d⟩:=st
    exact ⟨o,k it (by simp) o e,c,d⟩
  item:=by
    intro X hP hw hK hc i pins s σ H E I hf st hg
    subst hP hw hK
    obtain ⟨f0,f1,f2,f3,f4,f5⟩:=hf it (by simp)
    have W:=Walks.strAscii (prog:=X.prog) (w:=X.w) (I.ok.hd hc) it x t
    refine W.item i s _ _ hg st fun v h' tk hv st' kk=>?_
    obtain ⟨c,u,hc',rfl⟩:=hv
    have I1:Inv X pins σ H { s with heap:=h',toks:=tk }:=I.turned (fun b o hb e=>kk b o (by simpa using hb) e) f0 f1 f3 f4 f5
    obtain ⟨o,e,ec,ed⟩:=id st'
    exact ⟨_,rfl,go_of (s:={ s with heap:=h',toks:=tk }) e ec ed (by decide) ⟨.str ⟨#[c]⟩,H,I1,⟨u,rfl⟩,⟨rfl,c,hc',rfl⟩,st',fun b hb=>(hf b hb).1⟩⟩
  done:=by
    intro X hP hw hK hc i pins s σ H E I hf st hg
    subst hP hw hK
    obtain ⟨f0,f1,f2,f3,f4,f5⟩:=hf it (by simp)
    exact wpAny_pyNext_ascii_end (I.ok.hd hc) st (by have:x.cps.size<=i:=hg;simpa using this) fun h' eb=>⟨rfl,I.turned (t':=s.toks) (fun b o hb e=>eb b o hb e) f0 f1 f3 f4 f5⟩
  self:=fun _ _ _ _ _ st h=>wpAny_pyIter_striter_ascii st h
noncomputable def iStr (tl:TE):TI:=fun σ H R=>tl σ H fun x H1=>∃ z,x = .str z/\z.cps.all (· < 128)=true/\R (Its z) H1
section
variable {X:Cx} {tg l:Expr} {tl:TE}
theorem zi_str (hl:ZE X l tl):ZI X tg l (iStr tl):=by
  refine ⟨?_⟩
  intro pins s σ H R I h
  refine thn (hl.out pins s σ H _ I h) fun v s1 ⟨x,H1,I1,r1,q1⟩=>?_
  obtain ⟨z,e,ha,q⟩:=q1
  subst e
  obtain ⟨t,rfl⟩:=r1
  refine wpAny_pyIter_ascii ha ?_
  refine ⟨s1.heap.objs.size,[s1.heap.objs.size],_,_,H1,rfl,I1.kept (t':=s1.toks) fun b o e=>Heap.get?_push_of_some _ e,turn_str _ z t,⟨_,Heap.get?_push_size _ rfl,rfl,rfl⟩,fun b hb=>?_,q⟩
  have e:b=s1.heap.objs.size:=by simpa using hb
  subst e
  exact I1.fpOk (Nat.le_refl _) (I1.hok.fresh (Nat.le_refl _))
end
end L2
namespace D
open PySem L2 K0 Num
open PySem.W (Dat)
section
variable {p:Option Addr} {K:PySem.W.Frag} {W:Addr->Prop} {H:Hp} {τ:List Sl} {te ta tb:TE}
noncomputable def lets (z:Str):List Dat:=z.cps.toList.map fun c=>.str ⟨#[c]⟩
theorem Wk.str {z:Str} (h:E1 p K te τ (.dat (.str z))) (ha:z.cps.all (· < 128)=true):Wk p K (iStr te) τ (lets z):=fun W L σ H R r o q=>h W L σ H _ r o fun v H1 s e e1 o1 rv=>by
  subst e
  cases rv.str_inv
  refine ⟨z,rfl,ha,q _ H1 e1 o1 fun W' H' ev n=>⟨?_,fun i d hd=>?_⟩⟩
  . show z.cps.size<=(lets z).length
    unfold lets
    rw [List.length_map,Array.length_toList]
    exact Nat.le_refl _
  . unfold lets at hd
    rw [List.getElem?_map,Array.getElem?_toList] at hd
    cases hc:z.cps[i]? with
    | none=>rw [hc] at hd;cases hd
    | some c =>
      rw [hc] at hd
      cases hd
      refine ⟨(Array.getElem?_eq_some_iff.mp hc).1,fun y H2 ⟨e1,c',e2,e3⟩=>?_⟩
      subst e1 e3
      rw [hc] at e2;cases e2
      exact ⟨Same.refl _,.str _⟩
theorem E1.ixS {z:Str} {i:Int} {c:Nat} (ha:E1 p K ta τ (.dat (.str z))) (hb:E1 p K tb τ (.dat (.int i))) (hz:z.length<=sizeLine) (h:atI z.cps.toList i=some c):E1 p K (tOp rIxS ta tb) τ (.dat (.str ⟨#[c]⟩)) :=
  E1.op2 ha hb fun W H0 H x y Q o0 o r1 r2 q=>by
    cases r1.str_inv
    cases r2.int_inv
    exact ⟨z,i,c,rfl,rfl,hz,h,q _ H Ev.refl o (.str _)⟩
theorem E1.lenS {z:Str} {tas:TA} (ha:A1 p K tas τ [.dat (.str z)]) (hz:z.length<=sizeLine):E1 p K (tCB (fun xs H Q=>∃ z,xs=[.str z]/\z.length<=sizeLine/\Q (.int z.length) H) tas) τ (.dat (.int z.length)) :=
  E1.cb1 ha fun W H0 H x Q o0 o _ r q=>by cases r.str_inv;exact ⟨z,rfl,hz,q _ H Ev.refl o (.int _)⟩
end
end D
end
section
namespace L2
open PySem PySem.Spec PyProof.Rows
noncomputable def rAll (K:PySem.W.Frag):List V->Hp->VK->Prop:=fun xs H Q=>∃ (a:Addr) (bs:List Bool),xs=[.ref a]/\SqL K H a (bs.map V.bl)/\Q (.bl (bs.all id)) H
theorem range_all':∀ (bs:List Bool),((List.range bs.length).all fun i=>(bs[i]?).getD true)=bs.all id:=by
  intro bs
  rw [Bool.eq_iff_iff]
  simp only [List.all_eq_true,List.mem_range,id]
  constructor
  . intro h b hb
    obtain ⟨i,hi,rfl⟩:=List.getElem_of_mem hb
    have:=h i hi
    rwa [List.getElem?_eq_getElem hi] at this
  . intro h i hi
    rw [List.getElem?_eq_getElem hi]
    exact h _ (List.getElem_mem hi)
section
variable {X:Cx} {o e:Expr}
theorem call_allL (hc:X.calm=true):CallR X (.builtin "all") (rAll X.K):=by
  intro pins s σ H xs us Q I r h
  obtain ⟨a,bs,rfl,hl,q⟩:=h
  cases r with
  | cons r1 r2 =>
    cases r2
    cases (show _=Value.ref a from r1)
    obtain ⟨its,rv,pl,_⟩:=I.list hl
    have hi:=pl.isList
    have hlt:a < s.heap.objs.size:=by obtain ⟨_,e,_⟩:=hi;exact Heap.lt_size e
    have hlen:its.length=bs.length:=by have:=rv.length;simpa using this.symm
    refine call_all_walk (wpAny_pyIter_list hi ?_)
    refine ⟨s.heap.objs.size,[s.heap.objs.size,a],[s.heap.objs.size],its.toArray.size,_,_,fun i=>(bs[i]?).getD true,rfl,Walks.list (A:=X.A.in1) (I.ok.hd hc) _ a (Nat.ne_of_lt hlt) its.toArray,
      ⟨⟨_,Heap.get?_push_size _ rfl,rfl,rfl⟩,hi.push _⟩,fun i v s' Q' E' hP hQ=>?_,fun h' tk hk=>?_⟩
    . have hP:its[i]?=some v:=by simpa using hP
      have hb:i < bs.length:=by have:=(List.getElem?_eq_some_iff.mp hP).1;omega
      obtain ⟨u,hu,ru⟩:=rv.get (x:=.bl bs[i]) (i:=i) (by rw [List.getElem?_map,List.getElem?_eq_getElem hb];rfl)
      rw [hP] at hu
      cases hu
      cases (show v=Value.bool bs[i] from ru)
      simp only [List.getElem?_eq_getElem hb,Option.getD_some] at hQ
      exact wpAny_truthy_bool hQ
    . have e:((List.range its.toArray.size).all fun i=>(bs[i]?).getD true)=bs.all id:=by
        rw [List.size_toArray,hlen];exact range_all' bs
      rw [e]
      exact ⟨.bl _,H,I.kept (t':=tk) fun b x e=>hk b x (fun hm=>by rw [List.mem_singleton.mp hm] at e;exact Nat.lt_irrefl _ (Heap.lt_size e)) (Heap.get?_push_of_some _ e),rfl,q⟩
end
end L2
namespace D
open PySem L2 K0 Num
open PySem.W (Dat)
section
variable {p:Option Addr} {K:PySem.W.Frag} {τ:List Sl} {ta:TE}
theorem Dzs.bls {H:Hp}:∀ {N:Addr->Prop} {vs:List V} {bs:List Bool},Dzs N K H vs (bs.map Dat.bool)->vs=bs.map V.bl
  | _,_,[],h=>by cases h;rfl
  | _,_,y :: r,h=>by
    cases h with
    | cons h1 h2=>cases h1;rw [Dzs.bls h2];rfl
theorem E1.allL {bs:List Bool} (ha:E1 p K ta τ (.own (bs.map .bool))):E1 p K (tCB (rAll K) (tCons ta tNil)) τ (.dat (.bool (bs.all id))):=fun W L σ H Q rs o q =>
  ha W L σ H _ rs o fun v H1 s e e1 o1 rv=>by
    subst e
    obtain ⟨a,vs,rfl,h0,h1,h2⟩:=rv
    have ev:=h2.bls
    subst ev
    exact ⟨a,bs,rfl,SqL.of h1,q _ H1 _ rfl e1 o1 (.bool _)⟩
end
end D
end
section
namespace L2
open PySem PySem.Spec PyProof.Rows
section
noncomputable abbrev zs (h:Heap) (sx:Str) (t:Tok):Heap:=h.push { cls:=.type "str_ascii_iterator",data:=.fields #[.str sx t,.int 0 0] }
end
section
end
end L2
end
section
namespace L2
open PySem PySem.Spec PyProof.Rows
section
end
end L2
namespace D
open PySem L2 K0 Num
open PySem.W (Dat)
section
end
noncomputable def lt1 (i:Nat):Str:=⟨#[120 + i]⟩
noncomputable def hg (i j k:Nat):Str:=⟨#[120 + i,120 + j,120 + k]⟩
noncomputable def w1 (i:Nat):Int:=if i=0 then 1 else 0
noncomputable def w2 (i:Nat):Int:=if i=1 then 1 else 0
noncomputable def w3 (i:Nat):Int:=if i=2 then 1 else 0
noncomputable def hu (f g h:List Int):List Int:=pl (qm f (qm g h))
section
variable {f g h:List Int}
end
end D
end
section
namespace L2
open PySem PySem.Spec PyProof.Rows
section
variable {ta tb:TE} {x:Str}
end
end L2
namespace D
open PySem L2 K0 Num
open PySem.W (Dat)
section
variable {p:Option Addr} {K:PySem.W.Frag} {τ:List Sl} {ta tb:TE}
theorem E1.inS {x y:Str} (ha:E1 p K ta τ (.dat (.str x))) (hb:E1 p K tb τ (.dat (.str y))):E1 p K (tOp (fun x y H Q=>∃ i j,x = .str i/\y = .str j/\Q (.bl (!(Builtin.Str.occurrences j i 0 j.length 1).isEmpty)) H) ta tb) τ (.dat (.bool (!(Builtin.Str.occurrences y x 0 y.length 1).isEmpty))) :=
  E1.op2 ha hb fun W H0 H u v Q o0 o r1 r2 q=>by
    cases r1.str_inv
    cases r2.str_inv
    exact ⟨x,y,rfl,rfl,q _ H Ev.refl o (.bool _)⟩
end
noncomputable def hd (i j:Nat):Int:=if (i + 1) % 3=j then 1 else -1
noncomputable def le3 (i j k:Nat):Int:=if i=k then 0 else hd i j
noncomputable def kp3 (i j:Nat):Dat->Bool:=fun d=>match d with | .str z=>(!decide (z=lt1 i)) && (!decide (z=lt1 j)) | _=>false
end D
end
namespace D
open PySem L2 K0 Num
open PySem.W (Dat)
noncomputable def lea (i j k:Nat) (m n:Int):List Int:=ps (m * 1 + n * le3 i j k) (n * 1 - m * le3 i j k)
noncomputable def fstS (p q r s m n:Int):Int × Int:=if p * m + r * n=0/\q * m + s * n=0 then (p * m * 0 + q * m * 1,q * m * 0 - p * m * 1) else (p * m + r * n,q * m + s * n)
noncomputable def sby (i j k:Nat) (p q r s m n:Int):Dat:=.tuple [tI (ps (fstS p q r s m n).1 (fstS p q r s m n).2),tI (lea i j k m n),tI (ps (p * m * (fstS p q r s m n).2 + q * m * -(fstS p q r s m n).1) (q * m * (fstS p q r s m n).2 - p * m * -(fstS p q r s m n).1))]
noncomputable def rowD (x:List (List Int)):Dat:=.tuple (x.map tI)
section
end
noncomputable def sbyR (i j k:Nat) (p q r s m n:Int):List (List Int):=[ps (fstS p q r s m n).1 (fstS p q r s m n).2,lea i j k m n,ps (p * m * (fstS p q r s m n).2 + q * m * -(fstS p q r s m n).1) (q * m * (fstS p q r s m n).2 - p * m * -(fstS p q r s m n).1)]
theorem sby_row {i j k:Nat} {p q r s m n:Int}:sby i j k p q r s m n=rowD (sbyR i j k p q r s m n):=rfl
section
end
theorem atI_head {α:Type} {x:α} {r:List α}:atI (x :: r) 0=some x:=by
  unfold atI ixN
  rw [if_pos (by decide),if_pos (by rw [List.length_cons];omega)]
  rfl
section
noncomputable def Pu3 (N:Nat) (H:Hp) (q:Addr):Prop:=∃ x c n:Int,H q=some (.lst [.int x,.int c,.int n])/\0<=n/\n<=N
structure P3 (q:Addr) (ip N:Nat) (W:Addr->Prop) (L:List Addr) (σ:St) (H:Hp):Prop where
  wq:W q
  lq:q ∉ L
  sq:σ[ip]?=some (some (.ref q))
  pu:Pu3 N H q
section
variable (q:Addr) (ip N M:Nat) (K:PySem.W.Frag)
noncomputable def T2 (tt:TT) (τ:List Sl) (C:Bool->Prop):Prop:=∀ (W:Addr->Prop) (L:List Addr) (σ:St) (H:Hp) (Q:Bool->Hp->Prop),Rs none W K H L σ τ->Ok none W H->P3 q ip N W L σ H->(∀ b H',C b->Ev (fun a=>a=q) H H'->Ok none W H'->Pu3 M H' q->Q b H')->tt σ H Q
noncomputable def S2 (ts:TS) (τ:List Sl) (nx:List Sl->Prop) (rt:Sl->Prop):Prop:=∀ (W:Addr->Prop) (L:List Addr) (σ:St) (H:Hp) (D:Ends),Rs none W K H L σ τ->Ok none W H->P3 q ip N W L σ H ->
  (∀ (W':Addr->Prop) (L':List Addr) σ' H' τ',nx τ'->Ev W H H'->Ok none W' H'->(∀ a,W a->∃ ys,H' a=some ys)->(∀ a,W' a->W a\/H a=none)->(∀ a,a ∈ L'->a ∈ L\/H a=none)->Rs none W' K H' L' σ' τ'->P3 q ip M W' L' σ' H'->D.nx σ' H') ->
  (∀ (W':Addr->Prop) H' v s,rt s->Ev W H H'->Ok none W' H'->(∀ a,W a->∃ ys,H' a=some ys)->(∀ a,W' a->W a\/H a=none)->Rr none W' K L H H' v s->Pu3 M H' q->D.rt v H')->ts D σ H
end
section
variable {q:Addr} {ip N M:Nat} {K:PySem.W.Frag} {W:Addr->Prop} {L:List Addr} {σ:St} {H H':Hp} {τ τ':List Sl} {v:V} {s:Sl} {nx:List Sl->Prop} {rt:Sl->Prop} {tt:TT}
end
end
end D
section
namespace L2
open PySem PySem.Spec PyProof.Rows
end L2
namespace D
open PySem L2 K0 Num
open PySem.W (Dat)
section
variable {q:Addr} {ip N M:Nat} {K:PySem.W.Frag} {W:Addr->Prop} {L:List Addr} {σ:St} {H H1:Hp} {τ:List Sl} {ds:List Dat} {wi:TI}
noncomputable def W2 (q:Addr) (ip N M:Nat) (K:PySem.W.Frag) (wi:TI) (τ:List Sl) (P:List Dat->Prop):Prop:=∀ (W:Addr->Prop) (L:List Addr) (σ:St) (H:Hp) (R:It->Hp->Prop),Rs none W K H L σ τ->Ok none W H->P3 q ip N W L σ H->(∀ ds J H1,P ds->Ev (fun a=>a=q) H H1->Ok none W H1->Pu3 M H1 q->Jd W K J H1 ds->R J H1)->wi σ H R
end
end D
end
section
namespace L2
open PySem PySem.Spec PyProof.Rows
open PySem.W (Dat kqdOk kqdP kqdPs)
noncomputable def rInD (K:PySem.W.Frag) (neg:Bool):R2:=fun x y H Q=>∃ d ds r,Is K H x d/\Is K H y (.list ds)/\kqdOk 8 d=true/\(∀ e ∈ ds,kqdOk 8 e=true)/\(r=true ↔ d ∈ ds)/\Q (.bl (if neg then !r else r)) H
section
variable {X:Cx}
theorem any_in {ds:List Dat} {d:Dat} (ha:∀ e ∈ ds,kqdOk 8 e=true) (hd:kqdOk 8 d=true) {b:Bool} (hb:b=true ↔ d ∈ ds):((kqdPs ds).any fun y=>PyData.eqv y (kqdP d))=b:=by
  have k:=PySem.W.kqd_any ds d ha hd
  rw [Bool.eq_iff_iff,k,hb]
theorem op_inD (hu:X.A.units + 64 < cLine):OpR X (compareOp .In) (rInD X.K false):=by
  intro pins s σ H x y v u Q I rx ry h
  obtain ⟨d,ds,r,hd,hs,k1,k2,hr,q⟩:=h
  obtain ⟨as,ra⟩:=hd.reads I 8 k1 rx
  obtain ⟨bs,rb⟩:=hs.reads I 9 (by rw [kqdOk];exact List.all_eq_true.mpr k2) ry
  rw [kqdP] at rb
  have l1:=PySem.W.kqd_layL k2
  have l2:=PySem.W.kqd_lay 8 d k1
  refine SeqAt.in_list_reads rb ra l1.1 l2.1 (by have:=Nat.min_le_right (PyData.depthAll (kqdPs ds)) (kqdP d).depth;have:=l2.2;omega) ?_
  rw [any_in k2 k1 hr]
  exact ⟨.bl _,H,I,rfl,q⟩
end
end L2
namespace D
open PySem L2 K0 Num
open PySem.W (Dat)
section
variable {p:Option Addr} {K:PySem.W.Frag} {τ:List Sl} {ta tb:TE}
theorem E1.inD {a b:Sl} {d:Dat} {ds:List Dat} {r:Bool} (ha:E1 p K ta τ a) (hb:E1 p K tb τ b) (ea:datOf a=some d) (eb:datOf b=some (.list ds)) (k1:PySem.W.kqdOk 8 d=true) (k2:∀ e ∈ ds,PySem.W.kqdOk 8 e=true) (hr:r=true ↔ d ∈ ds):E1 p K (tOp (rInD K false) ta tb) τ (.dat (.bool r)) :=
  E1.op2 ha hb fun W H0 H x y Q o0 o r1 r2 q=>⟨d,ds,r,r1.isD ea,r2.isD eb,k1,k2,hr,q _ H Ev.refl o (.bool _)⟩
end
end D
end
section
namespace L2
open PySem PySem.Spec PyProof.Rows
end L2
namespace D
open PySem L2 K0 Num
open PySem.W (Dat)
section
variable {p:Option Addr} {K:PySem.W.Frag} {τ:List Sl} {tb:TE}
theorem E1.catVO {i:Nat} {xs ys:List Dat} (h:τ[i]?=some (.own xs)) (hb:E1 p K tb τ (.own ys)) (hz:xs.length + ys.length<=sizeLine):E1 p K (tOp rCat (tVar i) tb) τ (.own (xs ++ ys)):=fun W L σ H Q rs o q=>by
  obtain ⟨a,vs,e,w,n,u,h1,z⟩:=rs.get_own h
  refine ⟨_,e,hb W L σ H _ rs o fun y H2 t e' e2 o2 rv2=>?_⟩
  subst e'
  obtain ⟨b,us,rfl,h3,h4,h5⟩:=rv2
  have z2:=z.ev (W:=Pp p) e2 o.nw
  refine ⟨a,b,vs,us,rfl,rfl,e2.keep a _ (fun y=>n y) h1,h4,by rw [z.len,h5.len];exact hz,fun l hl=>?_⟩
  have s:=Same.new hl (.lst (vs ++ us))
  exact q _ _ _ rfl (e2.trans (Ev.of s)) (o2.same s) ⟨l,_,rfl,o2.back e2 hl,upd_same,(z2.app h5).ev (W:=Pp p) (Ev.of s) o2.nw⟩
theorem S.asgO {te:TE} {ds:List Dat} {i:Nat} {nx:List Sl->Prop} {rt:Sl->Prop} {τ':List Sl} (h:E1 p K te τ (.own ds)) (nl:noLs ds=true) (m:nx τ') (e0:τ.set i (.own ds)=τ':=by rfl):S p K (tAsg te (gName i)) τ nx rt:=fun W L σ H D r o q1 q2=>by
  refine h W L σ H _ r o fun v H1 s c e o1 rv=>?_
  subst c
  obtain ⟨a,vs,rfl,h1,h2,h3⟩:=rv
  have nw:=o.fresh h1
  have wid:∀ b,(W b\/b=a)->¬ W b->H b=none:=fun b hb nb=>(hb.resolve_left nb) ▸ h1
  have r1:Rs p (fun b=>W b\/b=a) K H1 L σ τ:=(r.wide (fun _ h=>.inl h) wid).ev e fun q hq=>.inl (o.pw q hq)
  have al:a ∉ L:=fun z=>by obtain ⟨_,y⟩:=r.own_in a z;rw [h1] at y;cases y
  obtain ⟨L',l,r2⟩:=r1.setO (.inr rfl) (o.np h1) al h2 (h3.free nl) i
  refine q1 _ L' _ H1 _ (e0 ▸ m) (e.ofP o) ⟨fun q hq=>⟨(o1.pu q hq).1,.inl (o1.pw q hq)⟩,fun b hb=>?_⟩ o1.al (fun b hb=>hb.imp id fun (z:b=a)=>by rw [z];exact h1) (fun b hb=>?_) r2
  . rcases hb with hb | rfl
    . exact o1.al b hb
    . exact ⟨_,h2⟩
  . rcases l b hb with rfl | hb
    . exact .inr h1
    . exact .inl hb
end
end D
end
namespace D
open PySem L2 K0 Num
open PySem.W (Dat)
noncomputable def n4 (a b c e:Int):Int:=a * a + b * b + c * c + e * e
section
noncomputable def gNs:List Nat->TGs
  | []=>gNil
  | i :: r=>gCons (gName i) (gNs r)
noncomputable def sets:List Sl->List Nat->List Dat->List Sl
  | τ,i :: is,d :: ds=>sets (τ.set i (.dat d)) is ds
  | τ,_,_=>τ
section
variable {p:Option Addr} {K:PySem.W.Frag} {W:Addr->Prop} {L:List Addr} {σ:St} {H:Hp} {τ τ':List Sl} {q:Addr}
theorem gNs_run {Q:St->Hp->Prop}:∀ {is:List Nat} {ds:List Dat} {vs:List V} {τ:List Sl} {σ:St} {L:List Addr},is.length=ds.length->Rs p W K H L σ τ->Dzs (fun a=>¬ W a) K H vs ds->(∀ L' σ',(∀ a,a ∈ L'->a ∈ L)->Rs p W K H L' σ' (sets τ is ds)->Q σ' H)->gNs is vs σ H Q
  | [],[],vs,τ,σ,L,_,r,z,k=>by
    cases z
    exact ⟨rfl,k L σ (fun _ h=>h) r⟩
  | i :: is, d :: ds, vs, τ, σ, L, hl, r, z, k => by
    cases z with
    | cons a t =>
      obtain ⟨L1,l1,r1⟩:=r.set (s:=.dat d) (.inr (.inl ⟨d,rfl,a⟩)) i
      exact ⟨_,_,rfl,gNs_run (by simpa using hl) r1 t fun L' σ' l' r'=>k L' σ' (fun a ha=>l1 a (l' a ha)) r'⟩
  | [],_ :: _,_,_,_,_,hl,_,_,_=>by cases hl
  | _ :: _,[],_,_,_,_,hl,_,_,_=>by cases hl
theorem Gd.lst {is:List Nat} {ds:List Dat} {n:Nat} (hl:is.length=ds.length) (hn:ds.length=n:=by rfl) (e:sets τ is ds=τ':=by rfl):Gd p K (gLst K n (gNs is)) (.list ds) τ τ':=fun W L σ H v Q r z q=>by
  subst e
  cases z with
  | lst h1 h2=>exact ⟨_,_,rfl,h1.sq,by rw [h2.len,hn],gNs_run hl r h2 q⟩
end
end
section
section
variable {W:Addr->Prop}
end
noncomputable def In (a b c d e f x y z:Int):Prop:=∃ m1 m2 m3:Int,x=m1 * a + m2 * b + m3 * d/\y=m2 * c + m3 * e/\z=m3 * f
structure Hnf (a b c d e f:Int):Prop where
  a0:0 < a
  c0:0 < c
  f0:0 < f
  b0:0<=b
  b1:b < a
  d0:0<=d
  d1:d < a
  e0:0<=e
  e1:e < c
end
end D
section
namespace L2
open PySem PySem.Spec PyProof.Rows
end L2
namespace D
open PySem L2 K0 Num
open PySem.W (Dat)
noncomputable def units:List (List Int):=[[1,0,0],[0,1,0],[0,0,1]]
noncomputable def Kpt (F:List Int) (x y z:Int):Prop:=∀ a b c e:Int,pl F=[a,b,c,e]->(sop (pl F) (pl F) ∣ sop (rw1 a b c e) [x,y,z])/\(sop (pl F) (pl F) ∣ sop (rw2 a b c e) [x,y,z])/\(sop (pl F) (pl F) ∣ sop (rw3 a b c e) [x,y,z])
noncomputable def KptA (fs:List (List Int)) (x y z:Int):Prop:=∀ F ∈ fs,Kpt F x y z
noncomputable def Rows (fs:List (List Int)) (a b c d e f:Int):Prop:=Hnf a b c d e f/\∀ x y z,In a b c d e f x y z ↔ KptA fs x y z
end D
end
namespace D
open PySem L2 K0 Num
open PySem.W (Dat)
section
noncomputable def FB (C:Int) (c:Nat) (x:Rat):Prop:=∃ t:Int,Bt t c/\qv t C=x
section
variable {C:Int} {c:Nat} {x:Rat}
end
end
noncomputable def Row3.neg (r:Row3):Row3:=⟨-r.x, -r.y, -r.z⟩
section
noncomputable def Row3.sum (r s:Row3) (p q:Rat):Row3:=⟨r.x * p + s.x * q,r.y * p + s.y * q,r.z * p + s.z * q⟩
noncomputable def Row3.cr (r s:Row3):Row3:=⟨r.y * s.z + r.z * -s.y,r.z * s.x + r.x * -s.z,r.x * s.y + r.y * -s.x⟩
section
variable {r s:Row3}
end
end
end D
section
namespace L2
open PySem PySem.Spec PyProof.Rows
end L2
namespace D
open PySem L2 K0 Num
open PySem.W (Dat)
noncomputable def flatD:Sl->Bool
  | .un=>true
  | .dat _=>true
  | _=>false
noncomputable def flatDs:List Sl->Bool
  | []=>true
  | s :: r=>flatD s && flatDs r
noncomputable def GivesX (d:Dat):Sl->Prop
  | .dat e=>d=e
  | .own ds=>d = .list ds
  | _=>False
theorem Rs.reset {p:Option Addr} {W W':Addr->Prop} {K:PySem.W.Frag} {H:Hp} {L:List Addr} {σ:St} {τ:List Sl} (r:Rs p W K H L σ τ) (m:∀ a,W' a->W a):flatDs τ=true->Rs none W' K H [] σ τ:=by
  induction r with
  | nil=>intro _;exact .nil
  | un _ ih=>intro h;rw [flatDs,flatD,Bool.true_and] at h;exact .un (ih h)
  | dat z _ ih=>intro h;rw [flatDs,flatD,Bool.true_and] at h;exact .dat (z.mono fun a n y=>n (m a y)) (ih h)
  | pu _ _ _=>intro h;rw [flatDs] at h;exact absurd (Bool.and_eq_true_iff.mp h).1 (by decide)
  | own _ _ _ _ _ _ _=>intro h;rw [flatDs] at h;exact absurd (Bool.and_eq_true_iff.mp h).1 Bool.false_ne_true
  | dt _ _ _ _ _ _=>intro h;rw [flatDs] at h;exact absurd (Bool.and_eq_true_iff.mp h).1 Bool.false_ne_true
section
variable {p:Option Addr} {K:PySem.W.Frag} {W:Addr->Prop} {L:List Addr} {σ:St} {H:Hp} {τ:List Sl} {s:Sl} {ds:List Dat}
end
end D
end
namespace D
open PySem L2 K0 Num
open PySem.W (Dat)
section
noncomputable def Row3.sub (r s:Row3):Row3:=⟨r.x - s.x,r.y - s.y,r.z - s.z⟩
noncomputable def Row3.add (r s:Row3):Row3:=⟨r.x + s.x,r.y + s.y,r.z + s.z⟩
noncomputable def Row3.sm (k:Rat) (r:Row3):Row3:=⟨k * r.x,k * r.y,k * r.z⟩
noncomputable def nq (w:Rat) (v:Row3):Rat:=N4 w v.x v.y v.z
section
variable {w:Rat} {v r s:Row3} {k:Rat}
end
noncomputable def r0:Row3:=⟨0,0,0⟩
section
variable {w:Rat} {v r s:Row3} {k:Rat}
end
end
end D
section
namespace L2
open PySem PySem.Spec PyProof.Rows
end L2
namespace D
open PySem L2 K0 Num
open PySem.W (Dat)
noncomputable def spX (K:PySem.W.Frag) (R:List Dat->(Dat->Prop)->Prop):Sp:=fun vs H Q _=>∃ ds C,Dzs (fun _=>True) K H vs ds/\R ds C/\∀ v H' d,C d->Same H H'->Dz (fun _=>True) K H' v d->Q v H'
section
variable {K:PySem.W.Frag} {W:Addr->Prop} {H:Hp} {τ':List Sl} {v:V} {s:Sl} {t:TS} {ds:List Dat}
variable {P:Program} {w:World} {mg:Str->Option Value} {base:Heap}
theorem okX {x qual:Str} {st:Stmt} {f:Addr} {fd:FuncData} {N ps:List Str} {k:Nat} {R:List Dat->(Dat->Prop)->Prop} (F:Fun K x qual st f fd) (S0:FnScope N ps (defScope st)) (len:∀ ds C,R ds C->ds.length=ps.length)
    (body:∀ (cdv:Value) (A:Around) (outer:List Env) (s:Shared) (H:Hp) (E:XK),Room k (A.deeper (PyProof.Rows.envOfC qual (defScope st) s.heap.objs.size f cdv)) ->
      ∃ t,ZSs (cxOf CX0 P w K mg base N qual (defScope st) f cdv A outer s H E).nox (defBody st) t/\∀ ds C,R ds C->S none K t (ds.map .dat ++ List.replicate (N.length - ps.length) .un) (fun _=>False) (fun s=>∃ d,C d/\GivesX d s)):FnOk P w K mg base CX0 (k + 1) f fd ps (spX K R):=by
  refine F.okZ S0 (fun vs H Q E h=>?_) (fun cdv A outer s H vs Q E hr h=>?_)
  . obtain ⟨ds,C,z,r,_⟩:=h;rw [z.len];exact len ds C r
  . obtain ⟨ds,C,z,r,q⟩:=h
    obtain ⟨t,hz,hs⟩:=body cdv A outer s H E hr
    refine ⟨t,hz,?_⟩
    have l:vs.length=ps.length:=by rw [z.len];exact len ds C r
    have r0:Rs none (fun _=>False) K H [] (L2.start N vs) (ds.map .dat ++ List.replicate (N.length - ps.length) .un):=by
      unfold L2.start
      rw [l]
      exact rs_start _ z fun a _ h=>h
    have same:∀ {H':Hp},Ev (fun _=>False) H H'->Same H H':=fun e b o h=>e.keep b o (fun z=>z) h
    refine hs ds C r (fun _=>False) [] _ H _ r0 ⟨fun q h=>(by cases h),fun a h=>False.elim h⟩ (fun W' L' σ' H' τ' e ev o' al n l r'=>e.elim) (fun W' H' v s e ev o' al n rv=>?_)
    obtain ⟨d,c,e⟩:=e
    cases s with
    | dat d' =>
      obtain rfl:d=d':=e
      exact q v H' _ c (same ev) (Dz.mono (fun _ _=>trivial) rv)
    | own es =>
      obtain rfl:d = .list es:=e
      obtain ⟨a,vs,rfl,h1,h2,h3⟩:=rv
      exact q _ H' _ c (same ev) (.lst (.inl ⟨trivial,.inl h2⟩) (h3.mono fun _ _=>trivial))
    | dt es=>cases e
    | un=>cases e
    | pu=>cases e
    | vw ds=>cases e
end
end D
end
namespace D
open PySem L2 K0 Num
open PySem.W (Dat)
noncomputable def TnQ (w x y z:Int) (r s:Row3):Prop:=Q1 w x y z r.x r.y r.z=s.x/\Q2 w x y z r.x r.y r.z=s.y/\Q3 w x y z r.x r.y r.z=s.z
noncomputable def d2 (a b:Row3):Rat:=(b.sub a).dot (b.sub a)
structure Only (p0 p1 p2 o0 o1 o2:Row3) (w x y z:Int) (u v t:Rat):Prop where
  nz:∃ n ∈ [w,x,y,z],n ≠ 0
  p:pl [w,x,y,z]=[w,x,y,z]
  b:Bd (2 ^ 1000) [w,x,y,z]
  h1:TnQ w x y z (p1.sub p0) (o1.sub o0)
  h2:TnQ w x y z (p2.sub p0) (o2.sub o0)
  su:u=o0.x + -Q1 w x y z p0.x p0.y p0.z
  sv:v=o0.y + -Q2 w x y z p0.x p0.y p0.z
  st:t=o0.z + -Q3 w x y z p0.x p0.y p0.z
noncomputable def rq (f g:List Int):Rat:=qv (sop f g * sop f g) (nrm f * nrm g)
noncomputable def rho (fs:List (List Int)) (i j:Nat):Rat:=rq (fs.getD i []) (fs.getD j [])
end D
section
namespace L2
open PySem PySem.Spec PyProof.Rows
noncomputable def rCatS (K:PySem.W.Frag):R2:=fun x y H Q=>∃ l b xs zs,x = .ref l/\y = .ref b/\SqL K H l xs/\SqL K H b zs/\xs.length + zs.length<=sizeLine/\∀ p,H p=none->Q (.ref p) (upd H p (.lst (xs ++ zs)))
section
variable {X:Cx}
theorem op_catS:OpR X (binaryOp .Add) (rCatS X.K):=by
  intro pins s σ H x y v u Q I rx ry h
  obtain ⟨l,b,xs,zs,rfl,rfl,hH,hB,hz,q⟩:=h
  cases (show v=Value.ref l from rx)
  cases (show u=Value.ref b from ry)
  obtain ⟨its,r,pl,z⟩:=I.list hH
  obtain ⟨its2,r2,pl2,z2⟩:=I.list hB
  obtain ⟨⟨cls,dd,data,sl⟩,ho,hc,n,hd⟩:=pl.isList
  obtain ⟨⟨cls2,dd2,data2,sl2⟩,ho2,hc2,n2,hd2⟩:=pl2.isList
  simp only at hc hd hc2 hd2
  subst hc hd hc2 hd2
  have e:its.toArray ++ its2.toArray=(its ++ its2).toArray:=by simp
  have l1:=r.length
  have l2:=r2.length
  refine concat_meets ⟨_,ho,rfl⟩ ⟨_,ho2,rfl⟩ noFill_list_add seq_list_add PySem.F.slot_list_add PySem.F.entry_list_add (PySem.F.args_list_add_2 _ _) (list_addW l b its.toArray its2.toArray n n2 dd dd2 sl sl2 (by rw [List.size_toArray,List.size_toArray];omega)) ⟨ho,ho2,?_⟩
  rw [e]
  exact ⟨.ref _,_,I.lnew (t':=s.toks) (r.append r2) (by rw [List.length_append];omega),rfl,q _ I.fresh⟩
end
end L2
namespace D
open PySem L2 K0 Num
open PySem.W (Dat)
section
variable {p:Option Addr} {K:PySem.W.Frag} {W:Addr->Prop} {σ:St} {H:Hp} {v:V} {s:Sl} {u:TS}
end
end D
end
section
namespace D
open PySem L2 K0 Num
open PySem.W (Dat)
section
variable {p:Option Addr} {K:PySem.W.Frag} {W:Addr->Prop} {τ:List Sl} {te:TE}
end
end D
namespace D
open PySem L2 K0 Num
open PySem.W (Dat)
section
variable {p:Option Addr} {K:PySem.W.Frag} {τ:List Sl} {te:TE} {s:Sl}
theorem A.lastE {C:Sl->Prop} (h:E p K te τ C):A p K (tCons te tNil) τ (fun ss=>∃ s,ss=[s]/\C s):=A.cons (C2:=fun _ x=>[]=x) h (fun _ _=>A1.nil) fun x ss h1 h2=>⟨x,by rw [<- h2],h1⟩
end
end D
end
namespace D
open PySem L2 K0 Num
open PySem.W (Dat)
section
noncomputable def Own.Reads (o:Own) (d:Dat):Prop:=∀ (N:Addr->Prop) (K:PySem.W.Frag) (H:Hp) (a:Addr) (l:List Addr),o.R N K H a l->Dz (fun _=>True) K H (.ref a) d
section
variable {K:PySem.W.Frag} {W:Addr->Prop} {H:Hp} {o:Own}
end
end
end D
section
namespace D
open PySem L2 K0 Num
open PySem.W (Dat)
section
variable {p:Option Addr} {K:PySem.W.Frag} {W:Addr->Prop} {L:List Addr} {σ:St} {H H1 H2:Hp} {τ:List Sl} {ta tb:TE}
theorem E1.catVV {xs ys:List Dat} (ha:E1 p K ta τ (.vw xs)) (hb:E1 p K tb τ (.vw ys)) (hz:xs.length + ys.length<=sizeLine):E1 p K (tOp (rCatS K) ta tb) τ (.own (xs ++ ys)):=fun W L σ H Q rs o q =>
  ha W L σ H _ rs o fun x H1 s e e1 o1 rv1=>hb W L σ H1 _ (rs.ev e1 o.pw) o1 fun y H2 t e' e2 o2 rv2=>by
    subst e e'
    obtain ⟨a,vs,rfl,h1,h2⟩:=rv1.ev e2 o1 o
    obtain ⟨b,us,rfl,h3,h5⟩:=rv2
    refine ⟨a,b,vs,us,rfl,rfl,h1.sq,h3.sq,by rw [h2.len,h5.len];exact hz,fun l hl=>?_⟩
    have s:=Same.new hl (.lst (vs ++ us))
    have e12:=e1.trans e2
    exact q _ _ _ rfl (e12.trans (Ev.of s)) (o2.same s) ⟨l,_,rfl,o2.back e12 hl,upd_same,(h2.app h5).ev (W:=Pp p) (Ev.of s) o2.nw⟩
end
end D
namespace D
open PySem L2 K0 Num
open PySem.W (Dat)
end D
end
namespace D
open PySem L2 K0 Num
open PySem.W (Dat)
section
section
variable {W:Addr->Prop}
end
inductive Con (A:Nat->Nat->Prop):Nat->Nat->Prop
  | refl (i:Nat):Con A i i
  | step {i j k:Nat}:Con A i j->A j k->Con A i k
section
variable {A:Nat->Nat->Prop}
noncomputable def conB (A:Nat->Nat->Prop) (i j:Nat):Bool:=@decide (Con A i j) (Classical.propDecidable _)
noncomputable def cls (A:Nat->Nat->Prop) (n i:Nat):List Nat:=(List.range n).filter (conB A i)
end
end
section
section
variable {p:Option Addr} {W:Addr->Prop}
end
noncomputable def mn (fs:List (List Int)) (ps:List Nat) (r:Rat) (p:Nat):Rat:=if rho fs (ps.getLastD 0) p < r then rho fs (ps.getLastD 0) p else r
section
variable {fs:List (List Int)} {ps:List Nat} {r:Rat}
end
end
end D
section
namespace L2
open PySem PySem.Spec PyProof.Rows
noncomputable def IntT (n:Int) (d:Value):Prop:=∃ t,d = .int n t
noncomputable def IntTAt (K:PySem.W.Frag) (x:Str) (n:Int):Prop:=∃ t,PySem.W.nsIn K mainGlobals x=some (some (.int n t))
theorem IntTAt.mk {K:PySem.W.Frag} {x:Str} {n:Int} {t:_} (a:PySem.W.nsIn K mainGlobals x=some (some (.int n t))):IntTAt K x n:=⟨t,a⟩
theorem IntTAt.get {K:PySem.W.Frag} {x:Str} {n:Int} {h:Heap} {mg:Str->Option Value} (t:IntTAt K x n) (Y:K.In h) (G:h.Ns mainGlobals mg):∃ d,mg x=some d/\IntT n d:=by
  obtain ⟨d,a⟩:=t
  exact ⟨_,PySem.W.mg_of Y G a,_,rfl⟩
theorem ze_globI {X:Cx} {x:Str} {pos:Pos} {n:Int} {d:Value} (hg:Gl X x) (hm:X.mg x=some d) (r:IntT n d) (hd:(x == ("__debug__" : Str))=false:=by decide):ZE X (.Name x pos) (tC (.int n)):=ze_glob hg hm (by obtain ⟨t,rfl⟩:=r;exact ⟨t,rfl⟩) hd
end L2
namespace D
open PySem L2 K0 Num
open PySem.W (Dat)
end D
end
namespace D
open PySem L2 K0 Num
open PySem.W (Dat)
section
section
variable {W:Addr->Prop}
end
noncomputable def SFour (f:List Int):Prop:=f.length=4/\(∃ n ∈ f,n ≠ 0)/\Bd (2 ^ 3) f
instance (f:List Int):Decidable (SFour f):=by unfold SFour Bd;infer_instance
section
end
end
structure Fw where
  t:Int
  b:Int
noncomputable def Fw.q (f:Fw):Rat:=qv f.t f.b
noncomputable def Fw.d (f:Fw):Dat:=tI [f.t,f.b]
noncomputable def pQ (v:Rat × Rat × Rat):Dat:=ptQ v.1 v.2.1 v.2.2
section
end
end D
section
namespace L2
open PySem PySem.Spec PyProof.Rows
namespace RvT
section
variable {t:Addr}
noncomputable def Is (h:Heap) (a t:Addr) (i:Int):Prop:=∃ o,h.get? a=some o/\o.cls = .type "reversed" /\ o.data = .fields #[.ref t,rawInt i]
end
end RvT
section
end
end L2
end
namespace D
open PySem L2 K0 Num
open PySem.W (Dat)
section
end
noncomputable abbrev V3:=Rat × Rat × Rat
structure Jt where
  x:Int
  y:Int
  z:Int
  a:V3
  k:Int
  l:Int
noncomputable def Jt.d (j:Jt):Dat:=.tuple [tI [j.x,j.y,j.z],pQ j.a,tI [j.k,j.l]]
noncomputable def Jt.t (j:Jt):List Int:=pl [j.l,j.k * j.x,j.k * j.y,j.k * j.z]
noncomputable def Jt.w (j:Jt):V3:=(j.x,j.y,j.z)
end D
section
namespace L2
open PySem PySem.Spec PyProof.Rows
noncomputable def StrT (z:Str) (d:Value):Prop:=∃ t,d = .str z t
noncomputable def StrTAt (K:PySem.W.Frag) (x:Str) (z:Str):Prop:=∃ t,PySem.W.nsIn K mainGlobals x=some (some (.str z t))
theorem StrTAt.mk {K:PySem.W.Frag} {x z:Str} {t:_} (a:PySem.W.nsIn K mainGlobals x=some (some (.str z t))):StrTAt K x z:=⟨t,a⟩
theorem StrTAt.get {K:PySem.W.Frag} {x z:Str} {h:Heap} {mg:Str->Option Value} (t:StrTAt K x z) (Y:K.In h) (G:h.Ns mainGlobals mg):∃ d,mg x=some d/\StrT z d:=by
  obtain ⟨d,a⟩:=t
  exact ⟨_,PySem.W.mg_of Y G a,_,rfl⟩
theorem ze_globS {X:Cx} {x z:Str} {pos:Pos} {d:Value} (hg:Gl X x) (hm:X.mg x=some d) (r:StrT z d) (hd:(x == ("__debug__" : Str))=false:=by decide):ZE X (.Name x pos) (tC (.str z)):=ze_glob hg hm (by obtain ⟨t,rfl⟩:=r;exact ⟨t,rfl⟩) hd
end L2
namespace D
open PySem L2 K0 Num
open PySem.W (Dat)
section
variable {p:Option Addr} {K:PySem.W.Frag} {τ:List Sl}
theorem E1.cS {z:Str}:E1 p K (tC (.str z)) τ (.dat (.str z)):=fun W L σ H Q r o q=>q _ H _ rfl Ev.refl o (.str _)
end
end D
end
section
namespace D
open PySem L2 K0 Num
open PySem.W (Dat)
end D
namespace D
open PySem L2 K0 Num
open PySem.W (Dat)
theorem lets_len {z:Str}:(lets z).length=z.length:=by unfold lets;rw [List.length_map,Array.length_toList];rfl
theorem lets_get {z:Str} {i:Nat} {d:Dat} (h:(lets z)[i]?=some d):∃ c,d = .str ⟨#[c]⟩/\c ∈ z.cps.toList:=by
  unfold lets at h
  rw [List.getElem?_map] at h
  cases e:z.cps.toList[i]? with
  | none=>rw [e] at h;cases h
  | some c=>rw [e] at h;cases h;exact ⟨c,rfl,List.mem_of_getElem? e⟩
end D
end
namespace D
open PySem L2 K0 Num
open PySem.W (Dat)
noncomputable def low (c:Nat):Prop:=97<=c/\c<=122
section
end
end D
section
namespace L2
open PySem PySem.Spec PyProof.Rows
noncomputable def Fx (C:Value) (e:Addr) (tb:Option Addr) (h:Heap):Prop :=
  ∃ oe vs,h.get? e=some oe/\(oe.cls=C/\oe.dict=none)/\oe.data = .fields vs/\1 < vs.size/\(match tb with
    | none=>vs[1]?=some .none
    | some T=>vs[1]?=some (.ref T)/\T ≠ e/\∃ oT ts,h.get? T=some oT/\oT.data = .fields ts/\3 < ts.size)
noncomputable def Kp (fs:List Addr) (X:Addr->Prop) (h h':Heap):Prop :=
  ∀ b o,¬ X b->h.get? b=some o->(b ∉ fs->h'.get? b=some o)/\∃ sl,h'.get? b=some { o with slots:=sl }
theorem Kp.trans {fs:List Addr} {X Y:Addr->Prop} {h h1 h2:Heap} (a:Kp fs X h h1) (b:Kp fs Y h1 h2) (m:∀ z,Y z->X z\/h.get? z=none):Kp fs X h h2:=fun c o n e=>by
  have ny:¬ Y c:=fun z=>(m c z).elim n fun q=>by rw [q] at e;cases e
  obtain ⟨k,sl,q⟩:=a c o n e
  obtain ⟨k2,sl2,q2⟩:=b c _ ny q
  refine ⟨fun nf=>(b c o ny (k nf)).1 nf,sl2,q2⟩
section
variable {M:Model} {A:Around} {E:Value->Shared->Prop} {s:Shared} {env:Env} {outer:List Env} {L e:Addr} {C:Value} {base:Heap} {Q:Unit->Shared->Prop}
theorem entry_new {ob:Obj} {fs:Array Value} {hd0:Value} {nx:Bool} (f0:A.frames=some (env :: outer)) (f1:s.heap.FunFrames base (env :: outer)) (f2:env.frame=some L)
    (x0:s.heap.get? e=some ob) (x1:ob.data = .fields fs) (x2:1 < fs.size) (x3:ob.cls=C/\ob.dict=none)
    (k:∀ h' T,s.heap.objs.size<=T->Fx C e (some T) h'->Kp (frs (env :: outer)) (fun b=>b=e) s.heap h'->Q () { s with heap:=h' }) :
    wpAny M A (do
      let fo <- frameOf env
      let pl <- entryPlaceOf L nx
      let en <- EntryCells.newEntry hd0 fo .none (rawInt L) .none pl
      setField (.ref e) 1 en) Q E s:=by
  have out:e ∉ frs (env :: outer):=fun z=>by
    obtain ⟨_,o2,q1,q2⟩:=f1.mem z
    rw [x0] at q1
    cases q1
    exact q2 fs x1
  refine wpAny_bind (wpAny_frameOf_fun f0 f1 f2 fun g so=>wpAny_bind (wpAny_entryPlaceOf fun pl pok=>?_))
  unfold EntryCells.newEntry newFields
  refine wpAny_bind (wpAny_newObj_type ?_ (pok.sizeOk5 _ _ _ _ _))
  have sz:g.objs.size=s.heap.objs.size:=so.1
  have y0:g.get? e=some ob:=by rw [so.2.1 e out];exact x0
  have ne:g.objs.size ≠ e:=Nat.ne_of_gt (Heap.lt_size y0)
  generalize hob:({ cls:=.type "traceback",dict:=none,data:=.fields ([hd0,.ref L,.none,rawInt L,.none] ++ (if pl.isEmpty then List.replicate 6 Value.none else pl)).toArray }:Obj)=nob
  have nd:nob.data = .fields ([hd0,.ref L,.none,rawInt L,.none] ++ (if pl.isEmpty then List.replicate 6 Value.none else pl)).toArray:=by rw [<- hob]
  have nfr:nob.isFreed=false:=Obj.isFreed_of_fields nd
  have y1:(g.push nob).get? e=some ob:=Heap.get?_push_of_some nob y0
  refine wpAny_setField y1 x1 x2 ?_
  generalize hf1:Obj.mapFields (·.setIfInBounds 1 (Value.ref g.objs.size))=m1
  have d1:(m1 ob).data = .fields (fs.setIfInBounds 1 (.ref g.objs.size)):=by rw [<- hf1];exact Obj.data_mapFields x1 _
  have c1:(m1 ob).cls=C/\(m1 ob).dict=none:=⟨by rw [<- hf1,Obj.cls_mapFields];exact x3.1,by rw [<- hf1];obtain ⟨c,d,dt,sl⟩:=ob;cases dt <;> exact x3.2⟩
  have z1:((g.push nob).update e m1).get? e=some (m1 ob):=Heap.get?_update_self m1 y1 (Obj.isFreed_of_fields d1)
  have z2:((g.push nob).update e m1).get? g.objs.size=some nob:=by
    rw [Heap.get?_update_other _ _ (Ne.symm ne)]
    exact Heap.get?_push_size g nfr
  have s3:3 < (([hd0,.ref L,.none,rawInt L,.none] ++ (if pl.isEmpty then List.replicate 6 Value.none else pl)).toArray).size:=by
    simp only [List.size_toArray,List.length_append,List.length_cons,List.length_nil];omega
  refine k _ g.objs.size (by rw [sz];exact Nat.le_refl _) ⟨m1 ob,_,z1,c1,d1,by simpa using x2,by simp [x2],ne,_,_,z2,nd,s3⟩ ?_
  intro b o n q
  have lt:=Heap.lt_size q
  have up:∀ o',g.get? b=some o'->((g.push nob).update e m1).get? b=some o':=fun o' r=>by
    rw [Heap.get?_update_other _ _ (Ne.symm n)]
    exact Heap.get?_push_of_some nob r
  obtain ⟨sl,r⟩:=so.2.2 b o q
  exact ⟨fun nf=>up o (by rw [so.2.1 b nf];exact q),sl,up _ r⟩
theorem note_frame {tb:Option Addr} (f0:A.frames=some (env :: outer)) (f1:s.heap.FunFrames base (env :: outer)) (f2:env.frame=some L) (hx:Fx C e tb s.heap)
    (k:∀ h' T,(s.heap.objs.size<=T\/tb=some T)->Fx C e (some T) h'->Kp (frs (env :: outer)) (fun b=>b=e\/some b=tb) s.heap h'->Q () { s with heap:=h' }) :
    wpAny M A (noteFrame (.ref e) env) Q E s:=by
  obtain ⟨ob,fs,x0,x3,x1,x2,x4⟩:=id hx
  unfold noteFrame
  simp only [f2]
  cases tb with
  | none =>
    refine wpAny_bind (wpAny_field x0 x1 x4 ?_)
    rw [if_neg (by decide)]
    exact entry_new f0 f1 f2 x0 x1 x2 x3 fun h' T l f q=>k h' T (.inl l) f fun b o n r=>q b o (fun z=>n (.inl z)) r
  | some T =>
    obtain ⟨x4,ne,oT,ts,y0,y1,y3⟩:=x4
    refine wpAny_bind (wpAny_field x0 x1 x4 ?_)
    rw [if_pos (by simp)]
    refine wpAny_bind (wpAny_field y0 y1 (Array.getElem?_eq_getElem y3) ?_)
    by_cases hf:(ts[3] == rawInt L)=true
    . rw [if_pos hf]
      exact wpAny_pure (k s.heap T (.inr rfl) hx fun b o n r=>⟨fun _=>r,o.slots,r⟩)
    rw [if_neg hf]
    refine wpAny_bind (wpAny_setField y0 y1 y3 ?_)
    have ot:∀ b,b ≠ T->(s.heap.update T (Obj.mapFields (·.setIfInBounds 3 Value.none))).get? b=s.heap.get? b:=fun b hb=>Heap.get?_update_other _ _ (Ne.symm hb)
    refine entry_new (s:={ s with heap:=_ }) f0 (f1.of_keeps fun b o q nf=>⟨o,?_,rfl⟩) f2 (ob:=ob) (by rw [ot e (Ne.symm ne)];exact x0) x1 x2 x3 fun h' T' l f q=>k h' T' (.inl ?_) f fun b o n r=>?_
    . rw [ot b (fun z=>by rw [z,y0] at q;cases q;exact nf ts y1)];exact q
    . exact Nat.le_trans (Nat.le_of_eq (Heap.size_after_update ..).symm) l
    . exact q b o (fun z=>n (.inl z)) (by rw [ot b (fun z=>n (.inr (by rw [z])))];exact r)
theorem land_any {T:Addr} {fr:Option Addr} (hx:Fx C e (some T) s.heap)
    (k:∀ h',Fx C e (some T) h'->Kp [] (fun b=>b=T) s.heap h'->Q () { s with heap:=h' }):wpAny M A (setFlight (.ref e) fr) Q E s:=by
  obtain ⟨ob,fs,x0,x3,x1,x2,x4,ne,oT,ts,y0,y1,y3⟩:=hx
  unfold setFlight
  refine wpAny_bind (wpAny_field x0 x1 x4 ?_)
  rw [if_pos (by simp)]
  refine wpAny_setField y0 y1 y3 (k _ ⟨ob,fs,?_,x3,x1,x2,x4,ne,_,_,Heap.get?_update_self _ y0 (Obj.isFreed_of_fields (Obj.data_mapFields y1 _)),Obj.data_mapFields y1 _,by simpa using y3⟩ fun b o n r=>?_)
  . rw [Heap.get?_update_other _ _ ne];exact x0
  . have q:=(Heap.get?_update_other s.heap (Obj.mapFields (·.setIfInBounds 3 (fr.elim Value.none fun f=>rawInt f))) (Ne.symm n)).trans r
    exact ⟨fun _=>q,o.slots,q⟩
theorem land_again {T:Addr} (hx:Fx C e (some T) s.heap)
    (k:∀ h',Fx C e (some T) h'->Kp [] (fun b=>b=T) s.heap h'->Q () { s with heap:=h' }):wpAny M A (setFlight (.ref e) none) Q E s:=land_any hx k
theorem Kp.up {fs:List Addr} {X:Addr->Prop} {h h':Heap} (a:Kp [] X h h'):Kp fs X h h':=fun b o n q=>⟨fun _=>(a b o n q).1 (by simp),(a b o n q).2⟩
theorem note_land {tb:Option Addr} (f0:A.frames=some (env :: outer)) (f1:s.heap.FunFrames base (env :: outer)) (f2:env.frame=some L) (hx:Fx C e tb s.heap)
    (k:∀ h' T,(s.heap.objs.size<=T\/tb=some T)->Fx C e (some T) h'->Kp (frs (env :: outer)) (fun b=>b=e\/some b=tb) s.heap h'->Q () { s with heap:=h' }) :
    wpAny M A (noteFrame (.ref e) env) (fun _ s'=>wpAny M A (setFlight (.ref e) none) Q E s') E s:=by
  refine note_frame f0 f1 f2 hx fun h1 T l f1 k1=>land_again (s:={ s with heap:=h1 }) f1 fun h2 f2 k2=>k h2 T l f2 (k1.trans k2.up fun z hz=>?_)
  subst hz
  rcases l with l | l
  . right
    cases q:s.heap.get? z with
    | none=>rfl
    | some o=>exact absurd (Heap.lt_size q) (Nat.not_lt.mpr l)
  . exact .inl (.inr l.symm)
end
noncomputable def Fresh (X:Cx) (pins:List (Addr × Obj)) (H:Hp) (e:Addr) (tb:Option Addr):Prop:=∀ a,(a=e\/some a=tb)->X.s₀.heap.get? a=none/\H a=none/\∀ p ∈ X.pn ++ pins,p.1 ≠ a
section
variable {X:Cx} {pins:List (Addr × Obj)} {σ:St} {H H':Hp} {s s':Shared} {C:Value} {e:Addr} {tb:Option Addr} {ch:Addr->Prop}
theorem Fresh.next {T:Addr} (fr:Fresh X pins H e tb) (J:Inv X pins σ H s) (lt:s.heap.objs.size<=T\/tb=some T):Fresh X pins H e (some T):=fun a ha=>by
  rcases ha with rfl | ha
  . exact fr a (.inl rfl)
  . obtain rfl:a=T:=by injection ha
    rcases lt with lt | lt
    . refine ⟨?_,J.hok.fresh lt,fun p hp z=>?_⟩
      . cases q:X.s₀.heap.get? a with
        | none=>rfl
        | some o=>exact absurd (Nat.lt_of_lt_of_le (Heap.lt_size q) (Nat.le_trans J.sz lt)) (Nat.lt_irrefl _)
      . have q:=Heap.lt_size (J.pin p hp).1
        rw [z] at q;exact absurd (Nat.lt_of_lt_of_le q lt) (Nat.lt_irrefl _)
    . exact fr a (.inr lt.symm)
theorem Fx.fld {h:Heap} (hx:Fx C e tb h) {a:Addr} (ha:a=e\/some a=tb):∃ o fs,h.get? a=some o/\o.data = .fields fs:=by
  obtain ⟨ob,fs,x0,x3,x1,x2,x4⟩:=hx
  rcases ha with rfl | ha
  . exact ⟨_,_,x0,x1⟩
  . subst ha
    obtain ⟨_,_,oT,ts,y0,y1,_⟩:=x4
    exact ⟨_,_,y0,y1⟩
theorem Inv.kp (I:Inv X pins σ H s) (hch:∀ b,ch b->X.s₀.heap.get? b=none/\b ≠ X.env.locals/\(∀ x c,X.env.cells.lookup x=some c->c ≠ b)/\∀ p ∈ X.pn ++ pins,p.1 ≠ b)
    (kp:Kp (frs X.stack) ch s.heap s'.heap) (free:∀ b o,¬ ch b->s.heap.get? b=some o->H b=none->H' b=none) (tups:∀ b xs,H b=some (.tup xs)->H' b=some (.tup xs))
    (frzs:∀ b o u,H b=some (.frz o u)->H' b=some (.frz o u)) (tbls:∀ b ps,H b=some (.tbl ps)->∃ more,H' b=some (.tbl (ps ++ more))) (hok:HOk X.prog X.w H' s'.heap) (ho:s'.os=s.os) (hg:AllBare s'.gens):Inv X pins σ H' s':=by
  have n0:∀ b o,X.s₀.heap.get? b=some o->¬ ch b:=fun b o q z=>by rw [(hch b z).1] at q;cases q
  have nl:¬ ch X.env.locals:=fun z=>(hch _ z).2.1 rfl
  have out:∀ b,b ≠ X.env.locals->b ∉ X.fs->b ∉ frs X.stack:=fun b n1 n2 z=>(List.mem_cons.mp (I.stkSub b z)).elim n1 n2
  have neL:∀ b o,X.s₀.heap.get? b=some o->b ≠ X.env.locals:=fun b o q z=>absurd (Nat.lt_of_lt_of_le (Heap.lt_size q) I.ok.above) (by rw [z];exact Nat.lt_irrefl _)
  have ce:∀ x c,X.env.cells.lookup x=some c->∀ v,s.heap.IsCell c v->s'.heap.IsCell c v:=fun x c q v ⟨o,q1,q2⟩=>by
    obtain ⟨sl,q3⟩:=(kp c o (fun z=>(hch c z).2.2.1 x c q rfl) q1).2
    exact ⟨_,q3,q2⟩
  constructor
  . exact I.ok
  . exact ho.trans I.os
  . exact hg
  . constructor
    . intro b o q n f x
      exact (kp b o (n0 b o q) (I.base.keep b o q n f x)).1 (out b (neL b o q) f)
    . intro b o q n f x
      obtain ⟨sl,q1⟩:=I.base.slot b o q n f x
      obtain ⟨sl2,q2⟩:=(kp b _ (n0 b o q) q1).2
      exact ⟨sl2,q2⟩
    . intro b o q n x
      obtain ⟨o2,q1⟩:=I.base.there b o q x
      exact free b o2 (n0 b o q) q1 (I.base.free b o q n x)
    . intro b o q x
      obtain ⟨o2,q1⟩:=I.base.there b o q x
      obtain ⟨sl,q2⟩:=(kp b o2 (n0 b o q) q1).2
      exact ⟨_,q2⟩
    . exact fun b xs q=>tups b xs (I.base.tups b xs q)
    . exact fun b o u q=>frzs b o u (I.base.frzs b o u q)
    . intro b ps q
      obtain ⟨m1,q1⟩:=I.base.tbls b ps q
      obtain ⟨m2,q2⟩:=tbls b _ q1
      exact ⟨m1 ++ m2,by rw [q2,Array.append_assoc]⟩
  . obtain ⟨m,⟨o,es,ep,q,r⟩,hl⟩:=I.loc
    obtain ⟨sl,q2⟩:=(kp _ o nl q).2
    refine ⟨m,⟨_,es,ep,q2,r⟩,fun i x v e1 e2 e3=>?_⟩
    obtain ⟨u,r2,l⟩:=hl i x v e1 e2 e3
    exact ⟨u,r2,l.imp id fun ⟨k,c,e4,z⟩=>⟨k,c,e4,ce x c e4 _ z⟩⟩
  . intro x c q
    obtain ⟨v,z⟩:=I.cell x c q
    exact ⟨v,ce x c q v z⟩
  . obtain ⟨m,⟨o,es,ep,q,r⟩,hl⟩:=I.loc
    exact free _ o nl q I.free
  . intro x c q
    obtain ⟨v,o,q1,_⟩:=I.cell x c q
    exact free c o (fun z=>(hch c z).2.2.1 x c q rfl) q1 (I.freeC x c q)
  . intro p hp
    obtain ⟨q,n,ne,nf,d⟩:=I.pin p hp
    have nc:¬ ch p.1:=fun z=>(hch p.1 z).2.2.2 p hp rfl
    exact ⟨(kp p.1 p.2 nc q).1 (out _ ne nf),free p.1 p.2 nc q n,ne,nf,d⟩
  . exact hok
  . exact I.len
theorem Fresh.off (fr:Fresh X pins H e tb) (I:Inv X pins σ H s) (hx:Fx C e tb s.heap) (b:Addr) (hb:b=e\/some b=tb):X.s₀.heap.get? b=none/\b ≠ X.env.locals/\(∀ x c,X.env.cells.lookup x=some c->c ≠ b)/\∀ p ∈ X.pn ++ pins,p.1 ≠ b:=by
  obtain ⟨f1,f2,f3⟩:=fr b hb
  obtain ⟨o,fs,q,d⟩:=hx.fld hb
  refine ⟨f1,fun z=>?_,fun x c hc z=>?_,f3⟩
  . obtain ⟨m,⟨o2,es,ep,q2,d2,_⟩,_⟩:=I.loc
    rw [<- z,q] at q2;cases q2
    rw [d] at d2;cases d2
  . obtain ⟨v,o2,q2,d2⟩:=I.cell x c hc
    subst z
    rw [q] at q2;cases q2
    rw [d] at d2;cases d2
theorem Inv.fly (I:Inv X pins σ H s) (hx:Fx C e tb s.heap) (fr:Fresh X pins H e tb) (kp:Kp (frs X.stack) (fun b=>b=e\/some b=tb) s.heap s'.heap) (ho:s'.os=s.os) (hg:s'.gens=s.gens):Inv X pins σ H s':=by
  refine I.kp (fr.off I hx) kp (fun _ _ _ _ n=>n) (fun _ _ q=>q) (fun _ _ _ q=>q) (fun b ps q=>⟨#[],by rw [q];simp⟩) (fun a o z=>?_) ho (by rw [hg];exact I.bare)
  have nt:∀ b u,H b=some u->¬ (b=e\/some b=tb)/\b ∉ frs X.stack:=fun b u q=>⟨fun z=>(nomatch (fr b z).2.1.symm.trans q),fun z=>(nomatch (I.stkFree b z).symm.trans q)⟩
  refine (I.hok a o z).stay (fun b u hb q=>?_) (fun _ q=>q) fun _ _ q=>q
  rcases hb with rfl | hb
  . exact (kp b u (nt b _ z).1 q).1 (nt b _ z).2
  . exact (kp b u (nt b _ hb).1 q).1 (nt b _ hb).2
theorem Inv.rest {T:Addr} {ob:Obj} {φ:Heap->Prop} (I:Inv X pins σ H s) (hx:Fx C e (some T) s.heap) (fr:Fresh X pins H e (some T)) (q:s.heap.get? e=some ob) (hφ:φ s.heap) (st:∀ h1 h2:Heap,φ h1->(∀ o,h1.get? e=some o->h2.get? e=some o)->φ h2):Inv X pins σ (upd H e (.frz ob (.ext φ))) s:=by
  have he:=(fr e (.inl rfl)).2.1
  have k0:Kp (frs X.stack) (fun b=>b=e\/some b=some T) s.heap s.heap:=fun b o _ q=>⟨fun _=>q,o.slots,q⟩
  have ne:∀ b u,H b=some u->b ≠ e:=fun b u q z=>by rw [z,he] at q;cases q
  refine I.kp (fr.off I hx) k0 (fun b o n q nb=>?_) (fun b xs q=>?_) (fun b o u q=>?_) (fun b ps q=>⟨#[],?_⟩) (fun a o z=>?_) rfl I.bare
  . rw [upd_ne (fun z=>n (.inl z))];exact nb
  . rw [upd_ne (ne b _ q)];exact q
  . rw [upd_ne (ne b _ q)];exact q
  . rw [upd_ne (ne b _ q),q];simp
  . by_cases hb:a=e
    . subst hb;rw [upd_same] at z;cases z;exact ⟨q,hφ,⟨_,q⟩,st⟩
    . rw [upd_ne hb] at z
      exact (I.hok a o z).stay (fun _ _ _ q=>q) (fun b q=>by rw [upd_ne (ne b _ q)];exact q) fun b xs q=>by rw [upd_ne (ne b _ q)];exact q
end
end L2
end
section
namespace L2
open PySem PySem.Spec PyProof.Rows
noncomputable abbrev TX:=St->Hp->(St->Hp->Prop)->Prop
noncomputable def XP (X:Cx) (pins:List (Addr × Obj)) (C:Value) (G:St->Hp->Prop) (v:Value) (s':Shared):Prop :=
  ∃ e tb σ' H',v = .ref e/\Inv X pins σ' H' s'/\G σ' H'/\Fx C e tb s'.heap/\Fresh X pins H' e tb
structure RE (X:Cx) (C:Value) (e:Expr) (t:TX):Prop where
  out:∀ (pins:List (Addr × Obj)) (s:Shared) (σ:St) (H:Hp) (G:St->Hp->Prop),Inv X pins σ H s->t σ H G->wpAny (model X.prog X.w) X.A (eval e X.env) (fun _ _=>False) (XP X pins C G) s
structure RS (X:Cx) (C:Value) (st:Stmt) (t:TX):Prop where
  out:∀ (pins:List (Addr × Obj)) (s:Shared) (σ:St) (H:Hp) (G:St->Hp->Prop),Inv X pins σ H s->t σ H G->wpAny (model X.prog X.w) X.A (exec st X.env) (fun _ _=>False) (XP X pins C G) s
structure RSs (X:Cx) (C:Value) (st:List Stmt) (t:TX):Prop where
  out:∀ (pins:List (Addr × Obj)) (s:Shared) (σ:St) (H:Hp) (G:St->Hp->Prop),Inv X pins σ H s->t σ H G->wpAny (model X.prog X.w) X.A (execs st X.env) (fun _ _=>False) (XP X pins C G) s
noncomputable def xNever:TX:=fun _ _ _=>False
noncomputable def xThen (t:TS) (u:TX):TX:=fun σ H G=>t { nx:=fun σ' H'=>u σ' H' G,rt:=fun _ _=>False } σ H
noncomputable def xIf (c:TT) (t u:TX):TX:=fun σ H G=>c σ H fun b H1=>if b=true then t σ H1 G else u σ H1 G
section
variable {X:Cx} {C:Value} {st:Stmt} {rest a b:List Stmt} {t u:TX} {ts:TS} {e c tg:Expr} {tc:TT} {pos:Pos}
theorem noE {α:Type} {m:Sem α} {M:Model} {A:Around} {Q:α->Shared->Prop} {E:Value->Shared->Prop} {s:Shared} (h:wpAny M A m Q (fun _ _=>False) s):wpAny M A m Q E s:=wpAny_mono h (fun _ _ x=>x) fun _ _ z=>z.elim
theorem rss_never:RSs X C rest xNever:=⟨fun _ _ _ _ _ _ h=>h.elim⟩
theorem rss_here (h:RS X C st t):RSs X C (st :: rest) t:=⟨fun pins s σ H G I q=>wpAny_execs_cons (wpAny_mono (h.out pins s σ H G I q) (fun _ _ z=>z.elim) fun _ _ z=>z)⟩
theorem rss_then (h1:ZS X.nox st ts) (h2:RSs X C rest u):RSs X C (st :: rest) (xThen ts u):=⟨fun pins s σ H G I q=>wpAny_execs_cons (thn (noE (h1.out pins s σ H _ (I.wish _) q)) fun f s1 z=>by
  cases f with
  | next =>
    obtain ⟨σ',H',I',q⟩:=z
    exact h2.out pins s1 σ' H' G I'.unwish q
  | ret v=>obtain ⟨_,_,_,_,_,q⟩:=z;exact q.elim
  | brk=>obtain ⟨_,_,_,q⟩:=z;exact q.elim
  | cont=>obtain ⟨_,_,_,q⟩:=z;exact q.elim)⟩
theorem rs_if (hc:ZT X.nox c tc) (ha:RSs X C a t) (hb:RSs X C b u):RS X C (.If c a b pos) (xIf tc t u):=⟨fun pins s σ H G I q=>wpAny_If (thn (noE (hc.out pins s σ H _ (I.wish _) q)) fun d s1 z=>by
  obtain ⟨H1,I1,q1⟩:=z
  cases d with
  | true=>exact ha.out pins s1 σ H1 G I1.unwish q1
  | false=>exact hb.out pins s1 σ H1 G I1.unwish q1)⟩
theorem rs_ret (he:RE X C e t):RS X C (.Return (some e) pos) t:=⟨fun pins s σ H G I q=>wpAny_Return_some (wpAny_mono (he.out pins s σ H G I q) (fun _ _ z=>z.elim) fun _ _ z=>z)⟩
theorem rs_asg (he:RE X C e t) (hs:swapsWithSole [tg] e pos.line X.env=pure false:=by rfl) (hw:swappedStores [tg] e X.env=pure none:=by rfl):RS X C (.Assign [tg] e pos) t:=⟨fun pins s σ H G I q=>by
  refine wpAny_Assign_stores (wpAny_mono (he.out pins s σ H G I q) (fun _ _ z=>z.elim) fun _ _ z=>z) hs hw⟩
end
noncomputable def CXx (P:Program) (w:World) (C:Value):CXT:=fun outer H s _ v s'=>∃ e T H',v = .ref e/\s'.os=s.os/\AllBare s'.gens/\Same H H'/\Un (frs outer) [] H H' s.heap s'.heap/\HOk P w H' s'.heap/\Fx C e (some T) s'.heap /\
  ∀ a,(a=e\/some a=some T)->s.heap.get? a=none/\H' a=none
section
variable {X:Cx} {C:Value} {k:Nat} {f:Addr} {fd:FuncData} {ps:List Str} {sp:Sp} {x:Str} {p pos:Pos} {e:Expr} {es:List Expr} {t:TA}
noncomputable def xCall (sp:Sp) (t:TA):TX:=fun σ H G=>t σ H fun vs H1=>sp vs H1 (fun _ _=>False) E0/\∀ H',Same H1 H'->G σ H'
theorem run_raise {pins:List (Addr × Obj)} {σ:St} {H:Hp} {s:Shared} {G:St->Hp->Prop} {us:List Value} {vs:List V} (F:FnOk X.prog X.w X.K X.mg X.base (CXx X.prog X.w C) k f fd ps sp) (hr:Room k X.A) (hb:Binds X.K fd ps [])
    (I:Inv X pins σ H s) (r:Vals vs us) (h:sp vs H (fun _ _=>False) E0) (hG:∀ H',Same H H'->G σ H') (hX:X.ex=[]):wpAny (model X.prog X.w) X.A (call (.ref f) us) (fun _ _=>False) (XP X pins C G) s:=by
  have hl:us.length=ps.length:=by rw [<- r.length];exact F.len _ _ _ _ h
  have bs:=hb s us I.kIn (by rw [List.append_nil];exact hl)
  rw [List.append_nil] at bs
  refine wpAny_call (codeAny_mono (F.run X.A X.stack s H ⟨us,[]⟩ us vs _ E0 hr I.env0 bs r h) fun r s' hq=>?_)
  cases r with
  | ok fl =>
    cases fl with
    | ret u=>obtain ⟨_,_,_,_,_,_,_,z⟩:=hq;exact z.elim
    | next=>exact hq.elim
    | brk=>exact hq.elim
    | cont=>exact hq.elim
  | error v =>
    obtain ⟨e,T,H',rfl,o1,o2,sm,un,hok,fx,fr⟩:=hq
    refine ⟨e,some T,σ,H',rfl,I.call' (ch:=[]) o1 un hok o2 (fun b z=>absurd z (by simp)),hG H' sm,fx,fun a ha=>?_⟩
    obtain ⟨f1,f2⟩:=fr a ha
    refine ⟨?_,f2,fun p hp z=>?_⟩
    . cases q:X.s₀.heap.get? a with
      | none=>rfl
      | some o =>
        obtain ⟨o2,q2⟩:=I.base.there a o q (by rw [hX];simp)
        rw [f1] at q2;cases q2
    . have q:=(I.pin p hp).1
      rw [z,f1] at q;cases q
theorem re_call (F:FnOk X.prog X.w X.K X.mg X.base (CXx X.prog X.w C) k f fd ps sp) (hr:Room k X.A) (hg:Gl X x) (hm:X.mg x=some (.ref f)) (hk:PySem.W.keepIn X.K (.ref f)=true) (hb:Binds X.K fd ps []) (ha:ZA X.nox (e :: es) t) (hX:X.ex=[]:=by rfl)
    (hdb:(x == ("__debug__" : Str))=false:=by decide) (he:starEach (e :: es) X.env=(false,eval e X.env) :: starEach es X.env:=by rfl) (hpl:(backTo pos (starEach es X.env)).any (·.1)=false:=by rfl) :
    RE X C (.Call (.Name x p) (e :: es) [] pos) (xCall sp t):=⟨fun pins s σ H G I h=>by
  refine wpAny_Call_Name_kw (ld_glob I hg hm ?_ hdb)
  refine PySem.W.callWith_K (h₀:=X.base) I.ok.mod.kin hk (thn (noE (ha.out pos pins s σ H _ (I.wish _) h)) fun us s1 ⟨vs,H1,I1,r,q⟩=>⟨I1.kIn,?_⟩) he hpl
  exact run_raise F hr hb I1.unwish r q.1 q.2 hX⟩
end
theorem ObjOk.here {P:Program} {w:World} {H:Hp} {h:Heap} {a:Addr} {o:HO} (x:ObjOk P w H h a o):∃ u,h.get? a=some u:=by
  cases o with
  | lst xs=>obtain ⟨_,_,_,_,q⟩:=x;exact ⟨_,q⟩
  | tup xs=>obtain ⟨_,_,_,u,q,_⟩:=x;exact ⟨u,q⟩
  | dK kvs=>obtain ⟨_,_,_,_,u,_,_,q,_⟩:=x;exact ⟨u,q⟩
  | dT kvs=>obtain ⟨_,_,_,_,u,_,_,q,_⟩:=x;exact ⟨u,q⟩
  | set S n=>obtain ⟨u,_,_,_,q,_⟩:=x;exact ⟨u,q⟩
  | ins C dx fs=>obtain ⟨_,_,_,q,_⟩:=x;exact ⟨_,q⟩
  | own y=>exact x
  | xd fs=>obtain ⟨_,⟨u,_,_,q,_⟩,_⟩:=x;exact ⟨u,q⟩
  | rng lo hi=>obtain ⟨_,_,_,q⟩:=x;exact ⟨_,q⟩
  | frz ob u=>obtain ⟨q,_⟩:=x;exact ⟨_,q⟩
  | tbl ps=>exact ⟨_,x⟩
  | met f y=>exact ⟨_,x⟩
  | ext φ=>exact x.2.1
structure Xc (K:PySem.W.Frag) (x:Str) (C:Addr):Prop where
  ex:PySem.W.excIn K C [.type "ValueError",.type "Exception",.type "BaseException",.type "object"] "ValueError.__new__" = true
  nm:PySem.W.nsIn K mainGlobals x=some (some (.ref C))
theorem exc_obj {K:PySem.W.Frag} {C:Addr} {bmB:List Value} {newId:String} {h:Heap} (X:K.In h) (z:PySem.W.excIn K C bmB newId=true) :
    ∃ bm N nm q bs hdct sn sub ab col dd k0 k1 k2 k3 k5 mN,h.get? C=some (excClassObj nm q C N bs bm hdct sn sub ab col dd k0 k1 k2 k3 k5 newId)/\h.Ns N mN/\mN "__init__" = none/\OwnTail h bmB bm:=by
  unfold PySem.W.excIn at z
  split at z
  . rename_i d1 c1 sl1 lk
    split at z
    . rename_i C2 tl y0 y1 y2 y3 y4 y5 m1 m2
      simp only [Bool.and_eq_true,beq_iff_eq,Bool.not_eq_true'] at z
      obtain ⟨⟨⟨⟨⟨za,zb⟩,zc⟩,zd⟩,ze⟩,zf⟩:=z
      subst za
      subst zb
      obtain ⟨a1,a2,a3,a4,a5,a6,a7,a8,a9,a10,a11⟩:=c1
      dsimp only at m1 zc ze zf
      subst m1
      subst zc
      have e1:sl1 = #[y0,y1,y2,y3,some (.builtin y4),y5]:=by
        cases sl1
        exact congrArg Array.mk m2
      subst e1
      exact ⟨tl,a4,a1,a5,a2,a6,a7,a8,a9,a10,d1,y0,y1,y2,y3,y5,_,X _ _ lk,.of_isNs (PySem.W.isNs_of_in X ze),PySem.W.nsMap_none_of_in X ze zf,PySem.W.tail_of_in X zd⟩
    . cases z
  . cases z
section
variable {X:Cx} {C:Addr} {x txt:Str} {np cpos pos apos:Pos}
noncomputable def xRaise:TX:=fun σ H G=>G σ H
theorem rs_raise (c : Xc X.K x C) (hg : Gl X x) (hm : X.mg x = some (.ref C)) (hX : X.ex = [] := by rfl) (hc : X.calm = true := by rfl) (hdb : (x == ("__debug__" : Str)) = false := by decide)
    (he:∀ y,starEach [.Constant (.str txt) y apos] X.env=[(false,eval (.Constant (.str txt) y apos) X.env)]:=by intro _;rfl) {jj}:RS X (.ref C) (.Raise (some (.Call (.Name x np) [.Constant (.str txt) jj apos] [] cpos)) none pos) xRaise:=⟨fun pins s σ H G I h=>by
  obtain ⟨bm,N,nm,q,bs,hdct,sn,sub,ab,col,dd,k0,k1,k2,k3,k5,mN,o1,o2,o3,o4⟩:=exc_obj I.kIn c.ex
  have FB:=PySem.F.excBase_ValueError
  refine wpAny_Raise_call_subT (C:=C) (nm:=nm) (q:=q) (N:=N) (bs:=bs) (bm:=bm) (hdct:=hdct) (sn:=sn) (sub:=sub) (ab:=ab) (col:=col) (dd:=dd) (k0:=k0) (k1:=k1) (k2:=k2) (k3:=k3) (k5:=k5) FB (mN:=mN) (o4.hasType FB.hasBase) (I.ok.hd hc) (by rw [he];rfl) o3 (ld_glob I hg hm ⟨rfl,?_⟩ hdb)
  rw [he]
  refine Calls.evalArgs_plain (Calls.spliced_cons ?_)
  refine @Calls.Constant_str _ _ _ _ _ txt jj apos _ (Calls.spliced_nil ⟨rfl,by show 1<=sizeLine;decide,o1,o2,o4,fun h' e mk=>?_⟩)
  have I':=I.kept (t':=s.toks + 1) mk.keeps
  obtain ⟨t,t1,_,_⟩:=mk.there
  refine ⟨e,none,σ,H,rfl,I',h,⟨_,_,t1,⟨rfl,rfl⟩,rfl,(by show 1 < 6;decide),rfl⟩,fun a ha=>?_⟩
  rcases ha with rfl | ha
  . have hn:s.heap.get? a=none:=mk.new
    refine ⟨?_,?_,fun p hp z=>?_⟩
    . cases q:X.s₀.heap.get? a with
      | none=>rfl
      | some o =>
        obtain ⟨o2,q2⟩:=I.base.there a o q (by rw [hX];simp)
        rw [hn] at q2;cases q2
    . cases q:H a with
      | none=>rfl
      | some u =>
        obtain ⟨o2,q2⟩:=(I.hok a u q).here
        rw [hn] at q2;cases q2
    . have q:=(I.pin p hp).1
      rw [z,hn] at q;cases q
  . cases ha⟩
end
section
variable {P:Program} {w:World} {K:PySem.W.Frag} {mg:Str->Option Value} {base:Heap}
theorem Fun.raises {x qual:Str} {st:Stmt} {f:Addr} {fd:FuncData} {N ps:List Str} {k:Nat} {sp:Sp} {C:Value} (F:Fun K x qual st f fd) (S:FnScope N ps (defScope st)) (len:∀ vs H Q E,sp vs H Q E->vs.length=ps.length)
    (hbody:∀ (cdv:Value) (A:Around) (outer:List Env) (s:Shared) (H:Hp) (vs:List V) (Q:VK) (E:XK),Room k (A.deeper (envOfC qual (defScope st) s.heap.objs.size f cdv))->sp vs H Q E ->
      ∃ t,RSs (cxOf CX0 P w K mg base N qual (defScope st) f cdv A outer s H E).nox C (defBody st) t/\t (start N vs) H fun _ H'=>Same H H'):FnOk P w K mg base (CXx P w C) (k + 1) f fd ps sp:=by
  obtain ⟨oc,od,kV,doc,pm,an,cdv,ct,osl,rfl,lk,hcd⟩:=F.ex
  refine fn_of lk hcd S len fun A outer s H vs Q E hr hsp=>?_
  obtain ⟨t,h,q⟩:=hbody cdv A outer s H vs Q E hr hsp
  refine ⟨fun _ σ H1=>t σ H1 fun _ H'=>Same H H',?_,q⟩
  intro pins s1 σ H1 D I z
  have I0:Inv (cxOf CX0 P w K mg base N qual (defScope st) f cdv A outer s H E).nox pins σ H1 s1:=⟨⟨I.ok.mod,I.ok.kind,I.ok.glob,I.ok.blt,I.ok.above,I.ok.inj,I.ok.has,I.ok.cab,I.ok.hd,I.ok.frames,I.ok.stk,I.ok.exf,I.ok.bs,I.ok.bsz,I.ok.noex,I.ok.exfs,I.ok.funs,I.ok.frf⟩,I.os,I.bare,I.base,I.loc,I.cell,I.free,I.freeC,I.pin,I.hok,I.len⟩
  refine wpAny_mono (h.out pins s1 σ H1 _ I0 z) (fun _ _ z=>z.elim) fun v s2 xp=>?_
  obtain ⟨e,tb,σ',H',rfl,J,sm,fx,fr⟩:=xp
  show wpAny _ _ (leaving _ _) _ _ _
  unfold leaving
  refine wpAny_bind (note_land (base:=base) (outer:=outer) J.ok.frames J.stack rfl fx fun h' T lt fx' kp=>?_)
  have J2:=J.fly (s':={ s2 with heap:=h' }) fx fr kp rfl rfl
  refine ⟨e,T,H',rfl,J2.os,J2.bare,sm,J2.base,J2.hok,fx',fun a ha=>?_⟩
  exact ⟨(fr.next J lt a ha).1,(fr.next J lt a ha).2.1⟩
end
end L2
end
section
namespace L2
open PySem PySem.Spec PyProof.Rows
noncomputable abbrev Cx.caught (X:Cx) (e:Addr):Cx:={ X with A:=X.A.mark (some (.ref e)),calm:=false,xe:=fun _ _=>False }
section
variable {X:Cx} {pins:List (Addr × Obj)} {σ:St} {H:Hp} {s:Shared} {e:Addr}
theorem Inv.caught (I:Inv X pins σ H s) (e:Addr):Inv (X.caught e) pins σ H s :=
  ⟨⟨I.ok.mod,I.ok.kind,I.ok.glob,I.ok.blt,I.ok.above,I.ok.inj,I.ok.has,I.ok.cab,fun z=>(nomatch z),I.ok.frames,I.ok.stk,I.ok.exf,I.ok.bs,I.ok.bsz,I.ok.noex,I.ok.exfs,I.ok.funs,I.ok.frf⟩,I.os,I.bare,I.base,I.loc,I.cell,I.free,I.freeC,I.pin,I.hok,I.len⟩
theorem Inv.uncaught (I:Inv (X.caught e) pins σ H s) (hd:X.calm=true->X.A.handled=none):Inv X pins σ H s :=
  ⟨⟨I.ok.mod,I.ok.kind,I.ok.glob,I.ok.blt,I.ok.above,I.ok.inj,I.ok.has,I.ok.cab,hd,I.ok.frames,I.ok.stk,I.ok.exf,I.ok.bs,I.ok.bsz,I.ok.noex,I.ok.exfs,I.ok.funs,I.ok.frf⟩,I.os,I.bare,I.base,I.loc,I.cell,I.free,I.freeC,I.pin,I.hok,I.len⟩
theorem Inv.goes {M:Model} {A:Around} {E:Value->Shared->Prop} {i:Nat} {n:Str} {pos:Pos} {Q:Unit->Shared->Prop} (I:Inv X pins σ H s) (hN:X.N.Nodup) (hi:X.N[i]?=some n) (hl:X.env.scope.names.lookup n=some .local)
    (h:∀ s',Inv X pins (σ.set i none) H s'->Q () s'):wpAny M A (do bindName X.env n .none;unbindBehindTheSuite X.env n pos) Q E s:=by
  obtain ⟨m,ns,lk⟩:=id I.loc
  refine wpAny_nameGoes_keeps hl ns (by rw [I.ok.kind];rfl) fun h' v ns' sb=>h _ ?_
  have k:∀ b o,b ≠ X.env.locals->s.heap.get? b=some o->h'.get? b=some o:=fun b o nb q=>(sb.2 b nb).trans q
  have neL:∀ b o,X.s₀.heap.get? b=some o->b ≠ X.env.locals:=fun b o q z=>absurd (Nat.lt_of_lt_of_le (Heap.lt_size q) I.ok.above) (by rw [z];exact Nat.lt_irrefl _)
  have ce:∀ x c,X.env.cells.lookup x=some c->∀ v,s.heap.IsCell c v->h'.IsCell c v:=fun x c q v ⟨o,q1,q2⟩=>⟨o,k c o (I.cne x c q) q1,q2⟩
  have th:∀ b o,s.heap.get? b=some o->∃ o',h'.get? b=some o':=fun b o q=>by
    by_cases z:b=X.env.locals
    . obtain ⟨o2,_,_,q2,_⟩:=ns'
      exact ⟨o2,by rw [z];exact q2⟩
    . exact ⟨o,k b o z q⟩
  constructor
  . exact I.ok
  . exact I.os
  . exact I.bare
  . constructor
    . exact fun b o q n f x=>k b o (neL b o q) (I.base.keep b o q n f x)
    . intro b o q n f x
      obtain ⟨sl,q1⟩:=I.base.slot b o q n f x
      exact ⟨sl,k b _ (neL b o q) q1⟩
    . exact I.base.free
    . intro b o q x
      obtain ⟨o2,q1⟩:=I.base.there b o q x
      exact ⟨o2,k b o2 (neL b o q) q1⟩
    . exact I.base.tups
    . exact I.base.frzs
    . exact I.base.tbls
  . refine ⟨_,ns',fun j x v2 e1 e2 e3=>?_⟩
    by_cases z:i=j
    . subst z
      by_cases lt:i < σ.length
      . rw [List.getElem?_set_self lt] at e2;cases e2
      . rw [List.getElem?_eq_none (by rw [List.length_set];omega)] at e2;cases e2
    . rw [List.getElem?_set_ne z] at e2
      obtain ⟨u,r,l⟩:=lk j x v2 e1 e2 e3
      have nx:x ≠ n:=fun q=>z (nodup_ix hN hi (by rw [<- q];exact e1))
      refine ⟨u,r,?_⟩
      rcases l with ⟨l1,l2⟩ | ⟨l1,c,l2,l3⟩
      . exact .inl ⟨l1,(if_neg nx).trans l2⟩
      . exact .inr ⟨l1,c,l2,ce x c l2 _ l3⟩
  . intro x c q
    obtain ⟨v,z⟩:=I.cell x c q
    exact ⟨v,ce x c q v z⟩
  . exact I.free
  . exact I.freeC
  . intro p hp
    obtain ⟨q,n,ne,nf,d⟩:=I.pin p hp
    exact ⟨k _ _ ne q,n,ne,nf,d⟩
  . intro a o z
    have nl:∀ b u,H b=some u->b ≠ X.env.locals:=fun b u q z=>by rw [z,I.free] at q;cases q
    refine (I.hok a o z).stay (fun b u hb q=>?_) (fun _ q=>q) fun _ _ q=>q
    rcases hb with rfl | hb
    . exact k b u (nl b _ z) q
    . exact k b u (nl b _ hb) q
  . rw [List.length_set];exact I.len
end
section
variable {X:Cx} {C:Value} {cT:Addr} {x n:Str} {body suite:List Stmt} {b0:Stmt} {t:TX} {th:TS} {i:Nat} {pos np hp:Pos}
noncomputable def tTryAs (C:Value) (i:Nat) (t:TX) (th:TS):TS:=fun D σ H=>t σ H fun σ1 H1=>∀ e ob,H1 e=none->th { nx:=fun σ2 H2=>D.nx (σ2.set i none) H2,rt:=fun _ _=>False } (σ1.set i (some (.ref e))) (upd H1 e (.frz ob (.ext (IsX C e))))
theorem ps_tryAs (hN:X.N.Nodup) (hi:X.N[i]?=some n) (hl:X.env.scope.names.lookup n=some .local) (hg:Gl X x) (hm:X.mg x=some (.ref cT)) (hx:PySem.W.exmOne X.K C (.ref cT)=some true) (hb:RSs X C body t) (hs:∀ e,ZSs (X.caught e) (b0 :: suite) th)
    (hst:X.stack=X.env :: X.outer:=by rfl) (hfr:X.env.frame=some X.env.locals:=by rfl) (hd:(x == ("__debug__" : Str))=false:=by decide) :
    PS X (.Try body [.ExceptHandler (some (.Name x np)) (some n) (b0 :: suite) hp] [] [] pos) (tTryAs C i t th):=by
  intro pins s σ H D I h
  refine wpAny_Try_except (wpAny_mono (hb.out pins s σ H _ I h) (fun _ _ z=>z.elim) fun v s1 xp=>?_)
  obtain ⟨e,tb,σ1,H1,rfl,J,g,fx,fr⟩:=xp
  refine note_land (base:=X.base) (outer:=X.outer) (by rw [<- hst];exact J.ok.frames) (by rw [<- hst];exact J.stack) hfr fx fun h' T lt fx' kp=>?_
  rw [<- hst] at kp
  have J2:=J.fly (s':={ s1 with heap:=h' }) fx fr kp rfl rfl
  have fr2:Fresh X pins H1 e (some T):=fr.next J lt
  have J3:=J2.caught e
  refine wpAny_handleBy_cons (codeAny_handlers_test (ld_glob J3 hg hm ?_ hd)) (by intro q;cases q)
  have ty:PySem.W.Looks (model X.prog X.w) h' (typeOf (.ref e)) C:=by
    obtain ⟨oe,fs,q,⟨rfl,_⟩,_⟩:=fx'
    exact (PySem.W.Looks.ld q).andThen .now
  refine (PySem.W.exm_one (M:=model X.prog X.w) (J2.kIn:X.K.In h') ty hx).here ?_
  show codeAny _ _ _ _ _
  refine codeAny_handlers_suite_as (land_again fx' fun h2 fx2 kp2=>?_)
  have J4:=J2.fly (s':={ s1 with heap:=h2 }) fx' fr2 (fun b o n q=>⟨fun _=>(kp2 b o (fun z=>n (.inr (by rw [z]))) q).1 (by simp),(kp2 b o (fun z=>n (.inr (by rw [z]))) q).2⟩) rfl rfl
  obtain ⟨ob,fs,q,c1,d1,_⟩:=id fx2
  have J5:=J4.rest (φ:=IsX C e) fx2 fr2 q ⟨ob,q,c1.1,c1.2,fs,d1⟩ IsX.st
  refine store_ok J5 hN hi (.inl hl) (v:=.ref e) rfl (fun s4 J6=>?_) (.inr hl)
  refine wpAny_mono ((hs e).out pins s4 _ _ _ (J6.caught e) (g e ob (fr2 e (.inl rfl)).2.1)) (fun f s5 z=>?_) fun _ _ z=>z.elim
  cases f with
  | next =>
    obtain ⟨σ2,H2,J7,q2⟩:=z
    exact (J7.uncaught J.ok.hd).goes hN hi hl fun s6 J8=>⟨_,H2,J8,q2⟩
  | ret v=>obtain ⟨_,_,_,_,_,z⟩:=z;exact z.elim
  | brk=>obtain ⟨_,_,_,z⟩:=z;exact z.elim
  | cont=>obtain ⟨_,_,_,z⟩:=z;exact z.elim
end
section
variable {X:Cx} {body:List Stmt} {hs:List ExceptHandler} {h0:ExceptHandler} {t:TS} {pos:Pos}
theorem ps_tryOk (hb:ZSs X.nox body t):PS X (.Try body (h0 :: hs) [] [] pos) t:=fun pins s σ H D I h =>
  wpAny_Try_except (wpAny_mono (hb.out pins s σ H D (I.wish _) h) (fun f s1 q=>by
    have q':=q.unwish
    cases f with
    | next=>exact wpAny_execs_nil q'
    | ret v=>exact q'
    | brk=>exact q'
    | cont=>exact q') fun _ _ z=>z.elim)
end
end L2
end
section
namespace L2
open PySem PySem.W PySem.Spec PyProof.Rows
section
variable {prog:Program} {w:World} {A:Around} {E:Value->Shared->Prop} {s:Shared} {K:Frag} {x D:Addr} {ox:Obj}
theorem findObj_none {a g:Value} {name:Str} (hc:(clsIn K D).isSome=true) (ha:findIn K (.ref D) name=some (some a)) (hg:specialIn K a "__get__" = some (some g)) (ht:takesIn K a=some true):findObj K D none name=some (.bind g a):=by
  obtain ⟨cd,hc⟩:=Option.isSome_iff_exists.mp hc
  unfold findObj
  rw [hc,Option.bind_some,ha,Option.bind_some]
  simp [hg,ht]
structure XcL (K:Frag) (D:Addr):Prop where
  is:(clsIn K D).isSome=true
  ga:findIn K (.ref D) "__getattribute__" = some (some (.builtin "BaseException.__getattribute__"))
  gt:findIn K (.ref D) "__getattr__" = some none
  cl:findIn K (.ref D) "__class__" = some (some (.builtin "object.__class__"))
  gs:specialIn K (.builtin "object.__class__") "__get__" = some (some (.builtin "getset_descriptor.__get__"))
  tk:takesIn K (.builtin "object.__class__")=some true
  ob:mroIn K D (.type "object")=some true
  be:mroIn K D (.type "BaseException")=some true
theorem exc_class {Q:Option Value->Shared->Prop} (c:XcL K D) (X:K.In s.heap) (I:InstAt s.heap x ox D none) (h:Q (some (.ref D)) { s with toks:=s.toks + 1 }):wpAny (model prog w) A (getAttr? (.ref x) "__class__") Q E s:=by
  obtain ⟨hh,g,d,t,os⟩:=s
  have L0:=I.type (M:=model prog w)
  have L1:=looks_findIn (M:=model prog w) X c.ga
  have L2:=looks_findIn (M:=model prog w) X c.gt
  have L3:=looks_find (M:=model prog w) X I (findObj_none c.is c.cl c.gs c.tk)
  have L4:=looks_mroIn (M:=model prog w) X c.be
  have FB:=PySem.F.attrBase_ValueError
  unfold getAttr? getAttrBy? getAttrBy
  refine wpAny_bind (wpAny_mkText (wpAny_bind (wpAny_attempt (wpAny_holding (wpAny_bind (L0.at (wpAny_bind (L1.at ?_))))))))
  show wpAny _ _ (getAttrByItsOwn _ _ _ _ _ _) _ _ _
  unfold getAttrByItsOwn hookBefore
  rw [if_pos (show onTheHeap (.ref D)=true from rfl)]
  refine wpAny_bind (L2.at (wpAny_bind (wpAny_attempt (wpAny_holding ?_))))
  unfold callGetattribute
  rw [Bool.false_and,if_neg Bool.false_ne_true]
  unfold boundAndCalled
  refine wpAny_bind (wpAny_of_eq (FB.ga.bind (.ref x)) ?_)
  refine wpAny_call (codeAny_call_builtin FB.ga.plain F.entry_bexc_ga ?_)
  have hk:builtinKind "BaseException.__getattribute__" = some .slot:=by decide +kernel
  have hsplit:splitId "BaseException.__getattribute__" = some ("BaseException","__getattribute__"):=by decide +kernel
  have ha:=F.args_bexc_ga (.ref x) (.str "__class__" t)
  simp only [checkBuiltinCall,hk,hsplit]
  refine wpAny_bind ?_
  unfold isInstance
  refine wpAny_bind (L0.at (L4.at ?_))
  simp only [Bool.not_true,Bool.false_eq_true,if_false]
  refine wpAny_mono (Q:=fun _ s'=>s'=⟨hh,g,d,t + 1,os⟩) ?_ ?_ fun _ _ z=>z
  . (repeat (any_goals (first | assumption | wp_step)))
    rfl
  . rintro _ _ rfl
    repeat (any_goals (first | assumption | exact L0.at (by assumption) | (with_reducible refine wpAny_bind (L0.at ?_)) | (with_reducible refine wpAny_bind (L3.at ?_)) | wp_step))
    refine class_get (s:=⟨hh,g,d,t + 1,os⟩) (ox:=ox) (od:=none) X I c.ob ?_
    exact wpAny_pure (handed_on rfl (wpAny_pure h))
theorem kitx_exc (c:XcL K D):KitX K (.ref x) (.ref D) (fun h=>∃ ox,InstAt h x ox D none) where
  ty:=fun _ _ _ ⟨_,I⟩=>I.type
  it:=fun _ _ X _=>by
    have z:=c.is
    unfold clsIn at z
    split at z
    . rename_i lk
      intro A' Q' E' s' k q
      unfold isType loadHead
      exact wpAny_bind (wpAny_loadPart (k _ _ (X _ _ lk)) (wpAny_pure q))
    . cases z
  ne:=fun h tp dd its n sl X htp=>by
    have z:=c.is
    refine Bool.eq_false_iff.mpr fun q=>?_
    obtain rfl:D=tp:=Value.ref.inj (beq_iff_eq.mp q)
    unfold clsIn at z
    split at z
    . rename_i lk
      cases (X _ _ lk).symm.trans htp
    . cases z
  ca:=fun X ⟨_,I⟩ k=>exc_class c X I k
end
section
variable {X:Cx} {pins:List (Addr × Obj)} {σ:St} {H:Hp} {s:Shared}
theorem Inv.xAt (I:Inv X pins σ H s) {a:Addr} {c:Array UInt8} (h:XAt X.K H a c):∃ C,XN X.K c C/\IsX C a s.heap:=by
  obtain ⟨ob,C,q,z⟩:=h
  exact ⟨C,z,(I.hok a _ q).2.1⟩
theorem IsX.inst {D a:Addr} {h:Heap} (x:IsX (.ref D) a h):∃ ox,InstAt h a ox D none:=by
  obtain ⟨o,q,c,d,fs,f⟩:=x
  refine ⟨o,q,c,?_,?_⟩
  . obtain ⟨c1,d1,dt,sl⟩:=o
    cases (show dt=_ from f)
    rfl
  . rw [d];trivial
noncomputable def rIsX (K:Frag):List V->Hp->VK->Prop:=fun xs H Q=>∃ a c D y u b,xs=[.ref a,y]/\XAt K H a c/\XN K c (.ref D)/\XcL K D/\((∃ C,y = .ref C/\u = .ref C)\/∃ T,y = .ty T/\u = .type T)/\kitOne K (.ref D) u=some b/\Q (.bl b) H
theorem XN.one {K:Frag} {c:Array UInt8} {C C':Value} (a:XN K c C) (b:XN K c C'):C=C':=by
  unfold XN at a b
  rw [a] at b
  exact Option.some.inj (Option.some.inj b)
theorem call_isX:CallR X (.builtin "isinstance") (rIsX X.K):=by
  intro pins s σ H xs us Q I r h
  obtain ⟨a,c,D,y,u,b,rfl,x0,x1,x2,ry,e,q⟩:=h
  obtain ⟨C,z,ix⟩:=I.xAt x0
  obtain rfl:=z.one x1
  cases r with
  | cons r1 r2 =>
    cases r2 with
    | cons r3 r4 =>
      cases r4
      cases (show _=Value.ref a from r1)
      have fin:∀ tk,EP X pins σ Q (.bool b) { s with toks:=tk }:=fun tk=>⟨.bl b,H,I.tok tk,rfl,q⟩
      rcases ry with ⟨C,rfl,rfl⟩ | ⟨T,rfl,rfl⟩
      . cases (show _=Value.ref C from r3)
        exact kia_one (kitx_exc x2) I.kIn ix.inst e (fun z=>nomatch z) fin
      . cases (show _=Value.type T from r3)
        exact kia_one (kitx_exc x2) I.kIn ix.inst e (fun z=>nomatch z) fin
end
end L2
end
section
namespace L2
open PySem PySem.Spec PyProof.Rows
structure REc (X:Cx) (C:Value) (e:Expr) (t:TX):Prop where
  out:∀ (pins:List (Addr × Obj)) (s:Shared) (σ:St) (H:Hp) (G:St->Hp->Prop),(∀ b ∈ X.ex,∃ o,(b,o) ∈ X.pn ++ pins)->Inv X pins σ H s->t σ H G->wpAny (model X.prog X.w) X.A (eval e X.env) (fun _ _=>False) (XP X pins C G) s
section
variable {X:Cx} {C:Value} {k:Nat} {f:Addr} {fd:FuncData} {ps:List Str} {sp:Sp} {x:Str} {p pos:Pos} {e:Expr} {es:List Expr} {t:TA}
theorem run_raiseC {pins:List (Addr × Obj)} {σ:St} {H:Hp} {s:Shared} {G:St->Hp->Prop} {us:List Value} {vs:List V} (F:FnOk X.prog X.w X.K X.mg X.base (CXx X.prog X.w C) k f fd ps sp) (hr:Room k X.A) (hb:Binds X.K fd ps [])
    (I:Inv X pins σ H s) (r:Vals vs us) (h:sp vs H (fun _ _=>False) E0) (hG:∀ H',Same H H'->G σ H') (hX:∀ b ∈ X.ex,∃ o,(b,o) ∈ X.pn ++ pins):wpAny (model X.prog X.w) X.A (call (.ref f) us) (fun _ _=>False) (XP X pins C G) s:=by
  have hl:us.length=ps.length:=by rw [<- r.length];exact F.len _ _ _ _ h
  have bs:=hb s us I.kIn (by rw [List.append_nil];exact hl)
  rw [List.append_nil] at bs
  refine wpAny_call (codeAny_mono (F.run X.A X.stack s H ⟨us,[]⟩ us vs _ E0 hr I.env0 bs r h) fun r s' hq=>?_)
  cases r with
  | ok fl =>
    cases fl with
    | ret u=>obtain ⟨_,_,_,_,_,_,_,z⟩:=hq;exact z.elim
    | next=>exact hq.elim
    | brk=>exact hq.elim
    | cont=>exact hq.elim
  | error v =>
    obtain ⟨e,T,H',rfl,o1,o2,sm,un,hok,fx,fr⟩:=hq
    refine ⟨e,some T,σ,H',rfl,I.call' (ch:=[]) o1 un hok o2 (fun b z=>absurd z (by simp)),hG H' sm,fx,fun a ha=>?_⟩
    obtain ⟨f1,f2⟩:=fr a ha
    refine ⟨?_,f2,fun p hp z=>?_⟩
    . cases q:X.s₀.heap.get? a with
      | none=>rfl
      | some o =>
        by_cases m:a ∈ X.ex
        . obtain ⟨o2,q2⟩:=hX a m
          have q3:=(I.pin _ q2).1
          rw [f1] at q3;cases q3
        . obtain ⟨o2,q2⟩:=I.base.there a o q m
          rw [f1] at q2;cases q2
    . have q:=(I.pin p hp).1
      rw [z,f1] at q;cases q
theorem rec_call (F:FnOk X.prog X.w X.K X.mg X.base (CXx X.prog X.w C) k f fd ps sp) (hr:Room k X.A) (hg:Gl X x) (hm:X.mg x=some (.ref f)) (hk:PySem.W.keepIn X.K (.ref f)=true) (hb:Binds X.K fd ps []) (ha:ZA X.nox (e :: es) t)
    (hdb:(x == ("__debug__" : Str))=false:=by decide) (he:starEach (e :: es) X.env=(false,eval e X.env) :: starEach es X.env:=by rfl) (hpl:(backTo pos (starEach es X.env)).any (·.1)=false:=by rfl) :
    REc X C (.Call (.Name x p) (e :: es) [] pos) (xCall sp t):=⟨fun pins s σ H G hX I h=>by
  refine wpAny_Call_Name_kw (ld_glob I hg hm ?_ hdb)
  refine PySem.W.callWith_K (h₀:=X.base) I.ok.mod.kin hk (thn (noE (ha.out pos pins s σ H _ (I.wish _) h)) fun us s1 ⟨vs,H1,I1,r,q⟩=>⟨I1.kIn,?_⟩) he hpl
  exact run_raiseC F hr hb I1.unwish r q.1 q.2 hX⟩
end
section
variable {prog:Program} {w:World} {A:Around} {R:Result->Shared->Prop} {s:Shared}
theorem compLoop_raise {elt target iter:Expr} {scope:Scope} {pos:Pos} {it acc:Value} {env:Env} (I:Nat->Shared->Prop)
    (turn : ∀ n s, I n s -> wpAny (model prog w) A (pyNext it) (fun r s₁ => match r with
      | none=>False
      | some v=>wpAny (model prog w) A (letOwnedTupleGo target it v) (fun _ s₁=>wpAny (model prog w) A (assign target env v) (fun _ s₂ =>
          wpAny (model prog w) A (eval elt env) (fun x s₄=>wpAny (model prog w) A (call (.builtin "list.append") [acc,x]) (fun _ s₅=>∃ m,m < n/\I m s₅) (fun _ _=>False) s₄) (notedBy (model prog w) A env fun x s'=>R (.error x) s') s₂) (fun _ _=>False) s₁) (fun _ _=>False) s₁) (fun _ _=>False) s)
    (n:Nat) (h:I n s) :
    codeAny (model prog w) A (.compLoop (.ListComp elt [⟨target,iter,[],0⟩] scope pos) 0 it acc env) R s:=by
  refine codeAny_loop rfl I (fun n s hI=>?_) n h
  show wpAny _ A ((compTurn (.ListComp elt [⟨target,iter,[],0⟩] scope pos) 0 it acc env).onRaise (fun x=>do noteFrame x env;theTreesLotGoes x)) _ _ s
  refine wpAny_noted ?_
  rw [compTurn_list]
  refine wpAny_bind (wpAny_standAt (wpAny_bind (wpAny_mono (turn n s hI) (fun r s₁ h₁=>?_) fun _ _ h'=>h'.elim)))
  cases r with
  | none=>exact h₁.elim
  | some v =>
    refine wpAny_bind (wpAny_mono h₁ (fun _ s₁ h₁=>?_) fun _ _ h'=>h'.elim)
    refine wpAny_bind (wpAny_mono h₁ (fun _ s₂ h₂=>wpAny_bind (wpAny_tests_nil ?_)) fun _ _ h'=>h'.elim)
    exact wpAny_bind (wpAny_bind (wpAny_mono h₂ (fun x s₄ h₄=>wpAny_bind (wpAny_mono h₄ (fun _ s₅ h₅=>wpAny_pure (wpAny_pure ⟨rfl,h₅⟩)) fun _ _ h'=>h'.elim)) fun _ _ h'=>h'))
end
noncomputable def xComp (no:Nat) (wi:TI) (g:TG) (te:TE) (tx:TX):TX:=fun σ H G=>wi σ H fun J H1=>∀ D,H1 D=none ->
  ∃ W : Nat -> Nat -> St -> Hp -> Prop, (∃ m, W 0 m (List.replicate no none ++ σ) (upd H1 D (.lst []))) /\ ∀ i m σ' H', W i m σ' H' ->
    J.go i H'/\∀ x H2,J.yld i H' x H2->g x σ' H2 fun σ3 H3 =>
      (te σ3 H3 fun v H5=>∃ xs,H5 D=some (.lst xs)/\xs.length < sizeLine/\∃ m',m' < m/\W (i + 1) m' σ3 (upd H5 D (.lst (xs ++ [v]))))\/tx σ3 H3 fun _ H4=>G σ H4
section
variable {X:Cx} {Cv:Value} {own:List Str} {scope:Scope} {elt tg iter:Expr} {ifs:List Expr} {pos:Pos} {wi:TI} {g:TG} {te:TE} {tx:TX}
theorem re_compI {t:TX} {N0 P0:List Str} {sc:Scope} (S0:FnScope N0 P0 sc) (S1:CompScope own N0 sc scope) (hi:RE X Cv iter t)
    (hs:∀ x,foldedSetIterable iter X.env x=pure x:=by intro _;rfl) (hN0:X.N=N0:=by rfl) (hsc:X.env.scope=sc:=by rfl):RE X Cv (.ListComp elt [⟨tg,iter,ifs,0⟩] scope pos) t:=⟨fun pins s σ H G I h=>by
  subst hN0 hsc
  rw [eval_ListComp]
  exact wpAny_comprehension_free (use:=none) rfl hs (comp_clos S1 I) S1.kind S1.loc (wpAny_mono (hi.out pins s σ H G I h) (fun _ _ z=>z.elim) fun _ _ z=>z)⟩
theorem re_comp {N0 P0:List Str} {sc:Scope} (S0:FnScope N0 P0 sc) (hc:X.calm=true) (S1:CompScope own N0 sc scope) (hi:ZI X.nox tg iter wi)
    (hg:∀ C fp s H,(maskN own N0).Nodup->ZG (cxComp X.nox own scope C fp s H) tg g) (he:∀ C fp s H,ZE (cxComp X.nox own scope C fp s H) elt te) (hx:∀ C fp s H,REc (cxComp X own scope C fp s H) Cv elt tx)
    (hX:X.ex=[]:=by rfl) (hst:X.stack=X.env :: X.outer:=by rfl) (hfr:X.env.frame=some X.env.locals:=by rfl)
    (hs:∀ x,foldedSetIterable iter X.env x=pure x:=by intro _;rfl) (hN0:X.N=N0:=by rfl) (hsc:X.env.scope=sc:=by rfl):RE X Cv (.ListComp elt [⟨tg,iter,[],0⟩] scope pos) (xComp own.length wi g te tx):=⟨fun pins s0 σ H0 G I0 h=>by
  subst hN0 hsc
  have S:=S1
  replace hg:=fun C fp s H=>(hg C fp s H S1.nd).out
  rw [eval_ListComp]
  refine wpAny_comprehension_free (use:=none) rfl hs (comp_clos S I0) S.kind S.loc (thn (noE (hi.out pins s0 σ H0 _ (I0.wish _) h)) fun xv s₁ h₁=>thn (noE h₁) fun itv s h₂=>?_)
  obtain ⟨it,fp,tn,J,H,rfl,I',T,st,hf',h⟩:=h₂
  have I:Inv X pins σ H s:=I'.unwish
  have hf:∀ b ∈ fp,FpOk X pins H b:=hf'
  refine wpAny_newObj_type (wpAny_newFunctionEnv S.nocell (by intro y hy;simp at hy) (fun h₁ hns₁ hsb₁=>?_) S.kind)
  dsimp only at hns₁ hsb₁ ⊢
  generalize hH2:s.heap.push { cls:=.type "list",dict:=none,data:=.seq ([]:List Value).toArray }=H2 at hns₁ hsb₁ ⊢
  have hC:H2.objs.size=s.heap.objs.size + 1:=by rw [<- hH2,Heap.size_push]
  have hDC:s.heap.objs.size ≠ H2.objs.size:=by rw [hC];exact Nat.ne_of_lt (Nat.lt_succ_self _)
  have hCle:s.heap.objs.size<=H2.objs.size:=by rw [hC];exact Nat.le_succ _
  have below:∀ b,b < s.heap.objs.size->b ≠ H2.objs.size:=fun b hb=>by rw [hC];exact Nat.ne_of_lt (Nat.lt_succ_of_lt hb)
  have old:∀ b o,s.heap.get? b=some o->h₁.get? b=some o:=fun b o e=>hsb₁.extBut b o (below b (Heap.lt_size e)) (Heap.get?_push_of_some _ (hH2 ▸ Heap.get?_push_of_some _ e))
  have hacc:h₁.get? s.heap.objs.size=some { cls:=.type "list",dict:=none,data:=.seq ([]:List Value).toArray }:=hsb₁.extBut _ _ hDC (Heap.get?_push_of_some _ (hH2 ▸ Heap.get?_push_size _ rfl))
  have ho:∀ b ∈ fp,∃ o,s.heap.get? b=some o:=fun b hb=>let ⟨o,e,_⟩:=T.obj _ _ st b hb;⟨o,e⟩
  have fresh:∀ a,s.heap.objs.size<=a->H a=none:=fun a ha=>I.hok.fresh ha
  generalize hD:s.heap.objs.size=D at *
  generalize hCC:H2.objs.size=C at *
  have I1:Inv (cxComp X own scope C fp s H) [] (List.replicate own.length none ++ σ) (upd H D (.lst [])) { s with heap:=h₁,toks:=s.toks + ([]:List (Str × Value)).length }:=by
    refine cxComp_inv S I (by rw [hD];exact hCle) hf ho old hns₁ (Un.laid old (by rw [hD];exact Nat.le_refl _) (fresh D (Nat.le_refl _))) (I.hok.laid old (by rw [hD];exact Nat.le_refl _) ?_) ?_ fun b hb=>?_
    . exact ⟨Nat.zero_le _,[],0,.nil,hacc⟩
    . rw [upd_ne (Ne.symm hDC)];exact fresh C hCle
    . rw [hD] at hb;rw [upd_ne (Nat.ne_of_lt hb)]
  obtain ⟨W,⟨m0,w0⟩,turn⟩:=h D (fresh D (Nat.le_refl _))
  have fpY:∀ {H':Hp},(∀ b ∈ fp,H' b=none)->∀ b ∈ fp,FpOk (cxComp X own scope C fp s H) [] H' b:=fun hn b hb=>by
    obtain ⟨q0,q1,q2,q3,q4,q5⟩:=hf b hb
    refine ⟨hn b hb,I1.ok.exf b hb |>.1,I1.ok.exfs b hb,.inl hb,I1.ok.exf b hb |>.2,fun p hp=>absurd (show p ∈ ([]:List (Addr × Obj)) from hp) (by simp)⟩
  have loop : codeAny (model X.prog X.w) X.A (.compLoop (.ListComp elt [⟨tg, iter, [], 0⟩] scope pos) 0 (.ref it) (.ref D) (compEnvC scope (clOf X.env.cells scope.names []) C X.env)) (compPost (model X.prog X.w) X.A (XP X pins Cv G) none (fun _ _ => False) (.ref D) C) { s with heap := h₁, toks := s.toks + ([] : List (Str × Value)).length } := by
    refine compLoop_raise (fun n s'=>∃ i σ' H',Inv (cxComp X own scope C fp s H) [] σ' H' s'/\tn i s'.heap/\(∀ b ∈ fp,H' b=none)/\W i n σ' H') ?_ m0
      ⟨0,_,_,I1,T.keep _ _ _ st fun b _ o e=>old b o e,fun b hb=>?_,w0⟩
    . rintro n s3 ⟨i,σ3,H3,I3,st3,fr3,w3⟩
      obtain ⟨go,step⟩:=turn i n σ3 H3 w3
      refine thn (T.item (cxComp X own scope C fp s H) rfl rfl rfl hc i [] s3 σ3 H3 _ I3 (fpY fr3) st3 go) fun r s4 ⟨u,hr,h4⟩=>?_
      subst hr
      dsimp only
      refine thn h4 fun _ s5 ⟨x,H5,I5,r5,y5,st5,fr5⟩=>?_
      have I5':=I5.pinned (fpY fr5) (T.obj _ _ st5)
      refine thn (hg C fp s H _ s5 σ3 H5 x u _ I5' r5 (step x H5 y5)) fun _ s6 ⟨σ6,H6,I6,q6⟩=>?_
      have again:∀ {s8:Shared} {σ7:St} {H7:Hp},Inv (cxComp X own scope C fp s H) ([] ++ pinsAt fp s5.heap) σ7 H7 s8->(∃ m',m' < n/\W (i + 1) m' σ7 H7)->∃ m,m < n/\∃ i σ' H',Inv (cxComp X own scope C fp s H) [] σ' H' s8/\tn i s8.heap/\(∀ b ∈ fp,H' b=none)/\W i m σ' H':=fun {s8 σ7 H7} I7 n7=>by
        obtain ⟨m',hm,w7⟩:=n7
        refine ⟨m',hm,i + 1,σ7,H7,I7.unpinned,T.keep _ _ _ st5 fun b hb o e=>(I7.pin (b,o) (List.mem_append_right _ (List.mem_append_right _ (mem_pinsAt hb e)))).1,fun b hb=>?_,w7⟩
        obtain ⟨o,e,d⟩:=T.obj _ _ st5 b hb
        exact (I7.pin (b,o) (List.mem_append_right _ (List.mem_append_right _ (mem_pinsAt hb e)))).2.1
      rcases q6 with q6 | q6
      . refine wpAny_mono (noE ((he C fp s H).out _ s6 σ6 H6 _ I6 q6)) (fun u8 s8 ⟨v,H8,I8,r8,xs,hx,hz,q8⟩=>?_) fun _ _ z=>z
        refine thn (mt_append (X:=cxComp X own scope C fp s H) _ s8 σ6 H8 (.ref D) [v] (.ref D) [u8] (fun _ H9=>∃ m',m' < n/\W (i + 1) m' σ6 H9) I8 rfl (.cons r8 .nil) ⟨D,xs,v,rfl,rfl,hx,hz,q8⟩) fun _ s9 ⟨_,H9,I9,_,q9⟩=>?_
        exact again I9 q9
      . have hp:∀ b ∈ fp,∃ o,(b,o) ∈ (cxComp X own scope C fp s H).pn ++ ([] ++ pinsAt fp s5.heap):=fun b hb=>by
          obtain ⟨o,e,d⟩:=T.obj _ _ st5 b hb
          exact ⟨o,List.mem_append_right _ (List.mem_append_right _ (mem_pinsAt hb e))⟩
        refine wpAny_mono ((hx C fp s H).out _ s6 σ6 H6 _ hp I6 q6) (fun _ _ z=>z.elim) fun v s7 xp=>?_
        obtain ⟨e,tb,σ7,H7,rfl,J7,g7,fx,fr⟩:=xp
        show wpAny _ X.A (noteFrame (.ref e) X.env) _ _ _
        refine note_frame (base:=X.base) (outer:=X.outer) (by rw [<- hst];exact I.ok.frames) (by rw [<- hst];exact J7.stack) hfr fx fun h' T' lt fx' kp=>?_
        rw [<- hst] at kp
        have J8:=J7.fly (s':={ s7 with heap:=h' }) fx fr kp rfl rfl
        have fr8:=fr.next J7 lt
        have off:=fr8.off J8 fx'
        obtain ⟨m,hm,_⟩:=id J8.loc
        refine ⟨m,hm,fun h2 sb cenv' _=>?_⟩
        have Io:Inv X pins σ H7 { s7 with heap:=h' }:=I.behind hf J8
        have Io2:=Io.letgo (C:=C) (h':=h2) J8.free I.sz (by rw [hD];exact hCle) I.lt (fun x c e=>let ⟨v,z⟩:=I.cell x c e;z.lt) (fun p hp=>Heap.lt_size (I.pin p hp).1) sb
        have ne:∀ b,(b=e\/some b=some T')->b ≠ C:=fun b hb=>(off b hb).2.1
        have fx2:Fx Cv e (some T') h2:=by
          obtain ⟨ob,fs,x0,x3,x1,x2,x4,ne2,oT,ts,y0,y1,y3⟩:=fx'
          exact ⟨ob,fs,sb.extBut _ _ (ne e (.inl rfl)) x0,x3,x1,x2,x4,ne2,oT,ts,sb.extBut _ _ (ne T' (.inr rfl)) y0,y1,y3⟩
        have frX:Fresh X pins H7 e (some T'):=fun b hb=>by
          obtain ⟨f1,f2,_⟩:=fr8 b hb
          have f1:s.heap.get? b=none:=f1
          refine ⟨?_,f2,fun p hp z=>?_⟩
          . cases q:X.s₀.heap.get? b with
            | none=>rfl
            | some o =>
              obtain ⟨o2,q2⟩:=I.base.there b o q (by rw [hX];simp)
              rw [f1] at q2;cases q2
          . have q:=(I.pin p hp).1
            rw [z,f1] at q;cases q
        unfold PySem.passOn
        obtain ⟨ob,fs,x0,x3,x1,x2,x4,_⟩:=id fx2
        refine wpAny_bind (wpAny_field x0 x1 x4 ?_)
        rw [if_neg (by simp)]
        refine wpAny_bind (land_any fx2 fun h3 fx3 kp3=>wpAny_throw ?_)
        exact ⟨e,some T',σ,H7,rfl,Io2.fly (s':={ s7 with heap:=h3 }) fx2 frX (fun b o n q=>⟨fun _=>(kp3 b o (fun z=>n (.inr (by rw [z]))) q).1 (by simp),(kp3 b o (fun z=>n (.inr (by rw [z]))) q).2⟩) rfl rfl,g7,fx3,frX⟩
    . have lt:b < D:=by
        obtain ⟨o,e⟩:=ho b hb
        exact hD ▸ Heap.lt_size e
      rw [upd_ne (Nat.ne_of_lt lt)]
      exact (hf b hb).1
  exact codeAny_compStart_list loop (T.self _ 0 _ _ _ (T.keep _ _ _ st fun b _ o e=>old b o e) loop)⟩
end
section
variable {X:Cx} {C:Value} {t:TX} {x:Str} {p pos:Pos} {e:Expr} {es:List Expr} {T:String}
theorem re_tyArg (he:RE X C e t) (hg:Gl X x) (hm:X.mg x=none) (hv:bootBuiltins x=some (.type T)) (hn:x ≠ "__name__" := by decide) (hdb:(x == ("__debug__" : Str))=false:=by decide)
    (hst:starEach [e] X.env=(false,eval e X.env) :: starEach [] X.env:=by rfl):RE X C (.Call (.Name x p) [e] [] pos) t:=⟨fun pins s σ H G I h=>by
  refine wpAny_Call_Name_kw (ld_blt I hg hm hv ?_ hn hdb)
  refine PyProof.Rows.callWith_type1 ?_ hst rfl
  rw [hst]
  exact Calls.spliced_cons (wpAny_mono (he.out pins s σ H G I h) (fun _ _ z=>z.elim) fun _ _ z=>z)⟩
end
end L2
end
namespace D
open PySem L2 K0 Num
open PySem.W (Dat)
section
section
variable {p:Option Addr} {K:PySem.W.Frag} {W:Addr->Prop} {L:List Addr} {σ:St} {H:Hp} {τ:List Sl}
theorem Rs.forgetN (r:Rs p W K H L σ τ):∀ i:Nat,∃ L',(∀ a,a ∈ L'->a ∈ L)/\Rs p W K H L' (σ.set i none) (τ.set i .un):=by
  induction r with
  | nil=>intro i;exact ⟨[],fun _ h=>h,.nil⟩
  | un r ih =>
    intro i
    match i with
    | 0=>exact ⟨_,fun _ h=>h,.un r⟩
    | i + 1=>obtain ⟨L',h1,h2⟩:=ih i;exact ⟨L',h1,.un h2⟩
  | dat y r ih =>
    intro i
    match i with
    | 0=>exact ⟨_,fun _ h=>h,.un r⟩
    | i + 1=>obtain ⟨L',h1,h2⟩:=ih i;exact ⟨L',h1,.dat y h2⟩
  | pu y r ih =>
    intro i
    match i with
    | 0=>exact ⟨_,fun _ h=>h,.un r⟩
    | i + 1=>obtain ⟨L',h1,h2⟩:=ih i;exact ⟨L',h1,.pu y h2⟩
  | own h1 h2 h3 h4 h5 r ih =>
    intro i
    match i with
    | 0=>exact ⟨_,fun _ h=>List.mem_cons_of_mem _ h,.un r⟩
    | i + 1 =>
      obtain ⟨L',g1,g2⟩:=ih i
      refine ⟨_ :: L',fun b hb=>?_,.own h1 h2 (fun z=>h3 (g1 _ z)) h4 h5 g2⟩
      rcases List.mem_cons.mp hb with rfl | hb
      . exact List.mem_cons_self
      . exact List.mem_cons_of_mem _ (g1 b hb)
  | dt h1 h2 h3 h4 r ih =>
    intro i
    match i with
    | 0=>exact ⟨_,fun _ h=>List.mem_append_right _ h,.un r⟩
    | i + 1 =>
      obtain ⟨L',g1,g2⟩:=ih i
      exact ⟨_ ++ L',fun b hb=>(List.mem_append.mp hb).elim (List.mem_append_left _) (fun z=>List.mem_append_right _ (g1 b z)),.dt h1 h2 (fun b hb z=>h3 b hb (g1 _ z)) h4 g2⟩
end
theorem Rs.len {p:Option Addr} {K:PySem.W.Frag} {W:Addr->Prop} {L:List Addr} {σ:St} {H:Hp} {τ:List Sl} (r:Rs p W K H L σ τ):σ.length=τ.length:=by
  induction r with
  | nil=>rfl
  | un _ ih=>exact congrArg (· + 1) ih
  | dat _ _ ih=>exact congrArg (· + 1) ih
  | pu _ _ ih=>exact congrArg (· + 1) ih
  | own _ _ _ _ _ _ ih=>exact congrArg (· + 1) ih
  | dt _ _ _ _ _ ih=>exact congrArg (· + 1) ih
section
variable (p:Option Addr) (K:PySem.W.Frag)
noncomputable def SX (tx:TX) (τ:List Sl) (nx:List Sl->Prop):Prop:=∀ (W:Addr->Prop) (L:List Addr) (σ:St) (H:Hp) (G:St->Hp->Prop),Rs p W K H L σ τ->Ok p W H ->
  (∀ (W':Addr->Prop) (L':List Addr) σ' H' τ',nx τ'->Ev W H H'->Ok p W' H'->(∀ a,W a->∃ ys,H' a=some ys)->(∀ a,W' a->W a\/H a=none)->(∀ a,a ∈ L'->a ∈ L\/H a=none)->Rs p W' K H' L' σ' τ'->G σ' H')->tx σ H G
end
noncomputable def spB (K:PySem.W.Frag) (B:List Dat->Prop):Sp:=fun vs H _ _=>∃ ds,Dzs (fun _=>True) K H vs ds/\B ds
section
variable {p:Option Addr} {K:PySem.W.Frag} {τ:List Sl} {tc:TT} {t u:TX} {ts:TS} {tas:TA} {nx:List Sl->Prop} {ds:List Dat}
theorem SX.raise:SX p K xRaise τ (fun τ'=>τ'=τ):=fun W L σ H G r o q=>q W L σ H τ rfl Ev.refl o o.al (fun _ h=>.inl h) (fun _ h=>.inl h) r
theorem SX.iff {b:Bool} (h:T1 p K tc τ b) (ht:b=true->SX p K t τ nx) (hf:b=false->SX p K u τ nx):SX p K (xIf tc t u) τ nx:=fun W L σ H G r o q=>h W L σ H _ r o fun b' H1 e ev o1=>by
  subst e
  have e1:Ev W H H1:=ev.ofP o
  have hn:∀ a,H1 a=none->H a=none:=fun a ha=>e1.none o1.al ha
  have fin:∀ {t:TX},SX p K t τ nx->t σ H1 G:=fun hs=>hs W L σ H1 G (r.ev ev o.pw) o1 fun W' L' σ' H' τ' m e2 o2 w2 n2 l2 r2=>q W' L' σ' H' τ' m (e1.trans e2) o2 w2 (fun a ha=>(n2 a ha).imp id (hn a)) (fun a ha=>(l2 a ha).imp id (hn a)) r2
  cases b with
  | true=>rw [if_pos rfl];exact fin (ht rfl)
  | false=>rw [if_neg Bool.false_ne_true];exact fin (hf rfl)
theorem SX.ifT (h:T1 p K tc τ true) (hs:SX p K t τ nx):SX p K (xIf tc t u) τ nx:=SX.iff h (fun _=>hs) (fun z=>by cases z)
theorem SX.thn {M:List Sl->Prop} (h1:S p K ts τ M (fun _=>False)) (h2:∀ τ',M τ'->SX p K u τ' nx):SX p K (xThen ts u) τ nx:=fun W L σ H G r o q =>
  h1 W L σ H _ r o (fun W1 L1 σ1 H1 τ1 m e1 o1 w1 n1 l1 r1=>by
    have hn:∀ a,H1 a=none->H a=none:=fun a ha=>e1.none w1 ha
    exact h2 τ1 m W1 L1 σ1 H1 G r1 o1 fun W2 L2 σ2 H2 τ2 c e2 o2 w2 n2 l2 r2=>q W2 L2 σ2 H2 τ2 c (e1.chain e2 n1) o2 (al_chain w1 w2 e2)
        (fun a ha=>(n2 a ha).elim (n1 a) fun z=>.inr (hn a z)) (fun a ha=>(l2 a ha).elim (l1 a) fun z=>.inr (hn a z)) r2)
    fun W' H' v s c _ _ _ _ _=>c.elim
theorem SX.call {B:List Dat->Prop} {ss:List Sl} (ha:A1 p K tas τ ss) (hr:B ds) (hd:datsOf ss=some ds:=by rfl):SX p K (xCall (spB K B) tas) τ (fun τ'=>τ'=τ):=fun W L σ H G r o q=>ha W L σ H _ r o fun vs H1 ss e e1 o1 rv=>by
  subst e
  refine ⟨⟨ds,rv.dz hd,hr⟩,fun H' sm=>?_⟩
  exact q W L σ H' τ rfl ((e1.ofP o).trans (Ev.of sm)) (o1.same sm) (o1.same sm).al (fun _ h=>.inl h) (fun _ h=>.inl h) ((r.ev e1 o.pw).ev (Ev.of sm) o.pw)
section
variable {P:Program} {w:World} {mg:Str->Option Value} {base:Heap}
theorem okB {x qual:Str} {st:Stmt} {f:Addr} {fd:FuncData} {N ps:List Str} {k:Nat} {B:List Dat->Prop} {C:Value} (F:Fun K x qual st f fd) (S0:FnScope N ps (defScope st)) (len:∀ ds,B ds->ds.length=ps.length)
    (body:∀ (cdv:Value) (A:Around) (outer:List Env) (s:Shared) (H:Hp) (E:XK),Room k (A.deeper (PyProof.Rows.envOfC qual (defScope st) s.heap.objs.size f cdv)) ->
      ∃ t,RSs (cxOf CX0 P w K mg base N qual (defScope st) f cdv A outer s H E).nox C (defBody st) t/\∀ ds,B ds->SX none K t (ds.map .dat ++ List.replicate (N.length - ps.length) .un) (fun _=>True)):FnOk P w K mg base (CXx P w C) (k + 1) f fd ps (spB K B):=by
  refine F.raises S0 (fun vs H Q E h=>?_) (fun cdv A outer s H vs Q E hr h=>?_)
  . obtain ⟨ds,z,b⟩:=h;rw [z.len];exact len ds b
  . obtain ⟨ds,z,b⟩:=h
    obtain ⟨t,hz,hs⟩:=body cdv A outer s H E hr
    have l:vs.length=ps.length:=by rw [z.len];exact len ds b
    have r0:Rs none (fun _=>False) K H [] (L2.start N vs) (ds.map .dat ++ List.replicate (N.length - ps.length) .un):=by
      unfold L2.start
      rw [l]
      exact rs_start _ z fun a _ h=>h
    exact ⟨t,hz,hs ds b (fun _=>False) [] _ H _ r0 ⟨fun q h=>(by cases h),fun a h=>False.elim h⟩ fun W' L' σ' H' τ' _ ev _ _ _ _ _=>fun b o h=>ev.keep b o (fun z=>z) h⟩
end
end
end
section
section
variable {K:PySem.W.Frag} {τ:List Sl} {wi:TI} {te:TE} {tas:TA} {ds:List Dat}
theorem SX.compCall {B:List Dat->Prop} {j:Nat} (hw:Wk none K wi τ ds) (hj:j < ds.length) (good:∀ (i:Nat) d,i < j->ds[i]?=some d->∃ e,E1 none K te (.dat d :: τ) (.dat e))
    (bad:∀ d,ds[j]?=some d->∃ as es,A1 none K tas (.dat d :: τ) as/\datsOf as=some es/\B es) (hz:ds.length<=sizeLine):SX none K (xComp 1 wi (gName 0) te (xCall (spB K B) tas)) τ (fun τ'=>τ'=τ):=fun W L σ H G r o q=>by
  refine hw W L σ H _ r o fun J H1 e1 o1 jd=>?_
  intro D hD
  have pD:¬ Pp none D:=fun z=>by cases z
  have r1:=r.ev e1 o.pw
  have r1':Rs none (fun b=>W b\/b=D) K H1 L σ τ:=r1.wide (fun _ h=>.inl h) fun b hb nb=>(hb.resolve_left nb) ▸ hD
  have o1f:H D=none:=o1.back e1 hD
  refine ⟨fun i m σ' H'=>m=j + 1 - i/\i<=j/\(∃ ρ,ρ.length=1/\σ'=ρ ++ σ)/\Ev (fun a=>a=D) H1 H'/\∃ vs:List V,H' D=some (.lst vs)/\vs.length=i,
    ⟨j + 1,by omega,Nat.zero_le _,⟨[none],rfl,rfl⟩,⟨fun b u nb h=>by rw [upd_ne nb];exact h,(Same.new hD _).tm⟩,[],upd_same,rfl⟩,?_⟩
  rintro i m σ' H' ⟨rfl,hi,⟨ρ,lρ,rfl⟩,ev,vs,hv,lv⟩
  have evW:Ev W H1 H':=⟨fun b u nb h=>ev.keep b u (fun y=>by rw [y] at h;rw [hD] at h;cases h) h,ev.tm⟩
  have ok':Ok none (fun b=>W b\/b=D) H':=⟨fun q hq=>(by cases hq),fun b hb=>by
    by_cases z:b=D
    . subst z;exact ⟨_,hv⟩
    . obtain ⟨ys,h⟩:=o1.al b (hb.resolve_right z)
      exact ⟨ys,ev.keep _ _ z h⟩⟩
  have rs':Rs none (fun b=>W b\/b=D) K H' L σ τ:=Rs.evx r1' ev (fun a ha z=>ha (.inr z)) fun a u ha np z=>by rw [z,hD] at ha;cases ha
  obtain ⟨stop,each⟩:=jd (fun b=>W b\/b=D) H' evW fun a ha=>ha.imp id fun z=>by rw [z];exact hD
  have hlt:i < ds.length:=by omega
  have hd:ds[i]?=some ds[i]:=by simp [hlt]
  obtain ⟨go,yl⟩:=each i _ hd
  refine ⟨go,fun x H2 y=>?_⟩
  obtain ⟨s2,z2⟩:=yl x H2 y
  have ok2:=ok'.same s2
  refine Gc.name _ L ρ σ τ H2 x _ lρ (rs'.ev (Ev.of s2) ok'.pw) z2 fun ρ' lρ' rs2=>?_
  by_cases hij:i < j
  . refine .inl ?_
    obtain ⟨e,he⟩:=good i _ hij hd
    refine he _ L _ H2 _ rs2 ok2 fun v H5 s c e5 o5 rv=>?_
    subst c
    have hv5:H5 D=some (.lst vs):=e5.keep _ _ pD (s2 _ _ hv)
    have evu:Ev (fun b=>b=D) H5 (upd H5 D (.lst (vs ++ [v]))):=⟨fun b o n h=>by rw [upd_ne n];exact h,Tm.lst hv5 _⟩
    exact ⟨vs,hv5,by omega,j + 1 - (i + 1),by omega,rfl,by omega,⟨ρ',lρ',rfl⟩,((ev.trans (Ev.of s2)).trans (e5.mono fun _ h=>by cases h)).trans evu,vs ++ [v],upd_same,by rw [List.length_append,lv];rfl⟩
  . refine .inr ?_
    obtain rfl:i=j:=by omega
    obtain ⟨as,es,ha,hde,hb⟩:=bad _ hd
    refine ha _ L _ H2 _ rs2 ok2 fun ws H4 ss e e4 o4 rv=>?_
    subst e
    refine ⟨⟨es,rv.dz hde,hb⟩,fun H5 sm=>?_⟩
    have e45:Ev (Pp none) H' H5:=(Ev.of s2).trans (e4.trans (Ev.of sm))
    have r5:Rs none (fun b=>W b\/b=D) K H5 L σ τ:=rs'.ev e45 ok'.pw
    have o5:Ok none (fun b=>W b\/b=D) H5:=ok'.ev e45 fun q hq=>by cases hq
    have e05:Ev W H H5:=(e1.ofP o).trans (evW.trans (e45.mono fun _ h=>by cases h))
    exact q (fun b=>W b\/b=D) L σ H5 τ rfl e05 o5 (fun a ha=>o5.al a (.inl ha)) (fun a ha=>ha.imp id fun z=>by rw [z];exact o1f) (fun a ha=>.inl ha) r5
end
end
end D
section
namespace L2
open PySem PySem.Spec PyProof.Rows
section
variable {X:Cx}
noncomputable def rSlS:V->Option Int->Option Int->Hp->VK->Prop:=fun x lo hi H Q=>∃ z,x = .str z/\z.length<=sizeLine/\Q (.str (Txt.slice z lo hi)) H
theorem sl_str:SlR X rSlS:=by
  intro pins s σ H x v vl vu lo hi sl Q I rx hs pl pu h
  obtain ⟨z,rfl,hz,q⟩:=h
  obtain ⟨t,rfl⟩:=rx
  obtain ⟨ob,g1,g2,g3⟩:=hs
  refine ⟨"str",_,F.slot_str_getitem.lookup,typeIs_str _ _ _,?_⟩
  have fin:∀ t' k,EP X pins σ Q (.str (Txt.slice z lo hi) t') { s with toks:=k }:=fun t' k=>⟨.str _,H,I.tok k,⟨t',rfl⟩,q⟩
  have le:=Nat.le_trans (Txt.slice_le z lo hi) hz
  cases pl with
  | none =>
    cases pu with
    | none=>exact wpAny_getItem_str_slice (l:=none) (u:=none) (st:=none) ⟨ob,g1,g2,g3⟩ rfl (post_val_or_str ⟨le,fun t' k=>fin t' k⟩)
    | int j tj=>exact wpAny_getItem_str_slice (l:=none) (u:=some (j,tj)) (st:=none) ⟨ob,g1,g2,g3⟩ rfl (post_val_or_str ⟨le,fun t' k=>fin t' k⟩)
  | int i ti =>
    cases pu with
    | none=>exact wpAny_getItem_str_slice (l:=some (i,ti)) (u:=none) (st:=none) ⟨ob,g1,g2,g3⟩ rfl (post_val_or_str ⟨le,fun t' k=>fin t' k⟩)
    | int j tj=>exact wpAny_getItem_str_slice (l:=some (i,ti)) (u:=some (j,tj)) (st:=none) ⟨ob,g1,g2,g3⟩ rfl (post_val_or_str ⟨le,fun t' k=>fin t' k⟩)
end
end L2
namespace D
open PySem L2 K0 Num
open PySem.W (Dat)
section
variable {p:Option Addr} {K:PySem.W.Frag} {τ:List Sl} {te:TE}
theorem E1.slS {z:Str} {lo hi:Option Int} {tl th:TO} (h:E1 p K te τ (.dat (.str z))) (hl:O1 p K tl τ lo) (hh:O1 p K th τ hi) (hz:z.length<=sizeLine):E1 p K (tSl rSlS te tl th) τ (.dat (.str (Txt.slice z lo hi))):=fun W L σ H Q r o q =>
  h W L σ H _ r o fun v H1 s e e1 o1 rv=>by
    subst e
    refine hl W L σ H1 _ (r.ev e1 o.pw) o1 fun H2 e2 o2=>hh W L σ H2 _ ((r.ev e1 o.pw).ev e2 o.pw) o2 fun H3 e3 o3=>?_
    cases rv
    exact ⟨z,rfl,hz,q _ _ _ rfl (e1.trans (e2.trans e3)) o3 (.str _)⟩
end
noncomputable def Asc (n:Nat) (z:Str):Prop:=z.length<=n/\∀ c ∈ z.cps.toList,c < 128
theorem Asc.slice {n:Nat} {z:Str} (h:Asc n z) (l u:Option Int):Asc n (Txt.slice z l u):=by
  refine ⟨Nat.le_trans (Txt.slice_le z l u) h.1,fun c hc=>?_⟩
  unfold Txt.slice at hc
  split at hc
  . exact h.2 c hc
  . obtain ⟨i,_,hi⟩:=List.mem_filterMap.mp hc
    exact h.2 c (Array.mem_toList_iff.mpr (Array.mem_of_getElem? hi))
theorem Asc.app {n m:Nat} {x y:Str} (h:Asc n x) (g:Asc m y):Asc (n + m) (x ++ y):=by
  have e:(x ++ y).cps.toList=x.cps.toList ++ y.cps.toList:=Array.toList_append
  refine ⟨?_,fun c hc=>?_⟩
  . show (x ++ y).cps.size<=_
    rw [<- Array.length_toList,e,List.length_append]
    exact Nat.add_le_add h.1 g.1
  . rw [e] at hc
    exact (List.mem_append.mp hc).elim (h.2 c) (g.2 c)
theorem Asc.mono {n m:Nat} {x:Str} (h:Asc n x) (l:n<=m):Asc m x:=⟨Nat.le_trans h.1 l,h.2⟩
theorem Asc.one {c:Nat} (h:c < 128):Asc 1 ⟨#[c]⟩:=⟨Nat.le_refl _,fun d hd=>by
  obtain rfl:d=c:=by simpa using hd
  exact h⟩
end D
end
namespace D
open PySem L2 K0 Num
open PySem.W (Dat)
section
theorem one_eq (a b:Nat):decide ((⟨#[a]⟩:Str)=⟨#[b]⟩)=decide (a=b):=by
  by_cases h:a=b
  . subst h;rw [decide_eq_true rfl,decide_eq_true rfl]
  . rw [decide_eq_false h,decide_eq_false (fun q=>h (by injection q with q;injection q with q;injection q))]
theorem Asc.le {z:Str} (h:Asc 60 z):z.length<=sizeLine:=Nat.le_trans h.1 (by decide)
theorem SX.mono {p:Option Addr} {K:PySem.W.Frag} {t:TX} {τ:List Sl} {n1 n2:List Sl->Prop} (h:SX p K t τ n1) (m:∀ τ',n1 τ'->n2 τ'):SX p K t τ n2:=fun W L σ H G r o q=>h W L σ H G r o fun W' L' σ' H' τ' c=>q W' L' σ' H' τ' (m τ' c)
theorem T1.orT {p:Option Addr} {K:PySem.W.Frag} {τ:List Sl} {tt tu:TT} (h:T1 p K tt τ true):T1 p K (tOr tt tu) τ true:=T.or h (fun _=>rfl) fun z=>by cases z
theorem str_ok:∀ a,a < 128->PyData.strOk ⟨#[a]⟩=true:=by decide +kernel
theorem kqd_one {a:Nat} (h:a < 128):PySem.W.kqdOk 8 (.str ⟨#[a]⟩)=true:=by
  unfold PySem.W.kqdOk
  exact str_ok a h
section
variable {p:Option Addr} {K:PySem.W.Frag} {τ:List Sl} {ta tb:TE}
theorem E.ixSA {z:Str} {P:Int->Prop} (ha:E1 p K ta τ (.dat (.str z))) (hb:EI p K tb τ P) (az:Asc 60 z) (hp:∀ i,P i->0<=i/\i < (z.cps.toList.length:Int)):E p K (tOp rIxS ta tb) τ (fun s=>∃ c,s = .dat (.str ⟨#[c]⟩)/\c < 128) :=
  E.op2 (B:=fun _=>True) (B':=fun _ x=>∃ i,x = .dat (.int i)/\P i) ha (fun _ _=>hb) fun s t es ⟨i,et,pi⟩ W H0 H x y Q o0 o r1 r2 q=>by
    subst es et
    cases r1.str_inv
    cases r2.int_inv
    obtain ⟨h0,h1⟩:=hp i pi
    obtain ⟨n,rfl⟩:=Int.eq_ofNat_of_zero_le h0
    have lt:n < z.cps.toList.length:=by omega
    have e:z.cps.toList[n]?=some z.cps.toList[n]:=List.getElem?_eq_getElem lt
    exact ⟨z,n,z.cps.toList[n],rfl,rfl,az.le,atI_nat e,q _ H _ ⟨_,rfl,az.2 _ (List.getElem_mem lt)⟩ Ev.refl o (.str _)⟩
end
end
end D
section
namespace L2
open PySem PySem.Spec PyProof.Rows
section
variable {X:Cx} {C:Value} {cT:Addr} {x n:Str} {body suite:List Stmt} {b0:Stmt} {t:TX} {ts th:TS} {i:Nat} {pos np hp:Pos} {h0:ExceptHandler} {hs:List ExceptHandler}
theorem zs_tryOk (hb:ZSs X.nox body ts):ZS X (.Try body (h0 :: hs) [] [] pos) ts:=⟨ps_tryOk hb⟩
theorem zs_tryAs (hN:X.N.Nodup) (hi:X.N[i]?=some n) (hl:X.env.scope.names.lookup n=some .local) (hg:Gl X x) (hm:X.mg x=some (.ref cT)) (hx:PySem.W.exmOne X.K C (.ref cT)=some true) (hb:RSs X C body t) (hs:∀ e,ZSs (X.caught e) (b0 :: suite) th)
    (hst:X.stack=X.env :: X.outer:=by rfl) (hfr:X.env.frame=some X.env.locals:=by rfl) (hd:(x == ("__debug__" : Str))=false:=by decide) :
    ZS X (.Try body [.ExceptHandler (some (.Name x np)) (some n) (b0 :: suite) hp] [] [] pos) (tTryAs C i t th):=⟨ps_tryAs hN hi hl hg hm hx hb hs hst hfr hd⟩
end
end L2
namespace D
open PySem L2 K0 Num
open PySem.W (Dat)
section
variable {p:Option Addr} {K:PySem.W.Frag} {τ:List Sl} {te:TE} {c:Array UInt8} {D C':Addr} {b:Bool} {T:String}
theorem E1.isX (xn:XN K c (.ref D)) (xl:XcL K D) (hk:PySem.W.kitOne K (.ref D) (.ref C')=some b) (ha:E1 p K te τ (.dat (.bytes c))):E1 p K (tCB (rIsX K) (tCons te (tCons (tC (.ref C')) tNil))) τ (.dat (.bool b)):=fun W L σ H Q rs o q=>ha W L σ H _ rs o fun v H1 s e e1 o1 rv=>by
  subst e
  cases rv with
  | exc n x=>exact ⟨_,c,D,.ref C',.ref C',b,rfl,x,xn,xl,.inl ⟨C',rfl,rfl⟩,hk,q _ H1 _ rfl e1 o1 (.bool b)⟩
theorem E1.isXty (xn:XN K c (.ref D)) (xl:XcL K D) (hk:PySem.W.kitOne K (.ref D) (.type T)=some b) (ha:E1 p K te τ (.dat (.bytes c))):E1 p K (tCB (rIsX K) (tCons te (tCons (tC (.ty T)) tNil))) τ (.dat (.bool b)):=fun W L σ H Q rs o q=>ha W L σ H _ rs o fun v H1 s e e1 o1 rv=>by
  subst e
  cases rv with
  | exc n x=>exact ⟨_,c,D,.ty T,.type T,b,rfl,x,xn,xl,.inr ⟨T,rfl,rfl⟩,hk,q _ H1 _ rfl e1 o1 (.bool b)⟩
end
end D
end
namespace D
open PySem L2 K0 Num
open PySem.W (Dat)
section
section
variable {p:Option Addr} {K:PySem.W.Frag} {τ:List Sl} {t:TX} {nx:List Sl->Prop} {rt:Sl->Prop}
theorem S.tryAsD {C:Value} {c:Array UInt8} {i j:Nat} {n1:List Sl->Prop} (hx:SX p K t τ n1) (xn:XN K c C) (ij:i ≠ j) (li:∀ τ',n1 τ'->i < τ'.length) (m:∀ τ',n1 τ'->nx ((τ'.set i .un).set j (.dat (.bytes c)))):S p K (tTryAs C i t (tAsg (tVar i) (gName j))) τ nx rt:=fun W L σ H D r o q1 q2 =>
  hx W L σ H _ r o fun W1 L1 σ1 H1 τ1 c1 e1 o1 w1 n1 l1 r1=>fun e ob he=>by
    have sm:Same H1 (upd H1 e (.frz ob (.ext (IsX C e)))):=Same.new he _
    have r3:=r1.ev (Ev.of sm) o1.pw
    obtain ⟨L3,l3,r4⟩:=r3.forgetN i
    have nw:¬ W1 e:=fun z=>by
      obtain ⟨y,q⟩:=o1.al e z
      rw [he] at q;cases q
    obtain ⟨L5,l5,r5⟩:=r4.set (v:=.ref e) (s:=.dat (.bytes c)) (.inr (.inl ⟨_,rfl,.exc nw ⟨ob,C,upd_same,xn⟩⟩)) j
    have lt:i < σ1.length:=by rw [r1.len];exact li τ1 c1
    refine ⟨.ref e,by rw [List.getElem?_set_self lt],?_⟩
    show D.nx ((((σ1.set i (some (.ref e))).set j (some (.ref e)))).set i none) _
    rw [List.set_comm _ _ (Ne.symm ij),List.set_set]
    exact q1 W1 L5 _ _ _ (m τ1 c1) (e1.trans (Ev.of sm)) (o1.same sm) (fun a ha=>let ⟨y,q⟩:=w1 a ha;⟨y,sm _ _ q⟩) n1 (fun a ha=>l1 a (l3 a (l5 a ha))) r5
end
section
variable {K:PySem.W.Frag} {P:Program} {w:World} {mg:Str->Option Value} {base:Heap}
theorem okXd {x qual:Str} {st:Stmt} {f:Addr} {fd:FuncData} {N ps:List Str} {k:Nat} {R:List Dat->(Dat->Prop)->Prop} (F:Fun K x qual st f fd) (S0:FnScope N ps (defScope st)) (len:∀ ds C,R ds C->ds.length=ps.length)
    (body:∀ ds C,R ds C->∀ (cdv:Value) (A:Around) (outer:List Env) (s:Shared) (H:Hp) (E:XK),Room k (A.deeper (PyProof.Rows.envOfC qual (defScope st) s.heap.objs.size f cdv)) ->
      ∃ t,ZSs (cxOf CX0 P w K mg base N qual (defScope st) f cdv A outer s H E).nox (defBody st) t/\S none K t (ds.map .dat ++ List.replicate (N.length - ps.length) .un) (fun _=>False) (fun s=>∃ d,C d/\GivesX d s)):FnOk P w K mg base CX0 (k + 1) f fd ps (spX K R) where
  len:=fun vs H Q E h=>by
    obtain ⟨ds,C,z,r,_⟩:=h
    rw [z.len];exact len ds C r
  run:=fun A outer s H args us vs Q E hr he hb hv hs=>by
    obtain ⟨ds,C,z,r,q⟩:=hs
    refine (okX (R:=fun ds' C'=>ds'=ds/\C'=C) F S0 (fun ds' C' h=>by rw [h.1];exact len ds C r) (fun cdv A outer s H E hr=>?_)).run A outer s H args us vs Q E hr he hb hv ⟨ds,C,z,⟨rfl,rfl⟩,q⟩
    obtain ⟨t,h1,h2⟩:=body ds C r cdv A outer s H E hr
    exact ⟨t,h1,fun ds' C' h=>by obtain ⟨rfl,rfl⟩:=h;exact h2⟩
end
end
section
theorem gcdN_two14 (m n:Int):gcdN [m,n]=Nat.gcd m.natAbs n.natAbs:=by
  unfold gcdN
  simp
noncomputable def l3 (x y z:Int):Dat:=.list [.int x,.int y,.int z]
section
variable {K:PySem.W.Frag} {τ:List Sl} {tas:TA} {nx:List Sl->Prop} {rt:Sl->Prop} {u:TS} {ds:List Dat} {E':XK}
theorem S.letGX {R:List Dat->(Dat->Prop)->Prop} {C:Dat->Prop} {ss:List Sl} {g:TG} (hf:flatDs τ=true) (ha:A1 none K tas τ ss) (hr:R ds C) (m:∀ d,C d->∃ τ',Gd none K g d τ τ'/\S none K u τ' nx rt) (hd:datsOf ss=some ds:=by rfl):S none K (tSeq (tAsg (tCall (spX K R) [] E' tas) g) u) τ nx rt:=fun W L σ H D r o q1 q2=>by
  have r':Rs none (fun _=>False) K H [] σ τ:=r.reset (fun a z=>z.elim) hf
  have o':Ok none (fun _=>False) H:=⟨fun a ha=>(by cases ha),fun a ha=>ha.elim⟩
  refine ha _ [] σ H _ r' o' fun vs H1 ss' es e1 o1 rv=>?_
  subst es
  show spX K R (vs ++ []) H1 _ E'
  rw [List.append_nil]
  refine ⟨ds,C,rv.dz hd,hr,fun v H' d c sm z=>?_⟩
  have e2:Ev (Pp none) H H':=e1.trans (Ev.of sm)
  have same:∀ b o,H b=some o->H' b=some o:=fun b o h=>e2.keep b o (fun z=>by cases z) h
  have r2:Rs none (fun _=>False) K H' [] σ τ:=r'.ev e2 fun q hq=>by cases hq
  obtain ⟨τ',hg,ms⟩:=m d c
  refine hg (fun _=>False) [] σ H' v _ r2 (z.mono fun _ _ h=>h) fun L' σ' l r3=>?_
  have al:∀ a,W a->∃ ys,H' a=some ys:=fun a ha=>by obtain ⟨ys,h⟩:=o.al a ha;exact ⟨ys,same _ _ h⟩
  have hn:∀ a,H' a=none->H a=none:=fun a ha=>by
    cases h:H a with
    | none=>rfl
    | some x=>rw [same _ _ h] at ha;cases ha
  refine ms (fun _=>False) L' _ H' D r3 ⟨fun a ha=>(by cases ha),fun a ha=>ha.elim⟩ (fun W2 L2 σ2 H2 τ2 c2 ev o2 al2 n2 l2 rs2=>?_) (fun W2 H2 v2 s2 c2 ev o2 al2 n2 rv2=>?_)
  . exact q1 W2 L2 σ2 H2 τ2 c2 ((Ev.mono e2 fun a z=>by cases z).trans (ev.mono fun a z=>z.elim)) o2 (fun a ha=>by obtain ⟨ys,h⟩:=al a ha;exact ⟨ys,ev.keep _ _ (fun z=>z) h⟩) (fun a ha=>(n2 a ha).elim (fun z=>z.elim) fun z=>.inr (hn a z)) (fun a ha=>(l2 a ha).elim (fun z=>by have:=l a z;cases this) fun z=>.inr (hn a z)) rs2
  . exact q2 W2 H2 v2 s2 c2 ((Ev.mono e2 fun a z=>by cases z).trans (ev.mono fun a z=>z.elim)) o2 (fun a ha=>by obtain ⟨ys,h⟩:=al a ha;exact ⟨ys,ev.keep _ _ (fun z=>z) h⟩) (fun a ha=>(n2 a ha).elim (fun z=>z.elim) fun z=>.inr (hn a z)) (rv2.base hn fun a ha=>by have:=l a ha;cases this)
end
end
end D
section
namespace L2
open PySem PySem.Spec PyProof.Rows PySem.NumText PySem.Calls
noncomputable def DigN (K:PySem.W.Frag):Prop:=PySem.W.nsIn K cStatics "sys.int_max_str_digits" = some none
section
variable {X:Cx} {pins:List (Addr × Obj)} {σ:St} {H:Hp} {s:Shared}
theorem Inv.nodig (I:Inv X pins σ H s) (d:DigN X.K):s.heap.NoDigits:=by
  obtain ⟨mc,a,_⟩:=I.nolimit
  exact ⟨mc,a,PySem.W.ns_none_of (I.ok.mod.kin.keeps I.bk) a d⟩
theorem call_strL (hc:X.calm=true) (d:DigN X.K):CallR X (.type "str") (fun xs H Q=>∃ i,xs=[.int i]/\i.natAbs < 10 ^ 4300/\Q (.str (toString i)) H):=by
  intro pins s σ H xs us Q I r h
  obtain ⟨i,rfl,hz,q⟩:=h
  obtain ⟨u,rfl,t,rfl⟩:=vals1 r
  exact str_of_int_or (I.ok.hd hc) (I.nodig d) (fun _=>⟨.str _,H,I.tok _,⟨_,rfl⟩,q⟩) fun h=>absurd hz (Nat.not_lt.mpr h)
end
theorem digs_any {M:Model} {A:Around} {E:Value->Shared->Prop} {s:Shared} {Q:Nat->Shared->Prop} (hn:s.heap.NoDigits) (h:Q 4300 s):wpAny M A Builtin.intMaxStrDigits Q E s:=by
  obtain ⟨mc,hns,hnone⟩:=hn
  unfold Builtin.intMaxStrDigits
  refine wpAny_bind (wpAny_nsGet hns ?_)
  rw [hnone]
  exact wpAny_pure h
theorem wp_textL {M:Model} {A:Around} {E:Value->Shared->Prop} {s:Shared} {Q:Value->Shared->Prop} {v:Value} {text:List Nat} {n:Int} (hn:s.heap.NoDigits)
    (hs:¬ (text.takeWhile (· != 0)).length<=640) (hr:(int_private% "readNumeral") 4300 10 (text.takeWhile (· != 0))=(int_private% "Numeral.value") n)
    (ha:((text.takeWhile (· != 0)).length == text.length)=true) (h:Q (.int n s.toks) { s with toks:=s.toks + 1 }) :
    wpAny M A ((int_private% "intFromText") v text 10) Q E s:=by
  obtain ⟨hp,g,d,tk,os⟩:=s
  repeat (any_goals (first
    | assumption
    | (with_reducible refine wpAny_ite_false (decide_eq_false hs) ?_)
    | (with_reducible refine wpAny_ite_true (decide_eq_true ha) ?_)
    | (with_reducible refine digs_any hn ?_)
    | wp_step))
  all_goals (try rw [hr])
  all_goals (try dsimp only)
  repeat (any_goals (first
    | assumption
    | (with_reducible refine wpAny_ite_true (decide_eq_true ha) ?_)
    | wp_step))
theorem meets_textL {x:PySem.Str} {u:Tok} {n:Int} (hl:x.length<=sizeLine) (h6:¬ (numSeenOf x).length<=640) (hn:PySem.intText? x=some n) :
    Meets (Builtin.«int.__new__» ⟨[.type "int",.str x u],[]⟩) (fun _ R s=>s.heap.NoDigits/\(Made.int n).post (fun v s'=>R (.ok (.ret v)) s') s):=fun prog w A R s hq=>by
  refine wpAny_mono (Q:=fun fin s'=>∃ v,fin = .done (.ret v)/\R (.ok (.ret v)) s') ?_ (fun fin s' h'=>by obtain ⟨v,rfl,hv⟩:=h';exact hv) fun _ _ x=>x
  obtain ⟨hd,h⟩:=hq
  obtain ⟨hp,g,d,tk,os⟩:=s
  have f1:=PySem.F.conv_sub_int
  have f2:=PySem.F.madeHere_int
  have f3:=PySem.W.KIN.str_int
  have f4:=PySem.W.KIN.str_idx
  have f5:=PySem.W.KIN.str_trunc
  have f6:typeOf (.str x u)=pure (.type "str"):=rfl
  have hr:(int_private% "readNumeral") 4300 10 (numSeenOf x)=(int_private% "Numeral.value") n/\((numSeenOf x).length == (numTextOf x).length)=true:=by
    rcases read4300 x hl with ⟨m,h1,h2,h3⟩ | ⟨h1,_⟩
    . rw [hn] at h1
      injection h1 with h1
      subst h1
      exact ⟨h3,h2⟩
    . rw [hn] at h1
      cases h1
  have hk:=PySem.W.KIN.Hid.mk (And.intro h6 hr)
  clear h6 hr hl hn
  repeat (any_goals (first
    | assumption
    | ((with_reducible show wpAny _ _ ((int_private% "intFromText") _ _ _) _ _ _);refine wp_textL hd hk.out.1 hk.out.2.1 hk.out.2.2 ?_)
    | wp_step))
  all_goals first | exact ⟨_,rfl,h⟩ | skip
section
variable {X:Cx}
theorem call_intS (d:DigN X.K):CallR X (.type "int") (fun xs H Q=>∃ x n,xs=[.str x]/\PySem.intText? x=some n/\x.length<=sizeLine/\(∀ c ∈ x.cps.toList,c=45\/(48<=c/\c<=57))/\Q (.int n) H):=by
  intro pins s σ H xs us Q I r h
  obtain ⟨x,n,rfl,hn,hl,hd,q⟩:=h
  obtain ⟨u,rfl,t,rfl⟩:=vals1 r
  by_cases h6:x.length<=640
  . exact PySem.W.KIN.call_text hn h6 ⟨.int n,H,I.tok _,⟨_,rfl⟩,q⟩
  . exact call_int_1 (meets_textL hl (by rw [(numText_signs hd).2];exact h6) hn) ⟨I.nodig d,show (Made.int n).post _ s from ⟨rfl,⟨.int n,H,I.tok _,⟨_,rfl⟩,q⟩⟩⟩
end
end L2
namespace D
open PySem L2 K0 Num
open PySem.W (Dat)
section
variable {p:Option Addr} {K:PySem.W.Frag} {W:Addr->Prop} {H H0:Hp} {τ:List Sl} {tas:TA}
theorem E1.strL {i:Int} (ha:A1 p K tas τ [.dat (.int i)]) (h:i.natAbs < 10 ^ 4300):E1 p K (tCB (fun xs H Q=>∃ i,xs=[.int i]/\i.natAbs < 10 ^ 4300/\Q (.str (toString i)) H) tas) τ (.dat (.str (toString i))) :=
  E1.cb1 ha fun W H0 H x Q o0 o _ r q=>by cases r.int_inv;exact ⟨i,rfl,h,q _ H Ev.refl o (.str _)⟩
theorem E1.intS {x:Str} {n:Int} (ha:A1 p K tas τ [.dat (.str x)]) (hn:PySem.intText? x=some n) (hl:x.length<=sizeLine) (hd:∀ c ∈ x.cps.toList,c=45\/(48<=c/\c<=57)) :
    E1 p K (tCB (fun xs H Q=>∃ x n,xs=[.str x]/\PySem.intText? x=some n/\x.length<=sizeLine/\(∀ c ∈ x.cps.toList,c=45\/(48<=c/\c<=57))/\Q (.int n) H) tas) τ (.dat (.int n)) :=
  E1.cb1 ha fun W H0 H v Q o0 o _ r q=>by cases r.str_inv;exact ⟨x,n,rfl,hn,hl,hd,q _ H Ev.refl o (.int _)⟩
end
end D
end
section
namespace D
open PySem L2 K0 Num PySem.NumText PyProof.Rows PySem.W PySem.Calls
noncomputable def figs (m:Nat):List Nat:=(Nat.toDigits 10 m).map Char.toNat
theorem figs_val (m:Nat):digitsVal (figs m)=m:=PySem.W.KIN.val_back m
theorem figs_all (m:Nat):AllDigits (figs m):=by
  intro c hc
  obtain ⟨ch,hch,e⟩:=List.mem_map.mp hc
  have r:=digit_range (Nat.isDigit_of_mem_toDigits (by decide) (by decide) hch)
  rw [<- e]
  exact r
theorem figs_ne (m:Nat):figs m ≠ []:=by
  intro e
  have h:=toDigits_len_ge 10 m
  rw [List.map_eq_nil_iff.mp e] at h
  exact absurd h (by decide)
theorem figs_len {m k:Nat} (h:m < 10 ^ (k + 1)):(figs m).length<=k + 1:=by
  unfold figs
  rw [List.length_map]
  induction k generalizing m with
  | zero=>rw [Nat.toDigits_of_lt_base (by simpa using h)];exact Nat.le_refl _
  | succ k ih =>
    by_cases hm:m < 10
    . rw [Nat.toDigits_of_lt_base hm];exact Nat.le_add_left _ _
    . have h2:m % 10 < 10:=Nat.mod_lt m (by decide)
      have t:Nat.toDigits 10 (m / 10) ++ Nat.toDigits 10 (m % 10)=Nat.toDigits 10 (10 * (m / 10) + m % 10):=Nat.toDigits_append_toDigits (by decide) (by omega) h2
      rw [Nat.div_add_mod] at t
      rw [<- t,List.length_append,Nat.toDigits_of_lt_base h2]
      have:=ih (m:=m / 10) (by rw [Nat.pow_succ] at h;exact Nat.div_lt_of_lt_mul (by omega))
      show (Nat.toDigits 10 (m / 10)).length + 1<=_
      omega
noncomputable def itx (i:Int):List Nat:=if i < 0 then 45 :: figs i.natAbs else figs i.natAbs
theorem itx_eq (i:Int):((toString i:Str)).cps.toList=itx i:=by
  unfold itx
  cases i with
  | ofNat m =>
    rw [if_neg (by simp)]
    exact PySem.W.KIN.signs_num m
  | negSucc m =>
    rw [if_pos (Int.negSucc_lt_zero m)]
    show (PySem.Str.ofString (toString (Int.negSucc m))).cps.toList=_
    rw [signs_ofString]
    show ("-" ++ Nat.repr (m + 1)).toList.map Char.toNat=_
    rw [String.toList_append,List.map_append,Nat.toList_repr]
    rfl
theorem itx_signs (i:Int):∀ c ∈ itx i,c=45\/(48<=c/\c<=57):=by
  intro c h
  unfold itx at h
  split at h
  . cases h with
    | head=>exact .inl rfl
    | tail _ h=>exact .inr (figs_all _ c h)
  . exact .inr (figs_all _ c h)
theorem itx_reads {i:Int} (h:i.natAbs < 10 ^ 4299):PySem.intText? (toString i:Str)=some i:=by
  have hl:(figs i.natAbs).length<=4299:=figs_len (k:=4298) h
  have e:=itx_eq i
  have el:(toString i:Str).length=(itx i).length:=by rw [<- e];exact Array.length_toList.symm
  unfold itx at e el
  by_cases hi:i < 0
  . rw [if_pos hi] at e el
    have r:=intText_neg e (figs_all _) (figs_ne _) (by rw [el,List.length_cons];omega)
    rw [figs_val] at r
    rw [r]
    congr 1
    omega
  . rw [if_neg hi] at e el
    have r:=intText_digits (x:=(toString i:Str)) (by rw [e];exact figs_all _) (by rw [e];exact figs_ne _) (by rw [el];omega)
    rw [e,figs_val] at r
    rw [r]
    congr 1
    omega
end D
end
section
namespace D
open PySem L2 K0 Num PySem.NumText PyProof.Rows PySem.W PySem.Calls
theorem figs_head (m:Nat) (h:0 < m):∃ c r,figs m=c :: r/\49<=c/\c<=57:=by
  induction m using Nat.strongRecOn with
  | _ m ih =>
    by_cases hm:m < 10
    . unfold figs
      rw [Nat.toDigits_of_lt_base hm]
      have:m=1\/m=2\/m=3\/m=4\/m=5\/m=6\/m=7\/m=8\/m=9:=by omega
      rcases this with rfl | rfl | rfl | rfl | rfl | rfl | rfl | rfl | rfl <;> exact ⟨_,_,rfl,by decide,by decide⟩
    . have h2:m % 10 < 10:=Nat.mod_lt m (by decide)
      have t:Nat.toDigits 10 (m / 10) ++ Nat.toDigits 10 (m % 10)=Nat.toDigits 10 (10 * (m / 10) + m % 10):=Nat.toDigits_append_toDigits (by decide) (by omega) h2
      rw [Nat.div_add_mod] at t
      obtain ⟨c,r,e,h3,h4⟩:=ih (m / 10) (by omega) (by omega)
      refine ⟨c,r ++ figs (m % 10),?_,h3,h4⟩
      unfold figs at e ⊢
      rw [<- t,List.map_append,e]
      rfl
noncomputable def bareC (cs:List Nat):List Nat:=if cs.head?=some 45 then cs.tail else cs
noncomputable def wholeB (cs:List Nat):Bool:=(bareC cs).length != 0 && decide ((bareC cs).length<=1500) && (bareC cs).all (fun c=>decide (48<=c/\c<=57)) && ((bareC cs).head? != some 48 || cs == [48])
theorem bareC_itx (i:Int):bareC (itx i)=figs i.natAbs:=by
  unfold bareC itx
  by_cases h:i < 0
  . rw [if_pos h];rfl
  . rw [if_neg h]
    refine if_neg ?_
    intro e
    cases hf:figs i.natAbs with
    | nil=>exact figs_ne _ hf
    | cons c r =>
      rw [hf] at e
      have:=figs_all i.natAbs c (by rw [hf];exact List.mem_cons_self)
      cases e
      omega
theorem wholeB_itx {i:Int} (h:i.natAbs < 10 ^ 1500):wholeB (itx i)=true:=by
  unfold wholeB
  rw [bareC_itx]
  have h1:(figs i.natAbs).length<=1500:=figs_len (k:=1499) h
  have h2:(figs i.natAbs).all (fun c=>decide (48<=c/\c<=57))=true:=List.all_eq_true.mpr fun c hc=>decide_eq_true (figs_all _ c hc)
  have h3:((figs i.natAbs).length != 0)=true:=by
    rw [bne_iff_ne];exact fun e=>figs_ne _ (List.length_eq_zero_iff.mp e)
  rw [h2,h3,decide_eq_true h1]
  by_cases h0:i=0
  . subst h0;rfl
  . obtain ⟨c,r,e,h4,h5⟩:=figs_head i.natAbs (by omega)
    rw [e]
    have:(some c != some 48)=true:=by rw [bne_iff_ne];intro e;cases e;omega
    show (true && true && true && (some c != some 48 || _))=true
    rw [this]
    rfl
end D
end
section
namespace D
open PySem L2 K0 Num PySem.NumText PyProof.Rows PySem.W PySem.Calls
theorem ofNat_back:∀ c:Nat,c < 58->48<=c->(Char.ofNat c).toNat=c:=by decide
theorem figs_of {cs:List Nat} (h:AllDigits cs) (hn:cs ≠ []) (h0:cs.length=1\/∃ c r,cs=c :: r/\49<=c):figs (digitsVal cs)=cs:=by
  obtain ⟨n,hl⟩:∃ n,cs.length=n + 1:=by
    cases cs with
    | nil=>exact absurd rfl hn
    | cons a r=>exact ⟨r.length,rfl⟩
  unfold figs
  rw [toDigits_digitsVal n cs hl h (h0.elim (fun e=>.inl (by omega)) .inr),List.map_map]
  refine (List.map_congr_left fun c hc=>?_).trans (List.map_id _)
  have:=h c hc
  exact ofNat_back c (by omega) (by omega)
theorem wholeB_inv {cs:List Nat} (h:wholeB cs=true):∃ i:Int,cs=itx i/\(figs i.natAbs).length<=1500:=by
  unfold wholeB at h
  rw [Bool.and_eq_true,Bool.and_eq_true,Bool.and_eq_true] at h
  obtain ⟨⟨⟨h1,h2⟩,h3⟩,h4⟩:=h
  have h2:=of_decide_eq_true h2
  have h3:AllDigits (bareC cs):=fun c hc=>of_decide_eq_true (List.all_eq_true.mp h3 c hc)
  have hn:bareC cs ≠ []:=by intro e;rw [e] at h1;cases h1
  have hf:cs=[48]\/∃ c r,bareC cs=c :: r/\49<=c:=by
    rw [Bool.or_eq_true] at h4
    rcases h4 with h4 | h4
    . cases hb:bareC cs with
      | nil=>exact absurd hb hn
      | cons c r =>
        rw [hb] at h4
        have h5:=h3 c (by rw [hb];exact List.mem_cons_self)
        have h6:c ≠ 48:=by rintro rfl;cases h4
        exact .inr ⟨c,r,rfl,by omega⟩
    . exact .inl (by simpa using h4)
  rcases hf with rfl | ⟨c,r,e,hc⟩
  . exact ⟨0,rfl,by decide⟩
  . have ef:=figs_of h3 hn (.inr ⟨c,r,e,hc⟩)
    have hp:0 < digitsVal (bareC cs):=by rw [e];exact digitsVal_pos hc
    by_cases hm:cs.head?=some 45
    . refine ⟨-((digitsVal (bareC cs):Nat):Int),?_,?_⟩
      . unfold itx
        rw [if_pos (by omega),Int.natAbs_neg,Int.natAbs_natCast,ef]
        unfold bareC
        rw [if_pos hm]
        cases cs with
        | nil=>cases hm
        | cons a q=>cases hm;rfl
      . rw [Int.natAbs_neg,Int.natAbs_natCast,ef];exact h2
    . refine ⟨((digitsVal (bareC cs):Nat):Int),?_,?_⟩
      . unfold itx
        rw [if_neg (by omega),Int.natAbs_natCast,ef]
        unfold bareC
        rw [if_neg hm]
      . rw [Int.natAbs_natCast,ef];exact h2
end D
end
section
namespace D
open PySem
open PySem.Builtin.Str (occurrences subAt partsBetween strSub)
noncomputable def grd (x y:Str):List Nat->Nat->List Nat
  | [],_=>[]
  | i :: r,f=>if f<=i/\i + y.length<=x.length/\subAt x y i=true then i :: grd x y r (i + y.length) else grd x y r f
theorem occ_grd (x y:Str) (lim:Nat):∀ (l:List Nat) (st:Array Nat × Nat),st.1.size + l.length<=lim->(forIn l st (StrLaws.occBody x y x.length lim)).run.fst.toList=st.1.toList ++ grd x y l st.2
  | [],st,_=>by simp [grd]
  | i :: r, st, h => by
    rw [List.length_cons] at h
    rw [List.forIn_cons]
    unfold StrLaws.occBody grd
    by_cases c:st.2<=i/\i + y.length<=x.length/\subAt x y i=true
    . have c1:((st.fst.size < lim/\st.snd<=i)/\i + y.length<=x.length)/\subAt x y i=true:=⟨⟨⟨by omega,c.1⟩,c.2.1⟩,c.2.2⟩
      rw [if_pos c1,if_pos c]
      refine (occ_grd x y lim r (st.1.push i,i + y.length) (by show (st.1.push i).size + _<=_;rw [Array.size_push];omega)).trans ?_
      simp
    . have c1:¬ (((st.fst.size < lim/\st.snd<=i)/\i + y.length<=x.length)/\subAt x y i=true):=fun z=>c ⟨z.1.1.2,z.1.2,z.2⟩
      rw [if_neg c1,if_neg c]
      exact occ_grd x y lim r st (by omega)
theorem occ_all (x y:Str):occurrences x y 0 x.length (x.length + 1)=grd x y (List.range' 0 (x.length + 1)) 0:=by
  rw [StrLaws.occ_eq]
  have:=occ_grd x y (x.length + 1) (List.range' 0 (x.length + 1 - 0)) (#[],0) (by simp)
  simpa using this
theorem grd_none {x y:Str}:∀ {l:List Nat} {f:Nat},(∀ i ∈ l,¬ (i + y.length<=x.length/\subAt x y i=true))->grd x y l f=[]
  | [],_,_=>rfl
  | i :: r,f,h=>by
    unfold grd
    rw [if_neg fun z=>h i List.mem_cons_self z.2]
    exact grd_none fun j hj=>h j (List.mem_cons_of_mem _ hj)
theorem grd_some {x y:Str}:∀ {l:List Nat} {f:Nat},(∃ i ∈ l,f<=i/\i + y.length<=x.length/\subAt x y i=true)->grd x y l f ≠ []
  | [],_,h=>by obtain ⟨i,hi,_⟩:=h;cases hi
  | j :: r, f, h => by
    unfold grd
    by_cases c:f<=j/\j + y.length<=x.length/\subAt x y j=true
    . rw [if_pos c];intro z;cases z
    . rw [if_neg c]
      obtain ⟨i,hi,q⟩:=h
      rcases List.mem_cons.mp hi with rfl | hi
      . exact absurd q c
      . exact grd_some ⟨i,hi,q⟩
theorem kind_one {z:Str} (h:∀ c ∈ z.cps.toList,c < 256):Builtin.Str.strKind z=1:=by
  unfold Builtin.Str.strKind
  rw [if_pos]
  rw [<- Array.all_toList]
  exact List.all_eq_true.mpr fun c hc=>decide_eq_true (h c hc)
theorem split_eq {x y:Str} (hx:∀ c ∈ x.cps.toList,c < 256) (hy:∀ c ∈ y.cps.toList,c < 256) (h0:y.length ≠ 0):Txt.split x y=StrLaws.partsFrom x y.length 0 (grd x y (List.range' 0 (x.length + 1)) 0):=by
  unfold Txt.split
  rw [kind_one hx,kind_one hy,occ_all,StrLaws.partsBetween_eq]
  have d1:decide (1 < 1)=false:=rfl
  rw [d1,Bool.or_false]
  have whole:StrLaws.partsFrom x y.length 0 []=[x]:=by
    show [strSub x 0 x.length]=[x]
    rw [StrLaws.sub_whole]
  by_cases h1:x.length < y.length
  . rw [if_pos (decide_eq_true h1),grd_none,whole]
    intro i _ ⟨z,_⟩
    omega
  . rw [if_neg (by rw [decide_eq_false h1];exact Bool.false_ne_true)]
    by_cases h2:(grd x y (List.range' 0 (x.length + 1)) 0).isEmpty=true
    . rw [if_pos h2,List.isEmpty_iff.mp h2,whole]
    . rw [if_neg h2]
theorem split_no {z:Str} {c:Nat} (hz:∀ c ∈ z.cps.toList,c < 256) (hc:c < 256) (h:c ∉ z.cps.toList):Txt.split z ⟨#[c]⟩=[z]:=by
  rw [split_eq hz (by simpa using hc) (by show 1 ≠ 0;decide),grd_none]
  . show [strSub z 0 z.length]=[z]
    rw [StrLaws.sub_whole]
  . intro i _ q
    exact h (List.mem_of_getElem? ((StrLaws.subAt_one z c i).mp q))
theorem split_yes {z:Str} {c:Nat} (hz:∀ c ∈ z.cps.toList,c < 256) (hc:c < 256) (h:c ∈ z.cps.toList):2<=(Txt.split z ⟨#[c]⟩).length:=by
  rw [split_eq hz (by simpa using hc) (by show 1 ≠ 0;decide)]
  obtain ⟨i,hi,e⟩:=List.getElem_of_mem h
  have q:=(StrLaws.subAt_one z c i).mpr (by rw [List.getElem?_eq_getElem hi,e])
  have hl:z.cps.toList.length=z.length:=Array.length_toList
  have ne:=grd_some (x:=z) (y:=⟨#[c]⟩) (l:=List.range' 0 (z.length + 1)) (f:=0) ⟨i,by simp [List.mem_range'];omega,Nat.zero_le _,q⟩
  cases hg:grd z ⟨#[c]⟩ (List.range' 0 (z.length + 1)) 0 with
  | nil=>exact absurd hg ne
  | cons a r =>
    obtain ⟨p,t,e⟩:=StrLaws.partsFrom_ne z (⟨#[c]⟩:Str).length (a + (⟨#[c]⟩:Str).length) r
    show 2<=(strSub z 0 a :: StrLaws.partsFrom z _ _ r).length
    rw [e]
    simp
theorem parts_sub (x:Str) (w:Nat):∀ (cuts:List Nat) (a:Nat),∀ p ∈ StrLaws.partsFrom x w a cuts,∀ c ∈ p.cps.toList,c ∈ x.cps.toList
  | [],a,p,hp,c,hc=>by
    obtain rfl:p=_:=List.mem_singleton.mp hp
    rw [StrLaws.strSub_toList] at hc
    exact List.mem_of_mem_drop (List.mem_of_mem_take hc)
  | b :: r, a, p, hp, c, hc => by
    rcases List.mem_cons.mp hp with rfl | hp
    . rw [StrLaws.strSub_toList] at hc
      exact List.mem_of_mem_drop (List.mem_of_mem_take hc)
    . exact parts_sub x w r (b + w) p hp c hc
theorem split_mem {x y p:Str} (hp:p ∈ Txt.split x y):∀ c ∈ p.cps.toList,c ∈ x.cps.toList:=by
  unfold Txt.split at hp
  split at hp
  . rw [List.mem_singleton.mp hp];exact fun c h=>h
  . split at hp
    . rw [List.mem_singleton.mp hp];exact fun c h=>h
    . rw [StrLaws.partsBetween_eq] at hp
      exact parts_sub x _ _ _ p hp
noncomputable def Cl (y p:List Nat):Prop:=∀ i,i < p.length->((p ++ y).drop i).take y.length ≠ y
noncomputable def glu (y:List Nat):List (List Nat)->List Nat
  | []=>[]
  | [p]=>p
  | p :: q :: r=>p ++ y ++ glu y (q :: r)
theorem sub_iff {x y:Str} {i:Nat}:subAt x y i=true ↔ (x.cps.toList.drop i).take y.length=y.cps.toList:=by
  rw [StrLaws.subAt_eq,beq_iff_eq]
theorem grd_skip {x y:Str} {f:Nat}:∀ (m a:Nat) (l:List Nat),(∀ i,a<=i->i < a + m->¬ (i + y.length<=x.length/\subAt x y i=true)\/i < f)->grd x y (List.range' a m ++ l) f=grd x y l f
  | 0,a,l,_=>by simp
  | m + 1,a,l,h=>by
    rw [List.range'_succ,List.cons_append]
    conv=>lhs;unfold grd
    rw [if_neg (fun z=>(h a (Nat.le_refl _) (by omega)).elim (fun n=>n z.2) (fun n=>by omega))]
    exact grd_skip m (a + 1) l fun i h1 h2=>h i (by omega) (by omega)
theorem parts_glu {x y:Str} (y0:0 < y.length):∀ (ps:List Str) (a:Nat),ps ≠ []->x.cps.toList.drop a=glu y.cps.toList (ps.map (·.cps.toList))->a<=x.length->(∀ p ∈ ps,Cl y.cps.toList p.cps.toList/\∀ i,(p.cps.toList.drop i).take y.length ≠ y.cps.toList) ->
    StrLaws.partsFrom x y.length a (grd x y (List.range' a (x.length + 1 - a)) a)=ps
  | [],_,h,_,_,_=>absurd rfl h
  | [p],a,_,hx,ha,hp=>by
    have lx:x.cps.toList.length=x.length:=Array.length_toList
    have q:=hp p List.mem_cons_self
    have hx:x.cps.toList.drop a=p.cps.toList:=hx
    rw [grd_none]
    . show [strSub x a x.length]=[p]
      congr 1
      refine (show ∀ {u v:Str},u.cps.toList=v.cps.toList->u=v from fun {u v} h=>by obtain ⟨⟨l⟩⟩:=u;obtain ⟨⟨m⟩⟩:=v;cases h;rfl) ?_
      rw [StrLaws.strSub_toList,hx,List.take_of_length_le]
      rw [<- hx,List.length_drop]
      omega
    . intro i hi ⟨z1,z2⟩
      rw [sub_iff] at z2
      have hi:a<=i:=by simp [List.mem_range'] at hi;omega
      have e:x.cps.toList.drop i=p.cps.toList.drop (i - a):=by rw [<- hx,List.drop_drop];congr 1;omega
      rw [e] at z2
      exact q.2 _ z2
  | p :: p2 :: r, a, _, hx, ha, hp => by
    have lx:x.cps.toList.length=x.length:=Array.length_toList
    have ly:y.cps.toList.length=y.length:=Array.length_toList
    have lp:p.cps.toList.length=p.length:=Array.length_toList
    have q:=hp p List.mem_cons_self
    have hx:x.cps.toList.drop a=p.cps.toList ++ y.cps.toList ++ glu y.cps.toList ((p2 :: r).map (·.cps.toList)):=hx
    have hlen:x.length - a=p.length + y.length + (glu y.cps.toList ((p2 :: r).map (·.cps.toList))).length:=by
      have:=congrArg List.length hx
      rw [List.length_drop,List.length_append,List.length_append,lx,lp,ly] at this
      exact this
    have dr:∀ j,x.cps.toList.drop (a + j)=(p.cps.toList ++ y.cps.toList ++ glu y.cps.toList ((p2 :: r).map (·.cps.toList))).drop j:=fun j=>by rw [<- hx,List.drop_drop]
    have no:∀ i,a<=i->i < a + p.length->¬ (i + y.length<=x.length/\subAt x y i=true):=fun i h1 h2 ⟨z1,z2⟩=>by
      rw [sub_iff] at z2
      have e:=dr (i - a)
      rw [show a + (i - a)=i by omega] at e
      rw [e,List.append_assoc] at z2
      refine q.1 (i - a) (by omega) ?_
      rw [<- List.append_assoc,List.drop_append_of_le_length (by rw [List.length_append];omega),List.take_append_of_le_length (by rw [List.length_drop,List.length_append];omega)] at z2
      rw [ly]
      exact z2
    have yes:subAt x y (a + p.length)=true:=by
      rw [sub_iff,dr,List.append_assoc, <- lp,List.drop_left,List.take_append_of_le_length (by omega),List.take_of_length_le (by omega)]
    have e1:List.range' a (x.length + 1 - a)=List.range' a p.length ++ ((a + p.length) :: (List.range' (a + p.length + 1) (y.length - 1) ++ List.range' (a + p.length + y.length) (x.length + 1 - (a + p.length + y.length)))):=by
      have s1:List.range' a (x.length + 1 - a)=List.range' a (p.length + (1 + ((y.length - 1) + (x.length + 1 - (a + p.length + y.length))))):=by congr 1;omega
      rw [s1, <- List.range'_append_1, <- List.range'_append_1, <- List.range'_append_1,show a + p.length + 1 + (y.length - 1)=a + p.length + y.length by omega]
      rfl
    rw [e1,grd_skip _ _ _ (fun i h1 h2=>.inl (no i h1 h2))]
    have c:a<=a + p.length/\(a + p.length) + y.length<=x.length/\subAt x y (a + p.length)=true:=⟨by omega,by omega,yes⟩
    have e2:grd x y ((a + p.length) :: (List.range' (a + p.length + 1) (y.length - 1) ++ List.range' (a + p.length + y.length) (x.length + 1 - (a + p.length + y.length)))) a=(a + p.length) :: grd x y (List.range' (a + p.length + y.length) (x.length + 1 - (a + p.length + y.length))) (a + p.length + y.length):=by
      rw [grd,if_pos c,grd_skip _ _ _ (fun i h1 h2=>.inr (by omega))]
    rw [e2]
    show strSub x a (a + p.length) :: StrLaws.partsFrom x y.length (a + p.length + y.length) _=_
    rw [parts_glu y0 (p2 :: r) (a + p.length + y.length) (by simp) ?_ (by omega) (fun p' hp'=>hp p' (List.mem_cons_of_mem _ hp'))]
    . congr 1
      refine (show ∀ {u v:Str},u.cps.toList=v.cps.toList->u=v from fun {u v} h=>by obtain ⟨⟨l⟩⟩:=u;obtain ⟨⟨m⟩⟩:=v;cases h;rfl) ?_
      rw [StrLaws.strSub_toList,hx,Nat.add_sub_cancel_left,List.append_assoc, <- lp,List.take_left]
    . rw [Nat.add_assoc,dr, <- lp, <- ly, <- List.length_append,List.drop_left]
theorem split_glu {x y:Str} {ps:List Str} (hx:∀ c ∈ x.cps.toList,c < 256) (hy:∀ c ∈ y.cps.toList,c < 256) (y0:0 < y.length) (ne:ps ≠ []) (e:x.cps.toList=glu y.cps.toList (ps.map (·.cps.toList))) (hp:∀ p ∈ ps,Cl y.cps.toList p.cps.toList/\∀ i,(p.cps.toList.drop i).take y.length ≠ y.cps.toList):Txt.split x y=ps:=by
  rw [split_eq hx hy (by omega)]
  exact parts_glu y0 ps 0 ne e (Nat.zero_le _) hp
end D
end
section
namespace L2
open PySem PySem.Spec PyProof.Rows
noncomputable def rStarts:V->List V->Hp->VK->Prop:=fun x vs H Q=>∃ z y:Str,x = .str z/\vs=[.str y]/\Q (.bl (Txt.startswith z y)) H
noncomputable def rSplit:V->List V->Hp->VK->Prop:=fun x vs H Q=>∃ z y:Str,x = .str z/\vs=[.str y]/\(y.length == 0)=false/\z.length + 2<=sizeLine/\∀ a,H a=none->Q (.ref a) (upd H a (.lst ((Txt.split z y).map V.str)))
theorem vals_strs:∀ l:List (Str × Tok),Vals ((l.map (·.1)).map V.str) (strValues l)
  | []=>.nil
  | p :: r=>.cons ⟨p.2,rfl⟩ (vals_strs r)
theorem parts_len (x y:Str):(Txt.split x y).length<=x.length + 2:=by
  unfold Txt.split
  split
  . exact Nat.le_add_left _ _
  . split
    . exact Nat.le_add_left _ _
    . rw [PySem.length_partsBetween]
      have e1:=StrLaws.occ_length_le x y 0 x.length (x.length + 1)
      omega
section
variable {X:Cx} {o e:Expr} {to te:TE} {apos cpos:Pos}
theorem mt_starts:MtR X "str.startswith" rStarts:=by
  intro pins s σ H x vs v us Q I rx rv h
  obtain ⟨z,y,rfl,rfl,q⟩:=h
  obtain ⟨t,rfl⟩:=rx
  obtain ⟨u,rfl,t',rfl⟩:=rv.one
  exact SC.startswith ⟨.bl _,H,I,rfl,q⟩
theorem mt_split:MtR X "str.split" rSplit:=by
  intro pins s σ H x vs v us Q I rx rv h
  obtain ⟨z,y,rfl,rfl,hy,hz,q⟩:=h
  obtain ⟨t,rfl⟩:=rx
  obtain ⟨u,rfl,t',rfl⟩:=rv.one
  have pl:=parts_len z y
  have fin:∀ (l:List (Str × Tok)) (k:Nat),l.map (·.1)=Txt.split z y->EP X pins σ Q (.ref s.heap.objs.size) { s with toks:=k,heap:=s.heap.push { cls:=.type "list",data:=.seq (strValues l).toArray } }:=fun l k e=>by
    refine ⟨.ref s.heap.objs.size,upd H s.heap.objs.size (.lst ((Txt.split z y).map V.str)),I.laid (t':=k) (fun b u e=>Heap.get?_push_of_some _ e) (Nat.le_refl _) ⟨?_,strValues l,0,?_,Heap.get?_push_size _ rfl⟩,rfl,q _ (I.hok.fresh (Nat.le_refl _))⟩
    . rw [List.length_map];exact Nat.le_trans pl hz
    . rw [<- e];exact vals_strs l
  cases h1:(decide (z.length < y.length) || decide (Builtin.Str.strKind z < Builtin.Str.strKind y)) with
  | true=>exact call_meets (F.slot_str_split) (typeIs_str _ _ _) (F.entry_str_split) (F.args_str_split_2 _ _) (meets_str_split_cannot_occur z y t t' h1) (fin [(z,t)] s.toks (if_pos h1).symm)
  | false =>
    cases hf:(Builtin.Str.occurrences z y 0 z.length (z.length + 1)).isEmpty with
    | true=>exact call_meets (F.slot_str_split) (typeIs_str _ _ _) (F.entry_str_split) (F.args_str_split_2 _ _) (meets_str_split_not_found z y t t' h1 hy hf) (fin [(z,t)] s.toks ((if_neg (ne_true_of_eq_false h1)).trans (if_pos hf)).symm)
    | false =>
      have es:Txt.split z y=Builtin.Str.partsBetween z (Builtin.Str.occurrences z y 0 z.length (z.length + 1)) y.length:=(if_neg (ne_true_of_eq_false h1)).trans (if_neg (ne_true_of_eq_false hf))
      refine call_meets (F.slot_str_split) (typeIs_str _ _ _) (F.entry_str_split) (F.args_str_split_2 _ _) (meets_str_split_sep z y t t' h1 hy hf (by omega) (by rw [<- es];omega)) ?_
      have f:=fin (numbered s.toks (Builtin.Str.partsBetween z (Builtin.Str.occurrences z y 0 z.length (z.length + 1)) y.length)) (s.toks + (Builtin.Str.partsBetween z (Builtin.Str.occurrences z y 0 z.length (z.length + 1)) y.length).length) ((numbered_texts _ _).trans es.symm)
      rw [<- strsFrom_eq] at f
      exact f
theorem ze_starts (ho:ZE X o to) (ha:ZE X e te) (hbase:attributeBase o "startswith" X.env (eval o X.env)=eval o X.env:=by rfl)
    (hfew:((backTo cpos (starEach [e] X.env)).all (fun x => !x.1) && (backToKw cpos (keywordEach [] X.env)).all (fun x=>x.1.isSome)
      && decide ([e].length + ([]:List Keyword).length + (if ([]:List Keyword).isEmpty then 0 else 1) < 30))=true:=by rfl)
    (hline:(apos.endLine == cpos.line)=true:=by rfl) (hs:starEach [e] X.env=(false,eval e X.env) :: starEach [] X.env:=by rfl) :
    ZE X (.Call (.Attribute o "startswith" apos) [e] [] cpos) (tBM X.K "str" rStarts to (tCons te tNil)) :=
  ⟨pe_bm PySem.F.plainAttrs_str PySem.F.slot_str_startswith PySem.F.type_str_startswith mt_starts ho.out (pa_cons ha.out pa_nil hs) hbase hfew hline hs⟩
theorem ze_split (ho:ZE X o to) (ha:ZE X e te) (hbase:attributeBase o "split" X.env (eval o X.env)=eval o X.env:=by rfl)
    (hfew:((backTo cpos (starEach [e] X.env)).all (fun x => !x.1) && (backToKw cpos (keywordEach [] X.env)).all (fun x=>x.1.isSome)
      && decide ([e].length + ([]:List Keyword).length + (if ([]:List Keyword).isEmpty then 0 else 1) < 30))=true:=by rfl)
    (hline:(apos.endLine == cpos.line)=true:=by rfl) (hs:starEach [e] X.env=(false,eval e X.env) :: starEach [] X.env:=by rfl) :
    ZE X (.Call (.Attribute o "split" apos) [e] [] cpos) (tBM X.K "str" rSplit to (tCons te tNil)) :=
  ⟨pe_bm PySem.F.plainAttrs_str PySem.F.slot_str_split PySem.F.type_str_split mt_split ho.out (pa_cons ha.out pa_nil hs) hbase hfew hline hs⟩
end
end L2
end
section
namespace L2
open PySem PySem.Spec PyProof.Rows
noncomputable def tRepl (io:Nat) (y:Str) (zs:List Str) (ti:TE):TE:=fun σ H Q=>∃ z:Str,σ[io]?=some (some (.str z))/\z.length<=1000000/\ti σ H fun i H2=>∃ (n:Nat) (zz:Str),i = .int n/\zs[n]?=some zz/\Q (.str (Txt.replace z y zz)) H2
section
variable {X:Cx} {a ix:Expr} {ta ti:TE} {io:Nat} {x:Str} {k:Int} {y z1 z2 z3 z4:Str} {j0 j1 j2 j3 j4 j5:Nat} {pn p0 p1 p2 p3 p4 p5 pl ps pc pr pi apos cpos:Pos}
theorem at_name {pins:List (Addr × Obj)} {s:Shared} {σ:St} {H:Hp} {v:V} {E:Value->Shared->Prop} {R:Value->Shared->Prop} (I:Inv X pins σ H s) (e:σ[io]?=some (some v)) (h:∀ u,RelV v u->R u s) (hN:X.N[io]?=some x) (hv:Vis X.env.scope x) (hd:(x == ("__debug__" : Str))=false) (hcd:(x == ("__classdict__" : Str))=false) :
    wpAny (model X.prog X.w) X.A (eval (.Name x pn) X.env) R E s:=by
  obtain ⟨m,hn,hl⟩:=I.loc
  obtain ⟨u,r,l⟩:=hl io x v hN e hv
  rcases l with ⟨hk,hm⟩ | ⟨hk,c,hc,hcell⟩
  . exact wpAny_Name (wpAny_loadName_local I.ok.kind hk hn hm (h u r)) hd
  . rcases hk with hk | hk
    . exact wpAny_Name (wpAny_loadName_cell I.ok.kind hk hc hcell (h u r)) hd
    . exact wpAny_Name (wpAny_loadName_free I.ok.kind hk hc hcell (h u r) hcd) hd
theorem spl4 {pos:Pos} {s:Shared} {E:Value->Shared->Prop} {R:List Value->Shared->Prop}
    (hs:starEach [.Constant (.str z1) j1 p1,.Constant (.str z2) j2 p2,.Constant (.str z3) j3 p3,.Constant (.str z4) j4 p4] X.env=[(false,eval (.Constant (.str z1) j1 p1) X.env),(false,eval (.Constant (.str z2) j2 p2) X.env),(false,eval (.Constant (.str z3) j3 p3) X.env),(false,eval (.Constant (.str z4) j4 p4) X.env)])
    (h:R [.str z1 s.toks,.str z2 (s.toks + 1),.str z3 (s.toks + 2),.str z4 (s.toks + 3)] { s with toks:=s.toks + 4 }) :
    wpAny (model X.prog X.w) X.A (spliced (backTo pos (starEach [.Constant (.str z1) j1 p1,.Constant (.str z2) j2 p2,.Constant (.str z3) j3 p3,.Constant (.str z4) j4 p4] X.env))) R E s:=by
  rw [hs]
  exact Calls.spliced_cons (Calls.Constant_str (k:=j1) (pos:=p1) (Calls.spliced_cons (Calls.Constant_str (k:=j2) (pos:=p2) (Calls.spliced_cons (Calls.Constant_str (k:=j3) (pos:=p3) (Calls.spliced_cons (Calls.Constant_str (k:=j4) (pos:=p4) (Calls.spliced_nil h))))))))
theorem zs_ifRepl (io:Nat) (ha:ZE X a ta) (hi:ZE X ix ti) (hx:PlainIx ix)
    (hy:∀ z ∈ [z1,z2,z3,z4],(y == z)=false/\z.length<=14)
    (hN:X.N[io]?=some x:=by rfl) (hv:Vis X.env.scope x:=by first | exact Or.inl rfl | exact Or.inr (Or.inl rfl) | exact Or.inr (Or.inr rfl)) (hd:(x == ("__debug__" : Str))=false:=by decide) (hcd:(x == ("__classdict__" : Str))=false:=by decide)
    (hbase:attributeBase (.Name x pn) "replace" X.env (eval (.Name x pn) X.env)=eval (.Name x pn) X.env:=by rfl)
    (hfew:((backTo cpos (starEach [.Constant (.str y) j5 p5,.Subscript (.List [.Constant (.str z1) j1 p1,.Constant (.str z2) j2 p2,.Constant (.str z3) j3 p3,.Constant (.str z4) j4 p4] pl) ix ps] X.env)).all (fun x => !x.1) && (backToKw cpos (keywordEach [] X.env)).all (fun x=>x.1.isSome)
      && decide (2 + ([]:List Keyword).length + (if ([]:List Keyword).isEmpty then 0 else 1) < 30))=true:=by rfl)
    (hline:(apos.endLine == cpos.line)=true:=by rfl)
    (hst:starEach [.Constant (.str y) j5 p5,.Subscript (.List [.Constant (.str z1) j1 p1,.Constant (.str z2) j2 p2,.Constant (.str z3) j3 p3,.Constant (.str z4) j4 p4] pl) ix ps] X.env=[(false,eval (.Constant (.str y) j5 p5) X.env),(false,eval (.Subscript (.List [.Constant (.str z1) j1 p1,.Constant (.str z2) j2 p2,.Constant (.str z3) j3 p3,.Constant (.str z4) j4 p4] pl) ix ps) X.env)]:=by rfl)
    (hs:starEach [.Constant (.str z1) j1 p1,.Constant (.str z2) j2 p2,.Constant (.str z3) j3 p3,.Constant (.str z4) j4 p4] X.env=[(false,eval (.Constant (.str z1) j1 p1) X.env),(false,eval (.Constant (.str z2) j2 p2) X.env),(false,eval (.Constant (.str z3) j3 p3) X.env),(false,eval (.Constant (.str z4) j4 p4) X.env)]:=by rfl)
    (hm:behindInMarks .Eq (.Constant (.int k) j0 p0)=false:=by rfl) :
    ZS X (.If (.Compare a [.Eq] [.Constant (.int k) j0 p0] pc) [.Return (some (.Call (.Attribute (.Name x pn) "replace" apos) [.Constant (.str y) j5 p5,.Subscript (.List [.Constant (.str z1) j1 p1,.Constant (.str z2) j2 p2,.Constant (.str z3) j3 p3,.Constant (.str z4) j4 p4] pl) ix ps] [] cpos)) pr] [] pi)
      (fun D σ H=>ta σ H fun x H1=>∃ i:Int,x = .int i/\(i=k->tRet (tRepl io y [z1,z2,z3,z4] ti) D σ H1)/\(i ≠ k->tNext D σ H1)):=by
  refine ⟨?_⟩
  intro pins s σ H D I h
  refine wpAny_If (wpAny_isTrue_Compare1 (thn (ha.out pins s σ H _ I h) fun v s1 ⟨x,H1,I1,r1,q1⟩=>?_) hm)
  obtain ⟨i,rfl,q⟩:=q1
  obtain ⟨t,rfl⟩:=r1
  refine wpAny_Constant_int (eq_int (wpAny_truthy_bool ?_))
  by_cases hik:i=k
  . have q:=q.1 hik
    have e1:(i == k)=true:=by simpa using hik
    rw [e1]
    generalize hsx:({ s1 with toks:=s1.toks + 1 }:Shared)=s2
    have I2:Inv X pins σ H1 s2:=hsx ▸ I1.tok _
    have tk:0 < s2.toks:=by rw [<- hsx];exact Nat.succ_pos _
    obtain ⟨z,hz,zl,q⟩:=q
    show wpAny _ _ (execs [_] X.env) _ _ _
    refine wpAny_execs_cons (wpAny_Return_some ?_)
    refine wpAny_Call_method_late hbase hfew hline rfl (at_name I2 hz (fun u ru=>?_) hN hv hd hcd)
    obtain ⟨t2,rfl⟩:=ru
    refine ⟨"str",_,PySem.F.plainAttrs_str,PySem.F.slot_str_replace,PySem.F.type_str_replace,typeIs_str _ _ _,(fun a e=>nomatch e),?_⟩
    rw [hst]
    refine Calls.callWith_builtin rfl (Calls.evalArgs_plain (Calls.spliced_cons (Calls.Constant_str (k:=j5) (pos:=p5) (Calls.spliced_cons (Subscript_ (wpAny_List_spliced (spl4 hs ⟨by show 4<=sizeLine;decide,?_⟩)))))))
    generalize hs3:({ s2 with toks:=s2.toks + 1 + 4 }:Shared)=s3
    have I3:Inv X pins σ H1 s3:=hs3 ▸ I2.tok _
    generalize hob:({ cls:=.type "list",data:=.seq [Value.str z1 (s2.toks + 1),.str z2 (s2.toks + 1 + 1),.str z3 (s2.toks + 1 + 2),.str z4 (s2.toks + 1 + 3)].toArray }:Obj)=ob
    have hn3:H1 s3.heap.objs.size=none:=I3.hok.fresh (Nat.le_refl _)
    have fp:=I3.fpOk (b:=s3.heap.objs.size) (Nat.le_refl _) hn3
    have I4:Inv X pins σ H1 { s3 with heap:=s3.heap.push ob }:=I3.kept (t':=s3.toks) fun b u e=>Heap.get?_push_of_some _ e
    have g4:(s3.heap.push ob).get? s3.heap.objs.size=some ob:=Heap.get?_push_size _ (by rw [<- hob];rfl)
    have I5:=I4.pinned (fp:=[s3.heap.objs.size]) (fun b hb=>by
      obtain rfl:b=_:=by simpa using hb
      exact fp) (fun b hb=>by
      obtain rfl:b=_:=by simpa using hb
      exact ⟨ob,g4,by rw [<- hob];intro v z;cases z⟩)
    have fin:wpAny (model X.prog X.w) X.A (eval ix X.env) (fun i s₂=>wpAny (model X.prog X.w) X.A (subscriptTail (.List [.Constant (.str z1) j1 p1,.Constant (.str z2) j2 p2,.Constant (.str z3) j3 p3,.Constant (.str z4) j4 p4] pl) ix (.ref s3.heap.objs.size) i) (fun v2 s5=>∃ (zz:Str) (u:Tok) (H5:Hp),v2 = .str zz u/\s2.toks < u/\zz ∈ [z1,z2,z3,z4]/\Inv X pins σ H5 s5/\D.rt (.str (Txt.replace z y zz)) H5) X.xe s₂) X.xe { s3 with heap:=s3.heap.push ob }:=by
      refine thn (hi.out _ _ σ H1 _ I5 q) fun u s5 ⟨x5,H5,I6,r5,n,zz,e5,hz5,q5⟩=>?_
      subst e5
      obtain ⟨t5,rfl⟩:=r5
      have pin:=(I6.pin (s3.heap.objs.size,ob) (List.mem_append_right _ (List.mem_append_right _ (mem_pinsAt (by simp) g4)))).1
      have isl:s5.heap.IsList s3.heap.objs.size [Value.str z1 (s2.toks + 1),.str z2 (s2.toks + 1 + 1),.str z3 (s2.toks + 1 + 2),.str z4 (s2.toks + 1 + 3)].toArray:=⟨ob,pin,by rw [<- hob],by rw [<- hob];exact ⟨_,rfl⟩⟩
      have I7:Inv X pins σ H5 s5:=I6.unpinned
      have line:((n:Int)) < 2 ^ 63:=by
        have:n < 4:=(List.getElem?_eq_some_iff.mp hz5).1
        omega
      have n4:n < 4:=(List.getElem?_eq_some_iff.mp hz5).1
      have mz:zz ∈ [z1,z2,z3,z4]:=List.mem_of_getElem? hz5
      have n5:n=0\/n=1\/n=2\/n=3:=by omega
      rcases n5 with rfl | rfl | rfl | rfl
      . obtain rfl:z1=zz:=Option.some.inj hz5
        exact item_listR (u:=t5) (x:=.str z1 (s2.toks + 1)) isl (by decide) line rfl ⟨_,_,H5,rfl,by show s2.toks < s2.toks + 1;omega,mz,I7,q5⟩ (hx _ _)
      . obtain rfl:z2=zz:=Option.some.inj hz5
        exact item_listR (u:=t5) (x:=.str z2 (s2.toks + 1 + 1)) isl (by decide) line rfl ⟨_,_,H5,rfl,by show s2.toks < s2.toks + 1 + 1;omega,mz,I7,q5⟩ (hx _ _)
      . obtain rfl:z3=zz:=Option.some.inj hz5
        exact item_listR (u:=t5) (x:=.str z3 (s2.toks + 1 + 2)) isl (by decide) line rfl ⟨_,_,H5,rfl,by show s2.toks < s2.toks + 1 + 2;omega,mz,I7,q5⟩ (hx _ _)
      . obtain rfl:z4=zz:=Option.some.inj hz5
        exact item_listR (u:=t5) (x:=.str z4 (s2.toks + 1 + 3)) isl (by decide) line rfl ⟨_,_,H5,rfl,by show s2.toks < s2.toks + 1 + 3;omega,mz,I7,q5⟩ (hx _ _)
    have fin':wpAny (model X.prog X.w) X.A (eval ix X.env) (fun i s₂=>wpAny (model X.prog X.w) X.A (subscriptTail (.List [.Constant (.str z1) j1 p1,.Constant (.str z2) j2 p2,.Constant (.str z3) j3 p3,.Constant (.str z4) j4 p4] pl) ix (.ref s3.heap.objs.size) i) (fun v2 s5=>wpAny (model X.prog X.w) X.A (spliced []) (fun vs s6=>wpAny (model X.prog X.w) X.A (call (.builtin "str.replace") (.str z t2 :: .str y s2.toks :: v2 :: vs)) (fun v s7=>SP X pins D (.ret v) s7) X.xe s6) X.xe s5) X.xe s₂) X.xe { s3 with heap:=s3.heap.push ob }:=by
      refine thn fin fun i s₂ h2=>thn h2 fun v2 s5 ⟨zz,u,H5,e2,hu,mz,I7,q7⟩=>?_
      subst e2
      refine Calls.spliced_nil ?_
      obtain ⟨ny,lz⟩:=hy zz mz
      exact SC.replaceW (Nat.pos_iff_ne_zero.mp tk) (Nat.pos_iff_ne_zero.mp (Nat.lt_trans tk hu)) (Nat.ne_of_lt hu) ny (Nat.le_trans zl (by decide)) lz fun t' k=>⟨.str _,σ,H5,I7.tok k,⟨_,rfl⟩,q7⟩
    exact fin'
  . have q:=q.2 hik
    have e1:(i == k)=false:=by simpa using hik
    rw [e1]
    exact wpAny_execs_nil ⟨σ,H1,I1.tok _,q⟩
end
end L2
end
section
namespace D
open PySem L2 K0 Num PySem.NumText PyProof.Rows PySem.Calls
open PySem.W (Dat)
theorem fm_range (l:List Nat) (a:Nat):∀ m,a + m<=l.length->((List.range m).map (fun k=>a + k)).filterMap (l[·]?)=(l.drop a).take m
  | 0,_=>by simp
  | m + 1,h=>by
    have ih:=fm_range l a m (by omega)
    rw [List.range_succ,List.map_append,List.filterMap_append,ih]
    have hlt:a + m < l.length:=by omega
    have e:(l.drop a)[m]?=some l[a + m]:=by rw [List.getElem?_drop,List.getElem?_eq_getElem hlt]
    rw [List.take_add_one,e]
    simp [List.getElem?_eq_getElem hlt]
theorem arr_get (z:Str):(fun i:Nat=>z.cps[i]?)=fun i:Nat=>z.cps.toList[i]?:=by
  funext i;rw [Array.getElem?_toList]
theorem sl_gen (z:Str) {lo hi:Option Int} {a m:Nat} (h:a + m<=z.length) (e:Builtin.Str.strSliceIndices lo hi 1 z.length=(List.range m).map (fun k=>a + k)):(Txt.slice z lo hi).cps.toList=(z.cps.toList.drop a).take m:=by
  have hl:z.cps.toList.length=z.length:=Array.length_toList
  unfold Txt.slice
  rw [e,List.length_map,List.length_range]
  split
  . rename_i q
    simp at q
    have:a=0:=by omega
    subst this
    rw [List.drop_zero,List.take_of_length_le (by omega)]
  . show (((List.range m).map (fun k=>a + k)).filterMap (z.cps[·]?)).toArray.toList=_
    rw [arr_get,fm_range _ _ _ (by omega)]
theorem slice_from (z:Str) (n:Nat):(Txt.slice z (some (n:Int)) none).cps.toList=z.cps.toList.drop n:=by
  have hl:z.cps.toList.length=z.length:=Array.length_toList
  rw [sl_gen z (a:=min n z.length) (m:=z.length - n) (by omega) ?_]
  . by_cases h:n<=z.length
    . rw [Nat.min_eq_left h,List.take_of_length_le (by rw [List.length_drop];omega)]
    . rw [Nat.min_eq_right (by omega),List.drop_eq_nil_of_le (by omega),List.drop_eq_nil_of_le (by omega)];simp
  . unfold Builtin.Str.strSliceIndices sliceRange
    simp only [show (1:Int) > 0 by decide,if_true,show ¬ ((n:Int) < 0) by omega,if_false,Int.ediv_one]
    have ec:(if max 0 (min (n:Int) (z.length:Int)) < (z.length:Int) then (z.length:Int) - max 0 (min (n:Int) (z.length:Int)) + 1 - 1 else 0).toNat=z.length - n:=by split <;> omega
    rw [ec]
    exact List.map_congr_left fun k _=>by omega
theorem slice_to (z:Str) (n:Nat):(Txt.slice z none (some (n:Int))).cps.toList=z.cps.toList.take n:=by
  have hl:z.cps.toList.length=z.length:=Array.length_toList
  rw [sl_gen z (a:=0) (m:=min n z.length) (by omega) ?_]
  . rw [List.drop_zero]
    by_cases h:n<=z.length
    . rw [Nat.min_eq_left h]
    . rw [Nat.min_eq_right (by omega),List.take_of_length_le (by omega),List.take_of_length_le (by omega)]
  . unfold Builtin.Str.strSliceIndices sliceRange
    simp only [show (1:Int) > 0 by decide,if_true,show ¬ ((n:Int) < 0) by omega,if_false,Int.ediv_one]
    have ec:(if 0 < max 0 (min (n:Int) (z.length:Int)) then max 0 (min (n:Int) (z.length:Int)) - 0 + 1 - 1 else 0).toNat=min n z.length:=by split <;> omega
    rw [ec]
    exact List.map_congr_left fun k _=>by omega
theorem starts_one (z:Str) (c:Nat):Txt.startswith z ⟨#[c]⟩=decide (z.cps.toList.head?=some c):=by
  have hl:z.cps.toList.length=z.length:=Array.length_toList
  unfold Txt.startswith
  rw [StrLaws.subAt_eq]
  show (decide (0 + 1<=z.length) && ((z.cps.toList.drop 0).take 1 == [c]))=_
  rw [List.drop_zero]
  cases h:z.cps.toList with
  | nil=>rw [h] at hl;rw [<- hl];rfl
  | cons b r =>
    rw [h] at hl
    rw [<- hl]
    by_cases q:b=c
    . subst q;simp
    . simp [q]
theorem in_figs (c:Nat):(!(Builtin.Str.occurrences ("0123456789" : Str) ⟨#[c]⟩ 0 (("0123456789" : Str)).length 1).isEmpty)=decide (48<=c/\c<=57):=by
  rw [StrLaws.found_one]
  have e:("0123456789" : Str).cps.toList=[48,49,50,51,52,53,54,55,56,57]:=by decide +kernel
  rw [e]
  by_cases h:48<=c/\c<=57
  . rw [decide_eq_true h]
    refine decide_eq_true ?_
    have:c=48\/c=49\/c=50\/c=51\/c=52\/c=53\/c=54\/c=55\/c=56\/c=57:=by omega
    simpa using this
  . rw [decide_eq_false h]
    refine decide_eq_false fun q=>h ?_
    simp at q
    omega
section
variable {p:Option Addr} {K:PySem.W.Frag} {τ:List Sl} {ta tb:TE}
theorem E1.starts {z y:Str} (ha:E1 p K ta τ (.dat (.str z))) (hb:E1 p K tb τ (.dat (.str y))):E1 p K (tBM K "str" rStarts ta (tCons tb tNil)) τ (.dat (.bool (Txt.startswith z y))):=fun W L σ H Q rs o q =>
  ha W L σ H _ rs o fun v H1 s e e1 o1 rv=>by
    subst e
    cases rv.str_inv
    refine ⟨rfl,hb W L σ H1 _ (rs.ev e1 o.pw) o1 fun v2 H2 s2 e2 e3 o2 rv2=>?_⟩
    subst e2
    cases rv2.str_inv
    exact ⟨z,y,rfl,rfl,q _ H2 _ rfl (e1.trans e3) o2 (.bool _)⟩
theorem Dzs.ofStrs {N:Addr->Prop} {H:Hp}:∀ ys:List Str,Dzs N K H (ys.map V.str) (ys.map Dat.str)
  | []=>.nil
  | y :: r=>.cons (.str y) (Dzs.ofStrs r)
theorem E1.split {z y:Str} (ha:E1 p K ta τ (.dat (.str z))) (hb:E1 p K tb τ (.dat (.str y))) (hy:(y.length == 0)=false) (hz:z.length + 2<=sizeLine):E1 p K (tBM K "str" rSplit ta (tCons tb tNil)) τ (.own ((Txt.split z y).map .str)):=fun W L σ H Q rs o q =>
  ha W L σ H _ rs o fun v H1 s e e1 o1 rv=>by
    subst e
    cases rv.str_inv
    refine ⟨rfl,hb W L σ H1 _ (rs.ev e1 o.pw) o1 fun v2 H2 s2 e2 e3 o2 rv2=>?_⟩
    subst e2
    cases rv2.str_inv
    refine ⟨z,y,rfl,rfl,hy,hz,fun a ha=>?_⟩
    have sm:Same H2 (upd H2 a (.lst ((Txt.split z y).map V.str))):=Same.new ha _
    refine q _ _ _ rfl ((e1.trans e3).trans (Ev.of sm)) (o2.same sm) ⟨a,_,rfl,?_,upd_same,Dzs.ofStrs _⟩
    have ev:=e1.trans e3
    cases h:H a with
    | none=>rfl
    | some u =>
      by_cases hp:p=some a
      . obtain ⟨⟨x,y,g⟩,_⟩:=o2.pu a hp
        rw [g] at ha;cases ha
      . rw [ev.keep _ _ hp h] at ha;cases ha
theorem E1.notInS {x y:Str} (ha:E1 p K ta τ (.dat (.str x))) (hb:E1 p K tb τ (.dat (.str y))):E1 p K (tOp (fun x y H Q=>∃ i j,x = .str i/\y = .str j/\Q (.bl (!(!(Builtin.Str.occurrences j i 0 j.length 1).isEmpty))) H) ta tb) τ (.dat (.bool (!(!(Builtin.Str.occurrences y x 0 y.length 1).isEmpty)))) :=
  E1.op2 ha hb fun W H0 H u v Q o0 o r1 r2 q=>by
    cases r1.str_inv
    cases r2.str_inv
    exact ⟨x,y,rfl,rfl,q _ H Ev.refl o (.bool _)⟩
end
noncomputable def whI (z:Str):Option Int:=if wholeB z.cps.toList=true then PySem.intText? z else none
theorem whI_no {z:Str} (h:wholeB z.cps.toList=false):whI z=none:=if_neg (by rw [h];exact Bool.false_ne_true)
theorem str_ext {x y:Str} (h:x.cps.toList=y.cps.toList):x=y:=by
  obtain ⟨⟨l⟩⟩:=x
  obtain ⟨⟨m⟩⟩:=y
  cases h
  rfl
theorem dv_lt:∀ (cs:List Nat) (acc:Nat),AllDigits cs->cs.foldl (fun acc c=>acc * 10 + (c - 48)) acc < (acc + 1) * 10 ^ cs.length
  | [],acc,_=>by simp
  | c :: r,acc,h=>by
    have ih:=dv_lt r (acc * 10 + (c - 48)) (fun d hd=>h d (List.mem_cons_of_mem _ hd))
    have hc:=h c List.mem_cons_self
    rw [List.foldl_cons,List.length_cons,Nat.pow_succ]
    refine Nat.lt_of_lt_of_le ih ?_
    rw [Nat.mul_comm (10 ^ r.length) 10, <- Nat.mul_assoc]
    exact Nat.mul_le_mul_right _ (by omega)
theorem digitsVal_lt {cs:List Nat} (h:AllDigits cs):digitsVal cs < 10 ^ cs.length:=by
  have:=dv_lt cs 0 h
  rwa [Nat.zero_add,Nat.one_mul] at this
theorem figs_lt {m:Nat} (h:(figs m).length<=1500):m < 10 ^ 1500:=by
  have e:=figs_val m
  have l:=digitsVal_lt (figs_all m)
  rw [e] at l
  exact Nat.lt_of_lt_of_le l (Nat.pow_le_pow_right (by decide) h)
theorem whI_yes {z:Str} (h:wholeB z.cps.toList=true):∃ i:Int,whI z=some i/\z=toString i/\i.natAbs < 10 ^ 1500:=by
  obtain ⟨i,e,l⟩:=wholeB_inv h
  have hb:=figs_lt l
  have ez:z=(toString i:Str):=str_ext (by rw [e,itx_eq])
  refine ⟨i,?_,ez,hb⟩
  unfold whI
  rw [if_pos h,ez]
  exact itx_reads (Nat.lt_of_lt_of_le hb (Nat.pow_le_pow_right (by decide) (by decide)))
end D
end
section
namespace L2
open PySem PySem.Spec PyProof.Rows
section
variable {X:Cx} {C:Value} {t:TX} {e:Expr} {es:List Expr} {x1} {pos:Pos}
theorem re_tup1 (he:RE X C e t) (hs:starEach (e :: es) X.env=(false,eval e X.env) :: starEach es X.env:=by rfl):RE X C (.Tuple (e :: es) x1 pos) t:=⟨fun pins s σ H G I q=>by
  refine wpAny_Tuple_spliced ?_
  rw [hs]
  exact Calls.spliced_cons (wpAny_mono (he.out pins s σ H G I q) (fun _ _ z=>z.elim) fun _ _ z=>z)⟩
end
end L2
namespace D
open PySem L2 K0 Num PyProof.Rows
open PySem.W (Dat)
section
variable {K:PySem.W.Frag} {P:Program} {w:World} {mg:Str->Option Value} {base:Heap}
theorem okBd {x qual:Str} {st:Stmt} {f:Addr} {fd:FuncData} {N ps:List Str} {k:Nat} {B:List Dat->Prop} {C:Value} (F:Fun K x qual st f fd) (S0:FnScope N ps (defScope st)) (len:∀ ds,B ds->ds.length=ps.length)
    (body:∀ ds,B ds->∀ (cdv:Value) (A:Around) (outer:List Env) (s:Shared) (H:Hp) (E:XK),Room k (A.deeper (PyProof.Rows.envOfC qual (defScope st) s.heap.objs.size f cdv)) ->
      ∃ t,RSs (cxOf CX0 P w K mg base N qual (defScope st) f cdv A outer s H E).nox C (defBody st) t/\SX none K t (ds.map .dat ++ List.replicate (N.length - ps.length) .un) (fun _=>True)):FnOk P w K mg base (CXx P w C) (k + 1) f fd ps (spB K B) where
  len:=fun vs H Q E h=>by
    obtain ⟨ds,z,b⟩:=h
    rw [z.len];exact len ds b
  run:=fun A outer s H args us vs Q E hr he hb hv hs=>by
    obtain ⟨ds,z,b⟩:=hs
    refine (okB (B:=fun ds'=>ds'=ds) F S0 (fun ds' h=>by rw [h];exact len ds b) (fun cdv A outer s H E hr=>?_)).run A outer s H args us vs Q E hr he hb hv ⟨ds,z,rfl⟩
    obtain ⟨t,h1,h2⟩:=body ds b cdv A outer s H E hr
    exact ⟨t,h1,fun ds' h=>by subst h;exact h2⟩
end
theorem Asc.sz {n:Nat} {z:Str} (h:Asc n z) (hn:n<=sizeLine):z.length<=sizeLine:=Nat.le_trans h.1 hn
theorem Asc.allS {n:Nat} {z:Str} (h:Asc n z):z.cps.all (· < 128)=true:=by
  rw [<- Array.all_toList]
  exact List.all_eq_true.mpr fun c hc=>decide_eq_true (h.2 c hc)
noncomputable abbrev MX:Nat:=1000000
theorem mx_le:MX<=sizeLine:=by decide
theorem mx_2:MX + 2<=sizeLine:=by decide
noncomputable def bareS (z:Str):Str:=if z.cps.toList.head?=some 45 then Txt.slice z (some ((1:Nat):Int)) none else z
theorem bareS_eq (z:Str):(bareS z).cps.toList=bareC z.cps.toList:=by
  unfold bareS bareC
  split
  . rw [slice_from,List.drop_one]
  . rfl
theorem bareS_asc {n:Nat} {z:Str} (h:Asc n z):Asc n (bareS z):=by
  unfold bareS
  split
  . exact h.slice _ _
  . exact h
noncomputable def RIsWT:List Dat->Dat->Prop:=fun ds d=>∃ z:Str,ds=[.str z]/\Asc MX z/\d = .bool (wholeB z.cps.toList)
noncomputable def RRdW:List Dat->Dat->Prop:=fun ds d=>∃ (z:Str) (i:Int),ds=[.str z]/\Asc MX z/\whI z=some i/\d = .int i
noncomputable def BRdW:List Dat->Prop:=fun ds=>∃ z:Str,ds=[.str z]/\Asc MX z/\whI z=none
theorem whI_b {z:Str} {i:Int} (h:whI z=some i):wholeB z.cps.toList=true/\z=toString i/\i.natAbs < 10 ^ 1500:=by
  cases hb:wholeB z.cps.toList with
  | false=>rw [whI_no hb] at h;cases h
  | true =>
    obtain ⟨j,e,ez,l⟩:=whI_yes hb
    rw [e] at h
    cases h
    exact ⟨rfl,ez,l⟩
theorem whI_n {z:Str} (h:whI z=none):wholeB z.cps.toList=false:=by
  cases hb:wholeB z.cps.toList with
  | false=>rfl
  | true =>
    obtain ⟨j,e,_⟩:=whI_yes hb
    rw [e] at h
    cases h
noncomputable def RParts:List Dat->Dat->Prop:=fun ds d=>∃ (z y:Str) (m:Int),ds=[.str z,.str y,.int m]/\Asc MX z/\(y.length == 0)=false/\((Txt.split z y).length:Int)=m/\d = .list ((Txt.split z y).map .str)
noncomputable def BParts:List Dat->Prop:=fun ds=>∃ (z y:Str) (m:Int),ds=[.str z,.str y,.int m]/\Asc MX z/\(y.length == 0)=false/\((Txt.split z y).length:Int) ≠ m
noncomputable def rd2 (a b:Option Int):Option (Int × Int):=match a,b with
  | some i,some j=>if j < 2\/Nat.gcd i.natAbs j.natAbs ≠ 1 then none else some (i,j)
  | _,_=>none
noncomputable def rdP:List Str->Option (Int × Int)
  | [x]=>(whI x).map fun i=>(i,1)
  | [x,y]=>rd2 (whI x) (whI y)
  | _=>none
noncomputable def sla:Str:=⟨#[47]⟩
noncomputable def rdN (z:Str):Option (Int × Int):=rdP (Txt.split z sla)
noncomputable def RRdN:List Dat->Dat->Prop:=fun ds d=>∃ (z:Str) (i j:Int),ds=[.str z]/\Asc MX z/\rdN z=some (i,j)/\d=tI [i,j]
noncomputable def BRdN:List Dat->Prop:=fun ds=>∃ z:Str,ds=[.str z]/\Asc MX z/\rdN z=none
theorem split_asc {n:Nat} {z y:Str} (h:Asc n z):∀ x ∈ Txt.split z y,Asc n x:=fun x hx=>⟨Nat.le_trans (part_short hx) h.1,fun c hc=>h.2 c (split_mem hx c hc)⟩
theorem Asc.lt {n:Nat} {z:Str} (h:Asc n z):∀ c ∈ z.cps.toList,c < 256:=fun c hc=>Nat.lt_trans (h.2 c hc) (by decide)
section
variable {cs:List Nat}
theorem wholeB_0 (h:(bareC cs).length=0):wholeB cs=false:=by unfold wholeB;rw [h];rfl
theorem wholeB_1 (h:¬ (bareC cs).length<=1500):wholeB cs=false:=by unfold wholeB;rw [decide_eq_false h];simp
theorem wholeB_2 (h:(bareC cs).all (fun c=>decide (48<=c/\c<=57))=false):wholeB cs=false:=by unfold wholeB;rw [h];simp
theorem wholeB_3 (h0:(bareC cs).length ≠ 0) (h1:(bareC cs).length<=1500) (h2:(bareC cs).all (fun c=>decide (48<=c/\c<=57))=true):wholeB cs=((bareC cs).head? != some 48 || cs == [48]):=by
  unfold wholeB
  rw [decide_eq_true h1,h2]
  have:((bareC cs).length != 0)=true:=by simpa using h0
  rw [this]
  rfl
end
theorem str_len (z:Str):z.length=z.cps.toList.length:=Array.length_toList.symm
theorem str_eq_one (z:Str) (c:Nat):decide (z=⟨#[c]⟩)=(z.cps.toList == [c]):=by
  by_cases h:z=⟨#[c]⟩
  . rw [decide_eq_true h,h];simp
  . rw [decide_eq_false h]
    refine (beq_eq_false_iff_ne.mpr fun e=>h (str_ext e)).symm
theorem head_ne (c:Nat):(!decide ((⟨#[c]⟩:Str) = "0"))=(some c != some 48):=by
  have e:("0" : Str)=⟨#[48]⟩:=by decide +kernel
  rw [e,one_eq]
  by_cases h:c=48
  . subst h;rfl
  . rw [decide_eq_false h]
    have:(some c != some 48)=true:=by rw [bne_iff_ne];intro z;cases z;exact h rfl
    rw [this];rfl
theorem all_lets (z:Str) (f:Nat->Bool):(z.cps.toList.map f).all id=z.cps.toList.all f:=by rw [List.all_map];rfl
noncomputable def figS:Str := "0123456789"
theorem bare_law (z:Str):Txt.slice z (some (if decide (Txt.slice z none (some ((1:Nat):Int)) = "-")=true then 1 else 0:Int)) none=bareS z:=by
  have e:("-" : Str)=⟨#[45]⟩:=by decide +kernel
  have e2:decide (Txt.slice z none (some ((1:Nat):Int)) = "-")=decide (z.cps.toList.head?=some 45):=by
    rw [e,str_eq_one,slice_to]
    cases h:z.cps.toList with
    | nil=>rfl
    | cons b r =>
      by_cases q:b=45
      . subst q;simp
      . simp [q]
  rw [e2]
  refine str_ext ?_
  rw [bareS_eq]
  unfold bareC
  by_cases h:z.cps.toList.head?=some 45
  . rw [decide_eq_true h,if_pos rfl,if_pos h]
    exact (slice_from z 1).trans List.drop_one
  . rw [decide_eq_false h,if_neg Bool.false_ne_true,if_neg h]
    exact (slice_from z 0).trans List.drop_zero
noncomputable def optI:Option Int->Dat
  | some i=>.int i
  | none=>.none
noncomputable def RWof:List Dat->Dat->Prop:=fun ds d=>∃ z:Str,ds=[.str z]/\Asc MX z/\d=optI (whI z)
noncomputable def optQ:Option (Int × Int)->Dat
  | some (i,j)=>tI [i,j]
  | none=>.none
noncomputable def RFof:List Dat->Dat->Prop:=fun ds d=>∃ z:Str,ds=[.str z]/\Asc MX z/\d=optQ (rdN z)
noncomputable def cNX:Array UInt8 := #[78,111,84,101,120,116]
theorem xn_NX {K:PySem.W.Frag} {C:Addr} (h:Xc K "NoText" C):XN K cNX (.ref C):=by
  have e:(⟨cNX.map (·.toNat)⟩:Str) = "NoText" := by decide +kernel
  unfold XN
  rw [e]
  exact h.nm
noncomputable def RWhX:List Dat->Dat->Prop:=fun ds g=>ds=[.bytes cNX]/\g = .list [.int 8]
end D
end
section
namespace D
open PySem L2 K0 Num PyProof.Rows
open PySem.W (Dat)
theorem join_ge (sep:Str):∀ ps:List Str,(ps.map (·.length)).sum<=(Str.join sep ps).length
  | []=>Nat.zero_le _
  | [p]=>by show p.length + 0<=p.length;omega
  | p :: q :: r=>by
    have ih:=join_ge sep (q :: r)
    show p.length + ((q :: r).map (·.length)).sum<=(p ++ sep ++ Str.join sep (q :: r)).length
    rw [len_app,len_app]
    omega
theorem join_mem (sep:Str):∀ (ps:List Str) (c:Nat),c ∈ (Str.join sep ps).cps.toList->c ∈ sep.cps.toList\/∃ p ∈ ps,c ∈ p.cps.toList
  | [],c,h=>by cases h
  | [p],c,h=>.inr ⟨p,List.mem_cons_self,h⟩
  | p :: q :: r, c, h => by
    have e:(Str.join sep (p :: q :: r)).cps.toList=p.cps.toList ++ sep.cps.toList ++ (Str.join sep (q :: r)).cps.toList:=by
      show (p ++ sep ++ Str.join sep (q :: r)).cps.toList=_
      rw [PySem.Str.cps_append,PySem.Str.cps_append,Array.toList_append,Array.toList_append]
    rw [e] at h
    rcases List.mem_append.mp h with h | h
    . rcases List.mem_append.mp h with h | h
      . exact .inr ⟨p,List.mem_cons_self,h⟩
      . exact .inl h
    . rcases join_mem sep (q :: r) c h with h | ⟨p',hp,h⟩
      . exact .inl h
      . exact .inr ⟨p',List.mem_cons_of_mem _ hp,h⟩
theorem partsFrom_len (x:Str) (w:Nat):∀ (cuts:List Nat) (a:Nat),(StrLaws.partsFrom x w a cuts).length=cuts.length + 1
  | [],_=>rfl
  | c :: r,a=>by
    show (_ :: StrLaws.partsFrom x w (c + w) r).length=_
    rw [List.length_cons,partsFrom_len x w r,List.length_cons]
theorem repl_asc {n:Nat} {z y zz:Str} (h:Asc n z) (hz:∀ c ∈ zz.cps.toList,c < 128) (hl:zz.length<=3):Asc (4 * n + 10) (Txt.replace z y zz):=by
  unfold Txt.replace
  split
  . exact h.mono (by omega)
  . rw [StrLaws.glued_eq_join,StrLaws.partsBetween_eq]
    obtain ⟨f,ch⟩:=StrLaws.occ_chain z y (z.length + 1)
    have e1:=StrLaws.join_partsFrom z y _ 0 f ch
    rw [StrLaws.sub_whole] at e1
    have l0:=StrLaws.occ_length_le z y 0 z.length (z.length + 1)
    generalize Builtin.Str.occurrences z y 0 z.length (z.length + 1)=cuts at e1 l0 ⊢
    have l1:=StrLaws.join_length_le zz (StrLaws.partsFrom z y.length 0 cuts)
    have l2:=join_ge y (StrLaws.partsFrom z y.length 0 cuts)
    rw [e1] at l2
    rw [partsFrom_len] at l1
    have hn:=h.1
    refine ⟨?_,fun c hc=>?_⟩
    . have l3:(cuts.length + 1) * zz.length<=(n + 2) * 3:=Nat.mul_le_mul (by omega) hl
      omega
    . rcases join_mem zz _ c hc with hc | ⟨p,hp,hc⟩
      . exact hz c hc
      . exact h.2 c (parts_sub z _ _ _ p hp c hc)
section
variable {p:Option Addr} {K:PySem.W.Frag} {τ:List Sl} {ta ti:TE} {nx:List Sl->Prop} {rt:Sl->Prop}
theorem S.ifRepl {io:Nat} {z y:Str} {zs:List Str} {i k:Int} {n:Nat} (ha:E1 p K ta τ (.dat (.int i))) (hz:τ[io]?=some (.dat (.str z))) (az:Asc n z) (hn:n<=1000000) (hi:EI p K ti τ (fun j=>0<=j/\j < (zs.length:Int))) (hzs:∀ x ∈ zs,x.length<=3/\∀ c ∈ x.cps.toList,c < 128)
    (m1:∀ x,Asc (4 * n + 10) x->rt (.dat (.str x))) (m2:i ≠ k->nx τ) :
    S p K (fun D σ H=>ta σ H fun x H1=>∃ i:Int,x = .int i/\(i=k->tRet (tRepl io y zs ti) D σ H1)/\(i ≠ k->tNext D σ H1)) τ nx rt:=fun W L σ H D r o q1 q2 =>
  ha W L σ H _ r o fun v H1 s e e1 o1 rv=>by
    subst e
    cases rv.int_inv
    refine ⟨i,rfl,fun hk=>?_,fun hk=>?_⟩
    . have r1:=r.ev e1 o.pw
      obtain ⟨vz,gz,dz⟩:=r1.get_dat hz
      cases dz
      refine ⟨z,gz,Nat.le_trans az.1 hn,?_⟩
      refine hi W L σ H1 _ r1 o1 fun v2 H2 s2 ⟨j,es,j0,j1⟩ e2 o2 rv2=>?_
      subst es
      cases rv2.int_inv
      have jl:j.toNat < zs.length:=by omega
      refine ⟨j.toNat,zs[j.toNat],by rw [Int.toNat_of_nonneg j0],List.getElem?_eq_getElem jl,?_⟩
      have hx:=hzs zs[j.toNat] (List.getElem_mem jl)
      have ev:=(e1.trans e2).ofP o
      exact q2 W H2 _ _ (m1 _ (repl_asc az hx.2 hx.1)) ev o2 o2.al (fun _ h=>.inl h) (.str _)
    . exact q1 W L σ H1 τ (m2 hk) (e1.ofP o) o1 o1.al (fun _ h=>.inl h) (fun _ h=>.inl h) (r.ev e1 o.pw)
end
noncomputable def RBent46:List Dat->(Dat->Prop)->Prop:=fun ds C=>∃ (n:Nat) (z:Str),ds=[.str z]/\n<=1000000/\Asc n z/\C=fun d=>∃ y:Str,d = .str y/\Asc (4 * n + 10) y
end D
end
section
namespace D
open PySem L2 K0 Num PyProof.Rows
open PySem.W (Dat)
noncomputable def inFig:Dat->Dat
  | .str s=>.bool (!(Builtin.Str.occurrences figS s 0 figS.length 1).isEmpty)
  | d=>d
theorem inFig_one {c:Nat}:inFig (.str ⟨#[c]⟩) = .bool (!(Builtin.Str.occurrences figS ⟨#[c]⟩ 0 figS.length 1).isEmpty):=rfl
theorem lets_fig (z:Str):(lets z).map inFig=(z.cps.toList.map fun c=>decide (48<=c/\c<=57)).map Dat.bool:=by
  unfold lets
  rw [List.map_map,List.map_map]
  refine List.map_congr_left fun c _=>?_
  show Dat.bool _=Dat.bool _
  congr 1
  exact in_figs c
theorem noLs_strs:∀ {ys:List Str},noLs (ys.map .str)=true
  | []=>by rw [List.map_nil,noLs]
  | y :: r=>by rw [List.map_cons,noLs,noLs_strs (ys:=r),noL];rfl
theorem sla_in (z:Str):(!(!(Builtin.Str.occurrences z sla 0 z.length 1).isEmpty)) = !decide (47 ∈ z.cps.toList):=by
  unfold sla
  rw [StrLaws.found_one]
theorem two_of {α:Type} {l:List α} (h:l.length=2):∃ a b,l=[a,b]:=by
  match l,h with
  | [a,b],_=>exact ⟨a,b,rfl⟩
theorem rdP_one {x:Str} (h:rdP [x]=none):whI x=none:=by
  have h:(whI x).map (fun i=>(i,(1:Int)))=none:=h
  cases e:whI x with
  | none=>rfl
  | some i=>rw [e] at h;cases h
theorem or_gcd {i j:Int} (h:j < 2\/Nat.gcd i.natAbs j.natAbs ≠ 1):(decide (j < 2) || !decide ((gcdN [i,j]:Int)=1))=true:=by
  rw [gcdN_two14]
  rcases h with h | h
  . rw [decide_eq_true h];rfl
  . rw [decide_eq_false (show ¬ (((Nat.gcd i.natAbs j.natAbs:Nat):Int)=1) by omega)];simp
theorem rdN_one {n:Nat} {z:Str} {i j:Int} (az:Asc n z) (hin:47 ∉ z.cps.toList) (h:rdN z=some (i,j)):whI z=some i/\j=1:=by
  unfold rdN at h
  rw [sla,split_no az.lt (by decide) hin] at h
  have h:(whI z).map (fun i=>(i,(1:Int)))=some (i,j):=h
  cases e:whI z with
  | none=>rw [e] at h;cases h
  | some k=>rw [e] at h;cases h;exact ⟨rfl,rfl⟩
theorem rdN_two {n:Nat} {z:Str} {i j:Int} (az:Asc n z) (hin:47 ∈ z.cps.toList) (h:rdN z=some (i,j)):∃ a b,Txt.split z sla=[a,b]/\whI a=some i/\whI b=some j/\¬ j < 2/\Nat.gcd i.natAbs j.natAbs=1:=by
  have l2:=split_yes az.lt (c:=47) (by decide) hin
  unfold rdN at h
  rw [show (⟨#[47]⟩:Str)=sla from rfl] at l2
  generalize Txt.split z sla=ps at h l2 ⊢
  match ps,l2,h with
  | [a, b], _, h =>
    refine ⟨a,b,rfl,?_⟩
    have h:rd2 (whI a) (whI b)=some (i,j):=h
    unfold rd2 at h
    cases ea:whI a with
    | none=>rw [ea] at h;cases h
    | some u =>
      cases eb:whI b with
      | none=>rw [ea,eb] at h;cases h
      | some v =>
        rw [ea,eb] at h
        by_cases q:v < 2\/Nat.gcd u.natAbs v.natAbs ≠ 1
        . simp only [if_pos q] at h;cases h
        . simp only [if_neg q] at h
          cases h
          refine ⟨rfl,rfl,fun z=>q (.inl z),Classical.byContradiction fun z=>q (.inr z)⟩
  | _ :: _ :: _ :: _,_,h=>cases h
end D
end
section
namespace L2
open PySem PySem.Spec PyProof.Rows
end L2
namespace D
open PySem L2 K0 Num
open PySem.W (Dat)
section
variable {p:Option Addr}
end
end D
namespace D
open PySem L2 K0 Num PyProof.Rows
open PySem.W (Dat)
noncomputable def notFig:Dat->Bool
  | .str s => !(!(Builtin.Str.occurrences figS s 0 figS.length 1).isEmpty)
  | _=>false
theorem filter_id (ds:List Dat) (k:Dat->Bool):(ds.filter k).map id=ds.filter k:=List.map_id _
theorem strange_eq (z:Str):(lets z).filter notFig=(z.cps.toList.filter fun c => !decide (48<=c/\c<=57)).map fun c=>.str ⟨#[c]⟩:=by
  unfold lets
  rw [List.filter_map]
  congr 1
  refine List.filter_congr fun c _=>?_
  show (!(!(Builtin.Str.occurrences figS ⟨#[c]⟩ 0 figS.length 1).isEmpty))=_
  rw [show (!(Builtin.Str.occurrences figS ⟨#[c]⟩ 0 figS.length 1).isEmpty)=decide (48<=c/\c<=57) from in_figs c]
theorem strange_nil {z:Str} (h:z.cps.toList.all (fun c=>decide (48<=c/\c<=57))=true):(lets z).filter notFig=[]:=by
  rw [strange_eq,List.filter_eq_nil_iff.mpr]
  . rfl
  . intro c hc
    rw [List.all_eq_true.mp h c hc];simp
theorem strange_ne {z:Str} (h:z.cps.toList.all (fun c=>decide (48<=c/\c<=57))=false):(lets z).filter notFig ≠ []:=by
  rw [strange_eq]
  intro e
  have e:=List.map_eq_nil_iff.mp e
  have:z.cps.toList.all (fun c=>decide (48<=c/\c<=57))=true:=List.all_eq_true.mpr fun c hc=>by
    have:=List.filter_eq_nil_iff.mp e c hc
    simpa using this
  rw [h] at this;cases this
theorem kqd_lets {n:Nat} {z:Str} (az:Asc n z):PySem.W.kqdOk 9 (.list ((lets z).filter notFig))=true:=by
  show ((lets z).filter notFig).all (PySem.W.kqdOk 8)=true
  refine List.all_eq_true.mpr fun d hd=>?_
  have hd:=(List.mem_filter.mp hd).1
  obtain ⟨c,hc,rfl⟩:=List.mem_map.mp hd
  exact kqd_one (az.2 c hc)
theorem noLs_lets {z:Str} {k:Dat->Bool}:noLs ((lets z).filter k)=true:=by
  unfold lets
  rw [List.filter_map]
  generalize z.cps.toList.filter _=cs
  induction cs with
  | nil=>rw [List.map_nil,noLs]
  | cons c r ih=>rw [List.map_cons,noLs,ih,noL];rfl
theorem wh_last {c:Nat} {cs:List Nat}:(decide ((⟨#[c]⟩:Str) = "0") && !(cs == [48])) = !(some c != some 48 || cs == [48]):=by
  have:=head_ne c
  rw [<- this]
  cases decide ((⟨#[c]⟩:Str) = "0") <;> simp
theorem str_ne_0 (z:Str):(!decide (z = "0")) = !(z.cps.toList == [48]):=by
  have e:("0" : Str)=⟨#[48]⟩:=by decide +kernel
  rw [e,str_eq_one]
theorem str_empty (z:Str):decide (z = "")=decide (z.cps.toList.length=0):=by
  have e:("" : Str)=⟨#[]⟩:=by decide +kernel
  rw [e]
  by_cases h:z.cps.toList.length=0
  . rw [decide_eq_true h]
    exact decide_eq_true (str_ext (List.length_eq_zero_iff.mp h))
  . rw [decide_eq_false h]
    exact decide_eq_false fun q=>h (by rw [q];rfl)
theorem split_ne (z y:Str):Txt.split z y ≠ []:=by
  unfold Txt.split
  split
  . intro h;cases h
  . split
    . intro h;cases h
    . rw [StrLaws.partsBetween_eq]
      obtain ⟨p,r,e⟩:=StrLaws.partsFrom_ne z y.length 0 (Builtin.Str.occurrences z y 0 z.length (z.length + 1))
      rw [e];intro h;cases h
noncomputable def whD1:Dat->Dat
  | .str s=>optI (whI s)
  | d=>d
theorem none_mem {l:List Dat} {b:Bool} (h:b=l.any fun d=>match d with | .none=>true | _=>false):b=true ↔ Dat.none ∈ l:=by
  rw [h,List.any_eq_true]
  constructor
  . rintro ⟨d,hd,e⟩
    cases d with
    | none=>exact hd
    | _=>cases e
  . exact fun hd=>⟨_,hd,rfl⟩
theorem noL_optI (o:Option Int):noL (optI o)=true:=by cases o <;> rfl
theorem kqd_optI (o:Option Int):PySem.W.kqdOk 8 (optI o)=true:=by cases o <;> rfl
theorem noLs_wh:∀ ps:List Str,noLs ((ps.map Dat.str).map whD1)=true
  | []=>by rw [List.map_nil,List.map_nil,noLs]
  | p :: r=>by rw [List.map_cons,List.map_cons,noLs,noLs_wh r,show noL (whD1 (.str p))=true from noL_optI _];rfl
theorem noL_optQ (o:Option (Int × Int)):noL (optQ o)=true:=by
  cases o with
  | none=>rfl
  | some q=>rfl
theorem itx_asc (i:Int):∀ c ∈ (txI i).cps.toList,c < 128:=fun c hc=>by
  have:=itx_signs i c (by rw [<- itx_eq];exact hc)
  omega
end D
end
section
namespace D
open PySem L2 K0 Num PyProof.Rows
open PySem.W (Dat)
theorem gcd_or {i j:Int} (h:(decide (j < 2) || !decide (((Nat.gcd i.natAbs j.natAbs:Nat):Int)=1))=true):j < 2\/Nat.gcd i.natAbs j.natAbs ≠ 1:=by
  rw [Bool.or_eq_true,decide_eq_true_eq,Bool.not_eq_true',decide_eq_false_iff_not] at h
  omega
theorem gcd_nor {i j:Int} (h:(decide (j < 2) || !decide (((Nat.gcd i.natAbs j.natAbs:Nat):Int)=1))=false):¬ (j < 2\/Nat.gcd i.natAbs j.natAbs ≠ 1):=by
  rw [Bool.or_eq_false_iff,decide_eq_false_iff_not,Bool.not_eq_false',decide_eq_true_eq] at h
  omega
section
variable {p:Option Addr} {K:PySem.W.Frag} {τ:List Sl} {ta tb:TE}
theorem T1.orX {tt tu:TT} {c:Bool} (h:T1 p K tt τ false) (h2:T1 p K tu τ c):T1 p K (tOr tt tu) τ c:=T.or h (fun z=>by cases z) fun _=>h2
theorem E.addSA {n m:Nat} (ha:E p K ta τ (fun s=>∃ y,s = .dat (.str y)/\Asc n y)) (hb:E p K tb τ (fun s=>∃ y,s = .dat (.str y)/\Asc m y)) (h:n + m<=sizeLine):E p K (tOp (fun x y H Q=>∃ i j,x = .str i/\y = .str j/\i.length + j.length<=sizeLine/\Q (.str (i ++ j)) H) ta tb) τ (fun s=>∃ y,s = .dat (.str y)/\Asc (n + m) y) :=
  E.op2 (B:=fun s=>∃ y,s = .dat (.str y)/\Asc n y) (B':=fun _ s=>∃ y,s = .dat (.str y)/\Asc m y) ha (fun _ _=>hb) fun s t ⟨x,es,ax⟩ ⟨y,et,ay⟩ W H0 H u v Q o0 o r1 r2 q=>by
    subst es et
    cases r1.str_inv
    cases r2.str_inv
    exact ⟨x,y,rfl,rfl,Nat.le_trans (Nat.add_le_add ax.1 ay.1) h,q _ H _ ⟨_,rfl,ax.app ay⟩ Ev.refl o (.str _)⟩
end
end D
end
section
namespace L2
open PySem PySem.Spec PyProof.Rows
noncomputable def rAnyT (K:PySem.W.Frag):List V->Hp->VK->Prop:=fun xs H Q=>∃ (a:Addr) (ns:List Int),xs=[.ref a]/\SqT K H a (ns.map V.int)/\Q (.bl (ns.any fun n => !decide (n=0))) H
theorem range_anyN:∀ (ns:List Int),((List.range ns.length).any fun i => !decide ((ns[i]?).getD 0=0))=ns.any fun n => !decide (n=0):=by
  intro ns
  rw [Bool.eq_iff_iff]
  simp only [List.any_eq_true,List.mem_range]
  constructor
  . rintro ⟨i,hi,h⟩
    rw [List.getElem?_eq_getElem hi] at h
    exact ⟨_,List.getElem_mem hi,h⟩
  . rintro ⟨b,hb,h⟩
    obtain ⟨i,hi,rfl⟩:=List.getElem_of_mem hb
    exact ⟨i,hi,by rw [List.getElem?_eq_getElem hi];exact h⟩
section
variable {X:Cx}
theorem call_anyT (hc:X.calm=true):CallR X (.builtin "any") (rAnyT X.K):=by
  intro pins s σ H xs us Q I r h
  obtain ⟨a,ns,rfl,hl,q⟩:=h
  cases r with
  | cons r1 r2 =>
    cases r2
    cases (show _=Value.ref a from r1)
    obtain ⟨its,rv,pl,_⟩:=I.tuple hl
    have hi:s.heap.IsTuple a its.toArray:=pl
    have hlt:a < s.heap.objs.size:=by obtain ⟨_,e,_⟩:=hi;exact Heap.lt_size e
    have hlen:its.length=ns.length:=by have:=rv.length;simpa using this.symm
    refine call_any_walk (wpAny_pyIter_tuple hi ?_)
    refine ⟨s.heap.objs.size,[s.heap.objs.size,a],[s.heap.objs.size],its.toArray.size,_,_,fun i => !decide ((ns[i]?).getD 0=0),rfl,Walks.tuple (A:=X.A.in1) (I.ok.hd hc) _ a (Nat.ne_of_lt hlt) its.toArray,
      ⟨⟨_,Heap.get?_push_size _ rfl,rfl,rfl⟩,hi.push _⟩,fun i v s' Q' E' hP hQ=>?_,fun h' tk hk=>?_⟩
    . have hP:its[i]?=some v:=by simpa using hP
      have hb:i < ns.length:=by have:=(List.getElem?_eq_some_iff.mp hP).1;omega
      obtain ⟨u,hu,ru⟩:=rv.get (x:=.int ns[i]) (i:=i) (by rw [List.getElem?_map,List.getElem?_eq_getElem hb];rfl)
      rw [hP] at hu
      cases hu
      obtain ⟨t,rfl⟩:=ru
      simp only [List.getElem?_eq_getElem hb,Option.getD_some] at hQ
      refine PySem.P.truthy_int ?_
      rw [show (ns[i] != 0) = !decide (ns[i]=0) by by_cases h:ns[i]=0 <;> simp [h]]
      exact hQ
    . have e:((List.range its.toArray.size).any fun i => !decide ((ns[i]?).getD 0=0))=ns.any fun n => !decide (n=0):=by
        rw [List.size_toArray,hlen];exact range_anyN ns
      rw [e]
      exact ⟨.bl _,H,I.kept (t':=tk) fun b x e=>hk b x (fun hm=>by rw [List.mem_singleton.mp hm] at e;exact Nat.lt_irrefl _ (Heap.lt_size e)) (Heap.get?_push_of_some _ e),rfl,q⟩
end
end L2
namespace D
open PySem L2 K0 Num PyProof.Rows
open PySem.W (Dat)
section
variable {p:Option Addr} {K:PySem.W.Frag} {τ:List Sl} {ta tb:TE}
theorem E1.anyT {ns:List Int} (ha:E1 p K ta τ (.dat (tI ns))):E1 p K (tCB (rAnyT K) (tCons ta tNil)) τ (.dat (.bool (ns.any fun n => !decide (n=0)))):=fun W L σ H Q rs o q =>
  ha W L σ H _ rs o fun v H1 s e e1 o1 rv=>by
    subst e
    cases rv with
    | tup h1 h2 =>
      have ev:=h2.inv
      subst ev
      exact ⟨_,ns,rfl,h1,q _ H1 _ rfl e1 o1 (.bool _)⟩
theorem E1.repL {xs:List Dat} {k:Int} (ha:E1 p K ta τ (.own xs)) (hb:E1 p K tb τ (.dat (.int k))) (h0:0<=k) (h1:k < 2 ^ 63) (hz:xs.length * k.toNat<=sizeLine):E1 p K (tOp rRep ta tb) τ (.own (List.replicate k.toNat xs).flatten):=fun W L σ H Q rs o q =>
  ha W L σ H _ rs o fun v H1 s e e1 o1 rv=>by
    subst e
    obtain ⟨a,vs,rfl,n1,g1,z1⟩:=rv
    refine hb W L σ H1 _ (rs.ev e1 o.pw) o1 fun v2 H2 s2 e2 e3 o2 rv2=>?_
    subst e2
    cases rv2.int_inv
    have np:p ≠ some a:=fun z=>by
      obtain ⟨⟨x,y,g⟩,_⟩:=o.pu a z
      rw [n1] at g;cases g
    have g2:H2 a=some (.lst vs):=e3.keep _ _ np g1
    have z2:Dzs (fun a=>¬ W a) K H2 vs xs:=z1.ev e3 fun b nb z=>nb (o1.pw b z)
    refine ⟨a,k,vs,rfl,rfl,g2,by omega,h1,by rw [z2.len];exact hz,fun l hl=>?_⟩
    have sm:Same H2 (upd H2 l (.lst (List.replicate k.toNat vs).flatten)):=Same.new hl _
    have ev:=e1.trans e3
    refine q _ _ _ rfl (ev.trans (Ev.of sm)) (o2.same sm) ⟨l,_,rfl,?_,upd_same,?_⟩
    . cases h:H l with
      | none=>rfl
      | some u =>
        by_cases hp:p=some l
        . obtain ⟨⟨x,y,g⟩,_⟩:=o2.pu l hp
          rw [g] at hl;cases hl
        . rw [ev.keep _ _ hp h] at hl;cases hl
    . exact (Dzs.rep z2 k.toNat).ev (W:=fun _=>False) (Ev.of sm) fun _ _ h=>h
end
noncomputable def allO {α:Type} (f:Str->Option α):List Str->Option (List α)
  | []=>some []
  | p :: r=>match f p,allO f r with
    | some x,some l=>some (x :: l)
    | _,_=>none
section
variable {α:Type} {f:Str->Option α}
theorem allO_some:∀ {ps:List Str} {l:List α},allO f ps=some l->l.length=ps.length/\ps.map f=l.map some
  | [],l,h=>by cases h;exact ⟨rfl,rfl⟩
  | p :: r, l, h => by
    unfold allO at h
    cases hp:f p with
    | none=>rw [hp] at h;cases h
    | some x =>
      cases hr:allO f r with
      | none=>rw [hp,hr] at h;cases h
      | some l' =>
        rw [hp,hr] at h
        cases h
        obtain ⟨h1,h2⟩:=allO_some hr
        exact ⟨by rw [List.length_cons,List.length_cons,h1],by rw [List.map_cons,List.map_cons,hp,h2]⟩
theorem allO_none:∀ {ps:List Str},allO f ps=none->∃ (j:Nat) (p:Str),ps[j]?=some p/\f p=none/\∀ i q,i < j->ps[i]?=some q->∃ x,f q=some x
  | [],h=>by cases h
  | p :: r, h => by
    unfold allO at h
    cases hp:f p with
    | none=>exact ⟨0,p,rfl,hp,fun i q hi _=>absurd hi (Nat.not_lt_zero _)⟩
    | some x =>
      cases hr:allO f r with
      | some l=>rw [hp,hr] at h;cases h
      | none =>
        obtain ⟨j,q,h1,h2,h3⟩:=allO_none hr
        refine ⟨j + 1,q,by simpa using h1,h2,fun i q' hi hq=>?_⟩
        cases i with
        | zero => have e : p = q' := by simpa using hq
                  exact ⟨x,e ▸ hp⟩
        | succ i=>exact h3 i q' (by omega) (by simpa using hq)
theorem allO_of:∀ {ps:List Str} {l:List α},ps.map f=l.map some->allO f ps=some l
  | [],[],_=>rfl
  | p :: r,x :: l,h=>by
    rw [List.map_cons,List.map_cons] at h
    injection h with h1 h2
    unfold allO
    rw [h1,allO_of h2]
  | [],_ :: _,h=>by cases h
  | _ :: _,[],h=>by cases h
end
noncomputable def rdR (z y:Str) (m:Nat):Option (List Int):=if (Txt.split z y).length=m then (allO whI (Txt.split z y)).bind fun ns=>if (ns.any fun n => !decide (n=0))=true then some ns else none else none
theorem rdR_some {z y:Str} {m:Nat} {ns:List Int} (h:rdR z y m=some ns):(Txt.split z y).length=m/\allO whI (Txt.split z y)=some ns/\(ns.any fun n => !decide (n=0))=true:=by
  unfold rdR at h
  by_cases h1:(Txt.split z y).length=m
  . rw [if_pos h1] at h
    cases h2:allO whI (Txt.split z y) with
    | none=>rw [h2] at h;cases h
    | some l =>
      rw [h2] at h
      have h:(if (l.any fun n => !decide (n=0))=true then some l else none)=some ns:=h
      by_cases h3:(l.any fun n => !decide (n=0))=true
      . rw [if_pos h3] at h;cases h;exact ⟨h1,rfl,h3⟩
      . rw [if_neg h3] at h;cases h
  . rw [if_neg h1] at h;cases h
theorem rdR_none {z y:Str} {m:Nat} (h:rdR z y m=none):(Txt.split z y).length ≠ m\/((Txt.split z y).length=m/\allO whI (Txt.split z y)=none)\/((Txt.split z y).length=m/\∃ ns,allO whI (Txt.split z y)=some ns/\(ns.any fun n => !decide (n=0))=false):=by
  unfold rdR at h
  by_cases h1:(Txt.split z y).length=m
  . rw [if_pos h1] at h
    cases h2:allO whI (Txt.split z y) with
    | none=>exact .inr (.inl ⟨h1,rfl⟩)
    | some l =>
      rw [h2] at h
      have h:(if (l.any fun n => !decide (n=0))=true then some l else none)=none:=h
      cases h3:(l.any fun n => !decide (n=0)) with
      | true=>rw [if_pos h3] at h;cases h
      | false=>exact .inr (.inr ⟨h1,l,rfl,h3⟩)
  . exact .inl h1
noncomputable def rd3 {α:Type} (f:Str->Option α) (y:Str) (z:Str):Option (List α):=if (Txt.split z y).length=3 then allO f (Txt.split z y) else none
noncomputable def spa:Str:=⟨#[32]⟩
noncomputable def sem:Str:=⟨#[59,32]⟩
noncomputable def col:Str:=⟨#[58]⟩
noncomputable def rdPt:Str->Option (List (Int × Int)):=rd3 rdN spa
noncomputable def rdTb:Str->Option (List (List (Int × Int))):=rd3 rdPt sem
theorem rd3_some {α:Type} {f:Str->Option α} {z y:Str} {l:List α} (h:rd3 f y z=some l):(Txt.split z y).length=3/\allO f (Txt.split z y)=some l:=by
  unfold rd3 at h
  by_cases h1:(Txt.split z y).length=3
  . rw [if_pos h1] at h;exact ⟨h1,h⟩
  . rw [if_neg h1] at h;cases h
theorem rd3_none {α:Type} {f:Str->Option α} {z y:Str} (h:rd3 f y z=none):(Txt.split z y).length ≠ 3\/((Txt.split z y).length=3/\allO f (Txt.split z y)=none):=by
  unfold rd3 at h
  by_cases h1:(Txt.split z y).length=3
  . rw [if_pos h1] at h;exact .inr ⟨h1,h⟩
  . exact .inl h1
noncomputable def qD (q:Int × Int):Dat:=tI [q.1,q.2]
noncomputable def pD3 (l:List (Int × Int)):Dat:=.tuple (l.map qD)
noncomputable def tD3 (l:List (List (Int × Int))):Dat:=.tuple (l.map pD3)
noncomputable def RRdR:List Dat->Dat->Prop:=fun ds d=>∃ (z y:Str) (m:Nat) (ns:List Int),ds=[.str z,.str y,.int m]/\Asc MX z/\(y.length == 0)=false/\rdR z y m=some ns/\d=tI ns
noncomputable def BRdR:List Dat->Prop:=fun ds=>∃ (z y:Str) (m:Nat),ds=[.str z,.str y,.int m]/\Asc MX z/\(y.length == 0)=false/\rdR z y m=none
noncomputable def RRd1 (y:Str) (m:Nat):List Dat->Dat->Prop:=fun ds d=>∃ (z:Str) (ns:List Int),ds=[.str z]/\Asc MX z/\rdR z y m=some ns/\d=tI ns
noncomputable def BRd1 (y:Str) (m:Nat):List Dat->Prop:=fun ds=>∃ z:Str,ds=[.str z]/\Asc MX z/\rdR z y m=none
noncomputable def RRdP:List Dat->Dat->Prop:=fun ds d=>∃ (z:Str) (l:List (Int × Int)),ds=[.str z]/\Asc MX z/\rdPt z=some l/\d=pD3 l
noncomputable def BRdP:List Dat->Prop:=fun ds=>∃ z:Str,ds=[.str z]/\Asc MX z/\rdPt z=none
noncomputable def RRdT:List Dat->Dat->Prop:=fun ds d=>∃ (z:Str) (l:List (List (Int × Int))),ds=[.str z]/\Asc MX z/\rdTb z=some l/\d=tD3 l
noncomputable def BRdT:List Dat->Prop:=fun ds=>∃ z:Str,ds=[.str z]/\Asc MX z/\rdTb z=none
noncomputable def rdD {α:Type} (f:Str->Option α) (g:α->Dat):Dat->Dat
  | .str s=>((f s).map g).getD .none
  | d=>d
theorem rdD_map {α:Type} {f:Str->Option α} {g:α->Dat} {ps:List Str} {l:List α} (h:allO f ps=some l):(ps.map Dat.str).map (rdD f g)=l.map g:=by
  have e:=(allO_some h).2
  rw [List.map_map]
  have:(rdD f g ∘ Dat.str)=(fun o:Option α=>(o.map g).getD .none) ∘ f:=rfl
  rw [this, <- List.map_map,e,List.map_map]
  rfl
theorem rdD_one {α:Type} {f:Str->Option α} {g:α->Dat} {s:Str} {x:α} (h:f s=some x):rdD f g (.str s)=g x:=by
  show ((f s).map g).getD .none=g x
  rw [h]
  rfl
theorem allO_at {α:Type} {f:Str->Option α} {ps:List Str} {l:List α} (h:allO f ps=some l) {s:Str} (hs:s ∈ ps):∃ x,f s=some x:=by
  have e:=(allO_some h).2
  have:f s ∈ l.map some:=by rw [<- e];exact List.mem_map_of_mem hs
  obtain ⟨x,_,hx⟩:=List.mem_map.mp this
  exact ⟨x,hx.symm⟩
theorem noL_tI' {ns:List Int}:noL (tI ns)=true:=noLs_ints ns
theorem noLs_qD:∀ l:List (Int × Int),noLs (l.map qD)=true
  | []=>by rw [List.map_nil,noLs]
  | q :: r=>by rw [List.map_cons,noLs,noLs_qD r,show noL (qD q)=true from noLs_ints _];rfl
theorem noL_pD3 (l:List (Int × Int)):noL (pD3 l)=true:=by unfold pD3;rw [noL];exact noLs_qD l
theorem noLs_pD3:∀ l:List (List (Int × Int)),noLs (l.map pD3)=true
  | []=>by rw [List.map_nil,noLs]
  | q :: r=>by rw [List.map_cons,noLs,noLs_pD3 r,noL_pD3];rfl
theorem noL_tD3 (l:List (List (Int × Int))):noL (tD3 l)=true:=by unfold tD3;rw [noL];exact noLs_pD3 l
end D
end
section
namespace D
open PySem L2 K0 Num PyProof.Rows
open PySem.W (Dat)
noncomputable def Bg (i:Int):Prop:=i.natAbs < 10 ^ 1500
theorem Bg.str {i:Int} (h:Bg i):i.natAbs < 10 ^ 4300:=Nat.lt_of_lt_of_le h (Nat.pow_le_pow_right (by decide) (by decide))
theorem Bg.bt {i:Int} (h:Bt i 4980):Bg i:=Nat.lt_of_le_of_lt h (by decide +kernel)
theorem whI_tx {i:Int} (h:Bg i):whI (txI i)=some i:=by
  unfold whI
  rw [show (txI i).cps.toList=itx i from itx_eq i,if_pos (wholeB_itx h)]
  exact itx_reads (Nat.lt_of_lt_of_le h (Nat.pow_le_pow_right (by decide) (by decide)))
theorem txI_ch (i:Int):∀ c ∈ (txI i).cps.toList,c=45\/(48<=c/\c<=57):=fun c hc=>itx_signs i c (by rw [<- itx_eq];exact hc)
theorem txI_big {i:Int} (h:Bg i):(txI i).length<=1501:=by
  rw [str_len,show (txI i).cps.toList=itx i from itx_eq i]
  unfold itx
  have:=figs_len (k:=1499) h
  split
  . rw [List.length_cons];omega
  . omega
noncomputable def Gq (q:Int × Int):Prop:=Bg q.1/\Bg q.2/\0 < q.2/\Nat.gcd q.1.natAbs q.2.natAbs=1
noncomputable def tqF (q:Int × Int):Str:=if q.2=1 then txI q.1 else txI q.1 ++ sla ++ txI q.2
noncomputable def tqP (l:List (Int × Int)):Str:=jn spa (l.map tqF)
noncomputable def tqT (l:List (List (Int × Int))):Str:=jn sem (l.map tqP)
theorem app_l (a b:Str):(a ++ b).cps.toList=a.cps.toList ++ b.cps.toList:=by rw [PySem.Str.cps_append,Array.toList_append]
theorem tqF_ch (q:Int × Int):∀ c ∈ (tqF q).cps.toList,c=45\/c=47\/(48<=c/\c<=57):=fun c hc=>by
  unfold tqF at hc
  split at hc
  . have:=txI_ch _ c hc;omega
  . rw [app_l,app_l] at hc
    rcases List.mem_append.mp hc with hc | hc
    . rcases List.mem_append.mp hc with hc | hc
      . have:=txI_ch _ c hc;omega
      . have:c=47:=by simpa [sla] using hc
        omega
    . have:=txI_ch _ c hc;omega
theorem tqF_len {q:Int × Int} (h:Gq q):(tqF q).length<=3003:=by
  have a:=txI_big h.1
  have b:=txI_big h.2.1
  unfold tqF
  split
  . omega
  . rw [len_app,len_app]
    have:sla.length=1:=rfl
    omega
theorem jn_mem (sep:Str) (ps:List Str) (c:Nat) (h:c ∈ (jn sep ps).cps.toList):c ∈ sep.cps.toList\/∃ p ∈ ps,c ∈ p.cps.toList:=by
  have e:jn sep ps=Str.join sep ps:=StrLaws.glued_eq_join sep ps
  rw [e] at h
  exact join_mem sep ps c h
theorem jn_le {sep:Str} {ps:List Str} {k m:Nat} (h:∀ p ∈ ps,p.length<=k) (hl:ps.length<=m) (hs:sep.length<=2):(ps.map (·.length)).sum + ps.length * sep.length<=m * (k + 2):=by
  have g:∀ l:List Str,(∀ p ∈ l,p.length<=k)->(l.map (·.length)).sum<=l.length * k:=by
    intro l
    induction l with
    | nil=>intro _;simp
    | cons a r ih =>
      intro h
      have h1:=h a List.mem_cons_self
      have h2:=ih fun p hp=>h p (List.mem_cons_of_mem _ hp)
      rw [List.map_cons,List.sum_cons,List.length_cons,Nat.succ_mul]
      omega
  have g1:=g ps h
  have g2:ps.length * sep.length<=ps.length * 2:=Nat.mul_le_mul_left _ hs
  have g3:ps.length * (k + 2)<=m * (k + 2):=Nat.mul_le_mul_right _ hl
  rw [Nat.mul_add] at g3
  omega
theorem tqP_ch (l:List (Int × Int)):∀ c ∈ (tqP l).cps.toList,c=32\/c=45\/c=47\/(48<=c/\c<=57):=fun c hc=>by
  rcases jn_mem spa _ c hc with h | ⟨p,hp,h⟩
  . have:c=32:=by simpa [spa] using h
    omega
  . obtain ⟨q,_,rfl⟩:=List.mem_map.mp hp
    have:=tqF_ch q c h
    omega
theorem tqP_ok {l:List (Int × Int)} (h:∀ q ∈ l,Gq q) (hl:l.length=3):((l.map tqF).map (·.length)).sum + (l.map tqF).length * spa.length<=9015:=by
  refine Nat.le_trans (jn_le (k:=3003) (m:=3) (fun p hp=>?_) (by rw [List.length_map];omega) (by decide)) (by decide)
  obtain ⟨q,hq,rfl⟩:=List.mem_map.mp hp
  exact tqF_len (h q hq)
theorem tqP_len {l:List (Int × Int)} (h:∀ q ∈ l,Gq q) (hl:l.length=3):(tqP l).length<=9015:=Nat.le_trans (glue_len spa _) (tqP_ok h hl)
noncomputable def GrF (l:List (Int × Int)):Prop:=l.length=3/\∀ q ∈ l,Gq q
noncomputable def GtF (l:List (List (Int × Int))):Prop:=l.length=3/\∀ r ∈ l,GrF r
theorem tqT_ok {l:List (List (Int × Int))} (h:GtF l):((l.map tqP).map (·.length)).sum + (l.map tqP).length * sem.length<=27051:=by
  refine Nat.le_trans (jn_le (k:=9015) (m:=3) (fun p hp=>?_) (by rw [List.length_map,h.1];omega) (by decide)) (by decide)
  obtain ⟨q,hq,rfl⟩:=List.mem_map.mp hp
  exact tqP_len (h.2 q hq).2 (h.2 q hq).1
theorem tqT_len {l:List (List (Int × Int))} (h:GtF l):(tqT l).length<=27051:=Nat.le_trans (glue_len sem _) (tqT_ok h)
theorem txR_okB {ns:List Int} (h:∀ n ∈ ns,Bg n) (hl:ns.length<=4) {sep:Str} (hs:sep.length<=2):((ns.map txI).map (·.length)).sum + (ns.map txI).length * sep.length<=6012:=by
  refine Nat.le_trans (jn_le (k:=1501) (m:=4) (fun p hp=>?_) (by rw [List.length_map];omega) hs) (by decide)
  obtain ⟨q,hq,rfl⟩:=List.mem_map.mp hp
  exact txI_big (h q hq)
theorem txRs_len {ns:List Int} (h:∀ n ∈ ns,Bg n) (hl:ns.length<=4) {sep:Str} (hs:sep.length<=2):(jn sep (ns.map txI)).length<=6012:=Nat.le_trans (glue_len sep _) (txR_okB h hl hs)
theorem cl_of {c:Nat} {t p:List Nat} (h:c ∉ p):Cl (c :: t) p/\∀ i,(p.drop i).take (c :: t).length ≠ c :: t:=by
  refine ⟨fun i hi e=>?_,fun i e=>?_⟩
  . have e2:=congrArg List.head? e
    rw [List.length_cons,List.head?_take,if_neg (by omega),List.head?_drop,List.getElem?_append_left hi,List.head?_cons] at e2
    exact h (List.mem_of_getElem? e2)
  . have e2:=congrArg List.head? e
    rw [List.length_cons,List.head?_take,if_neg (by omega),List.head?_drop,List.head?_cons] at e2
    exact h (List.mem_of_getElem? e2)
theorem jn_glu (sep:Str):∀ ps:List Str,(jn sep ps).cps.toList=glu sep.cps.toList (ps.map (·.cps.toList)):=by
  intro ps
  have e:jn sep ps=Str.join sep ps:=StrLaws.glued_eq_join sep ps
  rw [e]
  clear e
  induction ps with
  | nil=>rfl
  | cons p r ih =>
    cases r with
    | nil=>rfl
    | cons q r =>
      show (p ++ sep ++ Str.join sep (q :: r)).cps.toList=_
      rw [app_l,app_l,ih]
      rfl
theorem split_jn {c:Nat} {t:List Nat} {ps:List Str} (hc:∀ d ∈ c :: t,d < 256) (ne:ps ≠ []) (hp:∀ p ∈ ps,c ∉ p.cps.toList/\∀ d ∈ p.cps.toList,d < 256):Txt.split (jn ⟨⟨c :: t⟩⟩ ps) ⟨⟨c :: t⟩⟩=ps:=by
  refine split_glu (fun d hd=>?_) hc (by show 0 < (c :: t).length;simp) ne (jn_glu _ _) fun p hp'=>?_
  . rcases jn_mem _ _ d hd with h | ⟨p,hp',h⟩
    . exact hc d h
    . exact (hp p hp').2 d h
  . exact cl_of (hp p hp').1
theorem txI_lt (i:Int) (k:Nat) (hk:k ≠ 45/\¬ (48<=k/\k<=57)):k ∉ (txI i).cps.toList/\∀ d ∈ (txI i).cps.toList,d < 256:=⟨fun h=>by have:=txI_ch i k h;omega,fun d hd=>by have:=txI_ch i d hd;omega⟩
theorem rdN_tq {q:Int × Int} (h:Gq q):rdN (tqF q)=some q:=by
  obtain ⟨i,j⟩:=q
  obtain ⟨h1,h2,h3,h4⟩:=h
  unfold rdN tqF
  by_cases e:j=1
  . subst e
    rw [if_pos rfl,sla,split_no (txI_lt i 47 (by decide)).2 (by decide) (txI_lt i 47 (by decide)).1]
    show (whI (txI i)).map _=_
    rw [whI_tx h1]
    rfl
  . rw [if_neg e]
    have s:=split_jn (c:=47) (t:=[]) (ps:=[txI i,txI j]) (by decide) (by simp) (fun p hp=>by
      simp only [List.mem_cons,List.mem_nil_iff,or_false] at hp
      rcases hp with rfl | rfl
      . exact txI_lt i 47 (by decide)
      . exact txI_lt j 47 (by decide))
    have s2:Txt.split (txI i ++ sla ++ txI j) sla=[txI i,txI j]:=s
    show rdP (Txt.split (txI i ++ sla ++ txI j) sla)=_
    rw [s2]
    show rd2 (whI (txI i)) (whI (txI j))=_
    rw [whI_tx h1,whI_tx h2]
    have h3:0 < j:=h3
    have h4:Nat.gcd i.natAbs j.natAbs=1:=h4
    exact if_neg (by rw [h4];omega)
theorem allO_tx {α:Type} {f:Str->Option α} {g:α->Str}:∀ {l:List α},(∀ x ∈ l,f (g x)=some x)->allO f (l.map g)=some l:=fun {l} h=>allO_of (by
  rw [List.map_map]
  exact List.map_congr_left fun x hx=>h x hx)
theorem rdPt_tq {l:List (Int × Int)} (h:GrF l):rdPt (tqP l)=some l:=by
  have ne:l.map tqF ≠ []:=fun e=>by have:=congrArg List.length e;rw [List.length_map,h.1] at this;cases this
  have s:Txt.split (tqP l) spa=l.map tqF:=split_jn (c:=32) (t:=[]) (by decide) ne fun p hp=>by
    obtain ⟨q,_,rfl⟩:=List.mem_map.mp hp
    exact ⟨fun hc=>by have:=tqF_ch q 32 hc;omega,fun d hd=>by have:=tqF_ch q d hd;omega⟩
  unfold rdPt rd3
  rw [s,if_pos (by rw [List.length_map];exact h.1)]
  exact allO_tx fun q hq=>rdN_tq (h.2 q hq)
theorem rdTb_tq {l:List (List (Int × Int))} (h:GtF l):rdTb (tqT l)=some l:=by
  have ne:l.map tqP ≠ []:=fun e=>by have:=congrArg List.length e;rw [List.length_map,h.1] at this;cases this
  have s:Txt.split (tqT l) sem=l.map tqP:=split_jn (c:=59) (t:=[32]) (by decide) ne fun p hp=>by
    obtain ⟨q,_,rfl⟩:=List.mem_map.mp hp
    exact ⟨fun hc=>by have:=tqP_ch q 59 hc;omega,fun d hd=>by have:=tqP_ch q d hd;omega⟩
  unfold rdTb rd3
  rw [s,if_pos (by rw [List.length_map];exact h.1)]
  exact allO_tx fun q hq=>rdPt_tq (h.2 q hq)
theorem rdR_tx {ns:List Int} {c m:Nat} (hc:c ≠ 45/\¬ (48<=c/\c<=57)) (hc2:c < 256) (h:∀ n ∈ ns,Bg n) (hl:ns.length=m) (hm:m ≠ 0) (hz:(ns.any fun n => !decide (n=0))=true):rdR (jn ⟨#[c]⟩ (ns.map txI)) ⟨#[c]⟩ m=some ns:=by
  have ne:ns.map txI ≠ []:=fun e=>by have:=congrArg List.length e;rw [List.length_map,hl] at this;exact hm this
  have s:Txt.split (jn ⟨#[c]⟩ (ns.map txI)) ⟨#[c]⟩=ns.map txI:=split_jn (c:=c) (t:=[]) (by simpa using hc2) ne fun p hp=>by
    obtain ⟨q,_,rfl⟩:=List.mem_map.mp hp
    exact txI_lt q c hc
  unfold rdR
  rw [s,if_pos (by rw [List.length_map];exact hl),allO_tx (fun n hn=>whI_tx (h n hn))]
  exact if_pos hz
theorem jn_split (z y:Str):jn y (Txt.split z y)=z:=by
  have e:jn y (Txt.split z y)=Str.join y (Txt.split z y):=StrLaws.glued_eq_join _ _
  rw [e]
  exact StrLaws.join_split z y
theorem tq_rdN {z:Str} {q:Int × Int} (h:rdN z=some q):tqF q=z/\Gq q:=by
  unfold rdN at h
  have js:=jn_split z sla
  generalize Txt.split z sla=ps at h js
  match ps,h with
  | [],h=>cases h
  | [x],h =>
    have h:(whI x).map (fun i=>(i,(1:Int)))=some q:=h
    cases hx:whI x with
    | none=>rw [hx] at h;cases h
    | some i =>
      rw [hx] at h
      cases h
      obtain ⟨_,e,b⟩:=whI_b hx
      refine ⟨?_,b,(by decide +kernel:(1:Nat) < 10 ^ 1500),(show (0:Int) < 1 by decide),(by simp)⟩
      show (if (1:Int)=1 then txI i else _)=z
      rw [if_pos rfl, <- js]
      exact e.symm
  | [x, y], h =>
    have h:rd2 (whI x) (whI y)=some q:=h
    unfold rd2 at h
    cases hx:whI x with
    | none=>rw [hx] at h;cases h
    | some i =>
      cases hy:whI y with
      | none=>rw [hx,hy] at h;cases h
      | some j =>
        rw [hx,hy] at h
        by_cases c:j < 2\/Nat.gcd i.natAbs j.natAbs ≠ 1
        . simp only [if_pos c] at h;cases h
        . simp only [if_neg c] at h
          cases h
          obtain ⟨_,e1,b1⟩:=whI_b hx
          obtain ⟨_,e2,b2⟩:=whI_b hy
          have c1:¬ j < 2:=fun z=>c (.inl z)
          refine ⟨?_,b1,b2,by show 0 < j;omega,Classical.byContradiction fun z=>c (.inr z)⟩
          show (if j=1 then _ else txI i ++ sla ++ txI j)=z
          rw [if_neg (by omega), <- js,e1,e2]
          rfl
  | _ :: _ :: _ :: _,h=>cases h
theorem allO_tq {α:Type} {f:Str->Option α} {g:α->Str} (hf:∀ s x,f s=some x->g x=s) {ps:List Str} {l:List α} (h:allO f ps=some l):l.map g=ps:=by
  have e:=(allO_some h).2
  clear h
  induction ps generalizing l with
  | nil=>cases l with
    | nil=>rfl
    | cons a r=>cases e
  | cons p r ih =>
    cases l with
    | nil=>cases e
    | cons a l =>
      rw [List.map_cons,List.map_cons] at e
      injection e with e1 e2
      rw [List.map_cons,hf p a e1,ih e2]
theorem allO_g {α:Type} {f:Str->Option α} {G:α->Prop} (hf:∀ s x,f s=some x->G x) {ps:List Str} {l:List α} (h:allO f ps=some l):∀ x ∈ l,G x:=fun x hx=>by
  have e:=(allO_some h).2
  have:some x ∈ ps.map f:=by rw [e];exact List.mem_map_of_mem hx
  obtain ⟨s,_,hs⟩:=List.mem_map.mp this
  exact hf s x hs
theorem tq_rdPt {z:Str} {l:List (Int × Int)} (h:rdPt z=some l):tqP l=z/\GrF l:=by
  obtain ⟨h1,h2⟩:=rd3_some h
  refine ⟨?_,by rw [(allO_some h2).1];exact h1,allO_g (fun s x e=>(tq_rdN e).2) h2⟩
  unfold tqP
  rw [allO_tq (fun s x e=>(tq_rdN e).1) h2]
  exact jn_split z spa
theorem tq_rdTb {z:Str} {l:List (List (Int × Int))} (h:rdTb z=some l):tqT l=z/\GtF l:=by
  obtain ⟨h1,h2⟩:=rd3_some h
  refine ⟨?_,by rw [(allO_some h2).1];exact h1,allO_g (fun s x e=>(tq_rdPt e).2) h2⟩
  unfold tqT
  rw [allO_tq (fun s x e=>(tq_rdPt e).1) h2]
  exact jn_split z sem
theorem tx_rdR {z y:Str} {m:Nat} {ns:List Int} (h:rdR z y m=some ns):jn y (ns.map txI)=z/\ns.length=m/\(∀ n ∈ ns,Bg n)/\(ns.any fun n => !decide (n=0))=true:=by
  obtain ⟨h1,h2,h3⟩:=rdR_some h
  refine ⟨?_,by rw [(allO_some h2).1];exact h1,allO_g (fun s x e=>(whI_b e).2.2) h2,h3⟩
  rw [allO_tq (g:=txI) (fun s x e=>(whI_b e).2.1.symm) h2]
  exact jn_split z y
end D
end
section
namespace D
open PySem L2 K0 Num PyProof.Rows
open PySem.W (Dat)
noncomputable def RowB (N:Nat) (ns:List Int):Prop:=(∀ n ∈ ns,Bg n)/\ns.length=N/\(ns.any fun n => !decide (n=0))=true
inductive TxB:Int->Dat->Str->Prop
  | num {q:Int × Int}:Gq q->TxB 0 (qD q) (tqF q)
  | four {ns:List Int}:RowB 4 ns->TxB 1 (tI ns) (jn spa (ns.map txI))
  | way {ns:List Int}:RowB 3 ns->TxB 2 (tI ns) (jn spa (ns.map txI))
  | pt {l:List (Int × Int)}:GrF l->TxB 3 (pD3 l) (tqP l)
  | tab {l:List (List (Int × Int))}:GtF l->TxB 4 (tD3 l) (tqT l)
  | set {ns:List Int}:RowB 2 ns->TxB 5 (tI ns) (jn col (ns.map txI))
noncomputable def rdK (k:Int) (z:Str):Option Dat:=if k=0 then (rdN z).map qD else if k=1 then (rdR z spa 4).map tI else if k=2 then (rdR z spa 3).map tI else if k=3 then (rdPt z).map pD3 else if k=4 then (rdTb z).map tD3 else (rdR z col 2).map tI
theorem TxB.rd {k:Int} {d:Dat} {t:Str} (h:TxB k d t):rdK k t=some d:=by
  cases h with
  | num h=>show (rdN _).map qD=_;rw [rdN_tq h];rfl
  | four h=>exact congrArg (Option.map tI) (rdR_tx (c:=32) (by decide) (by decide) h.1 h.2.1 (by decide) h.2.2)
  | way h=>exact congrArg (Option.map tI) (rdR_tx (c:=32) (by decide) (by decide) h.1 h.2.1 (by decide) h.2.2)
  | pt h=>show (rdPt _).map pD3=_;rw [rdPt_tq h];rfl
  | tab h=>show (rdTb _).map tD3=_;rw [rdTb_tq h];rfl
  | set h=>exact congrArg (Option.map tI) (rdR_tx (c:=58) (by decide) (by decide) h.1 h.2.1 (by decide) h.2.2)
theorem opt_map {α β:Type} {o:Option α} {f:α->β} {y:β} (h:o.map f=some y):∃ x,o=some x/\f x=y:=by
  cases o with
  | none=>cases h
  | some x=>cases h;exact ⟨x,rfl,rfl⟩
theorem rdK_tx {k:Int} {d:Dat} {z:Str} (k0:0<=k) (k5:k<=5) (h:rdK k z=some d):TxB k d z:=by
  have hk:k=0\/k=1\/k=2\/k=3\/k=4\/k=5:=by omega
  rcases hk with rfl | rfl | rfl | rfl | rfl | rfl
  . obtain ⟨q,h2,rfl⟩:=opt_map (show (rdN z).map qD=_ from h)
    obtain ⟨e,g⟩:=tq_rdN h2
    rw [<- e];exact .num g
  . obtain ⟨ns,h2,rfl⟩:=opt_map (show (rdR z spa 4).map tI=_ from h)
    obtain ⟨e,g1,g2,g3⟩:=tx_rdR h2
    rw [<- e];exact .four ⟨g2,g1,g3⟩
  . obtain ⟨ns,h2,rfl⟩:=opt_map (show (rdR z spa 3).map tI=_ from h)
    obtain ⟨e,g1,g2,g3⟩:=tx_rdR h2
    rw [<- e];exact .way ⟨g2,g1,g3⟩
  . obtain ⟨q,h2,rfl⟩:=opt_map (show (rdPt z).map pD3=_ from h)
    obtain ⟨e,g⟩:=tq_rdPt h2
    rw [<- e];exact .pt g
  . obtain ⟨q,h2,rfl⟩:=opt_map (show (rdTb z).map tD3=_ from h)
    obtain ⟨e,g⟩:=tq_rdTb h2
    rw [<- e];exact .tab g
  . obtain ⟨ns,h2,rfl⟩:=opt_map (show (rdR z col 2).map tI=_ from h)
    obtain ⟨e,g1,g2,g3⟩:=tx_rdR h2
    rw [<- e];exact .set ⟨g2,g1,g3⟩
theorem TxB.sm {k:Int} {d:Dat} {t:Str} (h:TxB k d t):SmD 4 d:=by
  have sq:∀ (n:Nat) (q:Int × Int),SmD (n + 2) (qD q):=fun n q=>SmD.ints (ns:=[q.1,q.2]) (show 2<=1000 by decide)
  have sp:∀ (n:Nat) (l:List (Int × Int)),GrF l->SmD (n + 3) (pD3 l):=fun n l h=>⟨by rw [List.length_map,h.1];decide,fun e he=>by
    obtain ⟨q,_,rfl⟩:=List.mem_map.mp he
    exact sq n q⟩
  have sr:∀ {N:Nat} {ns:List Int},RowB N ns->N<=1000->SmD 4 (tI ns):=fun h hn=>SmD.ints (n:=2) (by rw [h.2.1];exact hn)
  cases h with
  | num h=>exact sq 2 _
  | four h=>exact sr h (by decide)
  | way h=>exact sr h (by decide)
  | pt h=>exact sp 1 _ h
  | tab h=>exact ⟨by rw [List.length_map,h.1];decide,fun e he=>by
      obtain ⟨q,hq,rfl⟩:=List.mem_map.mp he
      exact sp 0 q (h.2 q hq)⟩
  | set h=>exact sr h (by decide)
theorem TxB.nl {k:Int} {d:Dat} {t:Str} (h:TxB k d t):noL d=true:=by
  cases h with
  | num h=>exact noL_tI'
  | four h=>exact noL_tI'
  | way h=>exact noL_tI'
  | pt h=>exact noL_pD3 _
  | tab h=>exact noL_tD3 _
  | set h=>exact noL_tI'
theorem jn_asc {sep:Str} {ps:List Str} {n:Nat} (hl:(jn sep ps).length<=n) (hs:∀ c ∈ sep.cps.toList,c < 128) (hp:∀ p ∈ ps,∀ c ∈ p.cps.toList,c < 128):Asc n (jn sep ps):=⟨hl,fun c hc=>by
  rcases jn_mem sep ps c hc with h | ⟨p,hp',h⟩
  . exact hs c h
  . exact hp p hp' c h⟩
theorem tx_asc1 (ns:List Int):∀ p ∈ ns.map txI,∀ c ∈ p.cps.toList,c < 128:=fun p hp c hc=>by
  obtain ⟨n,_,rfl⟩:=List.mem_map.mp hp
  exact itx_asc n c hc
theorem TxB.asc {k:Int} {d:Dat} {t:Str} (h:TxB k d t):Asc 30000 t:=by
  cases h with
  | num h=>exact ⟨Nat.le_trans (tqF_len h) (by decide),fun c hc=>by have:=tqF_ch _ c hc;omega⟩
  | four h=>exact jn_asc (Nat.le_trans (txRs_len h.1 (by rw [h.2.1];omega) (by decide)) (by decide)) (by decide) (tx_asc1 _)
  | way h=>exact jn_asc (Nat.le_trans (txRs_len h.1 (by rw [h.2.1];omega) (by decide)) (by decide)) (by decide) (tx_asc1 _)
  | pt h=>exact ⟨Nat.le_trans (tqP_len h.2 h.1) (by decide),fun c hc=>by have:=tqP_ch _ c hc;omega⟩
  | tab h =>
    refine ⟨Nat.le_trans (tqT_len h) (by decide),fun c hc=>?_⟩
    rcases jn_mem sem _ c hc with q | ⟨p,hp,q⟩
    . have:c=59\/c=32:=by simpa [sem] using q
      omega
    . obtain ⟨r,_,rfl⟩:=List.mem_map.mp hp
      have:=tqP_ch r c q
      omega
  | set h=>exact jn_asc (Nat.le_trans (txRs_len h.1 (by rw [h.2.1];omega) (by decide)) (by decide)) (by decide) (tx_asc1 _)
noncomputable def ThB (k:Int) (d:Dat):Prop:=∃ t,TxB k d t
noncomputable def RThB (n:Nat):List Dat->(Dat->Prop)->Prop:=fun ds C=>∃ kind most:Int,ds=[.int kind,.int most]/\0<=kind/\kind<=5/\nd kind<=n/\C=ThB kind
theorem RThB.zero {ds:List Dat} {C:Dat->Prop} (h:RThB 0 ds C):False:=by
  obtain ⟨k,m,_,_,_,h,_⟩:=h
  unfold nd at h
  split at h
  . omega
  . split at h <;> omega
noncomputable def RTxB (n:Nat):List Dat->Dat->Prop:=fun ds d=>∃ (kind:Int) (x:Dat) (t:Str),ds=[.int kind,x]/\nd kind<=n/\TxB kind x t/\d = .str t
theorem RTxB.zero {ds:List Dat} {d:Dat} (h:RTxB 0 ds d):False:=by
  obtain ⟨k,_,_,_,h,_⟩:=h
  unfold nd at h
  split at h
  . omega
  . split at h <;> omega
noncomputable def RShNb:List Dat->Dat->Prop:=fun ds d=>∃ q:Int × Int,ds=[qD q]/\Gq q/\d = .str (tqF q)
noncomputable def RShRb:List Dat->Dat->Prop:=fun ds d=>∃ ns:List Int,ds=[tI ns]/\(∀ n ∈ ns,Bg n)/\ns.length<=4/\d = .str (jn spa (ns.map txI))
noncomputable def RShPb:List Dat->Dat->Prop:=fun ds d=>∃ l:List (Int × Int),ds=[pD3 l]/\GrF l/\d = .str (tqP l)
noncomputable def RShTb:List Dat->Dat->Prop:=fun ds d=>∃ l:List (List (Int × Int)),ds=[tD3 l]/\GtF l/\d = .str (tqT l)
noncomputable def RShSb:List Dat->Dat->Prop:=fun ds d=>∃ k l:Int,ds=[tI [k,l]]/\Bg k/\Bg l/\d = .str (jn col [txI k,txI l])
noncomputable def RShownB:List Dat->Dat->Prop:=fun ds d=>∃ (kind:Int) (x:Dat) (t:Str),ds=[.int kind,x]/\TxB kind x t/\d = .str t
noncomputable def RRead:List Dat->Dat->Prop:=fun ds d=>∃ (k:Int) (z:Str),ds=[.int k,.str z]/\0<=k/\k<=5/\Asc MX z/\rdK k z=some d
noncomputable def BRead:List Dat->Prop:=fun ds=>∃ (k:Int) (z:Str),ds=[.int k,.str z]/\0<=k/\k<=5/\Asc MX z/\rdK k z=none
noncomputable def optD:Option Dat->Dat
  | some d=>d
  | none=>.none
noncomputable def RRof:List Dat->Dat->Prop:=fun ds d=>∃ (z y:Str) (m:Nat),ds=[.str z,.int m,.str y]/\m<=10/\Asc MX z/\(y.length == 0)=false/\d=optD ((rdR z y m).map tI)
noncomputable def RPof:List Dat->Dat->Prop:=fun ds d=>∃ z:Str,ds=[.str z]/\Asc MX z/\d=optD ((rdPt z).map pD3)
noncomputable def RDue47:List Dat->Dat->Prop:=fun ds d=>∃ (k:Int) (z:Str),ds=[.int k,.str z]/\0<=k/\k<=5/\Asc MX z/\d=optD (rdK k z)
noncomputable def RTold47:List Dat->(Dat->Prop)->Prop:=fun ds C=>∃ (k:Int) (z:Str),ds=[.int k,.str z]/\0<=k/\k<=5/\Asc MX z/\C=fun g=>(∃ d,rdK k z=some d/\g = .list [d,.none])\/(rdK k z=none/\g = .list [.none,.bytes cNX])
noncomputable def RGood47:List Dat->Dat->Prop:=fun ds d=>∃ (k:Int) (z:Str),ds=[.int k,.str z]/\0<=k/\k<=5/\Asc MX z/\d = .bool true
theorem optD_nl {k:Int} {z:Str} (k0:0<=k) (k5:k<=5):noL (optD (rdK k z))=true:=by
  cases h:rdK k z with
  | none=>rfl
  | some d=>exact (rdK_tx k0 k5 h).nl
end D
end
section
namespace D
open PySem L2 K0 Num PyProof.Rows
open PySem.W (Dat)
noncomputable def nzD:Dat->Bool
  | .int i => !decide (i=0)
  | _=>false
theorem nz_any {ns:List Int} (h:¬ ((((ns.map Dat.int).filter nzD).map id).length:Int)=0):(ns.any fun n => !decide (n=0))=true:=by
  cases q:(ns.any fun n => !decide (n=0)) with
  | true=>rfl
  | false =>
    exfalso
    refine h ?_
    have e:(ns.map Dat.int).filter nzD=[]:=List.filter_eq_nil_iff.mpr fun d hd=>by
      obtain ⟨n,hn,rfl⟩:=List.mem_map.mp hd
      have:=List.any_eq_false.mp q n hn
      exact this
    rw [e];rfl
theorem bg_set {ns:List Int} {i:Nat} (h:∀ n ∈ ns,Bg n):∀ n ∈ ns.set i 1,Bg n:=fun n hn=>by
  rcases List.mem_or_eq_of_mem_set hn with h1 | h1
  . exact h n h1
  . subst h1;exact (by decide +kernel:(1:Nat) < 10 ^ 1500)
theorem any_set {ns:List Int} {i:Nat} (h:i < ns.length):((ns.set i 1).any fun n => !decide (n=0))=true:=List.any_eq_true.mpr ⟨1,List.mem_of_getElem? (i:=i) (by rw [List.getElem?_set_self h]),rfl⟩
theorem thB0 {d:Dat} (h:ThB 0 d):∃ q,Gq q/\d=qD q:=by
  obtain ⟨t,h⟩:=h
  generalize hk:(0:Int)=k at h
  cases h with
  | num h=>exact ⟨_,h,rfl⟩
  | _=>cases hk
theorem thB3 {d:Dat} (h:ThB 3 d):∃ l,GrF l/\d=pD3 l:=by
  obtain ⟨t,h⟩:=h
  generalize hk:(3:Int)=k at h
  cases h with
  | pt h=>exact ⟨_,h,rfl⟩
  | _=>cases hk
theorem thB_at (d:Dat) (h:ThB 0 d):∃ ds e,d = .tuple ds/\atI ds 0=some e/\∃ i:Int,e = .int i/\Bg i:=by
  obtain ⟨q,g,rfl⟩:=thB0 h
  exact ⟨_,.int q.1,rfl,rfl,_,rfl,g.1⟩
theorem th0s {es:List Dat} (hl:es.length=3) (h:∀ e ∈ es,ThB 0 e):∃ l,GrF l/\Dat.tuple es=pD3 l:=by
  match es,hl with
  | [a,b,c],_ =>
    obtain ⟨x,hx,rfl⟩:=thB0 (h a (by simp))
    obtain ⟨y,hy,rfl⟩:=thB0 (h b (by simp))
    obtain ⟨z,hz,rfl⟩:=thB0 (h c (by simp))
    refine ⟨[x,y,z],⟨rfl,fun q hq=>?_⟩,rfl⟩
    simp only [List.mem_cons,List.mem_nil_iff,or_false] at hq
    rcases hq with rfl | rfl | rfl <;> assumption
theorem th3s {es:List Dat} (hl:es.length=3) (h:∀ e ∈ es,ThB 3 e):∃ l,GtF l/\Dat.tuple es=tD3 l:=by
  match es,hl with
  | [a,b,c],_ =>
    obtain ⟨x,hx,rfl⟩:=thB3 (h a (by simp))
    obtain ⟨y,hy,rfl⟩:=thB3 (h b (by simp))
    obtain ⟨z,hz,rfl⟩:=thB3 (h c (by simp))
    refine ⟨[x,y,z],⟨rfl,fun q hq=>?_⟩,rfl⟩
    simp only [List.mem_cons,List.mem_nil_iff,or_false] at hq
    rcases hq with rfl | rfl | rfl <;> assumption
theorem bt_num {t:Int} (h:t.natAbs<=10 ^ 30):Bt t 4890:=Nat.le_trans h (by decide +kernel)
noncomputable def TopB (k:Nat) (t:Int):Prop:=1<=t/\t < 2 * 10 ^ (30 * k)
theorem topB0:TopB 0 1:=⟨by decide,by decide⟩
theorem TopB.bt {k:Nat} {t:Int} (h:TopB k t) (hk:k<=49):Bt t 4890:=by
  obtain ⟨h0,h1⟩:=h
  have e:(10:Int) ^ (30 * k)<=10 ^ 1470:=by
    have:=Nat.pow_le_pow_right (n:=10) (by decide) (show 30 * k<=1470 by omega)
    exact_mod_cast this
  have e2:(2:Int) * 10 ^ 1470<=2 ^ 4890:=by decide +kernel
  unfold Bt
  have:t<=2 ^ 4890:=by omega
  have e3:((2 ^ 4890:Nat):Int)=2 ^ 4890:=by exact_mod_cast rfl
  omega
theorem TopB.mok {k:Nat} {t:Int} (h:TopB k t) (hk:k<=49):IntMulOk t (10 ^ 30):=(h.bt hk).mulOk (show Bt (10 ^ 30) 100 by unfold Bt;decide +kernel)
theorem TopB.next {k:Nat} {t r:Int} (h:TopB k t) (hr:0<=r/\r < 10 ^ 9):TopB (k + 1) (t * 10 ^ 30 + r):=by
  obtain ⟨h0,h1⟩:=h
  have e:(10:Int) ^ (30 * (k + 1))=10 ^ (30 * k) * 10 ^ 30:=by rw [Nat.mul_add,Int.pow_add]
  unfold TopB
  rw [e]
  generalize (10:Int) ^ (30 * k)=P at h1
  have e9:(10:Int) ^ 9=1000000000:=by decide
  have e30:(10:Int) ^ 30=1000000000000000000000000000000:=by decide
  rw [e9] at hr
  rw [e30]
  omega
theorem sgn_mok {t b:Int} (h:Bt t 4890) (hb:b ∈ [(1:Int), -1]):IntMulOk t b:=h.mulOk (show Bt b 100 by
  simp only [List.mem_cons,List.mem_nil_iff,or_false] at hb
  rcases hb with rfl | rfl <;> (unfold Bt;decide +kernel))
theorem sgn_bt {t b:Int} (h:Bt t 4890) (hb:b ∈ [(1:Int), -1]):Bt (t * b) 4890:=by
  simp only [List.mem_cons,List.mem_nil_iff,or_false] at hb
  unfold Bt at *
  rcases hb with rfl | rfl
  . rw [Int.mul_one];exact h
  . rw [Int.mul_neg,Int.mul_one,Int.natAbs_neg];exact h
theorem gq_of {t b:Int} (bt:Bt t 4890) (b0:0 < b) (b1:b<=10 ^ 30):Gq ((qv t b).num,((qv t b).den:Int)):=by
  have bb:Bt b 4890:=by
    unfold Bt
    have:b.natAbs<=10 ^ 30:=by omega
    exact Nat.le_trans this (by decide +kernel)
  have l:=lo_over b0 bb bt rfl
  exact ⟨Bg.bt (l.bt.up (by decide)),Bg.bt (l.bb.up (by decide)),l.pos,l.low⟩
end D
end
section
namespace D
open PySem L2 K0 Num PyProof.Rows
open PySem.W (Dat)
theorem optI_rd (s:Str):optI (whI s)=rdD whI Dat.int (.str s):=by
  show _=((whI s).map Dat.int).getD .none
  cases whI s <;> rfl
theorem optQ_rd (s:Str):optQ (rdN s)=rdD rdN qD (.str s):=by
  show _=((rdN s).map qD).getD .none
  cases rdN s <;> rfl
theorem optP_rd (s:Str):optD ((rdPt s).map pD3)=rdD rdPt pD3 (.str s):=by
  show _=((rdPt s).map pD3).getD .none
  cases rdPt s <;> rfl
section
variable {α:Type} {f:Str->Option α} {g:α->Dat}
theorem none_in (hg:∀ x,g x ≠ .none):∀ {ps:List Str},Dat.none ∈ (ps.map Dat.str).map (rdD f g) ↔ allO f ps=none
  | []=>by simp [allO]
  | p :: r => by
    have ih:=none_in hg (ps:=r)
    rw [List.map_cons,List.map_cons,List.mem_cons,ih]
    have e:rdD f g (.str p)=((f p).map g).getD .none:=rfl
    have e2:allO f (p :: r)=(match f p,allO f r with | some x,some l=>some (x :: l) | _,_=>none):=rfl
    rw [e,e2]
    cases hp:f p with
    | none=>simp
    | some x =>
      have:=hg x
      cases hr:allO f r with
      | none=>simp
      | some l=>simp only [reduceCtorEq,or_false,iff_false];exact fun z=>this z.symm
theorem isNone_in (hg:∀ x,g x ≠ .none) {ps:List Str}:(allO f ps).isNone=true ↔ Dat.none ∈ (ps.map Dat.str).map (rdD f g):=by
  rw [none_in hg]
  cases allO f ps <;> simp
theorem noLs_rd (hg:∀ x,noL (g x)=true):∀ ps:List Str,noLs ((ps.map Dat.str).map (rdD f g))=true
  | []=>by rw [List.map_nil,List.map_nil,noLs]
  | p :: r=>by
    rw [List.map_cons,List.map_cons,noLs,noLs_rd hg r]
    have e:rdD f g (.str p)=((f p).map g).getD .none:=rfl
    rw [e]
    cases f p with
    | none=>rfl
    | some x=>rw [show noL (((some x).map g).getD .none)=true from hg x];rfl
theorem kqd_rd (hg:∀ x,PySem.W.kqdOk 8 (g x)=true) {ps:List Str}:∀ e ∈ (ps.map Dat.str).map (rdD f g),PySem.W.kqdOk 8 e=true:=fun e he=>by
  obtain ⟨d,hd,rfl⟩:=List.mem_map.mp he
  obtain ⟨p,_,rfl⟩:=List.mem_map.mp hd
  show PySem.W.kqdOk 8 (((f p).map g).getD .none)=true
  cases f p with
  | none=>rfl
  | some x=>exact hg x
end
theorem kq_q (q:Int × Int):PySem.W.kqdOk 8 (qD q)=true:=rfl
theorem kq_p (l:List (Int × Int)):PySem.W.kqdOk 8 (pD3 l)=true:=by
  show (l.map qD).all (PySem.W.kqdOk 7)=true
  refine List.all_eq_true.mpr fun d hd=>?_
  obtain ⟨q,_,rfl⟩:=List.mem_map.mp hd
  rfl
theorem rep0 (m:Nat):(List.replicate ((m:Int)).toNat [Dat.int 0]).flatten=(List.replicate m (0:Int)).map Dat.int:=by
  rw [Int.toNat_natCast]
  induction m with
  | zero=>rfl
  | succ m ih=>rw [List.replicate_succ,List.flatten_cons,ih,List.replicate_succ,List.map_cons];rfl
theorem all0 {ns:List Int} {m:Nat} (hl:ns.length=m) (h:(ns.any fun n => !decide (n=0))=false):ns=List.replicate m 0:=by
  refine List.eq_replicate_iff.mpr ⟨hl,fun n hn=>?_⟩
  have:=List.any_eq_false.mp h n hn
  simpa using this
theorem not0 {ns:List Int} {m:Nat} (h:(ns.any fun n => !decide (n=0))=true):ns ≠ List.replicate m 0:=fun e=>by
  obtain ⟨n,hn,q⟩:=List.any_eq_true.mp h
  rw [e] at hn
  have:=(List.mem_replicate.mp hn).2
  subst this
  cases q
theorem map_int_inj {a b:List Int} (h:a.map Dat.int=b.map Dat.int):a=b:=by
  induction a generalizing b with
  | nil=>cases b with
    | nil=>rfl
    | cons x r=>cases h
  | cons x r ih =>
    cases b with
    | nil=>cases h
    | cons y r' =>
      rw [List.map_cons,List.map_cons] at h
      injection h with h1 h2
      injection h1 with h1
      rw [h1,ih h2]
theorem kq9_ints (ns:List Int):PySem.W.kqdOk 9 (.list (ns.map Dat.int))=true:=by
  show (ns.map Dat.int).all (PySem.W.kqdOk 8)=true
  refine List.all_eq_true.mpr fun d hd=>?_
  obtain ⟨q,_,rfl⟩:=List.mem_map.mp hd
  rfl
theorem rdR_len {z y:Str} {m:Nat} (h:(Txt.split z y).length ≠ m):rdR z y m=none:=if_neg h
theorem rdR_no {z y:Str} {m:Nat} (h:allO whI (Txt.split z y)=none):rdR z y m=none:=by
  unfold rdR
  split
  . rw [h];rfl
  . rfl
theorem rdR_yes {z y:Str} {m:Nat} {ns:List Int} (hl:(Txt.split z y).length=m) (h:allO whI (Txt.split z y)=some ns):rdR z y m=if (ns.any fun n => !decide (n=0))=true then some ns else none:=by
  unfold rdR
  rw [if_pos hl,h];rfl
theorem rd3_len {α:Type} {f:Str->Option α} {z y:Str} (h:(Txt.split z y).length ≠ 3):rd3 f y z=none:=if_neg h
theorem rd3_no {α:Type} {f:Str->Option α} {z y:Str} (h:allO f (Txt.split z y)=none):rd3 f y z=none:=by
  unfold rd3
  split
  . exact h
  . rfl
theorem rd3_yes {α:Type} {f:Str->Option α} {z y:Str} {l:List α} (hl:(Txt.split z y).length=3) (h:allO f (Txt.split z y)=some l):rd3 f y z=some l:=by
  unfold rd3
  rw [if_pos hl];exact h
theorem opt_none {α β:Type} {o:Option α} {f:α->β} (h:o.map f=none):o=none:=by
  cases o with
  | none=>rfl
  | some x=>cases h
theorem optQ_K (z:Str):optQ (rdN z)=optD (rdK 0 z):=by
  show _=optD ((rdN z).map qD)
  cases rdN z <;> rfl
theorem flat_optD {k:Int} {z:Str} (k0:0<=k) (k5:k<=5):flatDs [.dat (.int k),.dat (.str z),.dat (optD (rdK k z)),.un,.un]=true:=by rfl
end D
end
section
namespace D
open PySem L2 K0 Num PyProof.Rows
open PySem.W (Dat)
section
variable {p:Option Addr} {K:PySem.W.Frag} {τ:List Sl} {tas:TA} {ds:List Dat} {E':XK}
theorem E1.callXL {R:List Dat->(Dat->Prop)->Prop} {C:Dat->Prop} {C':Dat->Prop} {ss:List Sl} {i:Int} (ha:A1 p K tas τ ss) (hr:R ds C) (hC:∀ d,C d->∃ es e,d = .list es/\atI es i=some e/\noL e=true/\C' e) (hd:datsOf ss=some ds:=by rfl):E p K (tOp (rIxL K) (tCall (spX K R) [] E' tas) (tC (.int i))) τ (fun s=>∃ d,s = .dat d/\C' d):=fun W L σ H Q rs o q =>
  ha W L σ H _ rs o fun vs H1 ss e e1 o1 rv=>by
    subst e
    show spX K R (vs ++ []) H1 _ E'
    rw [List.append_nil]
    refine ⟨ds,C,rv.dz hd,hr,fun v H' d c s z=>?_⟩
    obtain ⟨es,e,rfl,he,nl,c'⟩:=hC d c
    cases z with
    | lst h1 h2 =>
      obtain ⟨x,e2,z2⟩:=atI_dz h2 he
      exact ⟨_,_,i,x,rfl,rfl,h1.sq,e2,q x H' _ ⟨e,rfl,c'⟩ (e1.trans (Ev.of s)) (o1.same s) (z2.free nl)⟩
end
noncomputable def RAny48:List Dat->(Dat->Prop)->Prop:=fun ds C=>ds=[]/\C=fun d=>∃ z,d = .str z/\Asc 25 z
noncomputable def RHold48:List Dat->Dat->Prop:=fun ds d=>∃ z:Str,ds=[.str z]/\Asc MX z/\d = .bool true
end D
end
section
namespace K48
open PySem L2 Num K0 D
open PySem.W (Dat)
noncomputable def top (i:Nat):Stmt:=PySem.Challenge.pw_hangrings_k48_whole_texts.main.body.getD i (.Pass ⟨0,0,0,0⟩)
noncomputable abbrev sCD:Stmt:=top 14
noncomputable abbrev sShRb:Stmt:=top 18
noncomputable abbrev sShNb:Stmt:=top 19
noncomputable abbrev sShFb:Stmt:=top 20
noncomputable abbrev sShWb:Stmt:=top 21
noncomputable abbrev sShPb:Stmt:=top 22
noncomputable abbrev sShTb:Stmt:=top 23
noncomputable abbrev sShSb:Stmt:=top 24
noncomputable abbrev sIsWT:Stmt:=top 25
noncomputable abbrev sRdWB:Stmt:=top 26
noncomputable abbrev sPartsB:Stmt:=top 27
noncomputable abbrev sRdNB:Stmt:=top 28
noncomputable abbrev sRdRB:Stmt:=top 29
noncomputable abbrev sRdFB:Stmt:=top 30
noncomputable abbrev sRdWyB:Stmt:=top 31
noncomputable abbrev sRdPB:Stmt:=top 32
noncomputable abbrev sRdTB:Stmt:=top 33
noncomputable abbrev sRdSB:Stmt:=top 34
noncomputable abbrev sPurse90:Stmt:=top 36
noncomputable abbrev sTake:Stmt:=top 37
noncomputable abbrev sNumber2:Stmt:=top 38
noncomputable abbrev sDiv2:Stmt:=top 39
noncomputable abbrev sLowest:Stmt:=top 40
noncomputable abbrev sWhole:Stmt:=top 42
noncomputable abbrev sDSame2:Stmt:=top 43
noncomputable abbrev sThingB:Stmt:=top 44
noncomputable abbrev sWrittenB:Stmt:=top 45
noncomputable abbrev sShownB:Stmt:=top 46
noncomputable abbrev sRead47B:Stmt:=top 47
noncomputable abbrev sLWof:Stmt:=top 48
noncomputable abbrev sLFof:Stmt:=top 49
noncomputable abbrev sLRof:Stmt:=top 50
noncomputable abbrev sLPof:Stmt:=top 51
noncomputable abbrev sLDue47:Stmt:=top 52
noncomputable abbrev sLWhichX:Stmt:=top 53
noncomputable abbrev sLTold47:Stmt:=top 54
noncomputable abbrev sLGood47:Stmt:=top 55
noncomputable abbrev sLBent46:Stmt:=top 56
noncomputable abbrev sLAny48:Stmt:=top 57
noncomputable abbrev sLHold48:Stmt:=top 58
noncomputable abbrev sLaw:Stmt:=top 59
noncomputable abbrev sRdW:Stmt:=top 26
noncomputable abbrev sParts:Stmt:=top 27
noncomputable abbrev sRdN:Stmt:=top 28
noncomputable abbrev sRdR:Stmt:=top 29
noncomputable abbrev sRdF:Stmt:=top 30
noncomputable abbrev sRdWy:Stmt:=top 31
noncomputable abbrev sRdP:Stmt:=top 32
noncomputable abbrev sRdT:Stmt:=top 33
noncomputable abbrev sRdS:Stmt:=top 34
noncomputable abbrev sRead47:Stmt:=top 47
local macro_rules | `(tactic| walk_at "bt") => `(tactic| (repeat' (first | assumption | exact bt2 | apply Bt.mul | apply Bt.add' | apply Bt.sub' | apply Bt.neg' | exact bd_lit (k := 64) (by decide))))
local macro_rules | `(tactic| walk_at "au3") => `(tactic| (repeat' (first | exact E1.var rfl | exact E1.varP rfl | exact E1.int | exact E1.bl | exact E1.non | exact E1.str | exact A1.nil | exact O1.none | exact E1.ty | exact T1.all | exact E1.varO rfl | exact E1.varL rfl | apply A1.cons | apply E1.add | apply E1.sub | apply E1.mul | apply E1.neg | apply E1.pow | apply E1.ixT | apply E1.tu | apply E1.li | apply E1.sl1 | apply O1.some | apply T1.test | apply T1.val | apply T1.not | apply T1.and1 | apply T1.or1 | apply E1.eq | apply E1.ne | apply E1.lt | apply E1.le | apply E1.gt | apply E1.ge | apply E1.cSop | apply E1.tupleL | apply E1.su | apply E1.vwo | apply E1.comp3 | apply Wk.r3 | apply Wk.tup | rfl | exact lsz (n := 2) rfl z2 | exact lsz (n := 3) rfl z3 | exact lsz (n := 4) rfl z4 | exact lsz (n := 1) rfl z1 | exact lsz (n := 0) rfl z0 | exact cpow10 (by decide) (by decide) | exact Bt.mulOk (x := _) (y := _) (by walk_at "bt") (by walk_at "bt") (by decide) (by decide))))
section
variable {P:Program} {w:World} {K:PySem.W.Frag} {mg:Str->Option Value} {base:Heap} {dFIGURES dMOST_FIGURES:Value} {C cTurnError cNoTurn cNoHanger cTooMany cNoJoint cNoReach cNoDeed cNoName cNoMark cNoText cNoLine cNoKept j2:Addr} {f g g2 g3 g4 g5 g6 g7 g8 g9 g10:Addr} {fd gd gd2 gd3 gd4 gd5 gd6 gd7 gd8 gd9 gd10:FuncData}
theorem scCD:FnScope ["numbers","divisor","number","other","left"] ["numbers"] (defScope sCD):=⟨rfl,rfl,rfl,by decide +kernel,rfl,by decide +kernel,by decide +kernel⟩
theorem ok_cd (F:Fun K "common_divisor" "common_divisor" sCD f fd) (ma:mg "abs" = none):FnOk P w K mg base CX0 1 f fd ["numbers"] (spCD K):=by
  refine F.okZ scCD (fun vs H Q E h=>?_) (fun cdv A outer s H vs Q E hr h=>?_)
  . obtain ⟨a,ns,rfl,_⟩:=h;rfl
  obtain ⟨a,ns,rfl,hS,q⟩:=h
  refine ⟨_,zss_cons (zs_set (i:=1) scCD.nd rfl (Or.inl rfl) ze_int) (zss_cons (zs_for PassesOwn.never rfl (zi_tup (zv 0)) (zg_name (i:=2) scCD.nd rfl (Or.inl rfl))
      (zss_cons (zs_set (i:=3) scCD.nd rfl (Or.inl rfl) (ze_callB call_abs rfl ma (by rfl) (za_cons (zv 2) za_nil)))
        (zss_one (zs_while PassesOwn.never (zt_cmpR op_ne (zv 3) ze_int (nomark _)) (zss_cons (zs_set (i:=4) scCD.nd rfl (Or.inl rfl) (ze_op op_mod (zv 1) (zv 3)))
          (zss_cons (zs_set (i:=1) scCD.nd rfl (Or.inl rfl) (zv 3)) (zss_one (zs_set (i:=3) scCD.nd rfl (Or.inl rfl) (zv 4)))))))))
      (zss_one (zs_ret (zv 1)))),?_⟩
  refine ⟨_,rfl,a,rfl,⟨_,hS⟩,for_tup (xs:=ns.map V.int) (fun i σ H'=>H=H'/\∃ nn o l,σ=[some (.ref a),some (.int (gcdN (ns.take i))),nn,o,l])
    ⟨rfl,_,_,_,rfl⟩ (fun i σ H' _ h=>h.1 ▸ hS) (fun i x σ H' hx h=>?_) (fun σ H' h=>?_)⟩
  . obtain ⟨rfl,nn,o,l,rfl⟩:=h
    rw [List.getElem?_map] at hx
    cases hn:ns[i]? with
    | none=>rw [hn] at hx;cases hx
    | some n =>
      rw [hn] at hx
      cases hx
      refine ⟨_,rfl,n,rfl,?_⟩
      have tk:ns.take (i + 1)=ns.take i ++ [n]:=by rw [List.take_add_one,hn];rfl
      refine while_by (fun σ H'=>H=H'/\∃ (d o:Int) (l:Option V),0<=d/\0<=o/\Nat.gcd d.toNat o.toNat=gcdN (ns.take (i + 1))/\σ=[some (.ref a),some (.int d),some (.int n),some (.int o),l])
        (fun σ _=>match σ with | [_,_,_,some (.int o),_]=>o.toNat | _=>0) ⟨rfl,_,_,_,by omega,by split <;> omega,?_,rfl⟩ (fun σ H' h=>?_) (fun σ H Q Q' hq h=>?_)
      . rw [tk,gcdN_snoc]
        congr 1
        split <;> omega
      . obtain ⟨rfl,d,o,l,hd,ho,hg,rfl⟩:=h
        refine ⟨_,rfl,rfl,_,rfl,?_⟩
        refine ite2 (fun c=>?_) (fun c=>?_)
        . have hne:o ≠ 0:=by
            intro z;subst z;exact absurd c (by decide)
          refine ⟨_,rfl,_,rfl,_,_,rfl,rfl,by omega,_,rfl,_,rfl,⟨rfl,_,_,_,ho,Int.emod_nonneg _ hne,?_,rfl⟩,?_⟩
          . rw [<- hg];exact gcd_step hd (by omega)
          . show (d % o).toNat < o.toNat
            have:=Int.emod_lt_of_pos d (show 0 < o by omega)
            have:=Int.emod_nonneg d hne
            omega
        . have h0:o=0:=by
            by_cases z:o=0
            . exact z
            . exact absurd (by show (!decide (V.int o=V.int 0))=true;rw [decide_eq_false (fun e=>z (by injection e))];rfl) c
          subst h0
          refine ⟨rfl,some (.int n),some (.int 0),l,?_⟩
          have e:(d.toNat:Int)=d:=by omega
          rw [<- hg]
          simp only [Int.toNat_zero,Nat.gcd_zero_right,e]
      . obtain ⟨v,e1,e2,b,e3,q⟩:=h
        exact ⟨v,e1,e2,b,e3,hq _ _ q⟩
  . obtain ⟨rfl,nn,o,l,rfl⟩:=h
    rw [List.length_map,List.take_length]
    exact ⟨_,rfl,q⟩
theorem scShRb:FnScope ["numbers"] ["numbers"] (defScope sShRb):=⟨rfl,rfl,rfl,by decide +kernel,rfl,by decide +kernel,by decide +kernel⟩
theorem ok_shrb (F:Fun K "show_row" "show_row" sShRb f fd) (dig:L2.DigN K) (m_str:mg "str" = none) :
    FnOk P w K mg base CX0 1 f fd ["numbers"] (spP K RShRb):=by
  refine okP F scShRb (fun ds d h=>?_) (fun cdv A0 outer s0 H0 E0 hr=>?_)
  . obtain ⟨ns,rfl,_⟩:=h;rfl
  refine ⟨_,(zss_one (zs_ret (ze_join ze_str (ze_comp (own:=["number"]) scShRb rfl ⟨by decide +kernel,rfl,by decide +kernel,by decide +kernel,by decide +kernel,by decide +kernel,by decide +kernel,by decide +kernel,by decide +kernel⟩ (zi_tup (zv 0)) (fun C fp s H nd=>zg_name (i:=0) nd rfl (Or.inl rfl)) (fun C fp s H=>zts_nil) (fun C fp s H=>(ze_callTy (call_strL rfl dig) rfl m_str (by rfl) (za_n (zv 0) za_nil))))))),fun ds d h=>?_⟩
  obtain ⟨ns,rfl,bg,l4,rfl⟩:=h
  exact S.ret1 (s:=.dat (.str (jn spa (ns.map txI)))) (E1.join (ys:=ns.map txI) (E1.str (x:=spa)) (E1.to (E1.compM (ds:=ns.map .int) (f:=fun d=>match d with | .int i=>.str (txI i) | d=>d) (Wk.tup (E1.var rfl)) (fun d hd=>by
    obtain ⟨n,hn,rfl⟩:=List.mem_map.mp hd
    exact (E1.strL (A1.cons (E1.var rfl) A1.nil) (bg n hn).str)) (by rw [List.length_map];exact Nat.le_trans l4 z4)) (by rw [List.map_map,List.map_map];rfl)) (Nat.le_trans (txR_okB bg l4 (by decide)) (by decide))) ⟨rfl,rfl⟩
theorem scShNb:FnScope ["fraction"] ["fraction"] (defScope sShNb):=⟨rfl,rfl,rfl,by decide +kernel,rfl,by decide +kernel,by decide +kernel⟩
theorem ok_shnb (F:Fun K "show_number" "show_number" sShNb f fd) (dig:L2.DigN K) (m_str:mg "str" = none) :
    FnOk P w K mg base CX0 1 f fd ["fraction"] (spP K RShNb):=by
  refine okP F scShNb (fun ds d h=>?_) (fun cdv A0 outer s0 H0 E0 hr=>?_)
  . obtain ⟨q,rfl,_⟩:=h;rfl
  refine ⟨_,(zss_cons (zs_if (zt_cmpR op_eq (ze_ix ix_tup (zv 0) ze_int (fun _ _=>rfl)) ze_int (nomark _)) (zss_one (zs_ret (ze_callTy (call_strL rfl dig) rfl m_str (by rfl) (za_s (ze_ix ix_tup (zv 0) ze_int (fun _ _=>rfl)) za_nil)))) zss_nil)
    (zss_one (zs_ret (ze_op op_add_str (ze_op op_add_str (ze_callTy (call_strL rfl dig) rfl m_str (by rfl) (za_s (ze_ix ix_tup (zv 0) ze_int (fun _ _=>rfl)) za_nil)) ze_str) (ze_callTy (call_strL rfl dig) rfl m_str (by rfl) (za_s (ze_ix ix_tup (zv 0) ze_int (fun _ _=>rfl)) za_nil)))))),fun ds d h=>?_⟩
  obtain ⟨q,rfl,hq,rfl⟩:=h
  have l1:=txI_big hq.1
  have l2:=txI_big hq.2.1
  by_cases h1:q.2=1
  . refine S.ifs (b:=true) ((T1.test (E1.eq (E1.ixT (E1.var rfl) E1.int rfl) E1.int)).eqn (decide_eq_true h1)) (fun _=>?_) (fun z=>by cases z)
    have e:tqF q=txI q.1:=by unfold tqF;rw [if_pos h1]
    rw [e]
    exact S.ret1 (s:=.dat (.str (txI q.1))) (E1.strL (A1.cons (E1.ixT (E1.var rfl) E1.int rfl) A1.nil) hq.1.str) ⟨rfl,rfl⟩
  . refine S.ifsF ((T1.test (E1.eq (E1.ixT (E1.var rfl) E1.int rfl) E1.int)).eqn (decide_eq_false h1)) ?_
    have e:tqF q=txI q.1 ++ sla ++ txI q.2:=by unfold tqF;rw [if_neg h1]
    rw [e]
    have e1:sla.length=1:=rfl
    have sl:=sline
    exact S.ret1 (s:=.dat (.str (txI q.1 ++ sla ++ txI q.2))) (E1.addS (E1.addS (E1.strL (A1.cons (E1.ixT (E1.var rfl) E1.int rfl) A1.nil) hq.1.str) (E1.str (x:=sla)) (by omega)) (E1.strL (A1.cons (E1.ixT (E1.var rfl) E1.int rfl) A1.nil) hq.2.1.str) (by rw [len_app];omega)) ⟨rfl,rfl⟩
theorem scShFb:FnScope ["four"] ["four"] (defScope sShFb):=⟨rfl,rfl,rfl,by decide +kernel,rfl,by decide +kernel,by decide +kernel⟩
theorem ok_shfb (F:Fun K "show_four" "show_four" sShFb f fd)
    (G:FnOk P w K mg base CX0 1 g gd ["numbers"] (spP K RShRb)) (bG:Binds K gd ["numbers"] []) (kG:PySem.W.keepIn K (.ref g)=true) (mG:mg "show_row" = some (.ref g)) :
    FnOk P w K mg base CX0 2 f fd ["four"] (spP K RShRb):=by
  refine okP F scShFb (fun ds d h=>?_) (fun cdv A0 outer s0 H0 E0 hr=>?_)
  . obtain ⟨ns,rfl,_⟩:=h;rfl
  have r:=hr.mono (show 1<=1 by decide)
  refine ⟨_,(zss_one (zs_ret (ze_call G r rfl mG kG bG .nil pass0 (za_n (zv 0) za_nil)))),fun ds d h=>?_⟩
  obtain ⟨ns,rfl,bg,l4,rfl⟩:=h
  exact S.ret1 (s:=.dat (.str (jn spa (ns.map txI)))) (E1.call (R:=RShRb) (A1.cons (E1.var rfl) A1.nil) ⟨ns,rfl,bg,l4,rfl⟩) ⟨rfl,rfl⟩
theorem scShWb:FnScope ["way"] ["way"] (defScope sShWb):=⟨rfl,rfl,rfl,by decide +kernel,rfl,by decide +kernel,by decide +kernel⟩
theorem ok_shwb (F:Fun K "show_way" "show_way" sShWb f fd)
    (G:FnOk P w K mg base CX0 1 g gd ["numbers"] (spP K RShRb)) (bG:Binds K gd ["numbers"] []) (kG:PySem.W.keepIn K (.ref g)=true) (mG:mg "show_row" = some (.ref g)) :
    FnOk P w K mg base CX0 2 f fd ["way"] (spP K RShRb):=by
  refine okP F scShWb (fun ds d h=>?_) (fun cdv A0 outer s0 H0 E0 hr=>?_)
  . obtain ⟨ns,rfl,_⟩:=h;rfl
  have r:=hr.mono (show 1<=1 by decide)
  refine ⟨_,(zss_one (zs_ret (ze_call G r rfl mG kG bG .nil pass0 (za_n (zv 0) za_nil)))),fun ds d h=>?_⟩
  obtain ⟨ns,rfl,bg,l4,rfl⟩:=h
  exact S.ret1 (s:=.dat (.str (jn spa (ns.map txI)))) (E1.call (R:=RShRb) (A1.cons (E1.var rfl) A1.nil) ⟨ns,rfl,bg,l4,rfl⟩) ⟨rfl,rfl⟩
theorem scShPb:FnScope ["point"] ["point"] (defScope sShPb):=⟨rfl,rfl,rfl,by decide +kernel,rfl,by decide +kernel,by decide +kernel⟩
theorem ok_shpb (F:Fun K "show_point" "show_point" sShPb f fd)
    (G:FnOk P w K mg base CX0 1 g gd ["fraction"] (spP K RShNb)) (bG:Binds K gd ["fraction"] []) (kG:PySem.W.keepIn K (.ref g)=true) (mG:mg "show_number" = some (.ref g)) :
    FnOk P w K mg base CX0 2 f fd ["point"] (spP K RShPb):=by
  refine okP F scShPb (fun ds d h=>?_) (fun cdv A0 outer s0 H0 E0 hr=>?_)
  . obtain ⟨l,rfl,_⟩:=h;rfl
  have r:=hr.mono (show 1<=1 by decide)
  refine ⟨_,(zss_one (zs_ret (ze_join ze_str (ze_comp (own:=["fraction"]) scShPb rfl ⟨by decide +kernel,rfl,by decide +kernel,by decide +kernel,by decide +kernel,by decide +kernel,by decide +kernel,by decide +kernel,by decide +kernel⟩ (zi_tup (zv 0)) (fun C fp s H nd=>zg_name (i:=0) nd rfl (Or.inl rfl)) (fun C fp s H=>zts_nil) (fun C fp s H=>(ze_call G r rfl mG kG bG .nil pass0 (za_n (zv 0) za_nil))))))),fun ds d h=>?_⟩
  obtain ⟨l,rfl,hl,rfl⟩:=h
  exact S.ret1 (s:=.dat (.str (tqP l))) (E1.join (ys:=l.map tqF) (E1.str (x:=spa)) (E1.to (E1.compX (no:=1) (l.map fun q=>.str (tqF q)) (Wk.tup (ds:=l.map qD) (E1.var rfl)) (fun d=>[.dat d]) (fun d _=>Gc.name) (by rw [List.length_map,List.length_map]) (fun i d f e1 e2=>by
    rw [List.getElem?_map] at e1 e2
    cases hq:l[i]? with
    | none=>rw [hq] at e1;cases e1
    | some q =>
      rw [hq] at e1 e2
      cases e1;cases e2
      exact E1.call (R:=RShNb) (A1.cons (E1.var rfl) A1.nil) ⟨q,rfl,hl.2 q (List.mem_of_getElem? hq),rfl⟩) (by rw [List.length_map,hl.1];exact z3)) (by rw [List.map_map];rfl)) (Nat.le_trans (tqP_ok hl.2 hl.1) (by decide))) ⟨rfl,rfl⟩
theorem scShTb:FnScope ["table"] ["table"] (defScope sShTb):=⟨rfl,rfl,rfl,by decide +kernel,rfl,by decide +kernel,by decide +kernel⟩
theorem ok_shtb (F:Fun K "show_table" "show_table" sShTb f fd)
    (G:FnOk P w K mg base CX0 2 g gd ["point"] (spP K RShPb)) (bG:Binds K gd ["point"] []) (kG:PySem.W.keepIn K (.ref g)=true) (mG:mg "show_point" = some (.ref g)) :
    FnOk P w K mg base CX0 3 f fd ["table"] (spP K RShTb):=by
  refine okP F scShTb (fun ds d h=>?_) (fun cdv A0 outer s0 H0 E0 hr=>?_)
  . obtain ⟨l,rfl,_⟩:=h;rfl
  have r:=hr.mono (show 2<=2 by decide)
  refine ⟨_,(zss_one (zs_ret (ze_join ze_str (ze_comp (own:=["row"]) scShTb rfl ⟨by decide +kernel,rfl,by decide +kernel,by decide +kernel,by decide +kernel,by decide +kernel,by decide +kernel,by decide +kernel,by decide +kernel⟩ (zi_tup (zv 0)) (fun C fp s H nd=>zg_name (i:=0) nd rfl (Or.inl rfl)) (fun C fp s H=>zts_nil) (fun C fp s H=>(ze_call G r rfl mG kG bG .nil pass0 (za_n (zv 0) za_nil))))))),fun ds d h=>?_⟩
  obtain ⟨l,rfl,hl,rfl⟩:=h
  exact S.ret1 (s:=.dat (.str (tqT l))) (E1.join (ys:=l.map tqP) (E1.str (x:=sem)) (E1.to (E1.compX (no:=1) (l.map fun q=>.str (tqP q)) (Wk.tup (ds:=l.map pD3) (E1.var rfl)) (fun d=>[.dat d]) (fun d _=>Gc.name) (by rw [List.length_map,List.length_map]) (fun i d f e1 e2=>by
    rw [List.getElem?_map] at e1 e2
    cases hq:l[i]? with
    | none=>rw [hq] at e1;cases e1
    | some q =>
      rw [hq] at e1 e2
      cases e1;cases e2
      exact E1.call (R:=RShPb) (A1.cons (E1.var rfl) A1.nil) ⟨q,rfl,hl.2 q (List.mem_of_getElem? hq),rfl⟩) (by rw [List.length_map,hl.1];exact z3)) (by rw [List.map_map];rfl)) (Nat.le_trans (tqT_ok hl) (by decide))) ⟨rfl,rfl⟩
theorem scShSb:FnScope ["setting"] ["setting"] (defScope sShSb):=⟨rfl,rfl,rfl,by decide +kernel,rfl,by decide +kernel,by decide +kernel⟩
theorem ok_shsb (F:Fun K "show_setting" "show_setting" sShSb f fd) (dig:L2.DigN K) (m_str:mg "str" = none) :
    FnOk P w K mg base CX0 1 f fd ["setting"] (spP K RShSb):=by
  refine okP F scShSb (fun ds d h=>?_) (fun cdv A0 outer s0 H0 E0 hr=>?_)
  . obtain ⟨k,l,rfl,_⟩:=h;rfl
  refine ⟨_,(zss_one (zs_ret (ze_op op_add_str (ze_op op_add_str (ze_callTy (call_strL rfl dig) rfl m_str (by rfl) (za_s (ze_ix ix_tup (zv 0) ze_int (fun _ _=>rfl)) za_nil)) ze_str) (ze_callTy (call_strL rfl dig) rfl m_str (by rfl) (za_s (ze_ix ix_tup (zv 0) ze_int (fun _ _=>rfl)) za_nil))))),fun ds d h=>?_⟩
  obtain ⟨k,l,rfl,bk,bl,rfl⟩:=h
  have l1:=txI_big bk
  have l2:=txI_big bl
  have e1:col.length=1:=rfl
  have sl:=sline
  exact S.ret1 (s:=.dat (.str (txI k ++ col ++ txI l))) (E1.addS (E1.addS (E1.strL (A1.cons (E1.ixT (E1.var rfl) E1.int rfl) A1.nil) bk.str) (E1.str (x:=col)) (by omega)) (E1.strL (A1.cons (E1.ixT (E1.var rfl) E1.int rfl) A1.nil) bl.str) (by rw [len_app];omega)) ⟨rfl,rfl⟩
theorem scIsWT:FnScope ["text","figures"] ["text"] (defScope sIsWT):=⟨rfl,rfl,rfl,by decide +kernel,rfl,by decide +kernel,by decide +kernel⟩
theorem ok_iswt (F:Fun K "is_whole_text" "is_whole_text" sIsWT f fd) (m_len:mg "len" = none) (m_all:mg "all" = none) (m_MOST_FIGURES:mg "MOST_FIGURES" = some dMOST_FIGURES) (t_MOST_FIGURES:IntT 1500 dMOST_FIGURES) (m_FIGURES:mg "FIGURES" = some dFIGURES) (t_FIGURES:StrT figS dFIGURES) :
    FnOk P w K mg base CX0 1 f fd ["text"] (spP K RIsWT):=by
  refine okP F scIsWT (fun ds d h=>?_) (fun cdv A0 outer s0 H0 E0 hr=>?_)
  . obtain ⟨z,rfl,_⟩:=h;rfl
  refine ⟨_,(zss_cons (zs_set (i:=1) scIsWT.nd rfl (Or.inl rfl) (ze_ifx (zt_val (ze_starts (zv 0) ze_str)) (ze_slice sl_str (zv 0) (zo_some ze_int) zo_none) (zv 0)))
    (zss_cons (zs_if (ZW.pt (zw_or (zt_cmpR op_eq (ze_callB call_len_str rfl m_len PySem.boot_len (za_n (zv 1) za_nil)) ze_int (nomark _)) (zw_or1 (zt_cmpR op_gt (ze_callB call_len_str rfl m_len PySem.boot_len (za_n (zv 1) za_nil)) (ze_globI rfl m_MOST_FIGURES t_MOST_FIGURES) (nomark _))))) (zss_one (zs_ret ze_bl)) zss_nil)
    (zss_cons (zs_if (zt_not (zt_val (ze_callB (call_allL rfl) rfl m_all (by rfl) (za_cons (ze_comp (own:=["sign"]) scIsWT rfl ⟨by decide +kernel,rfl,by decide +kernel,by decide +kernel,by decide +kernel,by decide +kernel,by decide +kernel,by decide +kernel,by decide +kernel⟩ (zi_str (zv 1)) (fun C fp s H nd=>zg_name (i:=0) nd rfl (Or.inl rfl)) (fun C fp s H=>zts_nil) (fun C fp s H=>(ze_cmpR op_in_str (zv 0) (ze_globS rfl m_FIGURES t_FIGURES) (by with_unfolding_all rfl)))) za_nil)))) (zss_one (zs_ret ze_bl)) zss_nil)
    (zss_one (zs_ret (ze_or (ze_cmpR op_ne (ze_ix ix_str (zv 1) ze_int (fun _ _=>rfl)) ze_str (nomark _)) (ze_one (ze_cmpR op_eq (zv 0) ze_str (nomark _))))))))),fun ds d h=>?_⟩
  obtain ⟨z,rfl,az,rfl⟩:=h
  have bz:=bareS_asc az
  have eb:=bareS_eq z
  have lb:(bareS z).length=(bareC z.cps.toList).length:=by rw [str_len,eb]
  have e45:("-" : Str)=⟨#[45]⟩:=by decide +kernel
  have e48:("0" : Str)=⟨#[48]⟩:=by decide +kernel
  refine S.let1 (s:=.dat (.str (bareS z))) ?_ ?_
  . by_cases h:z.cps.toList.head?=some 45
    . have e:bareS z=Txt.slice z (some ((1:Nat):Int)) none:=by unfold bareS;rw [if_pos h]
      rw [e]
      exact E1.ifT ((T1.val (E1.starts (y := "-") (E1.var rfl) E1.str)).eqn (by rw [e45,starts_one,decide_eq_true h])) (E1.slS (E1.var rfl) (O1.some E1.int) O1.none (az.sz mx_le))
    . have e:bareS z=z:=by unfold bareS;rw [if_neg h]
      rw [e]
      exact E1.ifF ((T1.val (E1.starts (y := "-") (E1.var rfl) E1.str)).eqn (by rw [e45,starts_one,decide_eq_false h])) (E1.var rfl)
  refine S.ifs (T1.or1 (T1.test (E1.eq (E1.lenS (A1.cons (E1.var rfl) A1.nil) (bz.sz mx_le)) E1.int)) (T1.test (E1.gt (E1.lenS (A1.cons (E1.var rfl) A1.nil) (bz.sz mx_le)) E1.int))) (fun hb=>?_) (fun hb=>?_)
  . refine S.ret1 (s:=.dat (.bool false)) E1.bl ⟨?_,rfl⟩
    rw [Bool.or_eq_true,decide_eq_true_eq,decide_eq_true_eq,lb] at hb
    rcases hb with hb | hb
    . rw [wholeB_0 (by omega)]
    . rw [wholeB_1 (by omega)]
  rw [Bool.or_eq_false_iff,decide_eq_false_iff_not,decide_eq_false_iff_not,lb] at hb
  have h0:(bareC z.cps.toList).length ≠ 0:=by omega
  have h1:(bareC z.cps.toList).length<=1500:=by omega
  refine S.ifs (T1.not (T1.val (E1.allL (bs:=(bareS z).cps.toList.map fun c=>decide (48<=c/\c<=57)) (E1.to (E1.compM (ds:=lets (bareS z)) (f:=inFig) (Wk.str (E1.var rfl) bz.allS) (fun d hd=>?_) (by rw [lets_len];exact (bz.sz mx_le))) (by rw [lets_fig]))))) (fun hb=>?_) (fun hb=>?_)
  . obtain ⟨i,hi⟩:=List.getElem?_of_mem hd
    obtain ⟨c,rfl,_⟩:=lets_get hi
    exact E1.to (E1.inS (E1.var rfl) (E1.cS (z:=figS))) (by rw [inFig_one])
  . refine S.ret1 (s:=.dat (.bool false)) E1.bl ⟨?_,rfl⟩
    rw [all_lets,eb,Bool.not_eq_true'] at hb
    rw [wholeB_2 hb]
  . rw [all_lets,eb,Bool.not_eq_false'] at hb
    rw [wholeB_3 h0 h1 hb]
    cases hc:bareC z.cps.toList with
    | nil=>rw [hc] at h0;exact absurd rfl h0
    | cons c r =>
    refine S.ret1 (s:=.dat (.bool (some c != some 48 || z.cps.toList == [48]))) (E1.orV (b:=some c != some 48) (E1.to (E1.neS (x:=⟨#[c]⟩) (y := "0") (E1.ixS (E1.var rfl) E1.int (bz.sz mx_le) (by rw [eb,hc];exact atI_head)) E1.str) (by rw [head_ne])) (fun hb=>E1.to (E1.eqS (y := "0") (E1.var rfl) E1.str) (by rw [e48,str_eq_one,hb,Bool.false_or])) (fun hb=>by rw [hb,Bool.true_or])) ⟨rfl,rfl⟩
theorem scRdWB:FnScope ["text"] ["text"] (defScope sRdWB):=⟨rfl,rfl,rfl,by decide +kernel,rfl,by decide +kernel,by decide +kernel⟩
theorem ok_rdwb (F:Fun K "read_whole" "read_whole" sRdWB f fd) (m_NoText:mg "NoText" = some (.ref cNoText)) (x_NoText:Xc K "NoText" cNoText)
    (G:FnOk P w K mg base CX0 1 g gd ["text"] (spP K RIsWT)) (bG:Binds K gd ["text"] []) (kG:PySem.W.keepIn K (.ref g)=true) (mG:mg "is_whole_text" = some (.ref g)) :
    FnOk P w K mg base (CXx P w (.ref cNoText)) 2 f fd ["text"] (spB K BRdW):=by
  refine okB F scRdWB (fun ds h=>?_) (fun cdv A0 outer s0 H0 E0 hr=>?_)
  . obtain ⟨z,rfl,_⟩:=h;rfl
  have r:=hr.mono (show 1<=1 by decide)
  refine ⟨_,rss_here (rs_if (zt_not (zt_val (ze_call G r rfl mG kG bG .nil pass0 (za_n (zv 0) za_nil)))) (rss_here (rs_raise x_NoText (by rfl) m_NoText)) rss_never),fun ds h=>?_⟩
  obtain ⟨z,rfl,az,hw⟩:=h
  exact SX.mono (SX.ifT (T1.notF ((T1.val (E1.call (R:=RIsWT) (A1.cons (E1.var rfl) A1.nil) ⟨z,rfl,az,rfl⟩)).eqn (whI_n hw))) SX.raise) fun _ _=>trivial
theorem scPartsB:FnScope ["text","between","many","parts"] ["text","between","many"] (defScope sPartsB):=⟨rfl,rfl,rfl,by decide +kernel,rfl,by decide +kernel,by decide +kernel⟩
theorem ok_partsb (F:Fun K "parts_of" "parts_of" sPartsB f fd) (m_NoText:mg "NoText" = some (.ref cNoText)) (x_NoText:Xc K "NoText" cNoText) (m_len:mg "len" = none) :
    FnOk P w K mg base (CXx P w (.ref cNoText)) 1 f fd ["text","between","many"] (spB K BParts):=by
  refine okB F scPartsB (fun ds h=>?_) (fun cdv A0 outer s0 H0 E0 hr=>?_)
  . obtain ⟨z,y,m,rfl,_⟩:=h;rfl
  refine ⟨_,rss_then (zs_set (i:=3) scPartsB.nd rfl (Or.inl rfl) (ze_split (zv 0) (zv 1))) (rss_here (rs_if (zt_cmpR op_ne (ze_callB call_len_seq rfl m_len PySem.boot_len (za_n (zv 3) za_nil)) (zv 2) (nomark _)) (rss_here (rs_raise x_NoText (by rfl) m_NoText)) rss_never)),fun ds h=>?_⟩
  obtain ⟨z,y,m,rfl,az,hy,hm⟩:=h
  refine SX.thn (M:=fun τ'=>τ'=[.dat (.str z),.dat (.str y),.dat (.int m),.own ((Txt.split z y).map .str)]) (S.asgO (E1.split (E1.var rfl) (E1.var rfl) hy (Nat.le_trans (Nat.add_le_add_right az.1 2) mx_2)) noLs_strs rfl) fun τ' e=>?_
  subst e
  exact SX.mono (SX.ifT ((T1.test (E1.ne (E1.lenL (A1.cons (E1.varO rfl) A1.nil)) (E1.var rfl))).eqn (by rw [List.length_map,decide_eq_false hm];rfl)) SX.raise) fun _ _=>trivial
theorem scRdNB:FnScope ["text","parts","top","bottom"] ["text"] (defScope sRdNB):=⟨rfl,rfl,rfl,by decide +kernel,rfl,by decide +kernel,by decide +kernel⟩
theorem ok_rdnb (F:Fun K "read_number" "read_number" sRdNB f fd) (m_NoText:mg "NoText" = some (.ref cNoText)) (x_NoText:Xc K "NoText" cNoText)
    (G:FnOk P w K mg base CX0 1 g gd ["text","between","many"] (spP K RParts)) (bG:Binds K gd ["text","between","many"] []) (kG:PySem.W.keepIn K (.ref g)=true) (mG:mg "parts_of" = some (.ref g))
    (G2:FnOk P w K mg base (CXx P w (.ref cNoText)) 1 g2 gd2 ["text","between","many"] (spB K BParts)) (bG2:Binds K gd2 ["text","between","many"] []) (kG2:PySem.W.keepIn K (.ref g2)=true) (mG2:mg "parts_of" = some (.ref g2))
    (G3:FnOk P w K mg base CX0 2 g3 gd3 ["text"] (spP K RRdW)) (bG3:Binds K gd3 ["text"] []) (kG3:PySem.W.keepIn K (.ref g3)=true) (mG3:mg "read_whole" = some (.ref g3))
    (G4:FnOk P w K mg base (CXx P w (.ref cNoText)) 2 g4 gd4 ["text"] (spB K BRdW)) (bG4:Binds K gd4 ["text"] []) (kG4:PySem.W.keepIn K (.ref g4)=true) (mG4:mg "read_whole" = some (.ref g4))
    (G5:FnOk P w K mg base CX0 1 g5 gd5 ["numbers"] (spCD K)) (bG5:Binds K gd5 ["numbers"] []) (kG5:PySem.W.keepIn K (.ref g5)=true) (mG5:mg "common_divisor" = some (.ref g5)) :
    FnOk P w K mg base (CXx P w (.ref cNoText)) 3 f fd ["text"] (spB K BRdN):=by
  refine okBd F scRdNB (fun ds h=>?_) (fun ds h cdv A0 outer s0 H0 E0 hr=>?_)
  . obtain ⟨z,rfl,_⟩:=h;rfl
  have r:=hr.mono (show 1<=2 by decide)
  have r2:=hr.mono (show 1<=2 by decide)
  have r3:=hr.mono (show 2<=2 by decide)
  have r4:=hr.mono (show 2<=2 by decide)
  have r5:=hr.mono (show 1<=2 by decide)
  obtain ⟨z,rfl,az,hn⟩:=h
  by_cases hin:47 ∈ z.cps.toList
  . by_cases h2:(Txt.split z sla).length=2
    . obtain ⟨a,b,hs⟩:=D.two_of h2
      have sa:=split_asc az a (by rw [hs];simp)
      have sb:=split_asc az b (by rw [hs];simp)
      have h3:rd2 (whI a) (whI b)=none:=by unfold rdN at hn;rw [hs] at hn;exact hn
      cases wa:whI a with
      | none =>
        refine ⟨_,rss_then (zs_if (zt_cmpR op_notin_str ze_str (zv 0) (by with_unfolding_all rfl)) (zss_one zs_never) zss_nil) (rss_then (zs_set (i:=1) scRdNB.nd rfl (Or.inl rfl) (ze_call G r rfl mG kG bG .nil pass0 (za_n (zv 0) (za_cons ze_str (za_i za_nil))))) (rss_here (rs_asg (re_call G4 r4 (by rfl) mG4 kG4 bG4 (za_s (ze_ix ix_list (zv 1) ze_int (fun _ _=>rfl)) za_nil))))),?_⟩
        refine SX.thn (M:=fun τ'=>τ'=[.dat (.str z),.un,.un,.un]) (S.ifF ((T1.test (E1.notInS (x:=sla) E1.str (E1.var rfl))).eqn (by rw [sla_in,decide_eq_true hin];rfl)) (S.next rfl)) fun τ' e=>by subst e;exact SX.thn (M:=fun τ'=>τ'=[.dat (.str z),.dat (.list [.str a,.str b]),.un,.un]) (S.asg1 (E1.call (R:=RParts) (A1.cons (E1.var rfl) (A1.cons E1.str (A1.cons E1.int A1.nil))) ⟨z,sla,2,rfl,az,rfl,(by first | (rw [hs];done) | (rw [hs];rfl)),(by first | (rw [hs];done) | (rw [hs];rfl))⟩) rfl) (fun τ' e=>by subst e;exact SX.mono (SX.call (B:=BRdW) (A1.cons (E1.ixL (ds:=[.str a,.str b]) (E1.varL rfl) E1.int rfl) A1.nil) ⟨a,rfl,sa,wa⟩) fun _ _=>trivial)
      | some i =>
        cases wb:whI b with
        | none =>
          refine ⟨_,rss_then (zs_if (zt_cmpR op_notin_str ze_str (zv 0) (by with_unfolding_all rfl)) (zss_one zs_never) zss_nil) (rss_then (zs_set (i:=1) scRdNB.nd rfl (Or.inl rfl) (ze_call G r rfl mG kG bG .nil pass0 (za_n (zv 0) (za_cons ze_str (za_i za_nil))))) (rss_then (zs_set (i:=2) scRdNB.nd rfl (Or.inl rfl) (ze_call G3 r3 rfl mG3 kG3 bG3 .nil pass0 (za_s (ze_ix ix_list (zv 1) ze_int (fun _ _=>rfl)) za_nil))) (rss_here (rs_asg (re_call G4 r4 (by rfl) mG4 kG4 bG4 (za_s (ze_ix ix_list (zv 1) ze_int (fun _ _=>rfl)) za_nil)))))),?_⟩
          refine SX.thn (M:=fun τ'=>τ'=[.dat (.str z),.un,.un,.un]) (S.ifF ((T1.test (E1.notInS (x:=sla) E1.str (E1.var rfl))).eqn (by rw [sla_in,decide_eq_true hin];rfl)) (S.next rfl)) fun τ' e=>by subst e;exact SX.thn (M:=fun τ'=>τ'=[.dat (.str z),.dat (.list [.str a,.str b]),.un,.un]) (S.asg1 (E1.call (R:=RParts) (A1.cons (E1.var rfl) (A1.cons E1.str (A1.cons E1.int A1.nil))) ⟨z,sla,2,rfl,az,rfl,(by first | (rw [hs];done) | (rw [hs];rfl)),(by first | (rw [hs];done) | (rw [hs];rfl))⟩) rfl) (fun τ' e=>by subst e;exact SX.thn (M:=fun τ'=>τ'=[.dat (.str z),.dat (.list [.str a,.str b]),.dat (.int i),.un]) (S.asg1 (E1.call (R:=RRdW) (A1.cons (E1.ixL (ds:=[.str a,.str b]) (E1.varL rfl) E1.int rfl) A1.nil) ⟨a,i,rfl,sa,wa,rfl⟩) rfl) (fun τ' e=>by subst e;exact SX.mono (SX.call (B:=BRdW) (A1.cons (E1.ixL (ds:=[.str a,.str b]) (E1.varL rfl) E1.int rfl) A1.nil) ⟨b,rfl,sb,wb⟩) fun _ _=>trivial))
        | some j =>
          have h4:j < 2\/Nat.gcd i.natAbs j.natAbs ≠ 1:=by
            rw [wa,wb] at h3
            unfold rd2 at h3
            by_cases q:j < 2\/Nat.gcd i.natAbs j.natAbs ≠ 1
            . exact q
            . simp only [if_neg q] at h3;cases h3
          refine ⟨_,rss_then (zs_if (zt_cmpR op_notin_str ze_str (zv 0) (by with_unfolding_all rfl)) (zss_one zs_never) zss_nil) (rss_then (zs_set (i:=1) scRdNB.nd rfl (Or.inl rfl) (ze_call G r rfl mG kG bG .nil pass0 (za_n (zv 0) (za_cons ze_str (za_i za_nil))))) (rss_then (zs_set (i:=2) scRdNB.nd rfl (Or.inl rfl) (ze_call G3 r3 rfl mG3 kG3 bG3 .nil pass0 (za_s (ze_ix ix_list (zv 1) ze_int (fun _ _=>rfl)) za_nil))) (rss_then (zs_set (i:=3) scRdNB.nd rfl (Or.inl rfl) (ze_call G3 r3 rfl mG3 kG3 bG3 .nil pass0 (za_s (ze_ix ix_list (zv 1) ze_int (fun _ _=>rfl)) za_nil))) (rss_here (rs_if (ZW.pt (zw_or (zt_cmpR op_lt (zv 3) ze_int (nomark _)) (zw_or1 (zt_cmpR op_ne (ze_call G5 r5 rfl mG5 kG5 bG5 .nil pass0 (za_t (ze_tup (za_n (zv 2) (za_n (zv 3) za_nil))) za_nil)) ze_int (nomark _))))) (rss_here (rs_raise x_NoText (by rfl) m_NoText)) rss_never))))),?_⟩
          refine SX.thn (M:=fun τ'=>τ'=[.dat (.str z),.un,.un,.un]) (S.ifF ((T1.test (E1.notInS (x:=sla) E1.str (E1.var rfl))).eqn (by rw [sla_in,decide_eq_true hin];rfl)) (S.next rfl)) fun τ' e=>by subst e;exact SX.thn (M:=fun τ'=>τ'=[.dat (.str z),.dat (.list [.str a,.str b]),.un,.un]) (S.asg1 (E1.call (R:=RParts) (A1.cons (E1.var rfl) (A1.cons E1.str (A1.cons E1.int A1.nil))) ⟨z,sla,2,rfl,az,rfl,(by first | (rw [hs];done) | (rw [hs];rfl)),(by first | (rw [hs];done) | (rw [hs];rfl))⟩) rfl) (fun τ' e=>by subst e;exact SX.thn (M:=fun τ'=>τ'=[.dat (.str z),.dat (.list [.str a,.str b]),.dat (.int i),.un]) (S.asg1 (E1.call (R:=RRdW) (A1.cons (E1.ixL (ds:=[.str a,.str b]) (E1.varL rfl) E1.int rfl) A1.nil) ⟨a,i,rfl,sa,wa,rfl⟩) rfl) (fun τ' e=>by subst e;exact SX.thn (M:=fun τ'=>τ'=[.dat (.str z),.dat (.list [.str a,.str b]),.dat (.int i),.dat (.int j)]) (S.asg1 (E1.call (R:=RRdW) (A1.cons (E1.ixL (ds:=[.str a,.str b]) (E1.varL rfl) E1.int rfl) A1.nil) ⟨b,j,rfl,sb,wb,rfl⟩) rfl) (fun τ' e=>by subst e;exact SX.mono (SX.ifT ((T1.or1 (T1.test (E1.lt (E1.var rfl) E1.int)) (T1.test (E1.ne (E1.cCD (ns:=[i,j]) (A1.cons (E1.tu (A1.cons (E1.var rfl) (A1.cons (E1.var rfl) A1.nil)) rfl (lsz (n:=2) rfl z2)) A1.nil)) E1.int))).eqn (or_gcd h4)) SX.raise) fun _ _=>trivial)))
    . refine ⟨_,rss_then (zs_if (zt_cmpR op_notin_str ze_str (zv 0) (by with_unfolding_all rfl)) (zss_one zs_never) zss_nil) (rss_here (rs_asg (re_call G2 r2 (by rfl) mG2 kG2 bG2 (za_n (zv 0) (za_cons ze_str (za_i za_nil)))))),?_⟩
      refine SX.thn (M:=fun τ'=>τ'=[.dat (.str z),.un,.un,.un]) (S.ifF ((T1.test (E1.notInS (x:=sla) E1.str (E1.var rfl))).eqn (by rw [sla_in,decide_eq_true hin];rfl)) (S.next rfl)) fun τ' e=>by subst e;exact SX.mono (SX.call (B:=BParts) (A1.cons (E1.var rfl) (A1.cons E1.str (A1.cons E1.int A1.nil))) ⟨z,sla,2,rfl,az,rfl,fun e=>h2 (by omega)⟩) fun _ _=>trivial
  . refine ⟨_,rss_here (rs_if (zt_cmpR op_notin_str ze_str (zv 0) (by with_unfolding_all rfl)) (rss_here (rs_ret (re_tup1 (re_call G4 r4 (by rfl) mG4 kG4 bG4 (za_n (zv 0) za_nil))))) rss_never),?_⟩
    have wa:whI z=none:=by
      unfold rdN at hn
      rw [sla,split_no az.lt (by decide) hin] at hn
      exact rdP_one hn
    exact SX.mono (SX.ifT ((T1.test (E1.notInS (x:=sla) E1.str (E1.var rfl))).eqn (by rw [sla_in,decide_eq_false hin];rfl)) (SX.call (B:=BRdW) (A1.cons (E1.var rfl) A1.nil) ⟨z,rfl,az,wa⟩)) fun _ _=>trivial
theorem scRdRB:FnScope ["text","between","many","numbers"] ["text","between","many"] (defScope sRdRB):=⟨rfl,rfl,rfl,by decide +kernel,rfl,by decide +kernel,by decide +kernel⟩
theorem ok_rdrb (F:Fun K "read_row" "read_row" sRdRB f fd) (m_NoText:mg "NoText" = some (.ref cNoText)) (x_NoText:Xc K "NoText" cNoText)
    (G:FnOk P w K mg base CX0 1 g gd ["text","between","many"] (spP K RParts)) (bG:Binds K gd ["text","between","many"] []) (kG:PySem.W.keepIn K (.ref g)=true) (mG:mg "parts_of" = some (.ref g))
    (G2:FnOk P w K mg base (CXx P w (.ref cNoText)) 1 g2 gd2 ["text","between","many"] (spB K BParts)) (bG2:Binds K gd2 ["text","between","many"] []) (kG2:PySem.W.keepIn K (.ref g2)=true) (mG2:mg "parts_of" = some (.ref g2))
    (G3:FnOk P w K mg base CX0 2 g3 gd3 ["text"] (spP K RRdW)) (bG3:Binds K gd3 ["text"] []) (kG3:PySem.W.keepIn K (.ref g3)=true) (mG3:mg "read_whole" = some (.ref g3))
    (G4:FnOk P w K mg base (CXx P w (.ref cNoText)) 2 g4 gd4 ["text"] (spB K BRdW)) (bG4:Binds K gd4 ["text"] []) (kG4:PySem.W.keepIn K (.ref g4)=true) (mG4:mg "read_whole" = some (.ref g4))
    (m_tuple:mg "tuple" = none) (m_any:mg "any" = none) :
    FnOk P w K mg base (CXx P w (.ref cNoText)) 3 f fd ["text","between","many"] (spB K BRdR):=by
  refine okBd F scRdRB (fun ds h=>?_) (fun ds h cdv A0 outer s0 H0 E0 hr=>?_)
  . obtain ⟨z,y,m,rfl,_⟩:=h;rfl
  have r:=hr.mono (show 1<=2 by decide)
  have r2:=hr.mono (show 1<=2 by decide)
  have r3:=hr.mono (show 2<=2 by decide)
  have r4:=hr.mono (show 2<=2 by decide)
  obtain ⟨z,y,m,rfl,az,hy,hn⟩:=h
  rcases rdR_none hn with h1 | ⟨h1,h2⟩ | ⟨h1,ns,h2,h3⟩
  . refine ⟨_,rss_here (rs_asg (re_tyArg (re_compI (own:=["part"]) scRdRB ⟨by decide +kernel,rfl,by decide +kernel,by decide +kernel,by decide +kernel,by decide +kernel,by decide +kernel,by decide +kernel,by decide +kernel⟩ (re_call G2 r2 (by rfl) mG2 kG2 bG2 (za_n (zv 0) (za_n (zv 1) (za_n (zv 2) za_nil))))) rfl m_tuple (by rfl))),?_⟩
    exact SX.mono (SX.call (B:=BParts) (A1.cons (E1.var rfl) (A1.cons (E1.var rfl) (A1.cons (E1.var rfl) A1.nil))) ⟨z,y,(m:Int),rfl,az,hy,fun e=>h1 (by omega)⟩) fun _ _=>trivial
  . obtain ⟨j,q,hj,hq,hb⟩:=allO_none h2
    have jl:j < ((Txt.split z y).map Dat.str).length:=by rw [List.length_map];exact (List.getElem?_eq_some_iff.mp hj).1
    refine ⟨_,rss_here (rs_asg (re_tyArg (re_comp (own:=["part"]) scRdRB rfl ⟨by decide +kernel,rfl,by decide +kernel,by decide +kernel,by decide +kernel,by decide +kernel,by decide +kernel,by decide +kernel,by decide +kernel⟩ (zi_list (ze_call G r rfl mG kG bG .nil pass0 (za_n (zv 0) (za_n (zv 1) (za_n (zv 2) za_nil))))) (fun C fp s H nd=>zg_name (i:=0) nd rfl (Or.inl rfl)) (fun C fp s H=>(ze_call G3 r3 rfl mG3 kG3 bG3 .nil pass0 (za_n (zv 0) za_nil))) (fun C fp s H=>rec_call G4 r4 (by rfl) mG4 kG4 bG4 (za_n (zv 0) za_nil))) rfl m_tuple (by rfl))),?_⟩
    refine SX.mono (SX.compCall (B:=BRdW) (ds:=(Txt.split z y).map Dat.str) (j:=j) (Wk.lst (E1.call (R:=RParts) (A1.cons (E1.var rfl) (A1.cons (E1.var rfl) (A1.cons (E1.var rfl) A1.nil))) ⟨z,y,(m:Int),rfl,az,hy,by rw [h1],rfl⟩)) jl (fun i d hi hd=>?_) (fun d hd=>?_) (by rw [List.length_map];exact Nat.le_trans (parts_len z y) (Nat.le_trans (Nat.add_le_add_right az.1 2) mx_2))) fun _ _=>trivial
    . rw [List.getElem?_map] at hd
      cases hs:(Txt.split z y)[i]? with
      | none=>rw [hs] at hd;cases hd
      | some s =>
        rw [hs] at hd
        cases hd
        obtain ⟨x,hx⟩:=hb i s hi hs
        exact ⟨_,E1.call (R:=RRdW) (A1.cons (E1.var rfl) A1.nil) ⟨s,x,rfl,split_asc az s (List.mem_of_getElem? hs),hx,rfl⟩⟩
    . rw [List.getElem?_map,hj] at hd
      cases hd
      exact ⟨_,_,(A1.cons (E1.var rfl) A1.nil),rfl,⟨q,rfl,split_asc az q (List.mem_of_getElem? hj),hq⟩⟩
  . refine ⟨_,rss_then (zs_set (i:=3) scRdRB.nd rfl (Or.inl rfl) (ze_callTy call_tuple_of rfl m_tuple (by rfl) (za_cons (ze_comp (own:=["part"]) scRdRB rfl ⟨by decide +kernel,rfl,by decide +kernel,by decide +kernel,by decide +kernel,by decide +kernel,by decide +kernel,by decide +kernel,by decide +kernel⟩ (zi_list (ze_call G r rfl mG kG bG .nil pass0 (za_n (zv 0) (za_n (zv 1) (za_n (zv 2) za_nil))))) (fun C fp s H nd=>zg_name (i:=0) nd rfl (Or.inl rfl)) (fun C fp s H=>zts_nil) (fun C fp s H=>(ze_call G3 r3 rfl mG3 kG3 bG3 .nil pass0 (za_n (zv 0) za_nil)))) za_nil))) (rss_here (rs_if (zt_not (zt_val (ze_callB (call_anyT rfl) rfl m_any (by rfl) (za_n (zv 3) za_nil)))) (rss_here (rs_raise x_NoText (by rfl) m_NoText)) rss_never)),?_⟩
    refine SX.thn (M:=fun τ'=>τ'=[.dat (.str z),.dat (.str y),.dat (.int m),.dat (tI ns)]) (S.asg1 (E1.to (E1.tupleL (A1.cons (E1.vwo (E1.compM (ds:=(Txt.split z y).map Dat.str) (f:=rdD whI Dat.int) (Wk.lst (E1.call (R:=RParts) (A1.cons (E1.var rfl) (A1.cons (E1.var rfl) (A1.cons (E1.var rfl) A1.nil))) ⟨z,y,(m:Int),rfl,az,hy,by rw [h1],rfl⟩)) (fun d hd=>by
      obtain ⟨x,hx,rfl⟩:=List.mem_map.mp hd
      obtain ⟨i,hi⟩:=allO_at h2 hx
      rw [rdD_one hi]
      exact E1.call (R:=RRdW) (A1.cons (E1.var rfl) A1.nil) ⟨x,i,rfl,split_asc az x hx,hi,rfl⟩) (by rw [List.length_map];exact Nat.le_trans (parts_len z y) (Nat.le_trans (Nat.add_le_add_right az.1 2) mx_2)))) A1.nil)) (by first | (rw [rdD_map h2];done) | (rw [rdD_map h2];rfl))) rfl) fun τ' e=>?_
    subst e
    exact SX.mono (SX.ifT (T1.notF ((T1.val (E1.anyT (E1.var rfl))).eqn h3)) SX.raise) fun _ _=>trivial
theorem scRdFB:FnScope ["text"] ["text"] (defScope sRdFB):=⟨rfl,rfl,rfl,by decide +kernel,rfl,by decide +kernel,by decide +kernel⟩
theorem ok_rdfb (F:Fun K "read_four" "read_four" sRdFB f fd)
    (G:FnOk P w K mg base (CXx P w (.ref cNoText)) 3 g gd ["text","between","many"] (spB K BRdR)) (bG:Binds K gd ["text","between","many"] []) (kG:PySem.W.keepIn K (.ref g)=true) (mG:mg "read_row" = some (.ref g)) :
    FnOk P w K mg base (CXx P w (.ref cNoText)) 4 f fd ["text"] (spB K (BRd1 spa 4)):=by
  refine okB F scRdFB (fun ds h=>?_) (fun cdv A0 outer s0 H0 E0 hr=>?_)
  . obtain ⟨z,rfl,_⟩:=h;rfl
  have r:=hr.mono (show 3<=3 by decide)
  refine ⟨_,rss_here (rs_ret (re_call G r (by rfl) mG kG bG (za_n (zv 0) (za_cons ze_str (za_i za_nil))))),fun ds h=>?_⟩
  obtain ⟨z,rfl,az,hn⟩:=h
  exact SX.mono (SX.call (B:=BRdR) (A1.cons (E1.var rfl) (A1.cons E1.str (A1.cons E1.int A1.nil))) ⟨z,spa,4,rfl,az,rfl,hn⟩) fun _ _=>trivial
theorem scRdWyB:FnScope ["text"] ["text"] (defScope sRdWyB):=⟨rfl,rfl,rfl,by decide +kernel,rfl,by decide +kernel,by decide +kernel⟩
theorem ok_rdwyb (F:Fun K "read_way" "read_way" sRdWyB f fd)
    (G:FnOk P w K mg base (CXx P w (.ref cNoText)) 3 g gd ["text","between","many"] (spB K BRdR)) (bG:Binds K gd ["text","between","many"] []) (kG:PySem.W.keepIn K (.ref g)=true) (mG:mg "read_row" = some (.ref g)) :
    FnOk P w K mg base (CXx P w (.ref cNoText)) 4 f fd ["text"] (spB K (BRd1 spa 3)):=by
  refine okB F scRdWyB (fun ds h=>?_) (fun cdv A0 outer s0 H0 E0 hr=>?_)
  . obtain ⟨z,rfl,_⟩:=h;rfl
  have r:=hr.mono (show 3<=3 by decide)
  refine ⟨_,rss_here (rs_ret (re_call G r (by rfl) mG kG bG (za_n (zv 0) (za_cons ze_str (za_i za_nil))))),fun ds h=>?_⟩
  obtain ⟨z,rfl,az,hn⟩:=h
  exact SX.mono (SX.call (B:=BRdR) (A1.cons (E1.var rfl) (A1.cons E1.str (A1.cons E1.int A1.nil))) ⟨z,spa,3,rfl,az,rfl,hn⟩) fun _ _=>trivial
theorem scRdPB:FnScope ["text"] ["text"] (defScope sRdPB):=⟨rfl,rfl,rfl,by decide +kernel,rfl,by decide +kernel,by decide +kernel⟩
theorem ok_rdpb (F:Fun K "read_point" "read_point" sRdPB f fd)
    (G:FnOk P w K mg base CX0 1 g gd ["text","between","many"] (spP K RParts)) (bG:Binds K gd ["text","between","many"] []) (kG:PySem.W.keepIn K (.ref g)=true) (mG:mg "parts_of" = some (.ref g))
    (G2:FnOk P w K mg base (CXx P w (.ref cNoText)) 1 g2 gd2 ["text","between","many"] (spB K BParts)) (bG2:Binds K gd2 ["text","between","many"] []) (kG2:PySem.W.keepIn K (.ref g2)=true) (mG2:mg "parts_of" = some (.ref g2))
    (G3:FnOk P w K mg base CX0 3 g3 gd3 ["text"] (spP K RRdN)) (bG3:Binds K gd3 ["text"] []) (kG3:PySem.W.keepIn K (.ref g3)=true) (mG3:mg "read_number" = some (.ref g3))
    (G4:FnOk P w K mg base (CXx P w (.ref cNoText)) 3 g4 gd4 ["text"] (spB K BRdN)) (bG4:Binds K gd4 ["text"] []) (kG4:PySem.W.keepIn K (.ref g4)=true) (mG4:mg "read_number" = some (.ref g4))
    (m_tuple:mg "tuple" = none) :
    FnOk P w K mg base (CXx P w (.ref cNoText)) 4 f fd ["text"] (spB K BRdP):=by
  refine okBd F scRdPB (fun ds h=>?_) (fun ds h cdv A0 outer s0 H0 E0 hr=>?_)
  . obtain ⟨z,rfl,_⟩:=h;rfl
  have r:=hr.mono (show 1<=3 by decide)
  have r2:=hr.mono (show 1<=3 by decide)
  have r3:=hr.mono (show 3<=3 by decide)
  have r4:=hr.mono (show 3<=3 by decide)
  obtain ⟨z,rfl,az,hn⟩:=h
  rcases rd3_none hn with h1 | ⟨h1,h2⟩
  . refine ⟨_,rss_here (rs_ret (re_tyArg (re_compI (own:=["part"]) scRdPB ⟨by decide +kernel,rfl,by decide +kernel,by decide +kernel,by decide +kernel,by decide +kernel,by decide +kernel,by decide +kernel,by decide +kernel⟩ (re_call G2 r2 (by rfl) mG2 kG2 bG2 (za_n (zv 0) (za_cons ze_str (za_i za_nil))))) rfl m_tuple (by rfl))),?_⟩
    exact SX.mono (SX.call (B:=BParts) (A1.cons (E1.var rfl) (A1.cons E1.str (A1.cons E1.int A1.nil))) ⟨z,spa,3,rfl,az,rfl,fun e=>h1 (by omega)⟩) fun _ _=>trivial
  . obtain ⟨j,q,hj,hq,hb⟩:=allO_none h2
    have jl:j < ((Txt.split z spa).map Dat.str).length:=by rw [List.length_map];exact (List.getElem?_eq_some_iff.mp hj).1
    refine ⟨_,rss_here (rs_ret (re_tyArg (re_comp (own:=["part"]) scRdPB rfl ⟨by decide +kernel,rfl,by decide +kernel,by decide +kernel,by decide +kernel,by decide +kernel,by decide +kernel,by decide +kernel,by decide +kernel⟩ (zi_list (ze_call G r rfl mG kG bG .nil pass0 (za_n (zv 0) (za_cons ze_str (za_i za_nil))))) (fun C fp s H nd=>zg_name (i:=0) nd rfl (Or.inl rfl)) (fun C fp s H=>(ze_call G3 r3 rfl mG3 kG3 bG3 .nil pass0 (za_n (zv 0) za_nil))) (fun C fp s H=>rec_call G4 r4 (by rfl) mG4 kG4 bG4 (za_n (zv 0) za_nil))) rfl m_tuple (by rfl))),?_⟩
    refine SX.mono (SX.compCall (B:=BRdN) (ds:=(Txt.split z spa).map Dat.str) (j:=j) (Wk.lst (E1.call (R:=RParts) (A1.cons (E1.var rfl) (A1.cons E1.str (A1.cons E1.int A1.nil))) ⟨z,spa,3,rfl,az,rfl,(by first | (rw [h1];done) | (rw [h1];rfl)),rfl⟩)) jl (fun i d hi hd=>?_) (fun d hd=>?_) (by rw [List.length_map];exact Nat.le_trans (parts_len z spa) (Nat.le_trans (Nat.add_le_add_right az.1 2) mx_2))) fun _ _=>trivial
    . rw [List.getElem?_map] at hd
      cases hs:(Txt.split z spa)[i]? with
      | none=>rw [hs] at hd;cases hd
      | some s =>
        rw [hs] at hd
        cases hd
        obtain ⟨x,hx⟩:=hb i s hi hs
        exact ⟨_,E1.call (R:=RRdN) (A1.cons (E1.var rfl) A1.nil) ⟨s,x.1,x.2,rfl,split_asc az s (List.mem_of_getElem? hs),hx,rfl⟩⟩
    . rw [List.getElem?_map,hj] at hd
      cases hd
      exact ⟨_,_,(A1.cons (E1.var rfl) A1.nil),rfl,⟨q,rfl,split_asc az q (List.mem_of_getElem? hj),hq⟩⟩
theorem scRdTB:FnScope ["text"] ["text"] (defScope sRdTB):=⟨rfl,rfl,rfl,by decide +kernel,rfl,by decide +kernel,by decide +kernel⟩
theorem ok_rdtb (F:Fun K "read_table" "read_table" sRdTB f fd)
    (G:FnOk P w K mg base CX0 1 g gd ["text","between","many"] (spP K RParts)) (bG:Binds K gd ["text","between","many"] []) (kG:PySem.W.keepIn K (.ref g)=true) (mG:mg "parts_of" = some (.ref g))
    (G2:FnOk P w K mg base (CXx P w (.ref cNoText)) 1 g2 gd2 ["text","between","many"] (spB K BParts)) (bG2:Binds K gd2 ["text","between","many"] []) (kG2:PySem.W.keepIn K (.ref g2)=true) (mG2:mg "parts_of" = some (.ref g2))
    (G3:FnOk P w K mg base CX0 4 g3 gd3 ["text"] (spP K RRdP)) (bG3:Binds K gd3 ["text"] []) (kG3:PySem.W.keepIn K (.ref g3)=true) (mG3:mg "read_point" = some (.ref g3))
    (G4:FnOk P w K mg base (CXx P w (.ref cNoText)) 4 g4 gd4 ["text"] (spB K BRdP)) (bG4:Binds K gd4 ["text"] []) (kG4:PySem.W.keepIn K (.ref g4)=true) (mG4:mg "read_point" = some (.ref g4))
    (m_tuple:mg "tuple" = none) :
    FnOk P w K mg base (CXx P w (.ref cNoText)) 5 f fd ["text"] (spB K BRdT):=by
  refine okBd F scRdTB (fun ds h=>?_) (fun ds h cdv A0 outer s0 H0 E0 hr=>?_)
  . obtain ⟨z,rfl,_⟩:=h;rfl
  have r:=hr.mono (show 1<=4 by decide)
  have r2:=hr.mono (show 1<=4 by decide)
  have r3:=hr.mono (show 4<=4 by decide)
  have r4:=hr.mono (show 4<=4 by decide)
  obtain ⟨z,rfl,az,hn⟩:=h
  rcases rd3_none hn with h1 | ⟨h1,h2⟩
  . refine ⟨_,rss_here (rs_ret (re_tyArg (re_compI (own:=["part"]) scRdTB ⟨by decide +kernel,rfl,by decide +kernel,by decide +kernel,by decide +kernel,by decide +kernel,by decide +kernel,by decide +kernel,by decide +kernel⟩ (re_call G2 r2 (by rfl) mG2 kG2 bG2 (za_n (zv 0) (za_cons ze_str (za_i za_nil))))) rfl m_tuple (by rfl))),?_⟩
    exact SX.mono (SX.call (B:=BParts) (A1.cons (E1.var rfl) (A1.cons E1.str (A1.cons E1.int A1.nil))) ⟨z,sem,3,rfl,az,rfl,fun e=>h1 (by omega)⟩) fun _ _=>trivial
  . obtain ⟨j,q,hj,hq,hb⟩:=allO_none h2
    have jl:j < ((Txt.split z sem).map Dat.str).length:=by rw [List.length_map];exact (List.getElem?_eq_some_iff.mp hj).1
    refine ⟨_,rss_here (rs_ret (re_tyArg (re_comp (own:=["part"]) scRdTB rfl ⟨by decide +kernel,rfl,by decide +kernel,by decide +kernel,by decide +kernel,by decide +kernel,by decide +kernel,by decide +kernel,by decide +kernel⟩ (zi_list (ze_call G r rfl mG kG bG .nil pass0 (za_n (zv 0) (za_cons ze_str (za_i za_nil))))) (fun C fp s H nd=>zg_name (i:=0) nd rfl (Or.inl rfl)) (fun C fp s H=>(ze_call G3 r3 rfl mG3 kG3 bG3 .nil pass0 (za_n (zv 0) za_nil))) (fun C fp s H=>rec_call G4 r4 (by rfl) mG4 kG4 bG4 (za_n (zv 0) za_nil))) rfl m_tuple (by rfl))),?_⟩
    refine SX.mono (SX.compCall (B:=BRdP) (ds:=(Txt.split z sem).map Dat.str) (j:=j) (Wk.lst (E1.call (R:=RParts) (A1.cons (E1.var rfl) (A1.cons E1.str (A1.cons E1.int A1.nil))) ⟨z,sem,3,rfl,az,rfl,(by first | (rw [h1];done) | (rw [h1];rfl)),rfl⟩)) jl (fun i d hi hd=>?_) (fun d hd=>?_) (by rw [List.length_map];exact Nat.le_trans (parts_len z sem) (Nat.le_trans (Nat.add_le_add_right az.1 2) mx_2))) fun _ _=>trivial
    . rw [List.getElem?_map] at hd
      cases hs:(Txt.split z sem)[i]? with
      | none=>rw [hs] at hd;cases hd
      | some s =>
        rw [hs] at hd
        cases hd
        obtain ⟨x,hx⟩:=hb i s hi hs
        exact ⟨_,E1.call (R:=RRdP) (A1.cons (E1.var rfl) A1.nil) ⟨s,x,rfl,split_asc az s (List.mem_of_getElem? hs),hx,rfl⟩⟩
    . rw [List.getElem?_map,hj] at hd
      cases hd
      exact ⟨_,_,(A1.cons (E1.var rfl) A1.nil),rfl,⟨q,rfl,split_asc az q (List.mem_of_getElem? hj),hq⟩⟩
theorem scRdSB:FnScope ["text"] ["text"] (defScope sRdSB):=⟨rfl,rfl,rfl,by decide +kernel,rfl,by decide +kernel,by decide +kernel⟩
theorem ok_rdsb (F:Fun K "read_setting" "read_setting" sRdSB f fd)
    (G:FnOk P w K mg base (CXx P w (.ref cNoText)) 3 g gd ["text","between","many"] (spB K BRdR)) (bG:Binds K gd ["text","between","many"] []) (kG:PySem.W.keepIn K (.ref g)=true) (mG:mg "read_row" = some (.ref g)) :
    FnOk P w K mg base (CXx P w (.ref cNoText)) 4 f fd ["text"] (spB K (BRd1 col 2)):=by
  refine okB F scRdSB (fun ds h=>?_) (fun cdv A0 outer s0 H0 E0 hr=>?_)
  . obtain ⟨z,rfl,_⟩:=h;rfl
  have r:=hr.mono (show 3<=3 by decide)
  refine ⟨_,rss_here (rs_ret (re_call G r (by rfl) mG kG bG (za_n (zv 0) (za_cons ze_str (za_i za_nil))))),fun ds h=>?_⟩
  obtain ⟨z,rfl,az,hn⟩:=h
  exact SX.mono (SX.call (B:=BRdR) (A1.cons (E1.var rfl) (A1.cons E1.str (A1.cons E1.int A1.nil))) ⟨z,col,2,rfl,az,rfl,hn⟩) fun _ _=>trivial
theorem scPurse90:FnScope ["_law_cell","_law_number_here","_law_found","_law_k"] ["_law_cell"] (defScope sPurse90):=⟨rfl,rfl,rfl,by decide +kernel,rfl,by decide +kernel,by decide +kernel⟩
theorem ok_purse90 (F:Fun K "_law_purse" "_law_purse" sPurse90 f fd) (m_range:mg "range" = none) :
    FnOk P w K mg base CX0 1 f fd ["_law_cell"] spPurse2:=by
  refine F.okZ scPurse90 (fun vs H Q E h=>?_) (fun cdv A outer s H vs Q E hr h=>?_)
  . obtain ⟨c,rfl,_⟩:=h;rfl
  obtain ⟨c,rfl,q⟩:=h
  refine ⟨_,(zss_cons (zs_set (i:=1) scPurse90.nd rfl (Or.inl rfl) (ze_op op_mod (zv 0) ze_int))
    (zss_cons (zs_set (i:=2) scPurse90.nd rfl (Or.inl rfl) ze_int)
    (zss_cons (zs_for PassesOwn.never rfl (zi_range1 rfl m_range (za_i za_nil)) (zg_name (i:=3) scPurse90.nd rfl (Or.inl rfl)) (zss_cons (zs_set (i:=1) scPurse90.nd rfl (Or.inl rfl) (ze_op op_mod (ze_op op_add (ze_op op_add (ze_op op_add (ze_op op_mulB (zv 1) (zv 1)) (ze_op op_mulB (ze_op op_mulB ze_int (zv 3)) (zv 3))) (zv 3)) ze_int) ze_int))
    (zss_one (zs_set (i:=2) scPurse90.nd rfl (Or.inl rfl) (ze_op op_add (ze_op op_mulB (zv 2) ze_int) (ze_op op_mod (ze_op op_mulB (zv 1) (zv 1)) ze_int))))))
    (zss_cons (zs_if (zt_cmpR op_ge (zv 0) (ze_op op_pow ze_int ze_int) (nomark _)) (zss_one (zs_ret (ze_lst (za_b (ze_op op_sub (zv 0) (ze_op op_pow ze_int ze_int)) (za_n (zv 2) za_nil))))) zss_nil)
    (zss_one (zs_ret (ze_lst (za_i (za_n (zv 2) za_nil))))))))),?_⟩
  refine ⟨_,rfl,_,_,rfl,rfl,(show (0:Int) < 2147483647 by decide),?_⟩
  have x0:(0:Int)<=c % 2147483647:=Int.emod_nonneg _ (by decide)
  have x1:c % 2147483647 < (2147483647:Int):=Int.emod_lt_of_pos _ (by decide)
  refine ⟨90,rfl,by decide,by decide,for_range (n:=90) (fun i σ H'=>H=H'/\∃ (x y:Int) (k:Option V),σ=[some (.int c),some (.int x),some (.int y),k]/\0<=x/\x < 2147483647) ⟨rfl,_,1,_,rfl,x0,x1⟩ (fun i σ H' hi h=>?_) (fun σ H' h=>?_)⟩
  . obtain ⟨rfl,x,y,k,rfl,h0,h1⟩:=h
    refine ⟨_,rfl,_,rfl,_,_,rfl,rfl,okL (by omega) (by omega),_,rfl,_,_,rfl,rfl,okL (by decide) (by decide),_,rfl,_,_,rfl,rfl,okR (by omega) (by omega),_,_,rfl,rfl,_,rfl,_,_,rfl,rfl,_,_,rfl,rfl,_,_,rfl,rfl,(show (0:Int) < 2147483629 by decide),?_⟩
    have z0:∀ e:Int,0<=e % 2147483629:=fun e=>Int.emod_nonneg _ (by decide)
    have z1:∀ e:Int,e % 2147483629 < 2147483629:=fun e=>Int.emod_lt_of_pos _ (by decide)
    have y0:=z0 (x * x + 48271 * (0 + (i:Int)) * (0 + (i:Int)) + (0 + (i:Int)) + 3)
    have y1:=z1 (x * x + 48271 * (0 + (i:Int)) * (0 + (i:Int)) + (0 + (i:Int)) + 3)
    dsimp only [gName]
    refine ⟨_,rfl,_,_,rfl,rfl,okR (by decide) (by decide),_,rfl,_,rfl,_,_,rfl,rfl,okL (Int.lt_of_lt_of_le (by decide) y0) (Int.lt_trans y1 (by decide)),_,_,rfl,rfl,(show (0:Int) < 2147483587 by decide),_,_,rfl,rfl,rfl,_,_,_,rfl,y0,Int.lt_trans y1 (by decide)⟩
  . obtain ⟨rfl,x,y,k,rfl,h0,h1⟩:=h
    refine ⟨_,rfl,_,_,rfl,rfl,⟨by decide,by decide,by decide⟩,_,_,rfl,rfl,_,rfl,?_⟩
    refine ite2 (fun z=>?_) (fun z=>?_)
    . refine ⟨_,rfl,_,_,rfl,rfl,⟨by decide,by decide,by decide⟩,_,_,rfl,rfl,_,rfl,(by show 2<=sizeLine;decide),fun p hp=>?_⟩
      exact q p _ hp (Same.new hp _) ⟨_,_,upd_same⟩
    . refine ⟨_,rfl,(by show 2<=sizeLine;decide),fun p hp=>?_⟩
      exact q p _ hp (Same.new hp _) ⟨_,_,upd_same⟩
theorem scTake:FnScope ["_law_purse_here","_law_many","_law_at","_law_found"] ["_law_purse_here","_law_many"] (defScope sTake):=⟨rfl,rfl,rfl,by decide +kernel,rfl,by decide +kernel,by decide +kernel⟩
theorem ok_take (F:Fun K "_law_take" "_law_take" sTake f fd) (m_int:mg "int" = none) :
    FnOk P w K mg base CX0 1 f fd ["_law_purse_here","_law_many"] spDraw:=by
  refine F.okZ scTake (fun vs H Q E h=>?_) (fun cdv A outer s H vs Q E hr h=>?_)
  . obtain ⟨p,m,rfl,_⟩:=h;rfl
  obtain ⟨p,m,rfl,⟨a,b,hp⟩,m0,m1,q⟩:=h
  refine ⟨_,(zss_cons (zs_set (i:=2) scTake.nd rfl (Or.inl rfl) (ze_callTy call_int1 rfl m_int (by rfl) (za_cons (ze_cmpR op_eq (ze_ix ix_list (zv 0) ze_int (fun _ _=>rfl)) ze_int (nomark _)) za_nil)))
    (zss_cons (zs_set (i:=3) scTake.nd rfl (Or.inl rfl) (ze_op op_mod (ze_ix ix_list (zv 0) (zv 2) (fun _ _=>rfl)) (zv 1)))
    (zss_cons (zs_asg (ze_op op_fdivB (ze_ix ix_list (zv 0) (zv 2) (fun _ _=>rfl)) (zv 1)) (zg_sub (zv 0) (zv 2) set_list (fun _=>rfl)))
    (zss_one (zs_ret (zv 3)))))),?_⟩
  refine ⟨_,rfl,p,_,_,_,rfl,rfl,SqL.of hp,atA,rfl,.inr ⟨_,rfl,?_⟩⟩
  have lg:m.natAbs.log2 < 9000:=by
    have:m.natAbs < 2 ^ 9000:=Nat.lt_of_lt_of_le (show m.natAbs < 2 ^ 200 by omega) (Nat.pow_le_pow_right (by decide) (by decide))
    exact (Nat.log2_lt (by omega)).mpr this
  by_cases h0:a=0
  . rw [decide_eq_true (by rw [h0])]
    show tSeq _ _ _ [some (.ref p),some (.int m),some (.int 1),none] H
    refine ⟨_,rfl,_,rfl,p,_,_,_,rfl,rfl,SqL.of hp,atB,_,rfl,_,_,rfl,rfl,m0,?_⟩
    dsimp only [gName]
    refine ⟨_,rfl,_,rfl,p,_,_,_,rfl,rfl,SqL.of hp,atB,_,rfl,_,_,rfl,rfl,⟨by omega,lg⟩,_,rfl,_,rfl,p,_,_,1,rfl,rfl,hp,rfl,_,rfl,?_⟩
    exact q _ _ (Int.emod_nonneg _ (by omega)) (Int.emod_lt_of_pos _ m0) SB.upd ⟨_,_,upd_same⟩
  . rw [decide_eq_false (fun e=>h0 (by injection e))]
    show tSeq _ _ _ [some (.ref p),some (.int m),some (.int 0),none] H
    refine ⟨_,rfl,_,rfl,p,_,_,_,rfl,rfl,SqL.of hp,atA,_,rfl,_,_,rfl,rfl,m0,?_⟩
    dsimp only [gName]
    refine ⟨_,rfl,_,rfl,p,_,_,_,rfl,rfl,SqL.of hp,atA,_,rfl,_,_,rfl,rfl,⟨by omega,lg⟩,_,rfl,_,rfl,p,_,_,0,rfl,rfl,hp,rfl,_,rfl,?_⟩
    exact q _ _ (Int.emod_nonneg _ (by omega)) (Int.emod_lt_of_pos _ m0) SB.upd ⟨_,_,upd_same⟩
theorem scNumber2:FnScope ["_law_purse_here","_law_kind"] ["_law_purse_here","_law_kind"] (defScope sNumber2):=⟨rfl,rfl,rfl,by decide +kernel,rfl,by decide +kernel,by decide +kernel⟩
theorem ok_number2 (F:Fun K "_law_number" "_law_number" sNumber2 f fd)
    (G:FnOk P w K mg base CX0 1 g gd ["_law_purse_here","_law_many"] spDraw) (bG:Binds K gd ["_law_purse_here","_law_many"] []) (kG:PySem.W.keepIn K (.ref g)=true) (mG:mg "_law_take" = some (.ref g)) :
    FnOk P w K mg base CX0 2 f fd ["_law_purse_here","_law_kind"] spNumber2:=by
  refine F.okZ scNumber2 (fun vs H Q E h=>?_) (fun cdv A outer s H vs Q E hr h=>?_)
  . obtain ⟨p,k,rfl,_⟩:=h;rfl
  obtain ⟨p,k,rfl,hp,q⟩:=h
  have r:=hr.mono (show 1<=1 by decide)
  refine ⟨_,(zss_cons (zs_if (zt_cmpR op_lt (zv 1) ze_int (nomark _)) (zss_one (zs_ret (ze_op op_sub (ze_call G r rfl mG kG bG .nil pass0 (za_n (zv 0) (za_i za_nil))) ze_int))) zss_nil)
    (zss_cons (zs_if (zt_cmpR op_eq (zv 1) ze_int (nomark _)) (zss_one (zs_ret (ze_op op_sub (ze_call G r rfl mG kG bG .nil pass0 (za_n (zv 0) (za_i za_nil))) ze_int))) zss_nil)
    (zss_cons (zs_if (zt_cmpR op_eq (zv 1) ze_int (nomark _)) (zss_one (zs_ret (ze_op op_sub (ze_call G r rfl mG kG bG .nil pass0 (za_n (zv 0) (za_b (ze_op op_add (ze_op op_mulB ze_int (ze_op op_pow ze_int ze_int)) ze_int) za_nil))) (ze_op op_pow ze_int ze_int)))) zss_nil)
    (zss_one (zs_ret (ze_op op_sub (ze_call G r rfl mG kG bG .nil pass0 (za_n (zv 0) (za_b (ze_op op_sub (ze_op op_mulB ze_int (ze_op op_pow ze_int ze_int)) ze_int) za_nil))) (ze_op op_sub (ze_op op_pow ze_int ze_int) ze_int))))))),?_⟩
  refine ⟨_,rfl,_,_,rfl,rfl,_,rfl,?_⟩
  refine ite2 (fun z=>?_) (fun z=>?_)
  . refine ⟨_,rfl,p,7,rfl,hp,by decide,by decide,fun d H1 d0 d1 sb pu=>?_⟩
    exact ⟨_,_,rfl,rfl,q _ _ (by omega) sb pu⟩
  refine ⟨_,rfl,rfl,_,rfl,?_⟩
  refine ite2 (fun z=>?_) (fun z=>?_)
  . refine ⟨_,rfl,p,201,rfl,hp,by decide,by decide,fun d H1 d0 d1 sb pu=>?_⟩
    exact ⟨_,_,rfl,rfl,q _ _ (by omega) sb pu⟩
  refine ⟨_,rfl,rfl,_,rfl,?_⟩
  refine ite2 (fun z=>?_) (fun z=>?_)
  . refine ⟨_,rfl,_,_,rfl,rfl,⟨by decide,by decide,by decide⟩,_,_,rfl,rfl,okL (by decide) (by decide),_,_,rfl,rfl,p,_,rfl,hp,by decide,by decide,fun d H1 d0 d1 sb pu=>?_⟩
    have e:(2:Int) * 10 ^ (6:Int).toNat + 1=2000001:=by decide
    have e2:(10:Int) ^ (6:Int).toNat=1000000:=by decide
    refine ⟨_,_,rfl,rfl,⟨by decide,by decide,by decide⟩,_,_,rfl,rfl,?_⟩
    refine q _ _ ?_ sb pu
    show (d - (10:Int) ^ (6:Int).toNat).natAbs<=_
    rw [e] at d1
    rw [e2]
    omega
  . refine ⟨_,rfl,_,_,rfl,rfl,⟨by decide,by decide,by decide⟩,_,_,rfl,rfl,okL (by decide) (by decide),_,_,rfl,rfl,p,_,rfl,hp,by decide,by decide,fun d H1 d0 d1 sb pu=>?_⟩
    have e:(2:Int) * 10 ^ (30:Int).toNat - 1=1999999999999999999999999999999:=by decide
    have e2:(10:Int) ^ (30:Int).toNat - 1=999999999999999999999999999999:=by decide
    refine ⟨_,_,rfl,rfl,⟨by decide,by decide,by decide⟩,_,_,rfl,rfl,_,_,rfl,rfl,?_⟩
    refine q _ _ ?_ sb pu
    show (d - ((10:Int) ^ (30:Int).toNat - 1)).natAbs<=_
    rw [e] at d1
    rw [e2]
    omega
theorem scDiv2:FnScope ["_law_one","_law_other"] ["_law_one","_law_other"] (defScope sDiv2):=⟨rfl,rfl,rfl,by decide +kernel,rfl,by decide +kernel,by decide +kernel⟩
theorem ok_div2 (F:Fun K "_law_divisor" "_law_divisor" sDiv2 f fd) (m_abs:mg "abs" = none) :
    FnOk P w K mg base CX0 1 f fd ["_law_one","_law_other"] spDiv:=by
  refine F.okZ scDiv2 (fun vs H Q E h=>?_) (fun cdv A outer s H vs Q E hr h=>?_)
  . obtain ⟨a,b,rfl,_⟩:=h;rfl
  obtain ⟨a,b,rfl,q⟩:=h
  refine ⟨_,(zss_cons (zs_while PassesOwn.never (zt_cmpR op_ne (zv 1) ze_int (nomark _)) (zss_one (zs_par (i:=0) (j:=1) rfl scDiv2.nd rfl rfl (by decide) rfl rfl (za_n (zv 1) (za_b (ze_op op_modN (zv 0) (zv 1)) za_nil)) rfl)))
    (zss_one (zs_ret (ze_callB call_abs rfl m_abs (by rfl) (za_n (zv 0) za_nil))))),?_⟩
  refine while_by (fun σ H'=>H=H'/\∃ (c d:Int),Nat.gcd c.natAbs d.natAbs=Nat.gcd a.natAbs b.natAbs/\σ=[some (.int c),some (.int d)])
    (fun σ _=>match σ with | [_,some (.int o)]=>o.natAbs | _=>0) ⟨rfl,_,_,rfl,rfl⟩ (fun σ H' h=>?_) (fun σ H Q Q' hq h=>?_)
  . obtain ⟨rfl,c,d,hg,rfl⟩:=h
    refine ⟨_,rfl,rfl,_,rfl,?_⟩
    refine ite2 (fun z=>?_) (fun z=>?_)
    . have h0:d ≠ 0:=by
        intro y;subst y;exact absurd z (by decide)
      refine ⟨_,rfl,_,rfl,_,rfl,_,_,rfl,rfl,h0,_,_,rfl,⟨rfl,_,_,?_,rfl⟩,fmod_lt h0⟩
      rw [<- hg];exact fmod_gcd h0
    . have h0:d=0:=by
        by_cases y:d=0
        . exact y
        . exact absurd (by show (!decide (V.int d=V.int 0))=true;rw [decide_eq_false (fun e=>y (by injection e))];rfl) z
      subst h0
      refine ⟨_,rfl,c,rfl,?_⟩
      have e:(if c < 0 then -c else c)=(c.natAbs:Int):=by split <;> omega
      rw [<- hg] at q
      simp only [Int.natAbs_zero,Nat.gcd_zero_right] at q
      rw [e];exact q
  . obtain ⟨v,e1,e2,b,e3,q⟩:=h
    exact ⟨v,e1,e2,b,e3,hq _ _ q⟩
theorem scLowest:FnScope ["_law_top","_law_bottom","_law_share"] ["_law_top","_law_bottom"] (defScope sLowest):=⟨rfl,rfl,rfl,by decide +kernel,rfl,by decide +kernel,by decide +kernel⟩
theorem ok_lowest (F:Fun K "_law_lowest" "_law_lowest" sLowest f fd)
    (G:FnOk P w K mg base CX0 1 g gd ["_law_one","_law_other"] spDiv) (bG:Binds K gd ["_law_one","_law_other"] []) (kG:PySem.W.keepIn K (.ref g)=true) (mG:mg "_law_divisor" = some (.ref g)) :
    FnOk P w K mg base CX0 2 f fd ["_law_top","_law_bottom"] (spMade K):=by
  refine F.okZ scLowest (fun vs H Q E h=>?_) (fun cdv A outer s H vs Q E hr h=>?_)
  . obtain ⟨t,b,rfl,_⟩:=h;rfl
  obtain ⟨t,b,rfl,b0,bb,q⟩:=h
  have r:=hr.mono (show 1<=1 by decide)
  refine ⟨_,(zss_cons (zs_set (i:=2) scLowest.nd rfl (Or.inl rfl) (ze_call G r rfl mG kG bG .nil pass0 (za_n (zv 0) (za_n (zv 1) za_nil))))
    (zss_cons (zs_if (zt_cmpR op_lt (zv 1) ze_int (nomark _)) (zss_one (zs_set (i:=2) scLowest.nd rfl (Or.inl rfl) (ze_un un_neg (zv 2)))) zss_nil)
    (zss_one (zs_ret (ze_tup (za_b (ze_op op_fdivB (zv 0) (zv 2)) (za_b (ze_op op_fdivB (zv 1) (zv 2)) za_nil))))))),?_⟩
  refine ⟨_,rfl,_,rfl,t,b,rfl,?_⟩
  have hg:0 < gcdN [t,b]:=gcdN_pos ⟨b,by simp,by omega⟩
  have hle:gcdN [t,b]<=b.natAbs:=gcdN_le (by simp) (by omega)
  have d1:(gcdN [t,b]:Int) ∣ t:=gcdN_dvd (by simp)
  have d2:(gcdN [t,b]:Int) ∣ b:=gcdN_dvd (by simp)
  rw [<- gcdN2]
  have g0:((gcdN [t,b]:Nat):Int) ≠ 0:=by omega
  have gb:Bt ((gcdN [t,b]:Nat):Int) 8000:=by unfold Bt;rw [Int.natAbs_natCast];exact Nat.le_trans hle bb
  have gl:=gb.log g0
  refine ⟨_,rfl,_,_,rfl,rfl,_,rfl,?_⟩
  refine ite2 (fun z=>absurd (of_decide_eq_true z) (by omega)) (fun _=>?_)
  refine ⟨_,rfl,_,rfl,_,_,rfl,rfl,⟨g0,gl⟩,_,rfl,_,rfl,_,_,rfl,rfl,⟨g0,gl⟩,(by show 2<=sizeLine;decide),fun r hr'=>?_⟩
  refine q r _ (Same.new hr' _) ?_
  rw [upd_same]
  show some (HO.tup [V.int (t.fdiv _),V.int (b.fdiv _)])=_
  rw [Int.fdiv_eq_ediv_of_dvd d1,Int.fdiv_eq_ediv_of_dvd d2]
  rfl
theorem scWhole:FnScope ["_law_found"] ["_law_found"] (defScope sWhole):=⟨rfl,rfl,rfl,by decide +kernel,rfl,by decide +kernel,by decide +kernel⟩
theorem ok_whole (F:Fun K "_law_whole" "_law_whole" sWhole f fd) (mi:mg "isinstance" = none) (mn:mg "int" = none) (mb:mg "bool" = none) :
    FnOk P w K mg base CX0 1 f fd ["_law_found"] spWhole:=by
  refine F.okZ scWhole (fun vs H Q E h=>?_) (fun cdv A outer s H vs Q E hr h=>?_)
  . obtain ⟨n,rfl,_⟩:=h;rfl
  obtain ⟨n,rfl,q⟩:=h
  refine ⟨_,zss_one (zs_ret (ze_and (ze_callB (call_isi (b:=true) (T := "int") (U := "int") (fun K=>by rfl)) rfl mi (by rfl) (za_n (zv 0) (za_n (ze_tyn rfl mn (by rfl)) za_nil)))
    (ze_one (ze_not (ze_callB (call_isi (b:=false) (T := "bool") (U := "int") (fun K=>by rfl)) rfl mi (by rfl) (za_n (zv 0) (za_n (ze_tyn rfl mb (by rfl)) za_nil))))))),?_⟩
  exact ⟨_,rfl,_,rfl,.int n,_,rfl,iteT ⟨_,rfl,_,rfl,.int n,_,rfl,q⟩⟩
theorem scDSame2:FnScope ["_law_found","_law_due_here"] ["_law_found","_law_due_here"] (defScope sDSame2):=⟨rfl,rfl,rfl,by decide +kernel,rfl,by decide +kernel,by decide +kernel⟩
theorem ok_dsame2 (F:Fun K "_law_same" "_law_same" sDSame2 f fd) (bG:Binds K fd ["_law_found","_law_due_here"] []) (kG:PySem.W.keepIn K (.ref f)=true) (mG:mg "_law_same" = some (.ref f))
    (G2:FnOk P w K mg base CX0 1 g2 gd2 ["_law_found"] spWhole) (bG2:Binds K gd2 ["_law_found"] []) (kG2:PySem.W.keepIn K (.ref g2)=true) (mG2:mg "_law_whole" = some (.ref g2)) (m_isinstance:mg "isinstance" = none) (m_list:mg "list" = none) (m_tuple:mg "tuple" = none) (m_len:mg "len" = none) (m_range:mg "range" = none) (m_str:mg "str" = none) :
    FnOk P w K mg base CX0 5 f fd ["_law_found","_law_due_here"] (spP K (RSm 4)):=by
  have all:∀ n:Nat,FnOk P w K mg base CX0 (n + 1) f fd ["_law_found","_law_due_here"] (spP K (RSm n)):=by
    intro n
    induction n with
    | zero=>exact F.okZ scDSame2 (fun vs H Q E h=>let ⟨_,_,_,⟨_,_,z,_⟩,_⟩:=h;z.elim) (fun cdv A outer s H vs Q E hr h=>let ⟨_,_,_,⟨_,_,z,_⟩,_⟩:=h;z.elim)
    | succ n G =>
      refine okP F scDSame2 (fun ds d h=>?_) (fun cdv A0 outer s0 H0 E0 hr=>?_)
      . obtain ⟨x,rfl,_⟩:=h;rfl
      have r:=hr
      have r2:=hr.mono (show 1<=n + 1 by omega)
      refine ⟨_,(zss_cons (zs_if (ZW.pt (zw_or (zt_val (ze_callB (call_isiD (T := "tuple")) rfl m_isinstance (by rfl) (za_n (zv 1) (za_n (ze_tyn rfl m_tuple (by rfl)) za_nil)))) (zw_or1 (zt_val (ze_callB (call_isiD (T := "list")) rfl m_isinstance (by rfl) (za_n (zv 1) (za_n (ze_tyn rfl m_list (by rfl)) za_nil))))))) (zss_cons (zs_if (ZW.pt (zw_or (zt_cmpR op_ne (ze_callB (call_isiD (T := "tuple")) rfl m_isinstance (by rfl) (za_n (zv 0) (za_n (ze_tyn rfl m_tuple (by rfl)) za_nil))) (ze_callB (call_isiD (T := "tuple")) rfl m_isinstance (by rfl) (za_n (zv 1) (za_n (ze_tyn rfl m_tuple (by rfl)) za_nil))) (nomark _)) (zw_or1 (zt_cmpR op_ne (ze_callB (call_isiD (T := "list")) rfl m_isinstance (by rfl) (za_n (zv 0) (za_n (ze_tyn rfl m_list (by rfl)) za_nil))) (ze_callB (call_isiD (T := "list")) rfl m_isinstance (by rfl) (za_n (zv 1) (za_n (ze_tyn rfl m_list (by rfl)) za_nil))) (nomark _))))) (zss_one (zs_ret ze_bl)) zss_nil)
    (zss_cons (zs_if (zt_cmpR op_ne (ze_callB call_len_seq rfl m_len PySem.boot_len (za_n (zv 0) za_nil)) (ze_callB call_len_seq rfl m_len PySem.boot_len (za_n (zv 1) za_nil)) (nomark _)) (zss_one (zs_ret ze_bl)) zss_nil)
    (zss_one (zs_ret (ze_cmpR op_eq (ze_callB call_len_seq rfl m_len PySem.boot_len (za_cons (ze_comp (own:=["_law_k"]) scDSame2 rfl ⟨by decide +kernel,rfl,by decide +kernel,by decide +kernel,by decide +kernel,by decide +kernel,by decide +kernel,by decide +kernel,by decide +kernel⟩ (zi_range1 rfl m_range (za_c (ze_callB call_len_seq rfl m_len PySem.boot_len (za_n (zv 1) za_nil)) za_nil)) (fun C fp s H nd=>zg_name (i:=0) nd rfl (Or.inl rfl)) (fun C fp s H=>zts_one (zt_not (zt_val (ze_call G r rfl mG kG bG .nil pass0 (za_s (ze_ix ix_tupC (zv 1) (zv 0) (fun _ _=>rfl)) (za_s (ze_ix ix_tupC (zv 2) (zv 0) (fun _ _=>rfl)) za_nil)))))) (fun C fp s H=>(zv 0))) za_nil)) ze_int (nomark _)))))) zss_nil)
    (zss_cons (zs_if (ZW.pt (zw_or (zt_val (ze_callB (call_isiD (T := "str")) rfl m_isinstance (by rfl) (za_n (zv 1) (za_n (ze_tyn rfl m_str (by rfl)) za_nil)))) (zw_or1 (zt_cmpR op_isN (zv 1) ze_non (nomark _))))) (zss_one (zs_ret (ze_and (ze_cmpR op_eq (zv 0) (zv 1) (nomark _)) (ze_one (ze_cmpR op_eq (ze_callB (call_isiD (T := "str")) rfl m_isinstance (by rfl) (za_n (zv 0) (za_n (ze_tyn rfl m_str (by rfl)) za_nil))) (ze_callB (call_isiD (T := "str")) rfl m_isinstance (by rfl) (za_n (zv 1) (za_n (ze_tyn rfl m_str (by rfl)) za_nil))) (nomark _)))))) zss_nil)
    (zss_one (zs_ret (ze_and (ze_call G2 r2 rfl mG2 kG2 bG2 .nil pass0 (za_n (zv 0) za_nil)) (ze_one (ze_cmpR op_eq (zv 0) (zv 1) (nomark _)))))))),fun ds d h=>?_⟩
      obtain ⟨x,rfl,hx,rfl⟩:=h
      cases x with
      | int i =>
        refine S.ifsF (T1.orF (T1.val (E1.isi' false (E1.var rfl) (fun K=>by rfl))) (T1.val (E1.isi' false (E1.var rfl) (fun K=>by rfl)))) ?_
        refine S.ifsF (T1.orF (T1.val (E1.isi' false (E1.var rfl) (fun K=>by rfl))) (T1.test (E1.isNo (d:=.int i) (E1.var rfl) E1.non))) ?_
        exact S.ret1 (s:=.dat (.bool true)) (E1.andV (b:=true) (E1.cWhole (A1.cons (E1.var rfl) A1.nil)) (fun _=>E1.to (E1.eq (E1.var rfl) (E1.var rfl)) (by rw [decide_eq_true rfl])) (fun z=>by cases z)) ⟨rfl,rfl⟩
      | none =>
        refine S.ifsF (T1.orF (T1.val (E1.isi' false (E1.var rfl) (fun K=>by rfl))) (T1.val (E1.isi' false (E1.var rfl) (fun K=>by rfl)))) ?_
        refine S.ifs (b:=true) (T.or (C:=fun b=>false=b) (T1.val (E1.isi' false (E1.var rfl) (fun K=>by rfl))) (fun z=>by cases z) (fun _=>T1.test (E1.isNo (d:=.none) (E1.var rfl) E1.non))) (fun _=>?_) (fun z=>by cases z)
        exact S.ret1 (s:=.dat (.bool true)) (E1.andV (b:=true) (E1.eqNN (E1.var rfl) (E1.var rfl)) (fun _=>E1.to (E1.eqB (E1.isi' false (E1.var rfl) (fun K=>by rfl)) (E1.isi' false (E1.var rfl) (fun K=>by rfl))) rfl) (fun z=>by cases z)) ⟨rfl,rfl⟩
      | tuple es =>
        obtain ⟨le,he⟩:=hx
        refine S.ifs (b:=true) (T.or (C:=fun b=>true=b) (T1.val (E1.isi' true (E1.var rfl) (fun K=>by rfl))) (fun _=>rfl) (fun z=>by cases z)) (fun _=>?_) (fun z=>by cases z)
        refine S.ifsF (T1.orF ((T1.test (E1.neB (E1.isi' true (E1.var rfl) (fun K=>by rfl)) (E1.isi' true (E1.var rfl) (fun K=>by rfl)))).eqn rfl) ((T1.test (E1.neB (E1.isi' false (E1.var rfl) (fun K=>by rfl)) (E1.isi' false (E1.var rfl) (fun K=>by rfl)))).eqn rfl)) ?_
        refine S.ifsF (T1.neT (E1.lenT (A1.cons (E1.var rfl) A1.nil)) (E1.lenT (A1.cons (E1.var rfl) A1.nil)) rfl) ?_
        refine S.ret1 (s:=.dat (.bool true)) ?_ ⟨rfl,rfl⟩
        refine E1.to (E1.eq (E1.lenL (A1.cons (E1.vwo (E1.compF (f:=id) (kp:=fun _=>false) (Wk.rng (j:=(es.length:Int)) (n:=es.length) (A1.cons (E1.lenT (A1.cons (E1.var rfl) A1.nil)) A1.nil) (by simp) (by omega) (by omega)) (fun d hd=>?_) (fun d hd z=>by cases z) (by rw [rangeD_len];exact Nat.le_trans le (by decide)))) A1.nil)) E1.int) ?_
        . obtain ⟨i,hi⟩:=List.mem_iff_getElem?.mp hd
          obtain ⟨hlt,rfl⟩:=rangeD_get hi
          have ee:es[i]?=some es[i]:=by simp [hlt]
          refine T1.notT (T1.val (E1.call (R:=RSm n) (ds:=[es[i],es[i]]) (A1.cons (E1.ixT (E1.var rfl) (E1.var rfl) (by rw [Int.zero_add];exact atI_nat ee)) (A1.cons (E1.ixT (E1.var rfl) (E1.var rfl) (by rw [Int.zero_add];exact atI_nat ee)) A1.nil)) ⟨_,rfl,he _ (List.getElem_mem hlt),rfl⟩))
        . rw [List.filter_eq_nil_iff.mpr fun _ _=>by simp]
          rfl
      | _=>exact hx.elim
  exact all 4
theorem scThingB:FnScope ["_law_kind","_law_purse_here","_law_most","_law_top","_law_k","_law_found"] ["_law_kind","_law_purse_here","_law_most"] (defScope sThingB):=⟨rfl,rfl,rfl,by decide +kernel,rfl,by decide +kernel,by decide +kernel⟩
theorem ok_thingb (F:Fun K "_law_thing" "_law_thing" sThingB f fd) (bG4:Binds K fd ["_law_kind","_law_purse_here","_law_most"] []) (kG4:PySem.W.keepIn K (.ref f)=true) (mG4:mg "_law_thing" = some (.ref f))
    (G:FnOk P w K mg base CX0 2 g gd ["_law_purse_here","_law_kind"] spNumber2) (bG:Binds K gd ["_law_purse_here","_law_kind"] []) (kG:PySem.W.keepIn K (.ref g)=true) (mG:mg "_law_number" = some (.ref g))
    (G2:FnOk P w K mg base CX0 1 g2 gd2 ["_law_purse_here","_law_many"] spDraw) (bG2:Binds K gd2 ["_law_purse_here","_law_many"] []) (kG2:PySem.W.keepIn K (.ref g2)=true) (mG2:mg "_law_take" = some (.ref g2))
    (G3:FnOk P w K mg base CX0 2 g3 gd3 ["_law_top","_law_bottom"] (spMade K)) (bG3:Binds K gd3 ["_law_top","_law_bottom"] []) (kG3:PySem.W.keepIn K (.ref g3)=true) (mG3:mg "_law_lowest" = some (.ref g3)) (m_range:mg "range" = none) (m_tuple:mg "tuple" = none) (m_len:mg "len" = none) :
    FnOk P w K mg base CX0 5 f fd ["_law_kind","_law_purse_here","_law_most"] (spV K (RThB 3)):=by
  have all:∀ n:Nat,FnOk P w K mg base CX0 (n + 2) f fd ["_law_kind","_law_purse_here","_law_most"] (spV K (RThB n)):=by
    intro n
    induction n with
    | zero=>exact F.okZ scThingB (fun vs H Q E h=>let ⟨_,_,_,_,_,_,_,_,_,z,_⟩:=h;(RThB.zero z).elim) (fun cdv A outer s H vs Q E hr h=>let ⟨_,_,_,_,_,_,_,_,_,z,_⟩:=h;(RThB.zero z).elim)
    | succ n G4 =>
      refine okV F scThingB (fun ds d h=>?_) (fun cdv A0 outer s0 H0 E0 hr=>?_)
      . obtain ⟨kind,most,e,_⟩:=h;cases e;rfl
      have r:=hr.mono (show 2<=n + 2 by omega)
      have r2:=hr.mono (show 1<=n + 2 by omega)
      have r3:=hr.mono (show 2<=n + 2 by omega)
      have r4:=hr
      refine ⟨_,(zss_cons (zs_if (zt_cmpR op_eq (zv 0) ze_int (nomark _)) (zss_cons (zs_set (i:=3) scThingB.nd rfl (Or.inl rfl) (ze_call G r rfl mG kG bG .nil pass0 (za_n (zv 1) (za_s (ze_ix ix_list (ze_lst (za_i (za_i (za_i (za_i za_nil))))) (ze_call G2 r2 rfl mG2 kG2 bG2 .nil pass0 (za_n (zv 1) (za_i za_nil))) pix_call) za_nil))))
    (zss_cons (zs_if (zt_cmpR op_ge (ze_call G2 r2 rfl mG2 kG2 bG2 .nil pass0 (za_n (zv 1) (za_i za_nil))) (zv 2) (nomark _)) (zss_cons (zs_set (i:=3) scThingB.nd rfl (Or.inl rfl) ze_int)
    (zss_cons (zs_for PassesOwn.never rfl (zi_range1 rfl m_range (za_s (ze_ix ix_list (ze_lst (za_i (za_i (za_i za_nil)))) (ze_call G2 r2 rfl mG2 kG2 bG2 .nil pass0 (za_n (zv 1) (za_i za_nil))) pix_call) za_nil)) (zg_name (i:=4) scThingB.nd rfl (Or.inl rfl)) (zss_one (zs_set (i:=3) scThingB.nd rfl (Or.inl rfl) (ze_op op_add (ze_op op_mulB (zv 3) (ze_op op_pow ze_int ze_int)) (ze_call G2 r2 rfl mG2 kG2 bG2 .nil pass0 (za_n (zv 1) (za_b (ze_op op_pow ze_int ze_int) za_nil)))))))
    (zss_one (zs_set (i:=3) scThingB.nd rfl (Or.inl rfl) (ze_op op_mulB (zv 3) (ze_ix ix_list (ze_lst (za_i (za_u (ze_un un_neg ze_int) za_nil))) (ze_call G2 r2 rfl mG2 kG2 bG2 .nil pass0 (za_n (zv 1) (za_i za_nil))) pix_call)))))) zss_nil)
    (zss_one (zs_ret (ze_call G3 r3 rfl mG3 kG3 bG3 .nil pass0 (za_n (zv 3) (za_b (ze_op op_add ze_int (ze_call G2 r2 rfl mG2 kG2 bG2 .nil pass0 (za_n (zv 1) (za_s (ze_ix ix_list (ze_lst (za_i (za_i (za_b (ze_op op_sub (ze_op op_pow ze_int ze_int) ze_int) za_nil)))) (ze_call G2 r2 rfl mG2 kG2 bG2 .nil pass0 (za_n (zv 1) (za_i za_nil))) pix_call) za_nil)))) za_nil))))))) zss_nil)
    (zss_cons (zs_if (zt_cmpR op_eq (zv 0) ze_int (nomark _)) (zss_one (zs_ret (ze_callTy call_tuple_of rfl m_tuple (by rfl) (za_cons (ze_comp (own:=["_law_k"]) scThingB rfl ⟨by decide +kernel,rfl,by decide +kernel,by decide +kernel,by decide +kernel,by decide +kernel,by decide +kernel,by decide +kernel,by decide +kernel⟩ (zi_range1 rfl m_range (za_i za_nil)) (fun C fp s H nd=>zg_name (i:=0) nd rfl (Or.inl rfl)) (fun C fp s H=>zts_nil) (fun C fp s H=>(ze_call G4 r4 rfl mG4 kG4 bG4 .nil pass0 (za_i (za_n (zv 2) (za_n (zv 3) za_nil)))))) za_nil)))) zss_nil)
    (zss_cons (zs_if (zt_cmpR op_eq (zv 0) ze_int (nomark _)) (zss_one (zs_ret (ze_callTy call_tuple_of rfl m_tuple (by rfl) (za_cons (ze_comp (own:=["_law_k"]) scThingB rfl ⟨by decide +kernel,rfl,by decide +kernel,by decide +kernel,by decide +kernel,by decide +kernel,by decide +kernel,by decide +kernel,by decide +kernel⟩ (zi_range1 rfl m_range (za_i za_nil)) (fun C fp s H nd=>zg_name (i:=0) nd rfl (Or.inl rfl)) (fun C fp s H=>zts_nil) (fun C fp s H=>(ze_call G4 r4 rfl mG4 kG4 bG4 .nil pass0 (za_i (za_n (zv 2) (za_n (zv 3) za_nil)))))) za_nil)))) zss_nil)
    (zss_cons (zs_comp (i:=5) (own:=["_law_k"]) scThingB rfl ⟨by decide +kernel,rfl,by decide +kernel,by decide +kernel,by decide +kernel,by decide +kernel,by decide +kernel,by decide +kernel,by decide +kernel⟩ (zi_range1 rfl m_range (za_s (ze_ix ix_list (ze_lst (za_i (za_i (za_i (za_i (za_i (za_i za_nil))))))) (zv 0) (fun _ _=>rfl)) za_nil)) (fun C fp s H nd=>zg_name (i:=0) nd rfl (Or.inl rfl)) (fun C fp s H=>zts_nil) (fun C fp s H=>(ze_ix ix_tupC (ze_call G4 r4 rfl mG4 kG4 bG4 .nil pass0 (za_i (za_n (zv 2) (za_n (zv 3) za_nil)))) ze_int (fun _ _=>rfl))) scThingB.nd rfl (Or.inl rfl) rfl)
    (zss_cons (zs_if (zt_cmpR op_eq (ze_callB call_len_seq rfl m_len PySem.boot_len (za_cons (ze_comp (own:=["_law_one"]) scThingB rfl ⟨by decide +kernel,rfl,by decide +kernel,by decide +kernel,by decide +kernel,by decide +kernel,by decide +kernel,by decide +kernel,by decide +kernel⟩ (zi_list (zv 5)) (fun C fp s H nd=>zg_name (i:=0) nd rfl (Or.inl rfl)) (fun C fp s H=>zts_one (zt_cmpR op_ne (zv 0) ze_int (nomark _))) (fun C fp s H=>(zv 0))) za_nil)) ze_int (nomark _)) (zss_one (zs_asg ze_int (zg_sub (zv 5) (ze_call G2 r2 rfl mG2 kG2 bG2 .nil pass0 (za_n (zv 1) (za_c (ze_callB call_len_seq rfl m_len PySem.boot_len (za_n (zv 5) za_nil)) za_nil))) set_list (fun _=>rfl)))) zss_nil)
    (zss_one (zs_ret (ze_callTy call_tuple_of rfl m_tuple (by rfl) (za_n (zv 5) za_nil))))))))),fun q0 d0 ds C h=>?_⟩
      obtain ⟨kind,most,e,k0,k5,hn,rfl⟩:=h
      cases e
      have hk:kind=0\/kind=3\/kind=4\/kind=1\/kind=2\/kind=5:=by omega
      rcases hk with rfl | rfl | rfl | rfl | rfl | rfl
      . refine S.ifs (b:=true) ((T1.test (E1.eq (E1.var rfl) E1.int)).eqn (by decide)) (fun _=>?_) (fun z=>by cases z)
        refine S.letC (EI.num2A (C:=fun ss=>∃ m:Int,ss=[.pu,.dat (.int m)]) (A.cons (C1:=fun s=>.pu=s) (E1.varP rfl) (fun _ _=>A.one (EI.pick (ms:=[0,3,4,5]) (E1.vwo (E1.li (by (walk_at "au3")) rfl (lsz (n:=4) rfl z4))) (EI.draw (A1.cons (E1.varP rfl) (A1.cons E1.int A1.nil)) (by decide:(0:Int) < 4) (by decide)) (fun d h=>h))) (fun s ss e1 ⟨s',e2,m,e3,_⟩=>⟨m,by rw [e2,e3, <- e1]⟩)) (fun ss h=>h)) (fun s ⟨_,e,_⟩=>by rw [e];rfl) fun s ⟨t,e,ht⟩=>?_
        subst e
        refine S.seq (M:=fun τ'=>∃ (t:Int) (o:Sl),τ'=[.dat (.int 0),.pu,.dat (.int most),.dat (.int t),o,.un]/\Bt t 4890) ?_ fun τ' ⟨t,o,eτ,bt⟩=>?_
        . refine S.iff (T.cmpI (EI.draw (A1.cons (E1.varP rfl) (A1.cons E1.int A1.nil)) (by decide:(0:Int) < 12) (by decide)) (EI.of (P:=fun j=>j=most) (E1.var rfl) rfl)) (fun _=>?_) (fun _=>S.next ⟨t,_,rfl,bt_num ht⟩)
          refine S.let1 (s:=.dat (.int 1)) E1.int ?_
          refine S.seq (M:=fun τ'=>∃ (t:Int) (o:Sl),τ'=[.dat (.int 0),.pu,.dat (.int most),.dat (.int t),o,.un]/\Bt t 4890) ?_ fun τ' ⟨t,o,eτ,bt⟩=>?_
          . refine S.forC (WkC.rng (P:=fun j=>j ∈ [3,48,49]) (EI.pick (ms:=[3,48,49]) (E1.vwo (E1.li (by (walk_at "au3")) rfl (lsz (n:=3) rfl z3))) (EI.draw (A1.cons (E1.varP rfl) (A1.cons E1.int A1.nil)) (by decide:(0:Int) < 3) (by decide)) (fun d h=>h)) (fun j hj=>by simp only [List.mem_cons,List.mem_nil_iff,or_false] at hj;omega)) fun ds ⟨j,hj,eds⟩=>?_
            subst eds
            have j49:j.toNat<=49:=by simp only [List.mem_cons,List.mem_nil_iff,or_false] at hj;omega
            refine ⟨fun k τ'=>∃ (t:Int) (o:Sl),τ'=[.dat (.int 0),.pu,.dat (.int most),.dat (.int t),o,.un]/\TopB k t,⟨1,_,rfl,topB0⟩,fun k d τ1 hd ⟨t,o,e1,tb⟩=>?_,fun τ1 ⟨t,o,e1,tb⟩=>⟨t,o,e1,tb.bt (by rw [rangeD_len];exact j49)⟩⟩
            subst e1
            have hk:=(rangeD_get hd).1
            refine ⟨_,Gd.name,?_⟩
            refine S.asg (EI.op (g:=fun i j=>i + j) (EI.opC (P:=fun i=>i=t) (Q:=fun j=>j=10 ^ 30) (g:=fun i j=>i * j) (EI.of (E1.var rfl) rfl) (EI.of (E1.pow E1.int E1.int (cpow10 (by decide) (by decide))) rfl) (fun a b ha hb=>by subst ha;subst hb;exact tb.mok (by omega))) (EI.draw (m:=10 ^ 9) (A1.cons (E1.varP rfl) (A1.cons (E1.pow E1.int E1.int (cpow10 (by decide) (by decide))) A1.nil)) (by decide) (by decide))) (fun s ⟨_,e,_⟩=>by rw [e];rfl) fun s ⟨v,es,i,r,⟨a,b,ha,hb,hab⟩,hr,hv⟩=>⟨v,_,by subst es;rfl,?_⟩
            subst ha hb hab hv
            exact tb.next hr
          subst eτ
          refine S.asg (EI.opC (P:=fun i=>i=t) (Q:=fun j=>j ∈ [1, -1]) (g:=fun i j=>i * j) (EI.of (E1.var rfl) rfl) (EI.pick (ms:=[1, -1]) (E1.vwo (E1.li (by (walk_at "au3")) rfl (lsz (n:=2) rfl z2))) (EI.draw (A1.cons (E1.varP rfl) (A1.cons E1.int A1.nil)) (by decide:(0:Int) < 2) (by decide)) (fun d h=>h)) (fun a b ha hb=>by subst ha;exact sgn_mok bt hb)) (fun s ⟨_,e,_⟩=>by rw [e];rfl) fun s ⟨v,es,a,b,ha,hb,hv⟩=>⟨v,_,by subst es;rfl,?_⟩
          subst ha hv
          exact sgn_bt bt hb
        subst eτ
        refine S.ret (E.cMadeA (P:=fun t' b=>t'=t/\0 < b/\b<=10 ^ 30) (C:=fun ss=>∃ b:Int,ss=[.dat (.int t),.dat (.int b)]/\0 < b/\b<=10 ^ 30) (A.cons (C1:=fun s=>.dat (.int t)=s) (E1.var rfl) (fun _ _=>A.one (EI.mono (P':=fun b=>0 < b/\b<=10 ^ 30) (EI.op EI.lit (EI.drawP (M:=10 ^ 30) (EI.pick (ms:=[1,12,10 ^ 30 - 1]) (E1.vwo (E1.li (by (walk_at "au3")) rfl (lsz (n:=3) rfl z3))) (EI.draw (A1.cons (E1.varP rfl) (A1.cons E1.int A1.nil)) (by decide:(0:Int) < 3) (by decide)) (fun d h=>h)) (by decide) (by decide) rfl)) fun k ⟨i,j,hi,hj,ek⟩=>by omega)) (fun s ss e1 ⟨s',e2,b,e3,hb⟩=>⟨b,by rw [e2,e3, <- e1],hb⟩)) (fun ss ⟨b,e,b0,b1⟩=>⟨t,b,e,⟨rfl,b0,b1⟩,b0,(show Bt b 100 by unfold Bt;exact Nat.le_trans (show b.natAbs<=10 ^ 30 by omega) (by decide)).up (by decide)⟩)) ?_
        rintro s ⟨t',b,rfl,rfl,b0,b1⟩
        exact ⟨_,⟨_,.num (gq_of bt b0 b1)⟩,rfl,noLs_ints _⟩
      . have m0:nd 0<=n:=by have:nd 3=2:=rfl;have:nd 0=1:=rfl;omega
        refine S.ifsF ((T1.test (E1.eq (E1.var rfl) E1.int)).eqn (by decide)) (S.ifs (b:=true) ((T1.test (E1.eq (E1.var rfl) E1.int)).eqn (by decide)) (fun _=>?_) (fun z=>by cases z))
        refine S.ret (E.tupC (E.compC (Cd:=fun _ e=>ThB 0 e) (Wk.r3 (A1.cons E1.int A1.nil)) (fun d hd=>(E.callV (R:=RThB n) (d0:=.int 0) (ds:=[.int most]) (A1.cons E1.int (A1.cons (E1.varP rfl) (A1.cons (E1.var rfl) A1.nil))) ⟨0,most,rfl,by decide,by decide,m0,rfl⟩)) (lsz (n:=3) rfl z3))) ?_
        rintro s ⟨es,rfl,l,he⟩
        obtain ⟨q,hq,eq⟩:=th0s l (fun e h=>by
          obtain ⟨i,hi⟩:=List.getElem?_of_mem h
          obtain ⟨_,_,w⟩:=he i e hi
          exact w)
        rw [eq]
        exact ⟨_,⟨_,.pt hq⟩,rfl,noL_pD3 _⟩
      . have m3:nd 3<=n:=by have:nd 4=3:=rfl;have:nd 3=2:=rfl;omega
        refine S.ifsF ((T1.test (E1.eq (E1.var rfl) E1.int)).eqn (by decide)) (S.ifsF ((T1.test (E1.eq (E1.var rfl) E1.int)).eqn (by decide)) (S.ifs (b:=true) ((T1.test (E1.eq (E1.var rfl) E1.int)).eqn (by decide)) (fun _=>?_) (fun z=>by cases z)))
        refine S.ret (E.tupC (E.compC (Cd:=fun _ e=>ThB 3 e) (Wk.r3 (A1.cons E1.int A1.nil)) (fun d hd=>(E.callV (R:=RThB n) (d0:=.int 3) (ds:=[.int most]) (A1.cons E1.int (A1.cons (E1.varP rfl) (A1.cons (E1.var rfl) A1.nil))) ⟨3,most,rfl,by decide,by decide,m3,rfl⟩)) (lsz (n:=3) rfl z3))) ?_
        rintro s ⟨es,rfl,l,he⟩
        obtain ⟨q,hq,eq⟩:=th3s l (fun e h=>by
          obtain ⟨i,hi⟩:=List.getElem?_of_mem h
          obtain ⟨_,_,w⟩:=he i e hi
          exact w)
        rw [eq]
        exact ⟨_,⟨_,.tab hq⟩,rfl,noL_tD3 _⟩
      . have m0:nd 0<=n:=by have:nd 1=2:=rfl;have:nd 0=1:=rfl;omega
        refine S.ifsF ((T1.test (E1.eq (E1.var rfl) E1.int)).eqn (by decide)) (S.ifsF ((T1.test (E1.eq (E1.var rfl) E1.int)).eqn (by decide)) (S.ifsF ((T1.test (E1.eq (E1.var rfl) E1.int)).eqn (by decide)) ?_))
        refine S.letOC (C:=fun ds=>∃ ns:List Int,ds=ns.map .int/\ns.length=4/\∀ n ∈ ns,Bg n) (E.mono (EL.comp (n:=4) (P:=fun m=>Bg m) (Wk.rng (j:=4) (n:=4) (A1.cons (E1.ixL (i:=1) (ds:=[0,4,3,0,0,2].map .int) (E1.vwo (E1.li (by (walk_at "au3")) rfl (lsz (n:=6) rfl z6))) (E1.var rfl) rfl) A1.nil) rfl) rangeD_len (fun d _=>E.mono (E.ixTC (E.callV (R:=RThB n) (d0:=.int 0) (ds:=[.int most]) (A1.cons E1.int (A1.cons (E1.varP rfl) (A1.cons (E1.var rfl) A1.nil))) ⟨0,most,rfl,by decide,by decide,m0,rfl⟩) E1.int thB_at) fun s ⟨e,h1,i,h2,h3⟩=>⟨i,by rw [h1,h2],h3⟩) (Nat.le_trans (by decide) z6)) fun s ⟨ns,e,l,h⟩=>⟨_,e,noLs_ints _,ns,rfl,l,h⟩) fun ds ⟨ns,e,ln,bn⟩=>?_
        subst e
        refine S.seq (M:=fun τ'=>∃ ns:List Int,τ'=[.dat (.int 1),.pu,.dat (.int most),.un,.un,.own (ns.map .int)]/\RowB 4 ns) ?_ fun τ' ⟨ns,eτ,hr⟩=>?_
        . refine S.if1 (T1.test (E1.eq (E1.frzI (i:=5) (ds:=ns.map .int) (τ':=[.dat (.int 1),.pu,.dat (.int most),.un,.un,.dat (.list (ns.map .int))]) rfl (E1.lenL (A1.cons (E1.vwo (E1.compF (ds:=ns.map .int) (f:=id) (kp:=nzD) (Wk.lst (E1.var rfl)) (fun d hd=>by
            obtain ⟨x,hx,rfl⟩:=List.mem_map.mp hd
            exact T1.test (E1.ne (E1.var rfl) E1.int)) (fun d hd _=>(E1.var rfl)) (by rw [List.length_map,ln];exact Nat.le_trans (by decide) z6))) A1.nil))) E1.int)) (fun h=>?_) (fun h=>S.next ⟨ns,rfl,bn,ln,nz_any (of_decide_eq_false h)⟩)
          refine S.setit (ds:=ns.map .int) (C:=fun d=>d = .int 1) (P:=fun i=>0<=i/\i < 4) rfl (E.mono E1.int fun s e5=>⟨_,e5.symm,rfl,rfl⟩) (EI.draw (m:=4) (A1.cons (E1.varP rfl) (A1.cons (E1.to (E1.lenL (A1.cons (E1.varO rfl) A1.nil)) (by rw [List.length_map,ln];rfl)) A1.nil)) (by decide) (by decide)) (fun i hi=>by rw [List.length_map,ln];exact hi) fun d i hd hi=>?_
          subst hd
          exact ⟨ns.set i.toNat 1,by rw [<- map_set'];rfl,bg_set bn,by rw [List.length_set];exact ln,any_set (by omega)⟩
        subst eτ
        exact S.ret1 (s:=.dat (.tuple (ns.map .int))) (E1.tupleL (A1.cons (E1.varO rfl) A1.nil)) ⟨_,⟨_,.four hr⟩,rfl,noLs_ints _⟩
      . have m0:nd 0<=n:=by have:nd 2=2:=rfl;have:nd 0=1:=rfl;omega
        refine S.ifsF ((T1.test (E1.eq (E1.var rfl) E1.int)).eqn (by decide)) (S.ifsF ((T1.test (E1.eq (E1.var rfl) E1.int)).eqn (by decide)) (S.ifsF ((T1.test (E1.eq (E1.var rfl) E1.int)).eqn (by decide)) ?_))
        refine S.letOC (C:=fun ds=>∃ ns:List Int,ds=ns.map .int/\ns.length=3/\∀ n ∈ ns,Bg n) (E.mono (EL.comp (n:=3) (P:=fun m=>Bg m) (Wk.rng (j:=3) (n:=3) (A1.cons (E1.ixL (i:=2) (ds:=[0,4,3,0,0,2].map .int) (E1.vwo (E1.li (by (walk_at "au3")) rfl (lsz (n:=6) rfl z6))) (E1.var rfl) rfl) A1.nil) rfl) rangeD_len (fun d _=>E.mono (E.ixTC (E.callV (R:=RThB n) (d0:=.int 0) (ds:=[.int most]) (A1.cons E1.int (A1.cons (E1.varP rfl) (A1.cons (E1.var rfl) A1.nil))) ⟨0,most,rfl,by decide,by decide,m0,rfl⟩) E1.int thB_at) fun s ⟨e,h1,i,h2,h3⟩=>⟨i,by rw [h1,h2],h3⟩) (Nat.le_trans (by decide) z6)) fun s ⟨ns,e,l,h⟩=>⟨_,e,noLs_ints _,ns,rfl,l,h⟩) fun ds ⟨ns,e,ln,bn⟩=>?_
        subst e
        refine S.seq (M:=fun τ'=>∃ ns:List Int,τ'=[.dat (.int 2),.pu,.dat (.int most),.un,.un,.own (ns.map .int)]/\RowB 3 ns) ?_ fun τ' ⟨ns,eτ,hr⟩=>?_
        . refine S.if1 (T1.test (E1.eq (E1.frzI (i:=5) (ds:=ns.map .int) (τ':=[.dat (.int 2),.pu,.dat (.int most),.un,.un,.dat (.list (ns.map .int))]) rfl (E1.lenL (A1.cons (E1.vwo (E1.compF (ds:=ns.map .int) (f:=id) (kp:=nzD) (Wk.lst (E1.var rfl)) (fun d hd=>by
            obtain ⟨x,hx,rfl⟩:=List.mem_map.mp hd
            exact T1.test (E1.ne (E1.var rfl) E1.int)) (fun d hd _=>(E1.var rfl)) (by rw [List.length_map,ln];exact Nat.le_trans (by decide) z6))) A1.nil))) E1.int)) (fun h=>?_) (fun h=>S.next ⟨ns,rfl,bn,ln,nz_any (of_decide_eq_false h)⟩)
          refine S.setit (ds:=ns.map .int) (C:=fun d=>d = .int 1) (P:=fun i=>0<=i/\i < 3) rfl (E.mono E1.int fun s e5=>⟨_,e5.symm,rfl,rfl⟩) (EI.draw (m:=3) (A1.cons (E1.varP rfl) (A1.cons (E1.to (E1.lenL (A1.cons (E1.varO rfl) A1.nil)) (by rw [List.length_map,ln];rfl)) A1.nil)) (by decide) (by decide)) (fun i hi=>by rw [List.length_map,ln];exact hi) fun d i hd hi=>?_
          subst hd
          exact ⟨ns.set i.toNat 1,by rw [<- map_set'];rfl,bg_set bn,by rw [List.length_set];exact ln,any_set (by omega)⟩
        subst eτ
        exact S.ret1 (s:=.dat (.tuple (ns.map .int))) (E1.tupleL (A1.cons (E1.varO rfl) A1.nil)) ⟨_,⟨_,.way hr⟩,rfl,noLs_ints _⟩
      . have m0:nd 0<=n:=by have:nd 5=2:=rfl;have:nd 0=1:=rfl;omega
        refine S.ifsF ((T1.test (E1.eq (E1.var rfl) E1.int)).eqn (by decide)) (S.ifsF ((T1.test (E1.eq (E1.var rfl) E1.int)).eqn (by decide)) (S.ifsF ((T1.test (E1.eq (E1.var rfl) E1.int)).eqn (by decide)) ?_))
        refine S.letOC (C:=fun ds=>∃ ns:List Int,ds=ns.map .int/\ns.length=2/\∀ n ∈ ns,Bg n) (E.mono (EL.comp (n:=2) (P:=fun m=>Bg m) (Wk.rng (j:=2) (n:=2) (A1.cons (E1.ixL (i:=5) (ds:=[0,4,3,0,0,2].map .int) (E1.vwo (E1.li (by (walk_at "au3")) rfl (lsz (n:=6) rfl z6))) (E1.var rfl) rfl) A1.nil) rfl) rangeD_len (fun d _=>E.mono (E.ixTC (E.callV (R:=RThB n) (d0:=.int 0) (ds:=[.int most]) (A1.cons E1.int (A1.cons (E1.varP rfl) (A1.cons (E1.var rfl) A1.nil))) ⟨0,most,rfl,by decide,by decide,m0,rfl⟩) E1.int thB_at) fun s ⟨e,h1,i,h2,h3⟩=>⟨i,by rw [h1,h2],h3⟩) (Nat.le_trans (by decide) z6)) fun s ⟨ns,e,l,h⟩=>⟨_,e,noLs_ints _,ns,rfl,l,h⟩) fun ds ⟨ns,e,ln,bn⟩=>?_
        subst e
        refine S.seq (M:=fun τ'=>∃ ns:List Int,τ'=[.dat (.int 5),.pu,.dat (.int most),.un,.un,.own (ns.map .int)]/\RowB 2 ns) ?_ fun τ' ⟨ns,eτ,hr⟩=>?_
        . refine S.if1 (T1.test (E1.eq (E1.frzI (i:=5) (ds:=ns.map .int) (τ':=[.dat (.int 5),.pu,.dat (.int most),.un,.un,.dat (.list (ns.map .int))]) rfl (E1.lenL (A1.cons (E1.vwo (E1.compF (ds:=ns.map .int) (f:=id) (kp:=nzD) (Wk.lst (E1.var rfl)) (fun d hd=>by
            obtain ⟨x,hx,rfl⟩:=List.mem_map.mp hd
            exact T1.test (E1.ne (E1.var rfl) E1.int)) (fun d hd _=>(E1.var rfl)) (by rw [List.length_map,ln];exact Nat.le_trans (by decide) z6))) A1.nil))) E1.int)) (fun h=>?_) (fun h=>S.next ⟨ns,rfl,bn,ln,nz_any (of_decide_eq_false h)⟩)
          refine S.setit (ds:=ns.map .int) (C:=fun d=>d = .int 1) (P:=fun i=>0<=i/\i < 2) rfl (E.mono E1.int fun s e5=>⟨_,e5.symm,rfl,rfl⟩) (EI.draw (m:=2) (A1.cons (E1.varP rfl) (A1.cons (E1.to (E1.lenL (A1.cons (E1.varO rfl) A1.nil)) (by rw [List.length_map,ln];rfl)) A1.nil)) (by decide) (by decide)) (fun i hi=>by rw [List.length_map,ln];exact hi) fun d i hd hi=>?_
          subst hd
          exact ⟨ns.set i.toNat 1,by rw [<- map_set'];rfl,bg_set bn,by rw [List.length_set];exact ln,any_set (by omega)⟩
        subst eτ
        exact S.ret1 (s:=.dat (.tuple (ns.map .int))) (E1.tupleL (A1.cons (E1.varO rfl) A1.nil)) ⟨_,⟨_,.set hr⟩,rfl,noLs_ints _⟩
  exact all 3
theorem scWrittenB:FnScope ["_law_kind","_law_thing_here"] ["_law_kind","_law_thing_here"] (defScope sWrittenB):=⟨rfl,rfl,rfl,by decide +kernel,rfl,by decide +kernel,by decide +kernel⟩
theorem ok_writtenb (F:Fun K "_law_written" "_law_written" sWrittenB f fd) (bG:Binds K fd ["_law_kind","_law_thing_here"] []) (kG:PySem.W.keepIn K (.ref f)=true) (mG:mg "_law_written" = some (.ref f)) (dig:L2.DigN K) (m_str:mg "str" = none) (m_int:mg "int" = none) :
    FnOk P w K mg base CX0 4 f fd ["_law_kind","_law_thing_here"] (spP K (RTxB 3)):=by
  have all:∀ n:Nat,FnOk P w K mg base CX0 (n + 1) f fd ["_law_kind","_law_thing_here"] (spP K (RTxB n)):=by
    intro n
    induction n with
    | zero=>exact F.okZ scWrittenB (fun vs H Q E h=>let ⟨_,_,_,z,_⟩:=h;(RTxB.zero z).elim) (fun cdv A outer s H vs Q E hr h=>let ⟨_,_,_,z,_⟩:=h;(RTxB.zero z).elim)
    | succ n G =>
      refine okP F scWrittenB (fun ds d h=>?_) (fun cdv A0 outer s0 H0 E0 hr=>?_)
      . obtain ⟨kind,x,t,rfl,_⟩:=h;rfl
      have r:=hr
      refine ⟨_,(zss_cons (zs_if (ZW.pt (zw_and (zt_cmpR op_eq (zv 0) ze_int (nomark _)) (zw_and1 (zt_cmpR op_eq (ze_ix ix_tup (zv 1) ze_int (fun _ _=>rfl)) ze_int (nomark _))))) (zss_one (zs_ret (ze_callTy (call_strL rfl dig) rfl m_str (by rfl) (za_s (ze_ix ix_tup (zv 1) ze_int (fun _ _=>rfl)) za_nil)))) zss_nil)
    (zss_cons (zs_if (zt_cmpR op_eq (zv 0) ze_int (nomark _)) (zss_one (zs_ret (ze_op op_add_str (ze_op op_add_str (ze_callTy (call_strL rfl dig) rfl m_str (by rfl) (za_s (ze_ix ix_tup (zv 1) ze_int (fun _ _=>rfl)) za_nil)) ze_str) (ze_callTy (call_strL rfl dig) rfl m_str (by rfl) (za_s (ze_ix ix_tup (zv 1) ze_int (fun _ _=>rfl)) za_nil))))) zss_nil)
    (zss_cons (zs_if (zt_cmpR op_eq (zv 0) ze_int (nomark _)) (zss_one (zs_ret (ze_join ze_str (ze_comp (own:=["_law_one"]) scWrittenB rfl ⟨by decide +kernel,rfl,by decide +kernel,by decide +kernel,by decide +kernel,by decide +kernel,by decide +kernel,by decide +kernel,by decide +kernel⟩ (zi_tup (zv 1)) (fun C fp s H nd=>zg_name (i:=0) nd rfl (Or.inl rfl)) (fun C fp s H=>zts_nil) (fun C fp s H=>(ze_call G r rfl mG kG bG .nil pass0 (za_i (za_n (zv 0) za_nil)))))))) zss_nil)
    (zss_cons (zs_if (zt_cmpR op_eq (zv 0) ze_int (nomark _)) (zss_one (zs_ret (ze_join ze_str (ze_comp (own:=["_law_row"]) scWrittenB rfl ⟨by decide +kernel,rfl,by decide +kernel,by decide +kernel,by decide +kernel,by decide +kernel,by decide +kernel,by decide +kernel,by decide +kernel⟩ (zi_tup (zv 1)) (fun C fp s H nd=>zg_name (i:=0) nd rfl (Or.inl rfl)) (fun C fp s H=>zts_nil) (fun C fp s H=>(ze_call G r rfl mG kG bG .nil pass0 (za_i (za_n (zv 0) za_nil)))))))) zss_nil)
    (zss_one (zs_ret (ze_join (ze_ix ix_list (ze_lst (za_cons ze_str (za_cons ze_str za_nil))) (ze_callTy call_int1 rfl m_int (by rfl) (za_cons (ze_cmpR op_eq (zv 0) ze_int (nomark _)) za_nil)) pix_call) (ze_comp (own:=["_law_one"]) scWrittenB rfl ⟨by decide +kernel,rfl,by decide +kernel,by decide +kernel,by decide +kernel,by decide +kernel,by decide +kernel,by decide +kernel,by decide +kernel⟩ (zi_tup (zv 1)) (fun C fp s H nd=>zg_name (i:=0) nd rfl (Or.inl rfl)) (fun C fp s H=>zts_nil) (fun C fp s H=>(ze_callTy (call_strL rfl dig) rfl m_str (by rfl) (za_n (zv 0) za_nil))))))))))),fun ds d h=>?_⟩
      obtain ⟨kind,x,t,rfl,hn,ht,rfl⟩:=h
      cases ht with
      | num hq =>
        rename_i q
        have l1:=txI_big hq.1
        have l2:=txI_big hq.2.1
        by_cases h1:q.2=1
        . refine S.ifs (b:=true) (T1.andT ((T1.test (E1.eq (E1.var rfl) E1.int)).eqn (by decide)) ((T1.test (E1.eq (E1.ixT (E1.var rfl) E1.int rfl) E1.int)).eqn (decide_eq_true h1))) (fun _=>?_) (fun z=>by cases z)
          have e:tqF q=txI q.1:=by unfold tqF;rw [if_pos h1]
          rw [e]
          exact S.ret1 (s:=.dat (.str (txI q.1))) (E1.strL (A1.cons (E1.ixT (E1.var rfl) E1.int rfl) A1.nil) hq.1.str) ⟨rfl,rfl⟩
        . refine S.ifsF (T1.andT ((T1.test (E1.eq (E1.var rfl) E1.int)).eqn (by decide)) ((T1.test (E1.eq (E1.ixT (E1.var rfl) E1.int rfl) E1.int)).eqn (decide_eq_false h1))) (S.ifs (b:=true) ((T1.test (E1.eq (E1.var rfl) E1.int)).eqn (by decide)) (fun _=>?_) (fun z=>by cases z))
          have e:tqF q=txI q.1 ++ sla ++ txI q.2:=by unfold tqF;rw [if_neg h1]
          rw [e]
          have e1:sla.length=1:=rfl
          have sl:=sline
          exact S.ret1 (s:=.dat (.str (txI q.1 ++ sla ++ txI q.2))) (E1.addS (E1.addS (E1.strL (A1.cons (E1.ixT (E1.var rfl) E1.int rfl) A1.nil) hq.1.str) (E1.str (x:=sla)) (by omega)) (E1.strL (A1.cons (E1.ixT (E1.var rfl) E1.int rfl) A1.nil) hq.2.1.str) (by rw [len_app];omega)) ⟨rfl,rfl⟩
      | pt hl =>
        rename_i l
        have m0:nd 0<=n:=by have:nd 3=2:=rfl;have:nd 0=1:=rfl;omega
        refine S.ifsF (T1.andF ((T1.test (E1.eq (E1.var rfl) E1.int)).eqn (by decide))) (S.ifsF ((T1.test (E1.eq (E1.var rfl) E1.int)).eqn (by decide)) (S.ifs (b:=true) ((T1.test (E1.eq (E1.var rfl) E1.int)).eqn (by decide)) (fun _=>?_) (fun z=>by cases z)))
        exact S.ret1 (s := .dat (.str _)) (E1.join (ys := l.map tqF) (E1.str (x := spa)) (E1.to (E1.compX (no := 1) (l.map fun q => .str (tqF q)) (Wk.tup (ds := l.map qD) (E1.var rfl)) (fun d => [.dat d]) (fun d _ => Gc.name) (by rw [List.length_map, List.length_map]) (fun i d f e1 e2 => by
            rw [List.getElem?_map] at e1 e2
            cases hq:l[i]? with
            | none=>rw [hq] at e1;cases e1
            | some q =>
              rw [hq] at e1 e2
              cases e1;cases e2
              exact (E1.call (R:=RTxB n) (A1.cons E1.int (A1.cons (E1.var rfl) A1.nil)) ⟨0,_,_,rfl,m0,(.num (hl.2 q (List.mem_of_getElem? hq))),rfl⟩)) (by rw [List.length_map,hl.1];exact z3)) (by rw [List.map_map];rfl)) (Nat.le_trans (tqP_ok hl.2 hl.1) (by decide))) ⟨rfl,rfl⟩
      | tab hl =>
        rename_i l
        have m3:nd 3<=n:=by have:nd 4=3:=rfl;have:nd 3=2:=rfl;omega
        refine S.ifsF (T1.andF ((T1.test (E1.eq (E1.var rfl) E1.int)).eqn (by decide))) (S.ifsF ((T1.test (E1.eq (E1.var rfl) E1.int)).eqn (by decide)) (S.ifsF ((T1.test (E1.eq (E1.var rfl) E1.int)).eqn (by decide)) (S.ifs (b:=true) ((T1.test (E1.eq (E1.var rfl) E1.int)).eqn (by decide)) (fun _=>?_) (fun z=>by cases z))))
        exact S.ret1 (s := .dat (.str _)) (E1.join (ys := l.map tqP) (E1.str (x := sem)) (E1.to (E1.compX (no := 1) (l.map fun q => .str (tqP q)) (Wk.tup (ds := l.map pD3) (E1.var rfl)) (fun d => [.dat d]) (fun d _ => Gc.name) (by rw [List.length_map, List.length_map]) (fun i d f e1 e2 => by
            rw [List.getElem?_map] at e1 e2
            cases hq:l[i]? with
            | none=>rw [hq] at e1;cases e1
            | some q =>
              rw [hq] at e1 e2
              cases e1;cases e2
              exact (E1.call (R:=RTxB n) (A1.cons E1.int (A1.cons (E1.var rfl) A1.nil)) ⟨3,_,_,rfl,m3,(.pt (hl.2 q (List.mem_of_getElem? hq))),rfl⟩)) (by rw [List.length_map,hl.1];exact z3)) (by rw [List.map_map];rfl)) (Nat.le_trans (tqT_ok hl) (by decide))) ⟨rfl,rfl⟩
      | four hr0 =>
        rename_i ns
        refine S.ifsF (T1.andF ((T1.test (E1.eq (E1.var rfl) E1.int)).eqn (by decide))) (S.ifsF ((T1.test (E1.eq (E1.var rfl) E1.int)).eqn (by decide)) (S.ifsF ((T1.test (E1.eq (E1.var rfl) E1.int)).eqn (by decide)) (S.ifsF ((T1.test (E1.eq (E1.var rfl) E1.int)).eqn (by decide)) ?_)))
        exact S.ret1 (s:=.dat (.str (jn spa (ns.map txI)))) (E1.join (sep:=spa) (ys:=ns.map txI) (E1.ixL (ds:=[.str spa,.str col]) (i:=0) (E1.vwo (E1.li (A1.cons E1.str (A1.cons E1.str A1.nil)) rfl (lsz (n:=2) rfl z2))) (E1.to (E1.bi (b:=false) (E1.to (E1.eq (E1.var rfl) E1.int) rfl)) rfl) rfl) (E1.to (E1.compM (ds:=ns.map .int) (f:=fun d=>match d with | .int i=>.str (txI i) | d=>d) (Wk.tup (E1.var rfl)) (fun d hd=>by
            obtain ⟨n,hn,rfl⟩:=List.mem_map.mp hd
            exact (E1.strL (A1.cons (E1.var rfl) A1.nil) (hr0.1 n hn).str)) (by rw [List.length_map,hr0.2.1];decide)) (by rw [List.map_map,List.map_map];rfl)) (Nat.le_trans (txR_okB hr0.1 (by rw [hr0.2.1];omega) (by decide)) (by decide))) ⟨rfl,rfl⟩
      | way hr0 =>
        rename_i ns
        refine S.ifsF (T1.andF ((T1.test (E1.eq (E1.var rfl) E1.int)).eqn (by decide))) (S.ifsF ((T1.test (E1.eq (E1.var rfl) E1.int)).eqn (by decide)) (S.ifsF ((T1.test (E1.eq (E1.var rfl) E1.int)).eqn (by decide)) (S.ifsF ((T1.test (E1.eq (E1.var rfl) E1.int)).eqn (by decide)) ?_)))
        exact S.ret1 (s:=.dat (.str (jn spa (ns.map txI)))) (E1.join (sep:=spa) (ys:=ns.map txI) (E1.ixL (ds:=[.str spa,.str col]) (i:=0) (E1.vwo (E1.li (A1.cons E1.str (A1.cons E1.str A1.nil)) rfl (lsz (n:=2) rfl z2))) (E1.to (E1.bi (b:=false) (E1.to (E1.eq (E1.var rfl) E1.int) rfl)) rfl) rfl) (E1.to (E1.compM (ds:=ns.map .int) (f:=fun d=>match d with | .int i=>.str (txI i) | d=>d) (Wk.tup (E1.var rfl)) (fun d hd=>by
            obtain ⟨n,hn,rfl⟩:=List.mem_map.mp hd
            exact (E1.strL (A1.cons (E1.var rfl) A1.nil) (hr0.1 n hn).str)) (by rw [List.length_map,hr0.2.1];decide)) (by rw [List.map_map,List.map_map];rfl)) (Nat.le_trans (txR_okB hr0.1 (by rw [hr0.2.1];omega) (by decide)) (by decide))) ⟨rfl,rfl⟩
      | set hr0 =>
        rename_i ns
        refine S.ifsF (T1.andF ((T1.test (E1.eq (E1.var rfl) E1.int)).eqn (by decide))) (S.ifsF ((T1.test (E1.eq (E1.var rfl) E1.int)).eqn (by decide)) (S.ifsF ((T1.test (E1.eq (E1.var rfl) E1.int)).eqn (by decide)) (S.ifsF ((T1.test (E1.eq (E1.var rfl) E1.int)).eqn (by decide)) ?_)))
        exact S.ret1 (s:=.dat (.str (jn col (ns.map txI)))) (E1.join (sep:=col) (ys:=ns.map txI) (E1.ixL (ds:=[.str spa,.str col]) (i:=1) (E1.vwo (E1.li (A1.cons E1.str (A1.cons E1.str A1.nil)) rfl (lsz (n:=2) rfl z2))) (E1.to (E1.bi (b:=true) (E1.to (E1.eq (E1.var rfl) E1.int) rfl)) rfl) rfl) (E1.to (E1.compM (ds:=ns.map .int) (f:=fun d=>match d with | .int i=>.str (txI i) | d=>d) (Wk.tup (E1.var rfl)) (fun d hd=>by
            obtain ⟨n,hn,rfl⟩:=List.mem_map.mp hd
            exact (E1.strL (A1.cons (E1.var rfl) A1.nil) (hr0.1 n hn).str)) (by rw [List.length_map,hr0.2.1];decide)) (by rw [List.map_map,List.map_map];rfl)) (Nat.le_trans (txR_okB hr0.1 (by rw [hr0.2.1];omega) (by decide)) (by decide))) ⟨rfl,rfl⟩
  exact all 3
theorem scShownB:FnScope ["_law_kind","_law_thing_here"] ["_law_kind","_law_thing_here"] (defScope sShownB):=⟨rfl,rfl,rfl,by decide +kernel,rfl,by decide +kernel,by decide +kernel⟩
theorem ok_shownb (F:Fun K "_law_shown" "_law_shown" sShownB f fd)
    (G:FnOk P w K mg base CX0 1 g gd ["fraction"] (spP K RShNb)) (bG:Binds K gd ["fraction"] []) (kG:PySem.W.keepIn K (.ref g)=true) (mG:mg "show_number" = some (.ref g))
    (G2:FnOk P w K mg base CX0 2 g2 gd2 ["four"] (spP K RShRb)) (bG2:Binds K gd2 ["four"] []) (kG2:PySem.W.keepIn K (.ref g2)=true) (mG2:mg "show_four" = some (.ref g2))
    (G3:FnOk P w K mg base CX0 2 g3 gd3 ["way"] (spP K RShRb)) (bG3:Binds K gd3 ["way"] []) (kG3:PySem.W.keepIn K (.ref g3)=true) (mG3:mg "show_way" = some (.ref g3))
    (G4:FnOk P w K mg base CX0 2 g4 gd4 ["point"] (spP K RShPb)) (bG4:Binds K gd4 ["point"] []) (kG4:PySem.W.keepIn K (.ref g4)=true) (mG4:mg "show_point" = some (.ref g4))
    (G5:FnOk P w K mg base CX0 3 g5 gd5 ["table"] (spP K RShTb)) (bG5:Binds K gd5 ["table"] []) (kG5:PySem.W.keepIn K (.ref g5)=true) (mG5:mg "show_table" = some (.ref g5))
    (G6:FnOk P w K mg base CX0 1 g6 gd6 ["setting"] (spP K RShSb)) (bG6:Binds K gd6 ["setting"] []) (kG6:PySem.W.keepIn K (.ref g6)=true) (mG6:mg "show_setting" = some (.ref g6)) :
    FnOk P w K mg base CX0 4 f fd ["_law_kind","_law_thing_here"] (spP K RShownB):=by
  refine okP F scShownB (fun ds d h=>?_) (fun cdv A0 outer s0 H0 E0 hr=>?_)
  . obtain ⟨kind,x,t,rfl,_⟩:=h;rfl
  have r:=hr.mono (show 1<=3 by decide)
  have r2:=hr.mono (show 2<=3 by decide)
  have r3:=hr.mono (show 2<=3 by decide)
  have r4:=hr.mono (show 2<=3 by decide)
  have r5:=hr.mono (show 3<=3 by decide)
  have r6:=hr.mono (show 1<=3 by decide)
  refine ⟨_,(zss_cons (zs_if (zt_cmpR op_eq (zv 0) ze_int (nomark _)) (zss_one (zs_ret (ze_call G r rfl mG kG bG .nil pass0 (za_n (zv 1) za_nil)))) zss_nil)
    (zss_cons (zs_if (zt_cmpR op_eq (zv 0) ze_int (nomark _)) (zss_one (zs_ret (ze_call G2 r2 rfl mG2 kG2 bG2 .nil pass0 (za_n (zv 1) za_nil)))) zss_nil)
    (zss_cons (zs_if (zt_cmpR op_eq (zv 0) ze_int (nomark _)) (zss_one (zs_ret (ze_call G3 r3 rfl mG3 kG3 bG3 .nil pass0 (za_n (zv 1) za_nil)))) zss_nil)
    (zss_cons (zs_if (zt_cmpR op_eq (zv 0) ze_int (nomark _)) (zss_one (zs_ret (ze_call G4 r4 rfl mG4 kG4 bG4 .nil pass0 (za_n (zv 1) za_nil)))) zss_nil)
    (zss_cons (zs_if (zt_cmpR op_eq (zv 0) ze_int (nomark _)) (zss_one (zs_ret (ze_call G5 r5 rfl mG5 kG5 bG5 .nil pass0 (za_n (zv 1) za_nil)))) zss_nil)
    (zss_one (zs_ret (ze_call G6 r6 rfl mG6 kG6 bG6 .nil pass0 (za_n (zv 1) za_nil))))))))),fun ds d h=>?_⟩
  obtain ⟨kind,x,t,rfl,ht,rfl⟩:=h
  cases ht with
  | num hq =>
    refine S.ifs (b:=true) ((T1.test (E1.eq (E1.var rfl) E1.int)).eqn (by decide)) (fun _=>?_) (fun z=>by cases z)
    exact S.ret1 (E1.call (R:=RShNb) (A1.cons (E1.var rfl) A1.nil) ⟨_,rfl,hq,rfl⟩) ⟨rfl,rfl⟩
  | pt hq =>
    refine S.ifsF ((T1.test (E1.eq (E1.var rfl) E1.int)).eqn (by decide)) (S.ifsF ((T1.test (E1.eq (E1.var rfl) E1.int)).eqn (by decide)) (S.ifsF ((T1.test (E1.eq (E1.var rfl) E1.int)).eqn (by decide)) (S.ifs (b:=true) ((T1.test (E1.eq (E1.var rfl) E1.int)).eqn (by decide)) (fun _=>?_) (fun z=>by cases z))))
    exact S.ret1 (E1.call (R:=RShPb) (A1.cons (E1.var rfl) A1.nil) ⟨_,rfl,hq,rfl⟩) ⟨rfl,rfl⟩
  | tab hq =>
    refine S.ifsF ((T1.test (E1.eq (E1.var rfl) E1.int)).eqn (by decide)) (S.ifsF ((T1.test (E1.eq (E1.var rfl) E1.int)).eqn (by decide)) (S.ifsF ((T1.test (E1.eq (E1.var rfl) E1.int)).eqn (by decide)) (S.ifsF ((T1.test (E1.eq (E1.var rfl) E1.int)).eqn (by decide)) (S.ifs (b:=true) ((T1.test (E1.eq (E1.var rfl) E1.int)).eqn (by decide)) (fun _=>?_) (fun z=>by cases z)))))
    exact S.ret1 (E1.call (R:=RShTb) (A1.cons (E1.var rfl) A1.nil) ⟨_,rfl,hq,rfl⟩) ⟨rfl,rfl⟩
  | four hr =>
    refine S.ifsF ((T1.test (E1.eq (E1.var rfl) E1.int)).eqn (by decide)) (S.ifs (b:=true) ((T1.test (E1.eq (E1.var rfl) E1.int)).eqn (by decide)) (fun _=>?_) (fun z=>by cases z))
    exact S.ret1 (E1.call (R:=RShRb) (A1.cons (E1.var rfl) A1.nil) ⟨_,rfl,hr.1,by rw [hr.2.1];omega,rfl⟩) ⟨rfl,rfl⟩
  | way hr =>
    refine S.ifsF ((T1.test (E1.eq (E1.var rfl) E1.int)).eqn (by decide)) (S.ifsF ((T1.test (E1.eq (E1.var rfl) E1.int)).eqn (by decide)) (S.ifs (b:=true) ((T1.test (E1.eq (E1.var rfl) E1.int)).eqn (by decide)) (fun _=>?_) (fun z=>by cases z)))
    exact S.ret1 (E1.call (R:=RShRb) (A1.cons (E1.var rfl) A1.nil) ⟨_,rfl,hr.1,by rw [hr.2.1];omega,rfl⟩) ⟨rfl,rfl⟩
  | set hr =>
    rename_i ns
    obtain ⟨k,l,rfl⟩:=D.two_of hr.2.1
    refine S.ifsF ((T1.test (E1.eq (E1.var rfl) E1.int)).eqn (by decide)) (S.ifsF ((T1.test (E1.eq (E1.var rfl) E1.int)).eqn (by decide)) (S.ifsF ((T1.test (E1.eq (E1.var rfl) E1.int)).eqn (by decide)) (S.ifsF ((T1.test (E1.eq (E1.var rfl) E1.int)).eqn (by decide)) (S.ifsF ((T1.test (E1.eq (E1.var rfl) E1.int)).eqn (by decide)) ?_))))
    exact S.ret1 (E1.call (R:=RShSb) (A1.cons (E1.var rfl) A1.nil) ⟨k,l,rfl,hr.1 k (by simp),hr.1 l (by simp),rfl⟩) ⟨rfl,rfl⟩
theorem scRead47B:FnScope ["_law_kind","_law_text"] ["_law_kind","_law_text"] (defScope sRead47B):=⟨rfl,rfl,rfl,by decide +kernel,rfl,by decide +kernel,by decide +kernel⟩
theorem ok_read47b (F:Fun K "_law_read" "_law_read" sRead47B f fd)
    (G:FnOk P w K mg base (CXx P w (.ref cNoText)) 3 g gd ["text"] (spB K BRdN)) (bG:Binds K gd ["text"] []) (kG:PySem.W.keepIn K (.ref g)=true) (mG:mg "read_number" = some (.ref g))
    (G2:FnOk P w K mg base (CXx P w (.ref cNoText)) 4 g2 gd2 ["text"] (spB K (BRd1 spa 4))) (bG2:Binds K gd2 ["text"] []) (kG2:PySem.W.keepIn K (.ref g2)=true) (mG2:mg "read_four" = some (.ref g2))
    (G3:FnOk P w K mg base (CXx P w (.ref cNoText)) 4 g3 gd3 ["text"] (spB K (BRd1 spa 3))) (bG3:Binds K gd3 ["text"] []) (kG3:PySem.W.keepIn K (.ref g3)=true) (mG3:mg "read_way" = some (.ref g3))
    (G4:FnOk P w K mg base (CXx P w (.ref cNoText)) 4 g4 gd4 ["text"] (spB K BRdP)) (bG4:Binds K gd4 ["text"] []) (kG4:PySem.W.keepIn K (.ref g4)=true) (mG4:mg "read_point" = some (.ref g4))
    (G5:FnOk P w K mg base (CXx P w (.ref cNoText)) 5 g5 gd5 ["text"] (spB K BRdT)) (bG5:Binds K gd5 ["text"] []) (kG5:PySem.W.keepIn K (.ref g5)=true) (mG5:mg "read_table" = some (.ref g5))
    (G6:FnOk P w K mg base (CXx P w (.ref cNoText)) 4 g6 gd6 ["text"] (spB K (BRd1 col 2))) (bG6:Binds K gd6 ["text"] []) (kG6:PySem.W.keepIn K (.ref g6)=true) (mG6:mg "read_setting" = some (.ref g6)) :
    FnOk P w K mg base (CXx P w (.ref cNoText)) 6 f fd ["_law_kind","_law_text"] (spB K BRead):=by
  refine okBd F scRead47B (fun ds h=>?_) (fun ds h cdv A0 outer s0 H0 E0 hr=>?_)
  . obtain ⟨k,z,rfl,_⟩:=h;rfl
  have r:=hr.mono (show 3<=5 by decide)
  have r2:=hr.mono (show 4<=5 by decide)
  have r3:=hr.mono (show 4<=5 by decide)
  have r4:=hr.mono (show 4<=5 by decide)
  have r5:=hr.mono (show 5<=5 by decide)
  have r6:=hr.mono (show 4<=5 by decide)
  obtain ⟨k,z,rfl,k0,k5,az,hn⟩:=h
  have hk:k=0\/k=1\/k=2\/k=3\/k=4\/k=5:=by omega
  rcases hk with rfl | rfl | rfl | rfl | rfl | rfl
  . have hz:=opt_none (show (rdN z).map qD=none from hn)
    refine ⟨_,(rss_here (rs_if (zt_cmpR op_eq (zv 0) ze_int (nomark _)) (rss_here (rs_ret (re_call G r (by rfl) mG kG bG (za_n (zv 1) za_nil)))) rss_never)),?_⟩
    exact SX.mono (SX.ifT ((T1.test (E1.eq (E1.var rfl) E1.int)).eqn (by decide)) (SX.call (B:=BRdN) (A1.cons (E1.var rfl) A1.nil) ⟨z,rfl,az,hz⟩)) fun _ _=>trivial
  . have hz:=opt_none (show (rdR z spa 4).map tI=none from hn)
    refine ⟨_,(rss_then (zs_if (zt_cmpR op_eq (zv 0) ze_int (nomark _)) (zss_one zs_never) zss_nil) (rss_here (rs_if (zt_cmpR op_eq (zv 0) ze_int (nomark _)) (rss_here (rs_ret (re_call G2 r2 (by rfl) mG2 kG2 bG2 (za_n (zv 1) za_nil)))) rss_never))),?_⟩
    exact SX.thn (M:=fun τ'=>τ'=[.dat (.int 1),.dat (.str z)]) (S.ifF ((T1.test (E1.eq (E1.var rfl) E1.int)).eqn (by decide)) (S.next rfl)) fun τ' e=>by subst e;exact SX.mono (SX.ifT ((T1.test (E1.eq (E1.var rfl) E1.int)).eqn (by decide)) (SX.call (B:=(BRd1 spa 4)) (A1.cons (E1.var rfl) A1.nil) ⟨z,rfl,az,hz⟩)) fun _ _=>trivial
  . have hz:=opt_none (show (rdR z spa 3).map tI=none from hn)
    refine ⟨_,(rss_then (zs_if (zt_cmpR op_eq (zv 0) ze_int (nomark _)) (zss_one zs_never) zss_nil) (rss_then (zs_if (zt_cmpR op_eq (zv 0) ze_int (nomark _)) (zss_one zs_never) zss_nil) (rss_here (rs_if (zt_cmpR op_eq (zv 0) ze_int (nomark _)) (rss_here (rs_ret (re_call G3 r3 (by rfl) mG3 kG3 bG3 (za_n (zv 1) za_nil)))) rss_never)))),?_⟩
    exact SX.thn (M:=fun τ'=>τ'=[.dat (.int 2),.dat (.str z)]) (S.ifF ((T1.test (E1.eq (E1.var rfl) E1.int)).eqn (by decide)) (S.next rfl)) fun τ' e=>by subst e;exact SX.thn (M:=fun τ'=>τ'=[.dat (.int 2),.dat (.str z)]) (S.ifF ((T1.test (E1.eq (E1.var rfl) E1.int)).eqn (by decide)) (S.next rfl)) fun τ' e=>by subst e;exact SX.mono (SX.ifT ((T1.test (E1.eq (E1.var rfl) E1.int)).eqn (by decide)) (SX.call (B:=(BRd1 spa 3)) (A1.cons (E1.var rfl) A1.nil) ⟨z,rfl,az,hz⟩)) fun _ _=>trivial
  . have hz:=opt_none (show (rdPt z).map pD3=none from hn)
    refine ⟨_,(rss_then (zs_if (zt_cmpR op_eq (zv 0) ze_int (nomark _)) (zss_one zs_never) zss_nil) (rss_then (zs_if (zt_cmpR op_eq (zv 0) ze_int (nomark _)) (zss_one zs_never) zss_nil) (rss_then (zs_if (zt_cmpR op_eq (zv 0) ze_int (nomark _)) (zss_one zs_never) zss_nil) (rss_here (rs_if (zt_cmpR op_eq (zv 0) ze_int (nomark _)) (rss_here (rs_ret (re_call G4 r4 (by rfl) mG4 kG4 bG4 (za_n (zv 1) za_nil)))) rss_never))))),?_⟩
    exact SX.thn (M:=fun τ'=>τ'=[.dat (.int 3),.dat (.str z)]) (S.ifF ((T1.test (E1.eq (E1.var rfl) E1.int)).eqn (by decide)) (S.next rfl)) fun τ' e=>by subst e;exact SX.thn (M:=fun τ'=>τ'=[.dat (.int 3),.dat (.str z)]) (S.ifF ((T1.test (E1.eq (E1.var rfl) E1.int)).eqn (by decide)) (S.next rfl)) fun τ' e=>by subst e;exact SX.thn (M:=fun τ'=>τ'=[.dat (.int 3),.dat (.str z)]) (S.ifF ((T1.test (E1.eq (E1.var rfl) E1.int)).eqn (by decide)) (S.next rfl)) fun τ' e=>by subst e;exact SX.mono (SX.ifT ((T1.test (E1.eq (E1.var rfl) E1.int)).eqn (by decide)) (SX.call (B:=BRdP) (A1.cons (E1.var rfl) A1.nil) ⟨z,rfl,az,hz⟩)) fun _ _=>trivial
  . have hz:=opt_none (show (rdTb z).map tD3=none from hn)
    refine ⟨_,(rss_then (zs_if (zt_cmpR op_eq (zv 0) ze_int (nomark _)) (zss_one zs_never) zss_nil) (rss_then (zs_if (zt_cmpR op_eq (zv 0) ze_int (nomark _)) (zss_one zs_never) zss_nil) (rss_then (zs_if (zt_cmpR op_eq (zv 0) ze_int (nomark _)) (zss_one zs_never) zss_nil) (rss_then (zs_if (zt_cmpR op_eq (zv 0) ze_int (nomark _)) (zss_one zs_never) zss_nil) (rss_here (rs_if (zt_cmpR op_eq (zv 0) ze_int (nomark _)) (rss_here (rs_ret (re_call G5 r5 (by rfl) mG5 kG5 bG5 (za_n (zv 1) za_nil)))) rss_never)))))),?_⟩
    exact SX.thn (M:=fun τ'=>τ'=[.dat (.int 4),.dat (.str z)]) (S.ifF ((T1.test (E1.eq (E1.var rfl) E1.int)).eqn (by decide)) (S.next rfl)) fun τ' e=>by subst e;exact SX.thn (M:=fun τ'=>τ'=[.dat (.int 4),.dat (.str z)]) (S.ifF ((T1.test (E1.eq (E1.var rfl) E1.int)).eqn (by decide)) (S.next rfl)) fun τ' e=>by subst e;exact SX.thn (M:=fun τ'=>τ'=[.dat (.int 4),.dat (.str z)]) (S.ifF ((T1.test (E1.eq (E1.var rfl) E1.int)).eqn (by decide)) (S.next rfl)) fun τ' e=>by subst e;exact SX.thn (M:=fun τ'=>τ'=[.dat (.int 4),.dat (.str z)]) (S.ifF ((T1.test (E1.eq (E1.var rfl) E1.int)).eqn (by decide)) (S.next rfl)) fun τ' e=>by subst e;exact SX.mono (SX.ifT ((T1.test (E1.eq (E1.var rfl) E1.int)).eqn (by decide)) (SX.call (B:=BRdT) (A1.cons (E1.var rfl) A1.nil) ⟨z,rfl,az,hz⟩)) fun _ _=>trivial
  . have hz:=opt_none (show (rdR z col 2).map tI=none from hn)
    refine ⟨_,(rss_then (zs_if (zt_cmpR op_eq (zv 0) ze_int (nomark _)) (zss_one zs_never) zss_nil) (rss_then (zs_if (zt_cmpR op_eq (zv 0) ze_int (nomark _)) (zss_one zs_never) zss_nil) (rss_then (zs_if (zt_cmpR op_eq (zv 0) ze_int (nomark _)) (zss_one zs_never) zss_nil) (rss_then (zs_if (zt_cmpR op_eq (zv 0) ze_int (nomark _)) (zss_one zs_never) zss_nil) (rss_then (zs_if (zt_cmpR op_eq (zv 0) ze_int (nomark _)) (zss_one zs_never) zss_nil) (rss_here (rs_ret (re_call G6 r6 (by rfl) mG6 kG6 bG6 (za_n (zv 1) za_nil))))))))),?_⟩
    exact SX.thn (M:=fun τ'=>τ'=[.dat (.int 5),.dat (.str z)]) (S.ifF ((T1.test (E1.eq (E1.var rfl) E1.int)).eqn (by decide)) (S.next rfl)) fun τ' e=>by subst e;exact SX.thn (M:=fun τ'=>τ'=[.dat (.int 5),.dat (.str z)]) (S.ifF ((T1.test (E1.eq (E1.var rfl) E1.int)).eqn (by decide)) (S.next rfl)) fun τ' e=>by subst e;exact SX.thn (M:=fun τ'=>τ'=[.dat (.int 5),.dat (.str z)]) (S.ifF ((T1.test (E1.eq (E1.var rfl) E1.int)).eqn (by decide)) (S.next rfl)) fun τ' e=>by subst e;exact SX.thn (M:=fun τ'=>τ'=[.dat (.int 5),.dat (.str z)]) (S.ifF ((T1.test (E1.eq (E1.var rfl) E1.int)).eqn (by decide)) (S.next rfl)) fun τ' e=>by subst e;exact SX.thn (M:=fun τ'=>τ'=[.dat (.int 5),.dat (.str z)]) (S.ifF ((T1.test (E1.eq (E1.var rfl) E1.int)).eqn (by decide)) (S.next rfl)) fun τ' e=>by subst e;exact SX.mono (SX.call (B:=(BRd1 col 2)) (A1.cons (E1.var rfl) A1.nil) ⟨z,rfl,az,hz⟩) fun _ _=>trivial
theorem scLWof:FnScope ["_law_text","_law_row","_law_strange"] ["_law_text"] (defScope sLWof):=⟨rfl,rfl,rfl,by decide +kernel,rfl,by decide +kernel,by decide +kernel⟩
theorem ok_lwof (F:Fun K "_law_whole_of" "_law_whole_of" sLWof f fd)  (dig:L2.DigN K) (m_int:mg "int" = none) (m_len:mg "len" = none) :
    FnOk P w K mg base CX0 1 f fd ["_law_text"] (spP K RWof):=by
  refine okP F scLWof (fun ds d h=>?_) (fun cdv A0 outer s0 H0 E0 hr=>?_)
  . obtain ⟨z,rfl,_⟩:=h;rfl
  refine ⟨_,(zss_cons (zs_set (i:=1) scLWof.nd rfl (Or.inl rfl) (ze_slice sl_str (zv 0) (zo_some (ze_callTy call_int1 rfl m_int (by rfl) (za_cons (ze_cmpR op_eq (ze_slice sl_str (zv 0) zo_none (zo_some ze_int)) ze_str (nomark _)) za_nil))) zo_none) sw_sub)
    (zss_cons (zs_comp (i:=2) (own:=["_law_sign"]) scLWof rfl ⟨by decide +kernel,rfl,by decide +kernel,by decide +kernel,by decide +kernel,by decide +kernel,by decide +kernel,by decide +kernel,by decide +kernel⟩ (zi_str (zv 1)) (fun C fp s H nd=>zg_name (i:=0) nd rfl (Or.inl rfl)) (fun C fp s H=>zts_one (zt_cmpR op_notin_str (zv 0) ze_str (by with_unfolding_all rfl))) (fun C fp s H=>(zv 0)) scLWof.nd rfl (Or.inl rfl) rfl)
    (zss_cons (zs_if (ZW.pt (zw_or (zt_cmpR op_eq (zv 1) ze_str (nomark _)) (zw_or (zt_cmpR op_gt (ze_callB call_len_str rfl m_len PySem.boot_len (za_n (zv 1) za_nil)) ze_int (nomark _)) (zw_or (zt_cmpR (op_neD hr.units) (zv 2) (ze_lst za_nil) (nomark _)) (zw_or1 (ZW.pt (zw_and (zt_cmpR op_eq (ze_ix ix_str (zv 1) ze_int (fun _ _=>rfl)) ze_str (nomark _)) (zw_and1 (zt_cmpR op_ne (zv 0) ze_str (nomark _)))))))))) (zss_one (zs_ret ze_non)) zss_nil)
    (zss_one (zs_ret (ze_callTy (call_intS dig) rfl m_int (by rfl) (za_n (zv 0) za_nil))))))),fun ds d h=>?_⟩
  obtain ⟨z,rfl,az,rfl⟩:=h
  have bz:=bareS_asc az
  have eb:=bareS_eq z
  have lb:(bareS z).length=(bareC z.cps.toList).length:=by rw [str_len,eb]
  refine S.let1 (s:=.dat (.str (bareS z))) (E1.to (E1.slS (E1.var rfl) (O1.some (E1.bi (E1.eqS (y := "-") (E1.slS (E1.var rfl) O1.none (O1.some E1.int) (az.sz mx_le)) E1.str))) O1.none (az.sz mx_le)) (by first | (rw [<- bare_law z];done) | (rw [<- bare_law z];rfl))) ?_
  refine S.letO (ds:=(lets (bareS z)).filter notFig) (E1.to (E1.compF (ds:=lets (bareS z)) (f:=id) (kp:=notFig) (Wk.str (E1.var rfl) bz.allS) (fun d hd=>?_) (fun d hd _=>(E1.var rfl)) (by rw [lets_len];exact (bz.sz mx_le))) (by rw [filter_id])) noLs_lets ?_
  . obtain ⟨i,hi⟩:=List.getElem?_of_mem hd
    obtain ⟨c,rfl,_⟩:=lets_get hi
    exact (T1.test (E1.notInS (y:=figS) (E1.var rfl) E1.str)).eqn rfl
  by_cases h0:(bareC z.cps.toList).length=0
  . refine S.ifs (b:=true) (T1.orT ((T1.test (E1.eqS (y := "") (E1.var rfl) E1.str)).eqn (by rw [str_empty,eb];exact decide_eq_true h0))) (fun _=>?_) (fun z=>by cases z)
    exact S.ret1 (s:=.dat .none) E1.non ⟨by rw [whI_no (wholeB_0 h0)];rfl,noL_optI _⟩
  by_cases h1:(bareC z.cps.toList).length<=1500
  . cases h2:(bareC z.cps.toList).all (fun c=>decide (48<=c/\c<=57)) with
    | false =>
      refine S.ifs (b:=true) (T1.orX ((T1.test (E1.eqS (y := "") (E1.var rfl) E1.str)).eqn (show decide (bareS z = "")=false by rw [str_empty,eb];exact decide_eq_false h0)) (T1.orX ((T1.test (E1.gt (E1.lenS (A1.cons (E1.var rfl) A1.nil) (bz.sz mx_le)) E1.int)).eqn (decide_eq_false (show ¬ (((bareS z).length:Int) > 1500) by rw [lb];omega))) (T1.orT ((T1.test (E1.neD (d:=.list ((lets (bareS z)).filter notFig)) (e:=.list []) (E1.varO rfl) (E1.li (ds:=[]) A1.nil rfl (lsz (n:=0) rfl z0)) rfl rfl (kqd_lets bz) rfl)).eqn (by rw [deq_ne (fun e=>strange_ne (by rw [eb];exact h2) (by injection e))];rfl))))) (fun _=>?_) (fun z=>by cases z)
      exact S.ret1 (s:=.dat .none) E1.non ⟨by rw [whI_no (wholeB_2 h2)];rfl,noL_optI _⟩
    | true =>
      have f2:(lets (bareS z)).filter notFig=[]:=strange_nil (by rw [eb];exact h2)
      have e3:=wholeB_3 h0 h1 h2
      cases hc:bareC z.cps.toList with
      | nil=>rw [hc] at h0;exact absurd rfl h0
      | cons c r =>
      rw [hc,List.head?_cons] at e3
      refine S.ifs (b := !wholeB z.cps.toList) (T1.orX ((T1.test (E1.eqS (y := "") (E1.var rfl) E1.str)).eqn (show decide (bareS z = "")=false by rw [str_empty,eb];exact decide_eq_false h0)) (T1.orX ((T1.test (E1.gt (E1.lenS (A1.cons (E1.var rfl) A1.nil) (bz.sz mx_le)) E1.int)).eqn (decide_eq_false (show ¬ (((bareS z).length:Int) > 1500) by rw [lb];omega))) (T1.orX ((T1.test (E1.neD (d:=.list ((lets (bareS z)).filter notFig)) (e:=.list []) (E1.varO rfl) (E1.li (ds:=[]) A1.nil rfl (lsz (n:=0) rfl z0)) rfl rfl (kqd_lets bz) rfl)).eqn (by rw [f2,deq_self];rfl)) ((T1.and1 (T1.test (E1.eqS (x:=⟨#[c]⟩) (y := "0") (E1.ixS (E1.var rfl) E1.int (bz.sz mx_le) (by rw [eb,hc];exact atI_head)) E1.str)) (T1.test (E1.neS (y := "0") (E1.var rfl) E1.str))).eqn (by rw [str_ne_0,wh_last,e3]))))) (fun hb=>?_) (fun hb=>?_)
      . rw [Bool.not_eq_true'] at hb
        exact S.ret1 (s:=.dat .none) E1.non ⟨by rw [whI_no (hb)];rfl,noL_optI _⟩
      . rw [Bool.not_eq_false'] at hb
        obtain ⟨i,hw,ez,hi⟩:=whI_yes hb
        have hcs:∀ c ∈ z.cps.toList,c=45\/(48<=c/\c<=57):=fun c hc=>itx_signs i c (by rw [<- itx_eq, <- ez];exact hc)
        have hn:PySem.intText? z=some i:=by rw [<- hw];unfold whI;rw [if_pos hb]
        exact S.ret1 (s:=.dat (.int i)) (E1.intS (A1.cons (E1.var rfl) A1.nil) hn (az.sz mx_le) hcs) ⟨by rw [hw];rfl,noL_optI _⟩
  . refine S.ifs (b:=true) (T1.orX ((T1.test (E1.eqS (y := "") (E1.var rfl) E1.str)).eqn (show decide (bareS z = "")=false by rw [str_empty,eb];exact decide_eq_false h0)) (T1.orT ((T1.test (E1.gt (E1.lenS (A1.cons (E1.var rfl) A1.nil) (bz.sz mx_le)) E1.int)).eqn (decide_eq_true (show ((bareS z).length:Int) > 1500 by rw [lb];omega))))) (fun _=>?_) (fun z=>by cases z)
    exact S.ret1 (s:=.dat .none) E1.non ⟨by rw [whI_no (wholeB_1 h1)];rfl,noL_optI _⟩
theorem scLFof:FnScope ["_law_text","_law_found"] ["_law_text"] (defScope sLFof):=⟨rfl,rfl,rfl,by decide +kernel,rfl,by decide +kernel,by decide +kernel⟩
theorem ok_lfof (F:Fun K "_law_fraction_of" "_law_fraction_of" sLFof f fd)
    (G:FnOk P w K mg base CX0 1 g gd ["_law_text"] (spP K RWof)) (bG:Binds K gd ["_law_text"] []) (kG:PySem.W.keepIn K (.ref g)=true) (mG:mg "_law_whole_of" = some (.ref g))
    (G2:FnOk P w K mg base CX0 1 g2 gd2 ["_law_one","_law_other"] spDiv) (bG2:Binds K gd2 ["_law_one","_law_other"] []) (kG2:PySem.W.keepIn K (.ref g2)=true) (mG2:mg "_law_divisor" = some (.ref g2)) (m_len:mg "len" = none) (m_tuple:mg "tuple" = none) :
    FnOk P w K mg base CX0 2 f fd ["_law_text"] (spP K RFof):=by
  refine okP F scLFof (fun ds d h=>?_) (fun cdv A0 outer s0 H0 E0 hr=>?_)
  . obtain ⟨z,rfl,_⟩:=h;rfl
  have r:=hr.mono (show 1<=1 by decide)
  have r2:=hr.mono (show 1<=1 by decide)
  refine ⟨_,(zss_cons (zs_comp (i:=1) (own:=["_law_part"]) scLFof rfl ⟨by decide +kernel,rfl,by decide +kernel,by decide +kernel,by decide +kernel,by decide +kernel,by decide +kernel,by decide +kernel,by decide +kernel⟩ (zi_list (ze_split (zv 0) ze_str)) (fun C fp s H nd=>zg_name (i:=0) nd rfl (Or.inl rfl)) (fun C fp s H=>zts_nil) (fun C fp s H=>(ze_call G r rfl mG kG bG .nil pass0 (za_n (zv 0) za_nil))) scLFof.nd rfl (Or.inl rfl) rfl)
    (zss_cons (zs_if (ZW.pt (zw_or (zt_cmpR (op_inD hr.units) ze_non (zv 1) (by with_unfolding_all rfl)) (zw_or1 (zt_cmpR op_gt (ze_callB call_len_seq rfl m_len PySem.boot_len (za_n (zv 1) za_nil)) ze_int (nomark _))))) (zss_one (zs_ret ze_non)) zss_nil)
    (zss_cons (zs_if (zt_cmpR op_eq (ze_callB call_len_seq rfl m_len PySem.boot_len (za_n (zv 1) za_nil)) ze_int (nomark _)) (zss_one (zs_ret (ze_tup (za_s (ze_ix ix_list (zv 1) ze_int (fun _ _=>rfl)) (za_i za_nil))))) zss_nil)
    (zss_cons (zs_if (ZW.pt (zw_or (zt_cmpR op_lt (ze_ix ix_list (zv 1) ze_int (fun _ _=>rfl)) ze_int (nomark _)) (zw_or1 (zt_cmpR op_ne (ze_call G2 r2 rfl mG2 kG2 bG2 .nil pass0 (za_s (ze_ix ix_list (zv 1) ze_int (fun _ _=>rfl)) (za_s (ze_ix ix_list (zv 1) ze_int (fun _ _=>rfl)) za_nil))) ze_int (nomark _))))) (zss_one (zs_ret ze_non)) zss_nil)
    (zss_one (zs_ret (ze_callTy call_tuple_of rfl m_tuple (by rfl) (za_n (zv 1) za_nil)))))))),fun ds d h=>?_⟩
  obtain ⟨z,rfl,az,rfl⟩:=h
  refine S.letO (ds:=((Txt.split z sla).map Dat.str).map whD1) (E1.compM (ds:=(Txt.split z sla).map Dat.str) (f:=whD1) (Wk.lst (E1.frz (E1.split (y:=sla) (E1.var rfl) E1.str rfl (Nat.le_trans (Nat.add_le_add_right az.1 2) mx_2)))) (fun d hd=>?_) (by rw [List.length_map];exact Nat.le_trans (parts_len z sla) (Nat.le_trans (Nat.add_le_add_right az.1 2) mx_2))) (noLs_wh _) ?_
  . obtain ⟨x,hx,rfl⟩:=List.mem_map.mp hd
    exact E1.call (R:=RWof) (A1.cons (E1.var rfl) A1.nil) ⟨x,rfl,split_asc az x hx,rfl⟩
  have kq:∀ e ∈ ((Txt.split z sla).map Dat.str).map whD1,PySem.W.kqdOk 8 e=true:=fun e he=>by
    obtain ⟨d,hd,rfl⟩:=List.mem_map.mp he
    obtain ⟨x,hx,rfl⟩:=List.mem_map.mp hd
    exact kqd_optI _
  have hr0:rdN z=rdP (Txt.split z sla):=rfl
  have ne:=split_ne z sla
  generalize Txt.split z sla=ps at kq hr0 ne ⊢
  match ps,ne with
  | [],ne=>exact absurd rfl ne
  | [x],_ =>
    cases hx:whI x with
    | none =>
      refine S.ifs (b:=true) (T1.orT (T1.test (E1.inD (d:=.none) (r:=true) E1.non (E1.varO rfl) rfl rfl rfl kq (none_mem (by show true=([optI (whI x)].any _);rw [hx];rfl))))) (fun _=>?_) (fun z=>by cases z)
      refine S.ret1 (s:=.dat .none) E1.non ⟨?_,noL_optQ _⟩
      rw [hr0];show optQ ((whI x).map _)=Dat.none;rw [hx];rfl
    | some i =>
      refine S.ifsF (T1.orX (T1.test (E1.inD (d:=.none) (r:=false) E1.non (E1.varO rfl) rfl rfl rfl kq (none_mem (by show false=([optI (whI x)].any _);rw [hx];rfl)))) ((T1.test (E1.gt (E1.lenL (A1.cons (E1.varO rfl) A1.nil)) E1.int)).eqn rfl)) ?_
      refine S.ifs (b:=true) ((T1.test (E1.eq (E1.lenL (A1.cons (E1.varO rfl) A1.nil)) E1.int)).eqn rfl) (fun _=>?_) (fun z=>by cases z)
      refine S.ret1 (s:=.dat (tI [i,1])) (E1.tu (A1.cons (E1.ixL (d:=.int i) (E1.varO rfl) E1.int (by show atI [optI (whI x)] 0=_;rw [hx];rfl)) (A1.cons E1.int A1.nil)) rfl (lsz (n:=2) rfl z2)) ⟨?_,noL_optQ _⟩
      rw [hr0];show optQ ((whI x).map _)=tI [i,1];rw [hx];rfl
  | [x, y], _ =>
    have e2:rdN z=rd2 (whI x) (whI y):=hr0
    cases hx:whI x with
    | none =>
      refine S.ifs (b:=true) (T1.orT (T1.test (E1.inD (d:=.none) (r:=true) E1.non (E1.varO rfl) rfl rfl rfl kq (none_mem (by show true=([optI (whI x),optI (whI y)].any _);rw [hx];rfl))))) (fun _=>?_) (fun z=>by cases z)
      refine S.ret1 (s:=.dat .none) E1.non ⟨?_,noL_optQ _⟩
      rw [e2,hx];rfl
    | some i =>
      cases hy:whI y with
      | none =>
        refine S.ifs (b:=true) (T1.orT (T1.test (E1.inD (d:=.none) (r:=true) E1.non (E1.varO rfl) rfl rfl rfl kq (none_mem (by show true=([optI (whI x),optI (whI y)].any _);rw [hx,hy];rfl))))) (fun _=>?_) (fun z=>by cases z)
        refine S.ret1 (s:=.dat .none) E1.non ⟨?_,noL_optQ _⟩
        rw [e2,hx,hy];rfl
      | some j =>
        have at0:atI ([Dat.str x,Dat.str y].map whD1) 0=some (.int i):=by show atI [optI (whI x),optI (whI y)] 0=_;rw [hx];rfl
        have at1:atI ([Dat.str x,Dat.str y].map whD1) 1=some (.int j):=by show atI [optI (whI x),optI (whI y)] 1=_;rw [hy];rfl
        refine S.ifsF (T1.orX (T1.test (E1.inD (d:=.none) (r:=false) E1.non (E1.varO rfl) rfl rfl rfl kq (none_mem (by show false=([optI (whI x),optI (whI y)].any _);rw [hx,hy];rfl)))) ((T1.test (E1.gt (E1.lenL (A1.cons (E1.varO rfl) A1.nil)) E1.int)).eqn rfl)) ?_
        refine S.ifsF ((T1.test (E1.eq (E1.lenL (A1.cons (E1.varO rfl) A1.nil)) E1.int)).eqn rfl) ?_
        refine S.ifs (T1.or1 (T1.test (E1.lt (E1.ixL (E1.varO rfl) E1.int at1) E1.int)) (T1.test (E1.ne (E1.cDiv (A1.cons (E1.ixL (E1.varO rfl) E1.int at0) (A1.cons (E1.ixL (E1.varO rfl) E1.int at1) A1.nil))) E1.int))) (fun hb=>?_) (fun hb=>?_)
        . refine S.ret1 (s:=.dat .none) E1.non ⟨?_,noL_optQ _⟩
          rw [e2,hx,hy];unfold rd2;simp only [if_pos (gcd_or hb)];rfl
        . refine S.ret1 (s:=.dat (tI [i,j])) (E1.to (E1.tupleL (A1.cons (E1.varO rfl) A1.nil)) (by show Sl.dat (.tuple [optI (whI x),optI (whI y)])=_;rw [hx,hy];rfl)) ⟨?_,noL_optQ _⟩
          rw [e2,hx,hy];unfold rd2;simp only [if_neg (gcd_nor hb)];rfl
  | x :: y :: z' :: r, _ =>
    cases hb:((x :: y :: z' :: r).map fun p=>optI (whI p)).any (fun d=>match d with | .none=>true | _=>false) with
    | true =>
      refine S.ifs (b:=true) (T1.orT (T1.test (E1.inD (d:=.none) (r:=true) E1.non (E1.varO rfl) rfl rfl rfl kq (none_mem (by rw [List.map_map];exact hb.symm))))) (fun _=>?_) (fun z=>by cases z)
      exact S.ret1 (s:=.dat .none) E1.non ⟨by rw [hr0];rfl,noL_optQ _⟩
    | false =>
      refine S.ifs (b:=true) (T1.orX (T1.test (E1.inD (d:=.none) (r:=false) E1.non (E1.varO rfl) rfl rfl rfl kq (none_mem (by rw [List.map_map];exact hb.symm)))) ((T1.test (E1.gt (E1.lenL (A1.cons (E1.varO rfl) A1.nil)) E1.int)).eqn (decide_eq_true (by simp only [List.length_map,List.length_cons];omega)))) (fun _=>?_) (fun z=>by cases z)
      exact S.ret1 (s:=.dat .none) E1.non ⟨by rw [hr0];rfl,noL_optQ _⟩
theorem scLRof:FnScope ["_law_text","_law_many","_law_sign","_law_found"] ["_law_text","_law_many","_law_sign"] (defScope sLRof):=⟨rfl,rfl,rfl,by decide +kernel,rfl,by decide +kernel,by decide +kernel⟩
theorem ok_lrof (F:Fun K "_law_row_of" "_law_row_of" sLRof f fd)
    (G:FnOk P w K mg base CX0 1 g gd ["_law_text"] (spP K RWof)) (bG:Binds K gd ["_law_text"] []) (kG:PySem.W.keepIn K (.ref g)=true) (mG:mg "_law_whole_of" = some (.ref g)) (m_len:mg "len" = none) (m_tuple:mg "tuple" = none) :
    FnOk P w K mg base CX0 2 f fd ["_law_text","_law_many","_law_sign"] (spP K RRof):=by
  refine okP F scLRof (fun ds d h=>?_) (fun cdv A0 outer s0 H0 E0 hr=>?_)
  . obtain ⟨z,y,m,rfl,_⟩:=h;rfl
  have r:=hr.mono (show 1<=1 by decide)
  refine ⟨_,(zss_cons (zs_comp (i:=3) (own:=["_law_part"]) scLRof rfl ⟨by decide +kernel,rfl,by decide +kernel,by decide +kernel,by decide +kernel,by decide +kernel,by decide +kernel,by decide +kernel,by decide +kernel⟩ (zi_list (ze_split (zv 0) (zv 2))) (fun C fp s H nd=>zg_name (i:=0) nd rfl (Or.inl rfl)) (fun C fp s H=>zts_nil) (fun C fp s H=>(ze_call G r rfl mG kG bG .nil pass0 (za_n (zv 0) za_nil))) scLRof.nd rfl (Or.inl rfl) rfl)
    (zss_cons (zs_if (ZW.pt (zw_or (zt_cmpR (op_inD hr.units) ze_non (zv 3) (by with_unfolding_all rfl)) (zw_or (zt_cmpR op_ne (ze_callB call_len_seq rfl m_len PySem.boot_len (za_n (zv 3) za_nil)) (zv 1) (nomark _)) (zw_or1 (zt_cmpR (op_eqD hr.units) (zv 3) (ze_op op_rep (ze_lst (za_i za_nil)) (zv 1)) (nomark _)))))) (zss_one (zs_ret ze_non)) zss_nil)
    (zss_one (zs_ret (ze_callTy call_tuple_of rfl m_tuple (by rfl) (za_n (zv 3) za_nil)))))),fun ds d h=>?_⟩
  obtain ⟨z,y,m,rfl,hm,az,hy,rfl⟩:=h
  refine S.letO (ds:=((Txt.split z y).map Dat.str).map (rdD whI Dat.int)) (E1.compM (ds:=(Txt.split z y).map Dat.str) (f:=rdD whI Dat.int) (Wk.lst (E1.frz (E1.split (E1.var rfl) (E1.var rfl) hy (Nat.le_trans (Nat.add_le_add_right az.1 2) mx_2)))) (fun d hd=>?_) (by rw [List.length_map];exact Nat.le_trans (parts_len z y) (Nat.le_trans (Nat.add_le_add_right az.1 2) mx_2))) (noLs_rd (fun _=>rfl) _) ?_
  . obtain ⟨x,hx,rfl⟩:=List.mem_map.mp hd
    exact E1.to (E1.call (R:=RWof) (A1.cons (E1.var rfl) A1.nil) ⟨x,rfl,split_asc az x hx,rfl⟩) (by rw [optI_rd])
  have kq:∀ e ∈ ((Txt.split z y).map Dat.str).map (rdD whI Dat.int),PySem.W.kqdOk 8 e=true:=kqd_rd (fun _=>rfl)
  have ll:(((Txt.split z y).map Dat.str).map (rdD whI Dat.int)).length=(Txt.split z y).length:=by rw [List.length_map,List.length_map]
  cases ho:allO whI (Txt.split z y) with
  | none =>
    refine S.ifs (b:=true) (T1.orT ((T1.test (E1.inD (d:=.none) E1.non (E1.varO rfl) rfl rfl rfl kq (isNone_in (f:=whI) (g:=Dat.int) (fun _ z=>by cases z)))).eqn (by rw [ho];rfl))) (fun _=>?_) (fun z=>by cases z)
    exact S.ret1 (s:=.dat .none) E1.non ⟨by rw [rdR_no ho];rfl,by rw [rdR_no ho];rfl⟩
  | some ns =>
    by_cases hl:(Txt.split z y).length=m
    . have lns:ns.length=m:=by rw [(allO_some ho).1];exact hl
      have em:=rdD_map (g:=Dat.int) ho
      cases h0:(ns.any fun n => !decide (n=0)) with
      | true =>
        refine S.ifsF (T1.orF ((T1.test (E1.inD (d:=.none) E1.non (E1.varO rfl) rfl rfl rfl kq (isNone_in (f:=whI) (g:=Dat.int) (fun _ z=>by cases z)))).eqn (by rw [ho];rfl)) (T1.orF ((T1.test (E1.ne (E1.lenL (A1.cons (E1.varO rfl) A1.nil)) (E1.var rfl))).eqn (by rw [ll,decide_eq_true (show ((Txt.split z y).length:Int)=m by omega)];rfl)) ((T1.test (E1.eqD (d:=.list (ns.map Dat.int)) (e:=.list ((List.replicate m (0:Int)).map Dat.int)) (E1.varO (ds:=((Txt.split z y).map Dat.str).map (rdD whI Dat.int)) rfl) (E1.repL (xs:=[.int 0]) (k:=m) (E1.li (A1.cons E1.int A1.nil) rfl (lsz (n:=1) rfl z1)) (E1.var rfl) (by omega) (by omega) (show 1 * _<=_ by rw [Int.toNat_natCast];exact Nat.le_trans (by omega) (show 20<=sizeLine by decide))) (by rw [em];rfl) (by rw [rep0];rfl) (kq9_ints _) (kq9_ints _))).eqn (deq_ne fun e=>not0 h0 (D.map_int_inj (by injection e)))))) ?_
        have er:rdR z y m=some ns:=by rw [rdR_yes hl ho,if_pos h0]
        exact S.ret1 (s:=.dat (tI ns)) (E1.to (E1.tupleL (A1.cons (E1.varO rfl) A1.nil)) (by first | (rw [em];done) | (rw [em];rfl))) ⟨by rw [er];rfl,by rw [er];exact noL_tI'⟩
      | false =>
        have er:rdR z y m=none:=by rw [rdR_yes hl ho,h0];rfl
        have ez:=all0 lns h0
        refine S.ifs (b:=true) (T1.orX ((T1.test (E1.inD (d:=.none) E1.non (E1.varO rfl) rfl rfl rfl kq (isNone_in (f:=whI) (g:=Dat.int) (fun _ z=>by cases z)))).eqn (by rw [ho];rfl)) (T1.orX ((T1.test (E1.ne (E1.lenL (A1.cons (E1.varO rfl) A1.nil)) (E1.var rfl))).eqn (by rw [ll,decide_eq_true (show ((Txt.split z y).length:Int)=m by omega)];rfl)) ((T1.test (E1.eqD (d:=.list (ns.map Dat.int)) (e:=.list ((List.replicate m (0:Int)).map Dat.int)) (E1.varO (ds:=((Txt.split z y).map Dat.str).map (rdD whI Dat.int)) rfl) (E1.repL (xs:=[.int 0]) (k:=m) (E1.li (A1.cons E1.int A1.nil) rfl (lsz (n:=1) rfl z1)) (E1.var rfl) (by omega) (by omega) (show 1 * _<=_ by rw [Int.toNat_natCast];exact Nat.le_trans (by omega) (show 20<=sizeLine by decide))) (by rw [em];rfl) (by rw [rep0];rfl) (kq9_ints _) (kq9_ints _))).eqn (by rw [ez,deq_self])))) (fun _=>?_) (fun z=>by cases z)
        exact S.ret1 (s:=.dat .none) E1.non ⟨by rw [er];rfl,by rw [er];rfl⟩
    . refine S.ifs (b:=true) (T1.orX ((T1.test (E1.inD (d:=.none) E1.non (E1.varO rfl) rfl rfl rfl kq (isNone_in (f:=whI) (g:=Dat.int) (fun _ z=>by cases z)))).eqn (by rw [ho];rfl)) (T1.orT ((T1.test (E1.ne (E1.lenL (A1.cons (E1.varO rfl) A1.nil)) (E1.var rfl))).eqn (by rw [ll,decide_eq_false (show ¬ ((Txt.split z y).length:Int)=m by omega)];rfl)))) (fun _=>?_) (fun z=>by cases z)
      exact S.ret1 (s:=.dat .none) E1.non ⟨by rw [rdR_len hl];rfl,by rw [rdR_len hl];rfl⟩
theorem scLPof:FnScope ["_law_text","_law_found"] ["_law_text"] (defScope sLPof):=⟨rfl,rfl,rfl,by decide +kernel,rfl,by decide +kernel,by decide +kernel⟩
theorem ok_lpof (F:Fun K "_law_point_of" "_law_point_of" sLPof f fd)
    (G:FnOk P w K mg base CX0 2 g gd ["_law_text"] (spP K RFof)) (bG:Binds K gd ["_law_text"] []) (kG:PySem.W.keepIn K (.ref g)=true) (mG:mg "_law_fraction_of" = some (.ref g)) (m_len:mg "len" = none) (m_tuple:mg "tuple" = none) :
    FnOk P w K mg base CX0 3 f fd ["_law_text"] (spP K RPof):=by
  refine okP F scLPof (fun ds d h=>?_) (fun cdv A0 outer s0 H0 E0 hr=>?_)
  . obtain ⟨z,rfl,_⟩:=h;rfl
  have r:=hr.mono (show 2<=2 by decide)
  refine ⟨_,(zss_cons (zs_comp (i:=1) (own:=["_law_part"]) scLPof rfl ⟨by decide +kernel,rfl,by decide +kernel,by decide +kernel,by decide +kernel,by decide +kernel,by decide +kernel,by decide +kernel,by decide +kernel⟩ (zi_list (ze_split (zv 0) ze_str)) (fun C fp s H nd=>zg_name (i:=0) nd rfl (Or.inl rfl)) (fun C fp s H=>zts_nil) (fun C fp s H=>(ze_call G r rfl mG kG bG .nil pass0 (za_n (zv 0) za_nil))) scLPof.nd rfl (Or.inl rfl) rfl)
    (zss_cons (zs_if (ZW.pt (zw_or (zt_cmpR (op_inD hr.units) ze_non (zv 1) (by with_unfolding_all rfl)) (zw_or1 (zt_cmpR op_ne (ze_callB call_len_seq rfl m_len PySem.boot_len (za_n (zv 1) za_nil)) ze_int (nomark _))))) (zss_one (zs_ret ze_non)) zss_nil)
    (zss_one (zs_ret (ze_callTy call_tuple_of rfl m_tuple (by rfl) (za_n (zv 1) za_nil)))))),fun ds d h=>?_⟩
  obtain ⟨z,rfl,az,rfl⟩:=h
  refine S.letO (ds:=((Txt.split z spa).map Dat.str).map (rdD rdN qD)) (E1.compM (ds:=(Txt.split z spa).map Dat.str) (f:=rdD rdN qD) (Wk.lst (E1.frz (E1.split (y:=spa) (E1.var rfl) E1.str rfl (Nat.le_trans (Nat.add_le_add_right az.1 2) mx_2)))) (fun d hd=>?_) (by rw [List.length_map];exact Nat.le_trans (parts_len z spa) (Nat.le_trans (Nat.add_le_add_right az.1 2) mx_2))) (noLs_rd (fun _=>rfl) _) ?_
  . obtain ⟨x,hx,rfl⟩:=List.mem_map.mp hd
    exact E1.to (E1.call (R:=RFof) (A1.cons (E1.var rfl) A1.nil) ⟨x,rfl,split_asc az x hx,rfl⟩) (by rw [optQ_rd])
  have kq:∀ e ∈ ((Txt.split z spa).map Dat.str).map (rdD rdN qD),PySem.W.kqdOk 8 e=true:=kqd_rd (fun q=>kq_q q)
  have ll:(((Txt.split z spa).map Dat.str).map (rdD rdN qD)).length=(Txt.split z spa).length:=by rw [List.length_map,List.length_map]
  cases ho:allO rdN (Txt.split z spa) with
  | none =>
    have er:rdPt z=none:=rd3_no ho
    refine S.ifs (b:=true) (T1.orT ((T1.test (E1.inD (d:=.none) E1.non (E1.varO rfl) rfl rfl rfl kq (isNone_in (f:=rdN) (g:=qD) (fun _ z=>by cases z)))).eqn (by rw [ho];rfl))) (fun _=>?_) (fun z=>by cases z)
    exact S.ret1 (s:=.dat .none) E1.non ⟨by rw [er];rfl,by rw [er];rfl⟩
  | some l =>
    have em:=rdD_map (g:=qD) ho
    by_cases hl:(Txt.split z spa).length=3
    . have er:rdPt z=some l:=rd3_yes hl ho
      refine S.ifsF (T1.orF ((T1.test (E1.inD (d:=.none) E1.non (E1.varO rfl) rfl rfl rfl kq (isNone_in (f:=rdN) (g:=qD) (fun _ z=>by cases z)))).eqn (by rw [ho];rfl)) ((T1.test (E1.ne (E1.lenL (A1.cons (E1.varO rfl) A1.nil)) E1.int)).eqn (by rw [ll,hl];rfl))) ?_
      exact S.ret1 (s:=.dat (pD3 l)) (E1.to (E1.tupleL (A1.cons (E1.varO rfl) A1.nil)) (by rw [em];rfl)) ⟨by rw [er];rfl,by rw [er];exact noL_pD3 _⟩
    . have er:rdPt z=none:=rd3_len hl
      refine S.ifs (b:=true) (T1.orX ((T1.test (E1.inD (d:=.none) E1.non (E1.varO rfl) rfl rfl rfl kq (isNone_in (f:=rdN) (g:=qD) (fun _ z=>by cases z)))).eqn (by rw [ho];rfl)) ((T1.test (E1.ne (E1.lenL (A1.cons (E1.varO rfl) A1.nil)) E1.int)).eqn (by rw [ll,decide_eq_false (show ¬ ((Txt.split z spa).length:Int)=3 by omega)];rfl))) (fun _=>?_) (fun z=>by cases z)
      exact S.ret1 (s:=.dat .none) E1.non ⟨by rw [er];rfl,by rw [er];rfl⟩
theorem scLDue47:FnScope ["_law_kind","_law_text","_law_found"] ["_law_kind","_law_text"] (defScope sLDue47):=⟨rfl,rfl,rfl,by decide +kernel,rfl,by decide +kernel,by decide +kernel⟩
theorem ok_ldue47 (F:Fun K "_law_due" "_law_due" sLDue47 f fd)
    (G:FnOk P w K mg base CX0 2 g gd ["_law_text"] (spP K RFof)) (bG:Binds K gd ["_law_text"] []) (kG:PySem.W.keepIn K (.ref g)=true) (mG:mg "_law_fraction_of" = some (.ref g))
    (G2:FnOk P w K mg base CX0 3 g2 gd2 ["_law_text"] (spP K RPof)) (bG2:Binds K gd2 ["_law_text"] []) (kG2:PySem.W.keepIn K (.ref g2)=true) (mG2:mg "_law_point_of" = some (.ref g2))
    (G3:FnOk P w K mg base CX0 2 g3 gd3 ["_law_text","_law_many","_law_sign"] (spP K RRof)) (bG3:Binds K gd3 ["_law_text","_law_many","_law_sign"] []) (kG3:PySem.W.keepIn K (.ref g3)=true) (mG3:mg "_law_row_of" = some (.ref g3)) (m_len:mg "len" = none) (m_tuple:mg "tuple" = none) (m_int:mg "int" = none) :
    FnOk P w K mg base CX0 4 f fd ["_law_kind","_law_text"] (spP K RDue47):=by
  refine okP F scLDue47 (fun ds d h=>?_) (fun cdv A0 outer s0 H0 E0 hr=>?_)
  . obtain ⟨k,z,rfl,_⟩:=h;rfl
  have r:=hr.mono (show 2<=3 by decide)
  have r2:=hr.mono (show 3<=3 by decide)
  have r3:=hr.mono (show 2<=3 by decide)
  refine ⟨_,(zss_cons (zs_if (zt_cmpR op_eq (zv 0) ze_int (nomark _)) (zss_one (zs_ret (ze_call G r rfl mG kG bG .nil pass0 (za_n (zv 1) za_nil)))) zss_nil)
    (zss_cons (zs_if (zt_cmpR op_eq (zv 0) ze_int (nomark _)) (zss_one (zs_ret (ze_call G2 r2 rfl mG2 kG2 bG2 .nil pass0 (za_n (zv 1) za_nil)))) zss_nil)
    (zss_cons (zs_if (zt_cmpR op_eq (zv 0) ze_int (nomark _)) (zss_cons (zs_comp (i:=2) (own:=["_law_row"]) scLDue47 rfl ⟨by decide +kernel,rfl,by decide +kernel,by decide +kernel,by decide +kernel,by decide +kernel,by decide +kernel,by decide +kernel,by decide +kernel⟩ (zi_list (ze_split (zv 1) ze_str)) (fun C fp s H nd=>zg_name (i:=0) nd rfl (Or.inl rfl)) (fun C fp s H=>zts_nil) (fun C fp s H=>(ze_call G2 r2 rfl mG2 kG2 bG2 .nil pass0 (za_n (zv 0) za_nil))) scLDue47.nd rfl (Or.inl rfl) rfl)
    (zss_cons (zs_if (ZW.pt (zw_or (zt_cmpR (op_inD hr.units) ze_non (zv 2) (by with_unfolding_all rfl)) (zw_or1 (zt_cmpR op_ne (ze_callB call_len_seq rfl m_len PySem.boot_len (za_n (zv 2) za_nil)) ze_int (nomark _))))) (zss_one (zs_ret ze_non)) zss_nil)
    (zss_one (zs_ret (ze_callTy call_tuple_of rfl m_tuple (by rfl) (za_n (zv 2) za_nil)))))) zss_nil)
    (zss_one (zs_ret (ze_call G3 r3 rfl mG3 kG3 bG3 .nil pass0 (za_n (zv 1) (za_s (ze_ix ix_list (ze_lst (za_i (za_i (za_i (za_i (za_i (za_i za_nil))))))) (zv 0) (fun _ _=>rfl)) (za_s (ze_ix ix_list (ze_lst (za_cons ze_str (za_cons ze_str za_nil))) (ze_callTy call_int1 rfl m_int (by rfl) (za_cons (ze_cmpR op_eq (zv 0) ze_int (nomark _)) za_nil)) pix_call) za_nil))))))))),fun ds d h=>?_⟩
  obtain ⟨k,z,rfl,k0,k5,az,rfl⟩:=h
  have hk:k=0\/k=1\/k=2\/k=3\/k=4\/k=5:=by omega
  rcases hk with rfl | rfl | rfl | rfl | rfl | rfl
  . refine S.ifs (b:=true) ((T1.test (E1.eq (E1.var rfl) E1.int)).eqn (by decide)) (fun _=>?_) (fun z=>by cases z)
    exact S.ret1 (s:=.dat (optQ (rdN z))) (E1.call (R:=RFof) (A1.cons (E1.var rfl) A1.nil) ⟨z,rfl,az,rfl⟩) ⟨(optQ_K z).symm,by rw [<- optQ_K];exact noL_optQ _⟩
  . refine S.ifsF ((T1.test (E1.eq (E1.var rfl) E1.int)).eqn (by decide)) (S.ifsF ((T1.test (E1.eq (E1.var rfl) E1.int)).eqn (by decide)) (S.ifsF ((T1.test (E1.eq (E1.var rfl) E1.int)).eqn (by decide)) ?_))
    exact S.ret1 (s:=.dat (optD (rdK 1 z))) (E1.call (R:=RRof) (A1.cons (E1.var rfl) (A1.cons (E1.ixL (i:=1) (ds:=[0,4,3,0,0,2].map .int) (E1.vwo (E1.li (by (walk_at "au3")) rfl (lsz (n:=6) rfl z6))) (E1.var rfl) rfl) (A1.cons (E1.ixL (ds:=[.str spa,.str col]) (i:=0) (E1.vwo (E1.li (A1.cons E1.str (A1.cons E1.str A1.nil)) rfl (lsz (n:=2) rfl z2))) (E1.to (E1.bi (b:=false) (E1.to (E1.eq (E1.var rfl) E1.int) rfl)) rfl) rfl) A1.nil))) ⟨z,spa,4,rfl,by decide,az,rfl,rfl⟩) ⟨rfl,optD_nl (by decide) (by decide)⟩
  . refine S.ifsF ((T1.test (E1.eq (E1.var rfl) E1.int)).eqn (by decide)) (S.ifsF ((T1.test (E1.eq (E1.var rfl) E1.int)).eqn (by decide)) (S.ifsF ((T1.test (E1.eq (E1.var rfl) E1.int)).eqn (by decide)) ?_))
    exact S.ret1 (s:=.dat (optD (rdK 2 z))) (E1.call (R:=RRof) (A1.cons (E1.var rfl) (A1.cons (E1.ixL (i:=2) (ds:=[0,4,3,0,0,2].map .int) (E1.vwo (E1.li (by (walk_at "au3")) rfl (lsz (n:=6) rfl z6))) (E1.var rfl) rfl) (A1.cons (E1.ixL (ds:=[.str spa,.str col]) (i:=0) (E1.vwo (E1.li (A1.cons E1.str (A1.cons E1.str A1.nil)) rfl (lsz (n:=2) rfl z2))) (E1.to (E1.bi (b:=false) (E1.to (E1.eq (E1.var rfl) E1.int) rfl)) rfl) rfl) A1.nil))) ⟨z,spa,3,rfl,by decide,az,rfl,rfl⟩) ⟨rfl,optD_nl (by decide) (by decide)⟩
  . refine S.ifsF ((T1.test (E1.eq (E1.var rfl) E1.int)).eqn (by decide)) (S.ifs (b:=true) ((T1.test (E1.eq (E1.var rfl) E1.int)).eqn (by decide)) (fun _=>?_) (fun z=>by cases z))
    exact S.ret1 (s:=.dat (optD (rdK 3 z))) (E1.call (R:=RPof) (A1.cons (E1.var rfl) A1.nil) ⟨z,rfl,az,rfl⟩) ⟨rfl,optD_nl (by decide) (by decide)⟩
  . refine S.ifsF ((T1.test (E1.eq (E1.var rfl) E1.int)).eqn (by decide)) (S.ifsF ((T1.test (E1.eq (E1.var rfl) E1.int)).eqn (by decide)) (S.ifs (b:=true) ((T1.test (E1.eq (E1.var rfl) E1.int)).eqn (by decide)) (fun _=>?_) (fun z=>by cases z)))
    refine S.letO (ds:=((Txt.split z sem).map Dat.str).map (rdD rdPt pD3)) (E1.compM (ds:=(Txt.split z sem).map Dat.str) (f:=rdD rdPt pD3) (Wk.lst (E1.frz (E1.split (y:=sem) (E1.var rfl) E1.str rfl (Nat.le_trans (Nat.add_le_add_right az.1 2) mx_2)))) (fun d hd=>?_) (by rw [List.length_map];exact Nat.le_trans (parts_len z sem) (Nat.le_trans (Nat.add_le_add_right az.1 2) mx_2))) (noLs_rd (fun l=>noL_pD3 l) _) ?_
    . obtain ⟨x,hx,rfl⟩:=List.mem_map.mp hd
      exact E1.to (E1.call (R:=RPof) (A1.cons (E1.var rfl) A1.nil) ⟨x,rfl,split_asc az x hx,rfl⟩) (by rw [optP_rd])
    have kq:∀ e ∈ ((Txt.split z sem).map Dat.str).map (rdD rdPt pD3),PySem.W.kqdOk 8 e=true:=kqd_rd (fun q=>kq_p q)
    have ll:(((Txt.split z sem).map Dat.str).map (rdD rdPt pD3)).length=(Txt.split z sem).length:=by rw [List.length_map,List.length_map]
    cases ho:allO rdPt (Txt.split z sem) with
    | none =>
      have er:rdTb z=none:=rd3_no ho
      refine S.ifs (b:=true) (T1.orT ((T1.test (E1.inD (d:=.none) E1.non (E1.varO rfl) rfl rfl rfl kq (isNone_in (f:=rdPt) (g:=pD3) (fun _ z=>by cases z)))).eqn (by rw [ho];rfl))) (fun _=>?_) (fun z=>by cases z)
      exact S.ret1 (s:=.dat .none) E1.non ⟨by rw [show rdK 4 z=(rdTb z).map tD3 from rfl,er];rfl,optD_nl (by decide) (by decide)⟩
    | some l =>
      have em:=rdD_map (g:=pD3) ho
      by_cases hl:(Txt.split z sem).length=3
      . have er:rdTb z=some l:=rd3_yes hl ho
        refine S.ifsF (T1.orF ((T1.test (E1.inD (d:=.none) E1.non (E1.varO rfl) rfl rfl rfl kq (isNone_in (f:=rdPt) (g:=pD3) (fun _ z=>by cases z)))).eqn (by rw [ho];rfl)) ((T1.test (E1.ne (E1.lenL (A1.cons (E1.varO rfl) A1.nil)) E1.int)).eqn (by rw [ll,hl];rfl))) ?_
        exact S.ret1 (s:=.dat (tD3 l)) (E1.to (E1.tupleL (A1.cons (E1.varO rfl) A1.nil)) (by rw [em];rfl)) ⟨by rw [show rdK 4 z=(rdTb z).map tD3 from rfl,er];rfl,optD_nl (by decide) (by decide)⟩
      . have er:rdTb z=none:=rd3_len hl
        refine S.ifs (b:=true) (T1.orX ((T1.test (E1.inD (d:=.none) E1.non (E1.varO rfl) rfl rfl rfl kq (isNone_in (f:=rdPt) (g:=pD3) (fun _ z=>by cases z)))).eqn (by rw [ho];rfl)) ((T1.test (E1.ne (E1.lenL (A1.cons (E1.varO rfl) A1.nil)) E1.int)).eqn (by rw [ll,decide_eq_false (show ¬ ((Txt.split z sem).length:Int)=3 by omega)];rfl))) (fun _=>?_) (fun z=>by cases z)
        exact S.ret1 (s:=.dat .none) E1.non ⟨by rw [show rdK 4 z=(rdTb z).map tD3 from rfl,er];rfl,optD_nl (by decide) (by decide)⟩
  . refine S.ifsF ((T1.test (E1.eq (E1.var rfl) E1.int)).eqn (by decide)) (S.ifsF ((T1.test (E1.eq (E1.var rfl) E1.int)).eqn (by decide)) (S.ifsF ((T1.test (E1.eq (E1.var rfl) E1.int)).eqn (by decide)) ?_))
    exact S.ret1 (s:=.dat (optD (rdK 5 z))) (E1.call (R:=RRof) (A1.cons (E1.var rfl) (A1.cons (E1.ixL (i:=5) (ds:=[0,4,3,0,0,2].map .int) (E1.vwo (E1.li (by (walk_at "au3")) rfl (lsz (n:=6) rfl z6))) (E1.var rfl) rfl) (A1.cons (E1.ixL (ds:=[.str spa,.str col]) (i:=1) (E1.vwo (E1.li (A1.cons E1.str (A1.cons E1.str A1.nil)) rfl (lsz (n:=2) rfl z2))) (E1.to (E1.bi (b:=true) (E1.to (E1.eq (E1.var rfl) E1.int) rfl)) rfl) rfl) A1.nil))) ⟨z,col,2,rfl,by decide,az,rfl,rfl⟩) ⟨rfl,optD_nl (by decide) (by decide)⟩
theorem scLWhichX:FnScope ["_law_e","_law_found"] ["_law_e"] (defScope sLWhichX):=⟨rfl,rfl,rfl,by decide +kernel,rfl,by decide +kernel,by decide +kernel⟩
theorem ok_lwhichx (F:Fun K "_law_which" "_law_which" sLWhichX f fd) (m_NoTurn:mg "NoTurn" = some (.ref cNoTurn)) (m_NoHanger:mg "NoHanger" = some (.ref cNoHanger)) (m_TooMany:mg "TooMany" = some (.ref cTooMany)) (m_NoJoint:mg "NoJoint" = some (.ref cNoJoint)) (m_NoReach:mg "NoReach" = some (.ref cNoReach)) (m_NoDeed:mg "NoDeed" = some (.ref cNoDeed)) (m_NoName:mg "NoName" = some (.ref cNoName)) (m_NoMark:mg "NoMark" = some (.ref cNoMark)) (m_NoText:mg "NoText" = some (.ref cNoText)) (m_NoLine:mg "NoLine" = some (.ref cNoLine)) (m_NoKept:mg "NoKept" = some (.ref cNoKept)) (m_TurnError:mg "TurnError" = some (.ref cTurnError)) (x_NoText:L2.Xc K "NoText" cNoText) (l_NoText:L2.XcL K cNoText) (s_NoText:PySem.W.kitOne K (.ref cNoText) (.ref cNoText)=some true) (n_NoText_NoTurn:PySem.W.kitOne K (.ref cNoText) (.ref cNoTurn)=some false) (n_NoText_NoHanger:PySem.W.kitOne K (.ref cNoText) (.ref cNoHanger)=some false) (n_NoText_TooMany:PySem.W.kitOne K (.ref cNoText) (.ref cTooMany)=some false) (n_NoText_NoJoint:PySem.W.kitOne K (.ref cNoText) (.ref cNoJoint)=some false) (n_NoText_NoReach:PySem.W.kitOne K (.ref cNoText) (.ref cNoReach)=some false) (n_NoText_NoDeed:PySem.W.kitOne K (.ref cNoText) (.ref cNoDeed)=some false) (n_NoText_NoName:PySem.W.kitOne K (.ref cNoText) (.ref cNoName)=some false) (n_NoText_NoMark:PySem.W.kitOne K (.ref cNoText) (.ref cNoMark)=some false) (n_NoText_NoLine:PySem.W.kitOne K (.ref cNoText) (.ref cNoLine)=some false) (n_NoText_NoKept:PySem.W.kitOne K (.ref cNoText) (.ref cNoKept)=some false) (v_NoText:PySem.W.kitOne K (.ref cNoText) (.type "ValueError")=some true) (t_NoText:PySem.W.kitOne K (.ref cNoText) (.ref cTurnError)=some true) (m_isinstance:mg "isinstance" = none) (m_ValueError:mg "ValueError" = none) (m_range:mg "range" = none) :
    FnOk P w K mg base CX0 1 f fd ["_law_e"] (spP K RWhX):=by
  refine okP F scLWhichX (fun ds d h=>?_) (fun cdv A0 outer s0 H0 E0 hr=>?_)
  . obtain ⟨rfl,_⟩:=h;rfl
  refine ⟨_,(zss_cons (zs_set (i:=1) scLWhichX.nd rfl (Or.inr rfl) (ze_lst (za_c (ze_callB call_isX rfl m_isinstance (by rfl) (za_n (zv 0) (za_n (ze_glob (v:=.ref cNoTurn) rfl m_NoTurn rfl) za_nil))) (za_c (ze_callB call_isX rfl m_isinstance (by rfl) (za_n (zv 0) (za_n (ze_glob (v:=.ref cNoHanger) rfl m_NoHanger rfl) za_nil))) (za_c (ze_callB call_isX rfl m_isinstance (by rfl) (za_n (zv 0) (za_n (ze_glob (v:=.ref cTooMany) rfl m_TooMany rfl) za_nil))) (za_c (ze_callB call_isX rfl m_isinstance (by rfl) (za_n (zv 0) (za_n (ze_glob (v:=.ref cNoJoint) rfl m_NoJoint rfl) za_nil))) za_nil))))))
    (zss_cons (zs_set (i:=1) scLWhichX.nd rfl (Or.inr rfl) (ze_op op_cat (zv 1) (ze_lst (za_c (ze_callB call_isX rfl m_isinstance (by rfl) (za_n (zv 0) (za_n (ze_glob (v:=.ref cNoReach) rfl m_NoReach rfl) za_nil))) (za_c (ze_callB call_isX rfl m_isinstance (by rfl) (za_n (zv 0) (za_n (ze_glob (v:=.ref cNoDeed) rfl m_NoDeed rfl) za_nil))) (za_c (ze_callB call_isX rfl m_isinstance (by rfl) (za_n (zv 0) (za_n (ze_glob (v:=.ref cNoName) rfl m_NoName rfl) za_nil))) (za_c (ze_callB call_isX rfl m_isinstance (by rfl) (za_n (zv 0) (za_n (ze_glob (v:=.ref cNoMark) rfl m_NoMark rfl) za_nil))) za_nil)))))))
    (zss_cons (zs_set (i:=1) scLWhichX.nd rfl (Or.inr rfl) (ze_op op_cat (zv 1) (ze_lst (za_c (ze_callB call_isX rfl m_isinstance (by rfl) (za_n (zv 0) (za_n (ze_glob (v:=.ref cNoText) rfl m_NoText rfl) za_nil))) (za_c (ze_callB call_isX rfl m_isinstance (by rfl) (za_n (zv 0) (za_n (ze_glob (v:=.ref cNoLine) rfl m_NoLine rfl) za_nil))) (za_c (ze_callB call_isX rfl m_isinstance (by rfl) (za_n (zv 0) (za_n (ze_glob (v:=.ref cNoKept) rfl m_NoKept rfl) za_nil))) za_nil))))))
    (zss_cons (zs_if (ZW.pt (zw_or (zt_not (zt_val (ze_callB call_isX rfl m_isinstance (by rfl) (za_n (zv 0) (za_n (ze_tyn rfl m_ValueError (by rfl)) za_nil))))) (zw_or1 (zt_not (zt_val (ze_callB call_isX rfl m_isinstance (by rfl) (za_n (zv 0) (za_n (ze_glob (v:=.ref cTurnError) rfl m_TurnError rfl) za_nil)))))))) (zss_one (zs_ret (ze_lst za_nil))) zss_nil)
    (zss_one (zs_ret (ze_comp (own:=["_law_k"]) scLWhichX rfl ⟨by decide +kernel,rfl,by decide +kernel,by decide +kernel,by decide +kernel,by decide +kernel,by decide +kernel,by decide +kernel,by decide +kernel⟩ (zi_range1 rfl m_range (za_i za_nil)) (fun C fp s H nd=>zg_name (i:=0) nd rfl (Or.inl rfl)) (fun C fp s H=>zts_one (zt_val (ze_ix ix_listC (zv 2) (zv 0) (fun _ _=>rfl)))) (fun C fp s H=>(zv 0))))))))),fun ds d h=>?_⟩
  obtain ⟨rfl,rfl⟩:=h
  refine S.letO (ds:=[.bool false,.bool false,.bool false,.bool false]) (E1.li (ds:=[.bool false,.bool false,.bool false,.bool false]) (A1.cons (E1.isX (xn_NX x_NoText) l_NoText n_NoText_NoTurn (E1.var rfl)) (A1.cons (E1.isX (xn_NX x_NoText) l_NoText n_NoText_NoHanger (E1.var rfl)) (A1.cons (E1.isX (xn_NX x_NoText) l_NoText n_NoText_TooMany (E1.var rfl)) (A1.cons (E1.isX (xn_NX x_NoText) l_NoText n_NoText_NoJoint (E1.var rfl)) A1.nil)))) rfl (lsz (n:=4) rfl (by decide))) rfl ?_
  refine S.letO (ds:=[.bool false,.bool false,.bool false,.bool false,.bool false,.bool false,.bool false,.bool false]) (E1.catVO (xs:=[.bool false,.bool false,.bool false,.bool false]) (ys:=[.bool false,.bool false,.bool false,.bool false]) rfl (E1.li (ds:=[.bool false,.bool false,.bool false,.bool false]) (A1.cons (E1.isX (xn_NX x_NoText) l_NoText n_NoText_NoReach (E1.var rfl)) (A1.cons (E1.isX (xn_NX x_NoText) l_NoText n_NoText_NoDeed (E1.var rfl)) (A1.cons (E1.isX (xn_NX x_NoText) l_NoText n_NoText_NoName (E1.var rfl)) (A1.cons (E1.isX (xn_NX x_NoText) l_NoText n_NoText_NoMark (E1.var rfl)) A1.nil)))) rfl (lsz (n:=4) rfl (by decide))) (show 8<=sizeLine by decide)) rfl ?_
  refine S.letO (ds:=[.bool false,.bool false,.bool false,.bool false,.bool false,.bool false,.bool false,.bool false,.bool true,.bool false,.bool false]) (E1.catVO (xs:=[.bool false,.bool false,.bool false,.bool false,.bool false,.bool false,.bool false,.bool false]) (ys:=[.bool true,.bool false,.bool false]) rfl (E1.li (ds:=[.bool true,.bool false,.bool false]) (A1.cons (E1.isX (xn_NX x_NoText) l_NoText s_NoText (E1.var rfl)) (A1.cons (E1.isX (xn_NX x_NoText) l_NoText n_NoText_NoLine (E1.var rfl)) (A1.cons (E1.isX (xn_NX x_NoText) l_NoText n_NoText_NoKept (E1.var rfl)) A1.nil))) rfl (lsz (n:=3) rfl (by decide))) (show 11<=sizeLine by decide)) rfl ?_
  refine S.ifsF (T1.orF (T1.notT (T1.val (E1.isXty (xn_NX x_NoText) l_NoText v_NoText (E1.var rfl)))) (T1.notT (T1.val (E1.isX (xn_NX x_NoText) l_NoText t_NoText (E1.var rfl))))) ?_
  refine S.ret1 (s:=.own [.int 8]) (E1.to (E1.compF (ds:=([0,1,2,3,4,5,6,7,8,9,10]:List Int).map .int) (f:=id) (kp:=fun d=>match d with | .int i=>i == 8 | _=>false) (Wk.rng (n:=11) (A1.cons E1.int A1.nil) rfl) (fun d hd=>?_) (fun d hd _=>(E1.var rfl)) (show 11<=sizeLine by decide)) rfl) ⟨rfl,rfl⟩
  simp only [List.map_cons,List.map_nil,List.mem_cons,List.mem_nil_iff,or_false] at hd
  rcases hd with rfl | rfl | rfl | rfl | rfl | rfl | rfl | rfl | rfl | rfl | rfl
  all_goals exact T1.val (E1.ixL (ds:=[.bool false,.bool false,.bool false,.bool false,.bool false,.bool false,.bool false,.bool false,.bool true,.bool false,.bool false]) (E1.varO rfl) (E1.var rfl) rfl)
theorem scLTold47:FnScope ["_law_kind","_law_text","_law_found","_law_kept","_law_e"] ["_law_kind","_law_text"] (defScope sLTold47):=⟨rfl,rfl,rfl,by decide +kernel,rfl,by decide +kernel,by decide +kernel⟩
theorem ok_ltold47 (F:Fun K "_law_told" "_law_told" sLTold47 f fd) (m_TurnError:mg "TurnError" = some (.ref cTurnError)) (x_NoText:Xc K "NoText" cNoText) (u_NoText:PySem.W.exmOne K (.ref cNoText) (.ref cTurnError)=some true)
    (G:FnOk P w K mg base CX0 6 g gd ["_law_kind","_law_text"] (spP K RRead)) (bG:Binds K gd ["_law_kind","_law_text"] []) (kG:PySem.W.keepIn K (.ref g)=true) (mG:mg "_law_read" = some (.ref g))
    (G2:FnOk P w K mg base (CXx P w (.ref cNoText)) 6 g2 gd2 ["_law_kind","_law_text"] (spB K BRead)) (bG2:Binds K gd2 ["_law_kind","_law_text"] []) (kG2:PySem.W.keepIn K (.ref g2)=true) (mG2:mg "_law_read" = some (.ref g2)) :
    FnOk P w K mg base CX0 7 f fd ["_law_kind","_law_text"] (spX K RTold47):=by
  refine okXd F scLTold47 (fun ds C h=>?_) (fun ds C h cdv A0 outer s0 H0 E0 hr=>?_)
  . obtain ⟨_,_,rfl,_⟩:=h;rfl
  have r:=hr.mono (show 6<=6 by decide)
  obtain ⟨k,z,rfl,k0,k5,az,rfl⟩:=h
  cases hn:rdK k z with
  | some d =>
    refine ⟨_,(zss_cons (zs_set (i:=2) scLTold47.nd rfl (Or.inl rfl) ze_non) (zss_cons (zs_set (i:=3) scLTold47.nd rfl (Or.inl rfl) ze_non)
      (zss_cons (zs_tryOk (zss_one (zs_set (i:=2) scLTold47.nd rfl (Or.inl rfl) (ze_call G r rfl mG kG bG .nil pass0 (za_n (zv 0) (za_n (zv 1) za_nil))))))
      (zss_one (zs_ret (ze_lst (za_n (zv 2) (za_n (zv 3) za_nil)))))))),?_⟩
    refine S.let1 (s:=.dat .none) E1.non ?_
    refine S.let1 (s:=.dat .none) E1.non ?_
    refine S.let1 (s:=.dat d) (E1.call (R:=RRead) (A1.cons (E1.var rfl) (A1.cons (E1.var rfl) A1.nil)) ⟨k,z,rfl,k0,k5,az,hn⟩) ?_
    exact S.ret1 (s:=.own [d,.none]) (E1.li (A1.cons (E1.var rfl) (A1.cons (E1.var rfl) A1.nil)) rfl (lsz (n:=2) rfl z2)) ⟨_,.inl ⟨d,rfl,rfl⟩,rfl⟩
  | none =>
    refine ⟨_,(zss_cons (zs_set (i:=2) scLTold47.nd rfl (Or.inl rfl) ze_non) (zss_cons (zs_set (i:=3) scLTold47.nd rfl (Or.inl rfl) ze_non)
      (zss_cons (zs_tryAs (i:=4) (C:=.ref cNoText) (cT:=cTurnError) scLTold47.nd rfl rfl (by rfl) m_TurnError u_NoText (rss_here (rs_asg (re_call G2 r (by rfl) mG2 kG2 bG2 (za_n (zv 0) (za_n (zv 1) za_nil))))) (fun ex=>zss_one (zs_set (i:=3) scLTold47.nd rfl (Or.inl rfl) (zv 4))))
      (zss_one (zs_ret (ze_lst (za_n (zv 2) (za_n (zv 3) za_nil)))))))),?_⟩
    refine S.let1 (s:=.dat .none) E1.non ?_
    refine S.let1 (s:=.dat .none) E1.non ?_
    refine S.seq (M:=fun τ'=>τ'=[.dat (.int k),.dat (.str z),.dat .none,.dat (.bytes cNX),.un]) (S.tryAsD (SX.call (B:=BRead) (A1.cons (E1.var rfl) (A1.cons (E1.var rfl) A1.nil)) ⟨k,z,rfl,k0,k5,az,hn⟩) (xn_NX x_NoText) (by decide) (fun τ' e=>by subst e;exact (show 4 < 5 by decide)) (fun τ' e=>by subst e;rfl)) (fun τ' e=>?_)
    subst e
    exact S.ret1 (s:=.own [.none,.bytes cNX]) (E1.li (A1.cons (E1.var rfl) (A1.cons (E1.var rfl) A1.nil)) rfl (lsz (n:=2) rfl z2)) ⟨_,.inr ⟨rfl,rfl⟩,rfl⟩
theorem scLGood47:FnScope ["_law_kind","_law_text","_law_due_here","_law_found","_law_kept"] ["_law_kind","_law_text"] (defScope sLGood47):=⟨rfl,rfl,rfl,by decide +kernel,rfl,by decide +kernel,by decide +kernel⟩
theorem ok_lgood47 (F:Fun K "_law_good" "_law_good" sLGood47 f fd)
    (G:FnOk P w K mg base CX0 4 g gd ["_law_kind","_law_text"] (spP K RDue47)) (bG:Binds K gd ["_law_kind","_law_text"] []) (kG:PySem.W.keepIn K (.ref g)=true) (mG:mg "_law_due" = some (.ref g))
    (G2:FnOk P w K mg base CX0 7 g2 gd2 ["_law_kind","_law_text"] (spX K RTold47)) (bG2:Binds K gd2 ["_law_kind","_law_text"] []) (kG2:PySem.W.keepIn K (.ref g2)=true) (mG2:mg "_law_told" = some (.ref g2))
    (G3:FnOk P w K mg base CX0 1 g3 gd3 ["_law_e"] (spP K RWhX)) (bG3:Binds K gd3 ["_law_e"] []) (kG3:PySem.W.keepIn K (.ref g3)=true) (mG3:mg "_law_which" = some (.ref g3))
    (G4:FnOk P w K mg base CX0 5 g4 gd4 ["_law_found","_law_due_here"] (spP K (RSm 4))) (bG4:Binds K gd4 ["_law_found","_law_due_here"] []) (kG4:PySem.W.keepIn K (.ref g4)=true) (mG4:mg "_law_same" = some (.ref g4)) :
    FnOk P w K mg base CX0 8 f fd ["_law_kind","_law_text"] (spP K RGood47):=by
  refine okP F scLGood47 (fun ds d h=>?_) (fun cdv A0 outer s0 H0 E0 hr=>?_)
  . obtain ⟨k,z,rfl,_⟩:=h;rfl
  have r:=hr.mono (show 4<=7 by decide)
  have r2:=hr.mono (show 7<=7 by decide)
  have r3:=hr.mono (show 1<=7 by decide)
  have r4:=hr.mono (show 5<=7 by decide)
  refine ⟨_,(zss_cons (zs_set (i:=2) scLGood47.nd rfl (Or.inl rfl) (ze_call G r rfl mG kG bG .nil pass0 (za_n (zv 0) (za_n (zv 1) za_nil))))
    (zss_cons (zs_asg (ze_call G2 r2 rfl mG2 kG2 bG2 .nil pass0 (za_n (zv 0) (za_n (zv 1) za_nil))) (zg_lst rfl (zgs_cons (zg_name (i:=3) scLGood47.nd rfl (Or.inl rfl)) (zgs_cons (zg_name (i:=4) scLGood47.nd rfl (Or.inl rfl)) zgs_nil))))
    (zss_cons (zs_if (zt_cmpR op_isN (zv 2) ze_non (nomark _)) (zss_one (zs_ret (ze_cmpR (op_eqD hr.units) (ze_call G3 r3 rfl mG3 kG3 bG3 .nil pass0 (za_n (zv 4) za_nil)) (ze_lst (za_i za_nil)) (nomark _)))) zss_nil)
    (zss_one (zs_ret (ze_and (ze_cmpR op_isN (zv 4) ze_non (nomark _)) (ze_one (ze_call G4 r4 rfl mG4 kG4 bG4 .nil pass0 (za_n (zv 3) (za_n (zv 2) za_nil)))))))))),fun ds d h=>?_⟩
  obtain ⟨k,z,rfl,k0,k5,az,rfl⟩:=h
  refine S.let1 (s:=.dat (optD (rdK k z))) (E1.call (R:=RDue47) (A1.cons (E1.var rfl) (A1.cons (E1.var rfl) A1.nil)) ⟨k,z,rfl,k0,k5,az,rfl⟩) ?_
  refine S.letGX (R:=RTold47) (flat_optD k0 k5) (A1.cons (E1.var rfl) (A1.cons (E1.var rfl) A1.nil)) ⟨k,z,rfl,k0,k5,az,rfl⟩ fun g0 hg=>?_
  rcases hg with ⟨d,hn,rfl⟩ | ⟨hn,rfl⟩
  . refine ⟨_,Gd.lst (is:=[3,4]) rfl,?_⟩
    have tb:=rdK_tx k0 k5 hn
    rw [hn]
    refine S.ifsF ((T1.test (E1.isN (d:=d) (E1.var rfl) E1.non)).eqn (by cases tb <;> rfl)) ?_
    exact S.ret1 (s:=.dat (.bool true)) (E1.andV (b:=true) (E1.isN (d:=.none) (E1.var rfl) E1.non) (fun _=>E1.call (R:=RSm 4) (A1.cons (E1.var rfl) (A1.cons (E1.var rfl) A1.nil)) ⟨_,rfl,tb.sm,rfl⟩) (fun z=>by cases z)) ⟨rfl,rfl⟩
  . refine ⟨_,Gd.lst (is:=[3,4]) rfl,?_⟩
    rw [hn]
    refine S.ifs (b:=true) (T1.test (E1.isN (d:=.none) (E1.var rfl) E1.non)) (fun _=>?_) (fun z=>by cases z)
    exact S.ret1 (s:=.dat (.bool true)) (E1.to (E1.eqD (d:=.list [.int 8]) (e:=.list [.int 8]) (E1.call (R:=RWhX) (A1.cons (E1.var rfl) A1.nil) ⟨rfl,rfl⟩) (E1.li (A1.cons E1.int A1.nil) rfl (lsz (n:=1) rfl z1)) rfl rfl rfl rfl) (by rw [deq_self])) ⟨rfl,rfl⟩
theorem scLBent46:FnScope ["_law_text","_law_purse_here","_law_sort","_law_at","_law_sign","_law_pair"] ["_law_text","_law_purse_here"] (defScope sLBent46):=⟨rfl,rfl,rfl,by decide +kernel,rfl,by decide +kernel,by decide +kernel⟩
theorem ok_lbent46 (F:Fun K "_law_bent_text" "_law_bent_text" sLBent46 f fd)
    (G:FnOk P w K mg base CX0 1 g gd ["_law_purse_here","_law_many"] spDraw) (bG:Binds K gd ["_law_purse_here","_law_many"] []) (kG:PySem.W.keepIn K (.ref g)=true) (mG:mg "_law_take" = some (.ref g)) (m_len:mg "len" = none) :
    FnOk P w K mg base CX0 2 f fd ["_law_text","_law_purse_here"] (spV K RBent46):=by
  refine okV F scLBent46 (fun ds d h=>?_) (fun cdv A0 outer s0 H0 E0 hr=>?_)
  . obtain ⟨n,z,rfl,_⟩:=h;rfl
  have r:=hr.mono (show 1<=1 by decide)
  refine ⟨_,(zss_cons (zs_set (i:=2) scLBent46.nd rfl (Or.inl rfl) (ze_call G r rfl mG kG bG .nil pass0 (za_n (zv 1) (za_i za_nil))))
    (zss_cons (zs_set (i:=3) scLBent46.nd rfl (Or.inl rfl) (ze_call G r rfl mG kG bG .nil pass0 (za_n (zv 1) (za_b (ze_op op_add (ze_callB call_len_str rfl m_len PySem.boot_len (za_n (zv 0) za_nil)) ze_int) za_nil))))
    (zss_cons (zs_set (i:=4) scLBent46.nd rfl (Or.inl rfl) (ze_ix ix_str ze_str (ze_call G r rfl mG kG bG .nil pass0 (za_n (zv 1) (za_i za_nil))) pix_call) sw_sub)
    (zss_cons (zs_if (zt_cmpR op_eq (zv 2) ze_int (nomark _)) (zss_one (zs_ret (ze_op op_add_str (ze_op op_add_str (ze_slice sl_str (zv 0) zo_none (zo_some (zv 3))) (zv 4)) (ze_slice sl_str (zv 0) (zo_some (zv 3)) zo_none)))) zss_nil)
    (zss_cons (zs_if (zt_cmpR op_eq (zv 2) ze_int (nomark _)) (zss_one (zs_ret (ze_op op_add_str (ze_slice sl_str (zv 0) zo_none (zo_some (zv 3))) (ze_slice sl_str (zv 0) (zo_some (ze_op op_add (zv 3) ze_int)) zo_none)))) zss_nil)
    (zss_cons (zs_if (zt_cmpR op_eq (zv 2) ze_int (nomark _)) (zss_one (zs_ret (ze_op op_add_str (ze_op op_add_str (ze_slice sl_str (zv 0) zo_none (zo_some (zv 3))) (zv 4)) (ze_slice sl_str (zv 0) (zo_some (ze_op op_add (zv 3) ze_int)) zo_none)))) zss_nil)
    (zss_cons (zs_if (zt_cmpR op_eq (zv 2) ze_int (nomark _)) (zss_cons (zs_set (i:=5) scLBent46.nd rfl (Or.inl rfl) (ze_op op_add_str (ze_slice sl_str (zv 0) (zo_some (ze_op op_add (zv 3) ze_int)) (zo_some (ze_op op_add (zv 3) ze_int))) (ze_slice sl_str (zv 0) (zo_some (zv 3)) (zo_some (ze_op op_add (zv 3) ze_int)))))
    (zss_one (zs_ret (ze_op op_add_str (ze_op op_add_str (ze_slice sl_str (zv 0) zo_none (zo_some (zv 3))) (zv 5)) (ze_slice sl_str (zv 0) (zo_some (ze_op op_add (zv 3) ze_int)) zo_none))))) zss_nil)
    (zss_cons (zs_if (zt_cmpR op_eq (zv 2) ze_int (nomark _)) (zss_one (zs_ret (ze_ix ix_list (ze_lst (za_b (ze_op op_add_str (zv 0) ze_str) (za_b (ze_op op_add_str ze_str (zv 0)) (za_b (ze_op op_add_str (zv 0) ze_str) (za_b (ze_op op_add_str (zv 0) ze_str) za_nil))))) (ze_call G r rfl mG kG bG .nil pass0 (za_n (zv 1) (za_i za_nil))) pix_call))) zss_nil)
    (zss_cons (zs_if (zt_cmpR op_eq (zv 2) ze_int (nomark _)) (zss_one (zs_ret (ze_slice sl_str (zv 0) zo_none (zo_some (zv 3))))) zss_nil)
    (zss_cons (zs_if (ZW.pt (zw_and (zt_cmpR op_eq (zv 2) ze_int (nomark _)) (zw_and1 (zt_cmpR op_lt (ze_callB call_len_str rfl m_len PySem.boot_len (za_n (zv 0) za_nil)) ze_int (nomark _))))) (zss_one (zs_ret (ze_ix ix_list (ze_lst (za_b (ze_op op_add_str (ze_op op_add_str (zv 0) ze_str) (zv 0)) (za_b (ze_op op_add_str (ze_op op_add_str (zv 0) ze_str) (zv 0)) (za_b (ze_op op_add_str (ze_op op_add_str (zv 0) ze_str) (zv 0)) za_nil)))) (ze_call G r rfl mG kG bG .nil pass0 (za_n (zv 1) (za_i za_nil))) pix_call))) zss_nil)
    (zss_cons (zs_ifRepl 0 (zv 2) (ze_call G r rfl mG kG bG .nil pass0 (za_n (zv 1) (za_i za_nil))) pix_call (by decide +kernel))
    (zss_cons (zs_ifRepl 0 (zv 2) (ze_call G r rfl mG kG bG .nil pass0 (za_n (zv 1) (za_i za_nil))) pix_call (by decide +kernel))
    (zss_cons (zs_if (zt_cmpR op_eq (zv 2) ze_int (nomark _)) (zss_one (zs_ret (ze_op op_add_str (ze_op op_add_str (ze_slice sl_str (zv 0) zo_none (zo_some (zv 3))) (ze_ix ix_list (ze_lst (za_cons ze_str (za_cons ze_str (za_cons ze_str (za_cons ze_str (za_cons ze_str (za_cons ze_str za_nil))))))) (ze_call G r rfl mG kG bG .nil pass0 (za_n (zv 1) (za_i za_nil))) pix_call)) (ze_slice sl_str (zv 0) (zo_some (zv 3)) zo_none)))) zss_nil)
    (zss_one (zs_ret (zv 0)))))))))))))))),fun q0 d0 ds C h=>?_⟩
  obtain ⟨n,z,e,hn,az,rfl⟩:=h
  cases e
  have zl:z.length<=sizeLine:=Nat.le_trans az.1 (Nat.le_trans hn (by decide))
  have z0:z.length<=1000000:=Nat.le_trans az.1 hn
  have sline':=sline
  refine S.letC (EI.draw (A1.cons (E1.varP rfl) (A1.cons E1.int A1.nil)) (by decide:(0:Int) < 11) (by decide)) (fun s ⟨_,e,_⟩=>by rw [e];rfl) fun s ⟨so,es,s0,s1⟩=>?_
  subst es
  refine S.letC (EI.draw (m:=(z.length:Int) + 1) (A1.cons (E1.varP rfl) (A1.cons (E1.add (E1.lenS (A1.cons (E1.var rfl) A1.nil) zl) E1.int) A1.nil)) (by omega) (by omega)) (fun s ⟨_,e,_⟩=>by rw [e];rfl) fun s ⟨at',es,a0,a1⟩=>?_
  subst es
  refine S.letC (E.ixSA (z := "0123456789-/ :;+.ax_") E1.str (EI.draw (A1.cons (E1.varP rfl) (A1.cons E1.int A1.nil)) (by decide:(0:Int) < 20) (by decide)) ⟨by decide +kernel,by decide +kernel⟩ (fun i h=>⟨h.1,by rw [show ((("0123456789-/ :;+.ax_" : Str).cps.toList.length:Nat):Int)=20 by decide +kernel];exact h.2⟩)) (fun s ⟨_,e,_⟩=>by rw [e];rfl) fun s ⟨c,es,hc⟩=>?_
  subst es
  refine S.ifs (T1.test (E1.eq (E1.var rfl) E1.int)) (fun _=>?_) (fun _=>?_)
  . exact S.ret1 (E1.addS (E1.addS (E1.slS (E1.var rfl) O1.none (O1.some (E1.var rfl)) zl) (E1.var rfl) (Nat.le_trans (Nat.add_le_add (az.slice _ _).1 (Asc.one hc).1) (by omega))) (E1.slS (E1.var rfl) (O1.some (E1.var rfl)) O1.none zl) (Nat.le_trans (Nat.add_le_add ((az.slice _ _).app (Asc.one hc)).1 (az.slice _ _).1) (by omega))) ⟨_,⟨_,rfl,((((az.slice _ _).app (Asc.one hc)).app (az.slice _ _))).mono (by omega)⟩,rfl,rfl⟩
  refine S.ifs (T1.test (E1.eq (E1.var rfl) E1.int)) (fun _=>?_) (fun _=>?_)
  . exact S.ret1 (E1.addS (E1.slS (E1.var rfl) O1.none (O1.some (E1.var rfl)) zl) (E1.slS (E1.var rfl) (O1.some (E1.add (E1.var rfl) E1.int)) O1.none zl) (Nat.le_trans (Nat.add_le_add (az.slice _ _).1 (az.slice _ _).1) (by omega))) ⟨_,⟨_,rfl,(((az.slice _ _).app (az.slice _ _))).mono (by omega)⟩,rfl,rfl⟩
  refine S.ifs (T1.test (E1.eq (E1.var rfl) E1.int)) (fun _=>?_) (fun _=>?_)
  . exact S.ret1 (E1.addS (E1.addS (E1.slS (E1.var rfl) O1.none (O1.some (E1.var rfl)) zl) (E1.var rfl) (Nat.le_trans (Nat.add_le_add (az.slice _ _).1 (Asc.one hc).1) (by omega))) (E1.slS (E1.var rfl) (O1.some (E1.add (E1.var rfl) E1.int)) O1.none zl) (Nat.le_trans (Nat.add_le_add ((az.slice _ _).app (Asc.one hc)).1 (az.slice _ _).1) (by omega))) ⟨_,⟨_,rfl,((((az.slice _ _).app (Asc.one hc)).app (az.slice _ _))).mono (by omega)⟩,rfl,rfl⟩
  refine S.ifs (T1.test (E1.eq (E1.var rfl) E1.int)) (fun _=>?_) (fun _=>?_)
  . refine S.let1 (E1.addS (E1.slS (E1.var rfl) (O1.some (E1.add (E1.var rfl) E1.int)) (O1.some (E1.add (E1.var rfl) E1.int)) zl) (E1.slS (E1.var rfl) (O1.some (E1.var rfl)) (O1.some (E1.add (E1.var rfl) E1.int)) zl) (Nat.le_trans (Nat.add_le_add (az.slice _ _).1 (az.slice _ _).1) (by omega))) ?_
    exact S.ret1 (E1.addS (E1.addS (E1.slS (E1.var rfl) O1.none (O1.some (E1.var rfl)) zl) (E1.var rfl) (Nat.le_trans (Nat.add_le_add (az.slice _ _).1 ((az.slice _ _).app (az.slice _ _)).1) (by omega))) (E1.slS (E1.var rfl) (O1.some (E1.add (E1.var rfl) E1.int)) O1.none zl) (Nat.le_trans (Nat.add_le_add ((az.slice _ _).app ((az.slice _ _).app (az.slice _ _))).1 (az.slice _ _).1) (by omega))) ⟨_,⟨_,rfl,((((az.slice _ _).app ((az.slice _ _).app (az.slice _ _))).app (az.slice _ _))).mono (by omega)⟩,rfl,rfl⟩
  refine S.ifs (T1.test (E1.eq (E1.var rfl) E1.int)) (fun _=>?_) (fun _=>?_)
  . refine S.ret (E.pick (E1.vwo (E1.li (A1.cons (E1.addS (E1.var rfl) (E1.str (x := " ")) (Nat.le_trans (Nat.add_le_add az.1 (show Asc 1 (" " : Str) from ⟨by decide +kernel,by decide +kernel⟩).1) (by omega))) (A1.cons (E1.addS (E1.str (x := " ")) (E1.var rfl) (Nat.le_trans (Nat.add_le_add (show Asc 1 (" " : Str) from ⟨by decide +kernel,by decide +kernel⟩).1 az.1) (by omega))) (A1.cons (E1.addS (E1.var rfl) (E1.str (x := ";")) (Nat.le_trans (Nat.add_le_add az.1 (show Asc 1 (";" : Str) from ⟨by decide +kernel,by decide +kernel⟩).1) (by omega))) (A1.cons (E1.addS (E1.var rfl) (E1.str (x := "/1")) (Nat.le_trans (Nat.add_le_add az.1 (show Asc 2 ("/1" : Str) from ⟨by decide +kernel,by decide +kernel⟩).1) (by omega))) A1.nil)))) rfl (show 4<=sizeLine by decide))) (EI.draw (A1.cons (E1.varP rfl) (A1.cons E1.int A1.nil)) (by decide:(0:Int) < 4) (by decide)) (fun d h=>h)) fun s ⟨d,es,hd⟩=>?_
    subst es
    simp only [List.mem_cons,List.mem_nil_iff,or_false] at hd
    rcases hd with rfl | rfl | rfl | rfl
    . exact ⟨_,⟨_,rfl,((az.app (show Asc 1 (" " : Str) from ⟨by decide +kernel,by decide +kernel⟩))).mono (by omega)⟩,rfl,rfl⟩
    . exact ⟨_,⟨_,rfl,(((show Asc 1 (" " : Str) from ⟨by decide +kernel,by decide +kernel⟩).app az)).mono (by omega)⟩,rfl,rfl⟩
    . exact ⟨_,⟨_,rfl,((az.app (show Asc 1 (";" : Str) from ⟨by decide +kernel,by decide +kernel⟩))).mono (by omega)⟩,rfl,rfl⟩
    . exact ⟨_,⟨_,rfl,((az.app (show Asc 2 ("/1" : Str) from ⟨by decide +kernel,by decide +kernel⟩))).mono (by omega)⟩,rfl,rfl⟩
  refine S.ifs (T1.test (E1.eq (E1.var rfl) E1.int)) (fun _=>?_) (fun _=>?_)
  . exact S.ret1 (E1.slS (E1.var rfl) O1.none (O1.some (E1.var rfl)) zl) ⟨_,⟨_,rfl,((az.slice _ _)).mono (by omega)⟩,rfl,rfl⟩
  refine S.ifs (T1.and1 (T1.test (E1.eq (E1.var rfl) E1.int)) (T1.test (E1.lt (E1.lenS (A1.cons (E1.var rfl) A1.nil) zl) E1.int))) (fun _=>?_) (fun _=>?_)
  . refine S.ret (E.pick (E1.vwo (E1.li (A1.cons (E1.addS (E1.addS (E1.var rfl) (E1.str (x := " ")) (Nat.le_trans (Nat.add_le_add az.1 (show Asc 1 (" " : Str) from ⟨by decide +kernel,by decide +kernel⟩).1) (by omega))) (E1.var rfl) (Nat.le_trans (Nat.add_le_add (az.app (show Asc 1 (" " : Str) from ⟨by decide +kernel,by decide +kernel⟩)).1 az.1) (by omega))) (A1.cons (E1.addS (E1.addS (E1.var rfl) (E1.str (x := "; ")) (Nat.le_trans (Nat.add_le_add az.1 (show Asc 2 ("; " : Str) from ⟨by decide +kernel,by decide +kernel⟩).1) (by omega))) (E1.var rfl) (Nat.le_trans (Nat.add_le_add (az.app (show Asc 2 ("; " : Str) from ⟨by decide +kernel,by decide +kernel⟩)).1 az.1) (by omega))) (A1.cons (E1.addS (E1.addS (E1.var rfl) (E1.str (x := ":")) (Nat.le_trans (Nat.add_le_add az.1 (show Asc 1 (":" : Str) from ⟨by decide +kernel,by decide +kernel⟩).1) (by omega))) (E1.var rfl) (Nat.le_trans (Nat.add_le_add (az.app (show Asc 1 (":" : Str) from ⟨by decide +kernel,by decide +kernel⟩)).1 az.1) (by omega))) A1.nil))) rfl (show 3<=sizeLine by decide))) (EI.draw (A1.cons (E1.varP rfl) (A1.cons E1.int A1.nil)) (by decide:(0:Int) < 3) (by decide)) (fun d h=>h)) fun s ⟨d,es,hd⟩=>?_
    subst es
    simp only [List.mem_cons,List.mem_nil_iff,or_false] at hd
    rcases hd with rfl | rfl | rfl
    . exact ⟨_,⟨_,rfl,(((az.app (show Asc 1 (" " : Str) from ⟨by decide +kernel,by decide +kernel⟩)).app az)).mono (by omega)⟩,rfl,rfl⟩
    . exact ⟨_,⟨_,rfl,(((az.app (show Asc 2 ("; " : Str) from ⟨by decide +kernel,by decide +kernel⟩)).app az)).mono (by omega)⟩,rfl,rfl⟩
    . exact ⟨_,⟨_,rfl,(((az.app (show Asc 1 (":" : Str) from ⟨by decide +kernel,by decide +kernel⟩)).app az)).mono (by omega)⟩,rfl,rfl⟩
  refine S.seq (M:=fun τ'=>τ'=[.dat (.str z),.pu,.dat (.int so),.dat (.int at'),.dat (.str ⟨#[c]⟩),.un]) (S.ifRepl (zs:=["  ","",":","; "]) (E1.var rfl) rfl az hn (EI.draw (A1.cons (E1.varP rfl) (A1.cons E1.int A1.nil)) (by decide:(0:Int) < 4) (by decide)) (by decide +kernel) (fun x ax=>⟨_,⟨_,rfl,ax⟩,rfl,rfl⟩) fun _=>rfl) fun τ' e=>?_
  subst e
  refine S.seq (M:=fun τ'=>τ'=[.dat (.str z),.pu,.dat (.int so),.dat (.int at'),.dat (.str ⟨#[c]⟩),.un]) (S.ifRepl (zs:=[";"," ; ",";  "," "]) (E1.var rfl) rfl az hn (EI.draw (A1.cons (E1.varP rfl) (A1.cons E1.int A1.nil)) (by decide:(0:Int) < 4) (by decide)) (by decide +kernel) (fun x ax=>⟨_,⟨_,rfl,ax⟩,rfl,rfl⟩) fun _=>rfl) fun τ' e=>?_
  subst e
  refine S.ifs (T1.test (E1.eq (E1.var rfl) E1.int)) (fun _=>?_) (fun _=>?_)
  . have lz:∀ d ∈ [Dat.str "0",.str "-",.str "00",.str "-0",.str "/1",.str "/0"],∃ y,d = .str y/\Asc 2 y:=fun d hd=>by
      simp only [List.mem_cons,List.mem_nil_iff,or_false] at hd
      rcases hd with rfl | rfl | rfl | rfl | rfl | rfl
      all_goals exact ⟨_,rfl,by decide +kernel,by decide +kernel⟩
    refine S.ret (E.addSA (E.addSA (E.mono (E1.slS (E1.var rfl) O1.none (O1.some (E1.var rfl)) zl) fun s e=>⟨_,e.symm,az.slice _ _⟩) (E.mono (E.pick (ms:=[.str "0",.str "-",.str "00",.str "-0",.str "/1",.str "/0"]) (E1.vwo (E1.li (A1.cons (E1.str (x := "0")) (A1.cons (E1.str (x := "-")) (A1.cons (E1.str (x := "00")) (A1.cons (E1.str (x := "-0")) (A1.cons (E1.str (x := "/1")) (A1.cons (E1.str (x := "/0")) A1.nil)))))) rfl (show 6<=sizeLine by decide))) (EI.draw (A1.cons (E1.varP rfl) (A1.cons E1.int A1.nil)) (by decide:(0:Int) < 6) (by decide)) (fun d h=>h)) fun s ⟨d,es,hd⟩=>let ⟨y,ey,ay⟩:=lz d hd;⟨y,by rw [es,ey],ay⟩) (by omega)) (E.mono (E1.slS (E1.var rfl) (O1.some (E1.var rfl)) O1.none zl) fun s e=>⟨_,e.symm,az.slice _ _⟩) (by omega)) fun s ⟨y,es,ay⟩=>es ▸ ⟨_,⟨_,rfl,ay.mono (by omega)⟩,rfl,rfl⟩
  exact S.ret1 (E1.var rfl) ⟨_,⟨_,rfl,az.mono (by omega)⟩,rfl,rfl⟩
theorem scLAny48:FnScope ["_law_purse_here","_law_found","_law_k"] ["_law_purse_here"] (defScope sLAny48):=⟨rfl,rfl,rfl,by decide +kernel,rfl,by decide +kernel,by decide +kernel⟩
theorem ok_lany48 (F:Fun K "_law_any_text" "_law_any_text" sLAny48 f fd)
    (G:FnOk P w K mg base CX0 1 g gd ["_law_purse_here","_law_many"] spDraw) (bG:Binds K gd ["_law_purse_here","_law_many"] []) (kG:PySem.W.keepIn K (.ref g)=true) (mG:mg "_law_take" = some (.ref g)) (m_range:mg "range" = none) :
    FnOk P w K mg base CX0 2 f fd ["_law_purse_here"] (spU K RAny48):=by
  refine okU F scLAny48 (fun ds d h=>?_) (fun cdv A0 outer s0 H0 E0 hr=>?_)
  . obtain ⟨rfl,_⟩:=h;rfl
  have r:=hr.mono (show 1<=1 by decide)
  refine ⟨_,(zss_cons (zs_set (i:=1) scLAny48.nd rfl (Or.inl rfl) ze_str)
    (zss_cons (zs_for PassesOwn.never rfl (zi_range1 rfl m_range (za_c (ze_call G r rfl mG kG bG .nil pass0 (za_n (zv 0) (za_i za_nil))) za_nil)) (zg_name (i:=2) scLAny48.nd rfl (Or.inl rfl)) (zss_one (zs_set (i:=1) scLAny48.nd rfl (Or.inl rfl) (ze_op op_add_str (zv 1) (ze_ix ix_str ze_str (ze_call G r rfl mG kG bG .nil pass0 (za_n (zv 0) (za_i za_nil))) pix_call)))))
    (zss_one (zs_ret (zv 1))))),fun q0 ds C h=>?_⟩
  obtain ⟨rfl,rfl⟩:=h
  refine S.let1 (s:=.dat (.str "")) E1.str ?_
  refine S.seq (M:=fun τ'=>∃ (z:Str) (o:Sl),τ'=[.pu,.dat (.str z),o]/\Asc 25 z) ?_ fun τ' ⟨z,o,eτ,az⟩=>?_
  . refine S.forC (WkC.rng (P:=fun j=>0<=j/\j < 25) (EI.draw (A1.cons (E1.varP rfl) (A1.cons E1.int A1.nil)) (by decide:(0:Int) < 25) (by decide)) (fun j hj=>by omega)) fun ds ⟨j,hj,eds⟩=>?_
    subst eds
    have j25:j.toNat<=25:=by omega
    refine ⟨fun k τ'=>∃ (z:Str) (o:Sl),τ'=[.pu,.dat (.str z),o]/\Asc k z,⟨_,_,rfl,⟨by decide +kernel,by decide +kernel⟩⟩,fun k d τ1 hd ⟨z,o,e1,az⟩=>?_,fun τ1 ⟨z,o,e1,az⟩=>⟨z,o,e1,az.mono (by rw [rangeD_len];exact j25)⟩⟩
    subst e1
    have hk:=(rangeD_get hd).1
    refine ⟨_,Gd.name,?_⟩
    refine S.asg (E.addSA (n:=k) (m:=1) (E.mono (E1.var rfl) fun s e=>⟨_,e.symm,az⟩) (E.mono (E.ixSA (z := "0123456789-/ :;") E1.str (EI.draw (A1.cons (E1.varP rfl) (A1.cons E1.int A1.nil)) (by decide:(0:Int) < 15) (by decide)) ⟨by decide +kernel,by decide +kernel⟩ (fun i h=>⟨h.1,by rw [show ((("0123456789-/ :;" : Str).cps.toList.length:Nat):Int)=15 by decide +kernel];exact h.2⟩)) fun s ⟨c,es,hc⟩=>⟨_,es,Asc.one hc⟩) (Nat.le_trans (show k + 1<=26 by omega) (by decide))) (fun s ⟨_,e,_⟩=>by rw [e];rfl) fun s ⟨y,es,ay⟩=>⟨y,_,by subst es;rfl,ay⟩
  subst eτ
  exact S.ret1 (s:=.dat (.str z)) (E1.var rfl) ⟨_,⟨z,rfl,az⟩,rfl,rfl⟩
theorem scLHold48:FnScope ["_law_text","_law_kind","_law_found"] ["_law_text"] (defScope sLHold48):=⟨rfl,rfl,rfl,by decide +kernel,rfl,by decide +kernel,by decide +kernel⟩
theorem ok_lhold48 (F:Fun K "_law_holds" "_law_holds" sLHold48 f fd)
    (G:FnOk P w K mg base CX0 8 g gd ["_law_kind","_law_text"] (spP K RGood47)) (bG:Binds K gd ["_law_kind","_law_text"] []) (kG:PySem.W.keepIn K (.ref g)=true) (mG:mg "_law_good" = some (.ref g))
    (G2:FnOk P w K mg base CX0 7 g2 gd2 ["_law_kind","_law_text"] (spX K RTold47)) (bG2:Binds K gd2 ["_law_kind","_law_text"] []) (kG2:PySem.W.keepIn K (.ref g2)=true) (mG2:mg "_law_told" = some (.ref g2))
    (G3:FnOk P w K mg base CX0 4 g3 gd3 ["_law_kind","_law_thing_here"] (spP K RShownB)) (bG3:Binds K gd3 ["_law_kind","_law_thing_here"] []) (kG3:PySem.W.keepIn K (.ref g3)=true) (mG3:mg "_law_shown" = some (.ref g3)) (m_range:mg "range" = none) :
    FnOk P w K mg base CX0 9 f fd ["_law_text"] (spP K RHold48):=by
  refine okP F scLHold48 (fun ds d h=>?_) (fun cdv A0 outer s0 H0 E0 hr=>?_)
  . obtain ⟨z,rfl,_⟩:=h;rfl
  have r:=hr.mono (show 8<=8 by decide)
  have r2:=hr.mono (show 7<=8 by decide)
  have r3:=hr.mono (show 4<=8 by decide)
  refine ⟨_,(zss_cons (zs_for PassesOwn.never rfl (zi_range1 rfl m_range (za_i za_nil)) (zg_name (i:=1) scLHold48.nd rfl (Or.inl rfl)) (zss_cons (zs_if (zt_not (zt_val (ze_call G r rfl mG kG bG .nil pass0 (za_n (zv 1) (za_n (zv 0) za_nil))))) (zss_one (zs_ret ze_bl)) zss_nil)
    (zss_cons (zs_set (i:=2) scLHold48.nd rfl (Or.inl rfl) (ze_ix ix_list (ze_call G2 r2 rfl mG2 kG2 bG2 .nil pass0 (za_n (zv 1) (za_n (zv 0) za_nil))) ze_int (fun _ _=>rfl)) sw_sub)
    (zss_one (zs_if (ZW.pt (zw_and (zt_cmpR op_notN (zv 2) ze_non (nomark _)) (zw_and1 (zt_cmpR op_ne (ze_call G3 r3 rfl mG3 kG3 bG3 .nil pass0 (za_n (zv 1) (za_n (zv 2) za_nil))) (zv 0) (nomark _))))) (zss_one (zs_ret ze_bl)) zss_nil)))))
    (zss_one (zs_ret ze_bl))),fun ds d h=>?_⟩
  obtain ⟨z,rfl,az,rfl⟩:=h
  refine S.seq (M:=fun τ'=>∃ o1 o2:Sl,τ'=[.dat (.str z),o1,o2]) ?_ fun τ' ⟨o1,o2,eτ⟩=>?_
  . refine S.for (Wk.rng (n:=6) (A1.cons E1.int A1.nil) rfl) (fun _ τ'=>∃ o1 o2:Sl,τ'=[.dat (.str z),o1,o2]) ⟨_,_,rfl⟩ (fun i d τ1 hd ⟨o1,o2,e1⟩=>?_) (fun τ1 h=>h)
    subst e1
    obtain ⟨hi,rfl⟩:=rangeD_get hd
    rw [Int.zero_add]
    refine ⟨_,Gd.name,?_⟩
    have k0:(0:Int)<=(i:Int):=by omega
    have k5:(i:Int)<=5:=by omega
    refine S.ifsF (T1.notT (T1.val (E1.call (R:=RGood47) (A1.cons (E1.var rfl) (A1.cons (E1.var rfl) A1.nil)) ⟨(i:Int),z,rfl,k0,k5,az,rfl⟩))) ?_
    refine S.letC (E1.callXL (R:=RTold47) (C':=fun d=>d=optD (rdK (i:Int) z)) (A1.cons (E1.var rfl) (A1.cons (E1.var rfl) A1.nil)) ⟨(i:Int),z,rfl,k0,k5,az,rfl⟩ (fun g hg=>?_)) (fun s ⟨_,e,_⟩=>by rw [e];rfl) fun s ⟨d,es,ed⟩=>?_
    . rcases hg with ⟨d,hn,rfl⟩ | ⟨hn,rfl⟩
      . exact ⟨_,d,rfl,rfl,(rdK_tx k0 k5 hn).nl,by rw [hn];rfl⟩
      . exact ⟨_,.none,rfl,rfl,rfl,by rw [hn];rfl⟩
    subst es ed
    cases hn:rdK (i:Int) z with
    | none=>exact S.ifF (T1.andF (T1.test (E1.notN (d:=.none) (E1.var rfl) E1.non))) (S.next ⟨_,_,rfl⟩)
    | some d =>
      have tb:=rdK_tx k0 k5 hn
      exact S.ifF (T1.andT ((T1.test (E1.notN (d:=d) (E1.var rfl) E1.non)).eqn (by cases tb <;> rfl)) ((T1.test (E1.neS (E1.call (R:=RShownB) (A1.cons (E1.var rfl) (A1.cons (E1.var rfl) A1.nil)) ⟨(i:Int),d,z,rfl,tb,rfl⟩) (E1.var rfl))).eqn (by simp))) (S.next ⟨_,_,rfl⟩)
  subst eτ
  exact S.ret1 (s:=.dat (.bool true)) E1.bl ⟨rfl,rfl⟩
theorem scLaw:FnScope ["_law_script","_law_cell","_law_purse_here","_law_text","_law_kind","_law_thing_here"] ["_law_script"] (defScope sLaw):=⟨rfl,rfl,rfl,by decide +kernel,rfl,by decide +kernel,by decide +kernel⟩
theorem ok_law (F:Fun K "law" "law" sLaw f fd)
    (G:FnOk P w K mg base CX0 1 g gd ["_law_cell"] spPurse2) (bG:Binds K gd ["_law_cell"] []) (kG:PySem.W.keepIn K (.ref g)=true) (mG:mg "_law_purse" = some (.ref g))
    (G2:FnOk P w K mg base CX0 2 g2 gd2 ["_law_purse_here"] (spU K RAny48)) (bG2:Binds K gd2 ["_law_purse_here"] []) (kG2:PySem.W.keepIn K (.ref g2)=true) (mG2:mg "_law_any_text" = some (.ref g2))
    (G3:FnOk P w K mg base CX0 1 g3 gd3 ["_law_purse_here","_law_many"] spDraw) (bG3:Binds K gd3 ["_law_purse_here","_law_many"] []) (kG3:PySem.W.keepIn K (.ref g3)=true) (mG3:mg "_law_take" = some (.ref g3))
    (G4:FnOk P w K mg base CX0 5 g4 gd4 ["_law_kind","_law_purse_here","_law_most"] (spV K (RThB 3))) (bG4:Binds K gd4 ["_law_kind","_law_purse_here","_law_most"] []) (kG4:PySem.W.keepIn K (.ref g4)=true) (mG4:mg "_law_thing" = some (.ref g4))
    (G5:FnOk P w K mg base CX0 9 g5 gd5 ["_law_text"] (spP K RHold48)) (bG5:Binds K gd5 ["_law_text"] []) (kG5:PySem.W.keepIn K (.ref g5)=true) (mG5:mg "_law_holds" = some (.ref g5))
    (G6:FnOk P w K mg base CX0 2 g6 gd6 ["_law_text","_law_purse_here"] (spV K RBent46)) (bG6:Binds K gd6 ["_law_text","_law_purse_here"] []) (kG6:PySem.W.keepIn K (.ref g6)=true) (mG6:mg "_law_bent_text" = some (.ref g6))
    (G7:FnOk P w K mg base CX0 4 g7 gd7 ["_law_kind","_law_thing_here"] (spP K (RTxB 3))) (bG7:Binds K gd7 ["_law_kind","_law_thing_here"] []) (kG7:PySem.W.keepIn K (.ref g7)=true) (mG7:mg "_law_written" = some (.ref g7))
    (G8:FnOk P w K mg base CX0 5 g8 gd8 ["_law_found","_law_due_here"] (spP K (RSm 4))) (bG8:Binds K gd8 ["_law_found","_law_due_here"] []) (kG8:PySem.W.keepIn K (.ref g8)=true) (mG8:mg "_law_same" = some (.ref g8))
    (G9:FnOk P w K mg base CX0 6 g9 gd9 ["_law_kind","_law_text"] (spP K RRead)) (bG9:Binds K gd9 ["_law_kind","_law_text"] []) (kG9:PySem.W.keepIn K (.ref g9)=true) (mG9:mg "_law_read" = some (.ref g9))
    (G10:FnOk P w K mg base CX0 4 g10 gd10 ["_law_kind","_law_thing_here"] (spP K RShownB)) (bG10:Binds K gd10 ["_law_kind","_law_thing_here"] []) (kG10:PySem.W.keepIn K (.ref g10)=true) (mG10:mg "_law_shown" = some (.ref g10)) :
    FnOk P w K mg base CX0 10 f fd ["_law_script"] (spLaw K):=by
  refine okL F scLaw rfl (fun cdv A0 outer s0 H0 E0 hr=>?_)
  have r:=hr.mono (show 1<=9 by decide)
  have r2:=hr.mono (show 2<=9 by decide)
  have r3:=hr.mono (show 1<=9 by decide)
  have r4:=hr.mono (show 5<=9 by decide)
  have r5:=hr.mono (show 9<=9 by decide)
  have r6:=hr.mono (show 2<=9 by decide)
  have r7:=hr.mono (show 4<=9 by decide)
  have r8:=hr.mono (show 5<=9 by decide)
  have r9:=hr.mono (show 6<=9 by decide)
  have r10:=hr.mono (show 4<=9 by decide)
  refine ⟨_,(zss_cons (zs_for PassesOwn.never rfl (zi_list (ze_op op_catS (ze_lst (za_i za_nil)) (ze_slice sl_list (zv 0) zo_none (zo_some ze_int)))) (zg_name (i:=1) scLaw.nd rfl (Or.inl rfl)) (zss_cons (zs_set (i:=2) scLaw.nd rfl (Or.inl rfl) (ze_call G r rfl mG kG bG .nil pass0 (za_n (zv 1) za_nil)))
    (zss_cons (zs_set (i:=3) scLaw.nd rfl (Or.inl rfl) (ze_call G2 r2 rfl mG2 kG2 bG2 .nil pass0 (za_n (zv 2) za_nil)))
    (zss_cons (zs_set (i:=4) scLaw.nd rfl (Or.inl rfl) (ze_call G3 r3 rfl mG3 kG3 bG3 .nil pass0 (za_n (zv 2) (za_i za_nil))))
    (zss_cons (zs_set (i:=5) scLaw.nd rfl (Or.inl rfl) (ze_call G4 r4 rfl mG4 kG4 bG4 .nil pass0 (za_n (zv 4) (za_n (zv 2) (za_i za_nil)))))
    (zss_cons (zs_if (ZW.pt (zw_or (zt_not (zt_val (ze_call G5 r5 rfl mG5 kG5 bG5 .nil pass0 (za_n (zv 3) za_nil)))) (zw_or1 (zt_not (zt_val (ze_call G5 r5 rfl mG5 kG5 bG5 .nil pass0 (za_c (ze_call G6 r6 rfl mG6 kG6 bG6 .nil pass0 (za_c (ze_call G7 r7 rfl mG7 kG7 bG7 .nil pass0 (za_n (zv 4) (za_n (zv 5) za_nil))) (za_n (zv 2) za_nil))) za_nil))))))) (zss_one (zs_ret ze_bl)) zss_nil)
    (zss_one (zs_if (zt_not (zt_val (ze_call G8 r8 rfl mG8 kG8 bG8 .nil pass0 (za_c (ze_call G9 r9 rfl mG9 kG9 bG9 .nil pass0 (za_n (zv 4) (za_c (ze_call G10 r10 rfl mG10 kG10 bG10 .nil pass0 (za_n (zv 4) (za_n (zv 5) za_nil))) za_nil))) (za_n (zv 5) za_nil))))) (zss_one (zs_ret ze_bl)) zss_nil))))))))
    (zss_one (zs_ret ze_bl))),fun sc hl hb=>?_⟩
  refine S.seq (M:=fun τ'=>∃ o1 o2 o3 o4 o5:Sl,τ'=[.dat (.list (sc.map .int)),o1,o2,o3,o4,o5]) ?_ fun τ' ⟨o1,o2,o3,o4,o5,eτ⟩=>?_
  . refine S.for (Wk.lst (E1.frz (E1.catVV (xs:=[.int 0]) (ys:=cutA (sc.map .int) none (some ((20:Nat):Int))) (E1.vwo (E1.li (A1.cons E1.int A1.nil) rfl (lsz (n:=1) rfl z1))) (E1.vwo (E1.slL (E1.varL rfl) O1.none (O1.some E1.int))) (Nat.le_trans (show 1 + _<=21 from by rw [cutA_to,List.length_take];omega) (by decide))))) (fun _ τ'=>∃ o1 o2 o3 o4 o5:Sl,τ'=[.dat (.list (sc.map .int)),o1,o2,o3,o4,o5]) ⟨_,_,_,_,_,rfl⟩ (fun i dd τ1 hd ⟨o1,o2,o3,o4,o5,e1⟩=>?_) (fun τ1 h=>h)
    subst e1
    obtain ⟨c,rfl⟩:=mem_cells (ms:=[0]) (List.mem_of_getElem? hd)
    clear hd
    refine ⟨_,Gd.name,?_⟩
    refine S.purse2 (c:=c) (A1.cons (E1.var rfl) A1.nil) (fun q=>?_) (fun s h=>⟨_,h⟩)
    refine S.letC (E.callU (R:=RAny48) (ds:=[]) (A1.cons (E1.varP rfl) A1.nil) ⟨rfl,rfl⟩) (fun s ⟨_,e,_⟩=>by rw [e];rfl) fun s ⟨d',es,z,ez,az⟩=>?_
    subst es ez
    refine S.letC (EI.draw (A1.cons (E1.varP rfl) (A1.cons E1.int A1.nil)) (by decide:(0:Int) < 6) (by decide)) (fun s ⟨_,e,_⟩=>by rw [e];rfl) fun s ⟨kd,es,k0,k1⟩=>?_
    subst es
    refine S.letC (E.callV (R:=RThB 3) (d0:=.int kd) (ds:=[.int 12]) (A1.cons (E1.var rfl) (A1.cons (E1.varP rfl) (A1.cons E1.int A1.nil))) ⟨kd,12,rfl,k0,by omega,nd_le _,rfl⟩) (fun s ⟨_,e,_⟩=>by rw [e];rfl) fun s ⟨d,es,t,ht⟩=>?_
    subst es
    refine S.ifsF (T1.orF (T1.notT (T1.val (E1.call (R:=RHold48) (A1.cons (E1.var rfl) A1.nil) ⟨z,rfl,az.mono (by decide),rfl⟩))) (T1.notT (T1.val (E.callC (R:=RHold48) (d:=.bool true) (A.lastE (E.callV (R:=RBent46) (d0:=.str t) (ds:=[]) (A1.cons (E1.call (R:=RTxB 3) (ds:=[.int kd,d]) (A1.cons (E1.var rfl) (A1.cons (E1.var rfl) A1.nil)) ⟨kd,d,t,rfl,nd_le _,ht,rfl⟩) (A1.cons (E1.varP rfl) A1.nil)) ⟨30000,t,rfl,by decide,ht.asc,rfl⟩)) (fun ss ⟨s,es,d,ed,y,ey,ay⟩=>⟨[.str y],by rw [es,ed,ey];rfl,y,rfl,ay.mono (by decide),rfl⟩))))) ?_
    exact S.ifF (T1.notT (T1.val (E1.call (R:=RSm 4) (A1.cons (E1.call (R:=RRead) (ds:=[.int kd,.str t]) (A1.cons (E1.var rfl) (A1.cons (E1.call (R:=RShownB) (ds:=[.int kd,d]) (A1.cons (E1.var rfl) (A1.cons (E1.var rfl) A1.nil)) ⟨kd,d,t,rfl,ht,rfl⟩) A1.nil)) ⟨kd,t,rfl,k0,by omega,ht.asc.mono (by decide),ht.rd⟩) (A1.cons (E1.var rfl) A1.nil)) ⟨d,rfl,ht.sm,rfl⟩))) (S.next ⟨_,_,_,_,_,rfl⟩)
  subst eτ
  exact S.ret1 (s:=.dat (.bool true)) E1.bl rfl
theorem scRdW:FnScope ["text"] ["text"] (defScope sRdW):=⟨rfl,rfl,rfl,by decide +kernel,rfl,by decide +kernel,by decide +kernel⟩
theorem ok_rdw (F:Fun K "read_whole" "read_whole" sRdW f fd)  (dig:L2.DigN K)
    (G:FnOk P w K mg base CX0 1 g gd ["text"] (spP K RIsWT)) (bG:Binds K gd ["text"] []) (kG:PySem.W.keepIn K (.ref g)=true) (mG:mg "is_whole_text" = some (.ref g)) (m_int:mg "int" = none) :
    FnOk P w K mg base CX0 2 f fd ["text"] (spP K RRdW):=by
  refine okP F scRdW (fun ds d h=>?_) (fun cdv A0 outer s0 H0 E0 hr=>?_)
  . obtain ⟨z,i,rfl,_⟩:=h;rfl
  have r:=hr.mono (show 1<=1 by decide)
  refine ⟨_,(zss_cons (zs_if (zt_not (zt_val (ze_call G r rfl mG kG bG .nil pass0 (za_n (zv 0) za_nil)))) (zss_one zs_never) zss_nil)
    (zss_one (zs_ret (ze_callTy (call_intS dig) rfl m_int (by rfl) (za_n (zv 0) za_nil))))),fun ds d h=>?_⟩
  obtain ⟨z,i,rfl,az,hw,rfl⟩:=h
  obtain ⟨hb,ez,hi⟩:=whI_b hw
  have hc:∀ c ∈ z.cps.toList,c=45\/(48<=c/\c<=57):=fun c hc=>itx_signs i c (by rw [<- itx_eq, <- ez];exact hc)
  have hn:PySem.intText? z=some i:=by rw [<- hw];unfold whI;rw [if_pos hb]
  refine S.ifsF (T1.notT ((T1.val (E1.call (R:=RIsWT) (A1.cons (E1.var rfl) A1.nil) ⟨z,rfl,az,rfl⟩)).eqn hb)) ?_
  exact S.ret1 (s:=.dat (.int i)) (E1.intS (A1.cons (E1.var rfl) A1.nil) hn (az.sz mx_le) hc) ⟨rfl,rfl⟩
theorem scParts:FnScope ["text","between","many","parts"] ["text","between","many"] (defScope sParts):=⟨rfl,rfl,rfl,by decide +kernel,rfl,by decide +kernel,by decide +kernel⟩
theorem ok_parts (F:Fun K "parts_of" "parts_of" sParts f fd) (m_len:mg "len" = none) :
    FnOk P w K mg base CX0 1 f fd ["text","between","many"] (spP K RParts):=by
  refine okP F scParts (fun ds d h=>?_) (fun cdv A0 outer s0 H0 E0 hr=>?_)
  . obtain ⟨z,y,m,rfl,_⟩:=h;rfl
  refine ⟨_,(zss_cons (zs_set (i:=3) scParts.nd rfl (Or.inl rfl) (ze_split (zv 0) (zv 1)))
    (zss_cons (zs_if (zt_cmpR op_ne (ze_callB call_len_seq rfl m_len PySem.boot_len (za_n (zv 3) za_nil)) (zv 2) (nomark _)) (zss_one zs_never) zss_nil)
    (zss_one (zs_ret (zv 3))))),fun ds d h=>?_⟩
  obtain ⟨z,y,m,rfl,az,hy,hm,rfl⟩:=h
  refine S.letO (ds:=(Txt.split z y).map .str) (E1.split (E1.var rfl) (E1.var rfl) hy (Nat.le_trans (Nat.add_le_add_right az.1 2) mx_2)) noLs_strs ?_
  refine S.ifsF ((T1.test (E1.ne (E1.lenL (A1.cons (E1.varO rfl) A1.nil)) (E1.var rfl))).eqn (by rw [List.length_map,decide_eq_true hm];rfl)) ?_
  exact S.retO rfl ⟨rfl,noLs_strs⟩
theorem scRdN:FnScope ["text","parts","top","bottom"] ["text"] (defScope sRdN):=⟨rfl,rfl,rfl,by decide +kernel,rfl,by decide +kernel,by decide +kernel⟩
theorem ok_rdn (F:Fun K "read_number" "read_number" sRdN f fd)
    (G:FnOk P w K mg base CX0 2 g gd ["text"] (spP K RRdW)) (bG:Binds K gd ["text"] []) (kG:PySem.W.keepIn K (.ref g)=true) (mG:mg "read_whole" = some (.ref g))
    (G2:FnOk P w K mg base CX0 1 g2 gd2 ["text","between","many"] (spP K RParts)) (bG2:Binds K gd2 ["text","between","many"] []) (kG2:PySem.W.keepIn K (.ref g2)=true) (mG2:mg "parts_of" = some (.ref g2))
    (G3:FnOk P w K mg base CX0 1 g3 gd3 ["numbers"] (spCD K)) (bG3:Binds K gd3 ["numbers"] []) (kG3:PySem.W.keepIn K (.ref g3)=true) (mG3:mg "common_divisor" = some (.ref g3)) :
    FnOk P w K mg base CX0 3 f fd ["text"] (spP K RRdN):=by
  refine okP F scRdN (fun ds d h=>?_) (fun cdv A0 outer s0 H0 E0 hr=>?_)
  . obtain ⟨z,i,j,rfl,_⟩:=h;rfl
  have r:=hr.mono (show 2<=2 by decide)
  have r2:=hr.mono (show 1<=2 by decide)
  have r3:=hr.mono (show 1<=2 by decide)
  refine ⟨_,(zss_cons (zs_if (zt_cmpR op_notin_str ze_str (zv 0) (by with_unfolding_all rfl)) (zss_one (zs_ret (ze_tup (za_c (ze_call G r rfl mG kG bG .nil pass0 (za_n (zv 0) za_nil)) (za_i za_nil))))) zss_nil)
    (zss_cons (zs_set (i:=1) scRdN.nd rfl (Or.inl rfl) (ze_call G2 r2 rfl mG2 kG2 bG2 .nil pass0 (za_n (zv 0) (za_cons ze_str (za_i za_nil)))))
    (zss_cons (zs_set (i:=2) scRdN.nd rfl (Or.inl rfl) (ze_call G r rfl mG kG bG .nil pass0 (za_s (ze_ix ix_list (zv 1) ze_int (fun _ _=>rfl)) za_nil)))
    (zss_cons (zs_set (i:=3) scRdN.nd rfl (Or.inl rfl) (ze_call G r rfl mG kG bG .nil pass0 (za_s (ze_ix ix_list (zv 1) ze_int (fun _ _=>rfl)) za_nil)))
    (zss_cons (zs_if (ZW.pt (zw_or (zt_cmpR op_lt (zv 3) ze_int (nomark _)) (zw_or1 (zt_cmpR op_ne (ze_call G3 r3 rfl mG3 kG3 bG3 .nil pass0 (za_t (ze_tup (za_n (zv 2) (za_n (zv 3) za_nil))) za_nil)) ze_int (nomark _))))) (zss_one zs_never) zss_nil)
    (zss_one (zs_ret (ze_tup (za_n (zv 2) (za_n (zv 3) za_nil)))))))))),fun ds d h=>?_⟩
  obtain ⟨z,i,j,rfl,az,hr0,rfl⟩:=h
  by_cases hin:47 ∈ z.cps.toList
  . refine S.ifsF ((T1.test (E1.notInS (x:=sla) E1.str (E1.var rfl))).eqn (by rw [sla_in,decide_eq_true hin];rfl)) ?_
    obtain ⟨a,b,hs,wa,wb,j2,hg⟩:=rdN_two az hin hr0
    have sa:=split_asc az a (by rw [hs];simp)
    have sb:=split_asc az b (by rw [hs];simp)
    refine S.let1 (s:=.dat (.list [.str a,.str b])) (E1.call (R:=RParts) (A1.cons (E1.var rfl) (A1.cons E1.str (A1.cons E1.int A1.nil))) ⟨z,sla,2,rfl,az,rfl,(by first | (rw [hs];done) | (rw [hs];rfl)),(by first | (rw [hs];done) | (rw [hs];rfl))⟩) ?_
    refine S.let1 (s:=.dat (.int i)) (E1.call (R:=RRdW) (A1.cons (E1.ixL (ds:=[.str a,.str b]) (E1.varL rfl) E1.int rfl) A1.nil) ⟨a,i,rfl,sa,wa,rfl⟩) ?_
    refine S.let1 (s:=.dat (.int j)) (E1.call (R:=RRdW) (A1.cons (E1.ixL (ds:=[.str a,.str b]) (E1.varL rfl) E1.int rfl) A1.nil) ⟨b,j,rfl,sb,wb,rfl⟩) ?_
    refine S.ifsF (T1.orF ((T1.test (E1.lt (E1.var rfl) E1.int)).eqn (decide_eq_false j2)) ((T1.test (E1.ne (E1.cCD (ns:=[i,j]) (A1.cons (E1.tu (A1.cons (E1.var rfl) (A1.cons (E1.var rfl) A1.nil)) rfl (lsz (n:=2) rfl z2)) A1.nil)) E1.int)).eqn (by rw [gcdN_two14,hg];rfl))) ?_
    exact S.ret1 (s:=.dat (tI [i,j])) (E1.tu (A1.cons (E1.var rfl) (A1.cons (E1.var rfl) A1.nil)) rfl (lsz (n:=2) rfl z2)) ⟨rfl,rfl⟩
  . refine S.ifs (b:=true) ((T1.test (E1.notInS (x:=sla) E1.str (E1.var rfl))).eqn (by rw [sla_in,decide_eq_false hin];rfl)) (fun _=>?_) (fun z=>by cases z)
    obtain ⟨wa,rfl⟩:=rdN_one az hin hr0
    exact S.ret1 (s:=.dat (tI [i,1])) (E1.tu (A1.cons (E1.call (R:=RRdW) (A1.cons (E1.var rfl) A1.nil) ⟨z,i,rfl,az,wa,rfl⟩) (A1.cons E1.int A1.nil)) rfl (lsz (n:=2) rfl z2)) ⟨rfl,rfl⟩
theorem scRdR:FnScope ["text","between","many","numbers"] ["text","between","many"] (defScope sRdR):=⟨rfl,rfl,rfl,by decide +kernel,rfl,by decide +kernel,by decide +kernel⟩
theorem ok_rdr (F:Fun K "read_row" "read_row" sRdR f fd)
    (G:FnOk P w K mg base CX0 1 g gd ["text","between","many"] (spP K RParts)) (bG:Binds K gd ["text","between","many"] []) (kG:PySem.W.keepIn K (.ref g)=true) (mG:mg "parts_of" = some (.ref g))
    (G2:FnOk P w K mg base CX0 2 g2 gd2 ["text"] (spP K RRdW)) (bG2:Binds K gd2 ["text"] []) (kG2:PySem.W.keepIn K (.ref g2)=true) (mG2:mg "read_whole" = some (.ref g2)) (m_tuple:mg "tuple" = none) (m_any:mg "any" = none) :
    FnOk P w K mg base CX0 3 f fd ["text","between","many"] (spP K RRdR):=by
  refine okP F scRdR (fun ds d h=>?_) (fun cdv A0 outer s0 H0 E0 hr=>?_)
  . obtain ⟨z,y,m,ns,rfl,_⟩:=h;rfl
  have r:=hr.mono (show 1<=2 by decide)
  have r2:=hr.mono (show 2<=2 by decide)
  refine ⟨_,(zss_cons (zs_set (i:=3) scRdR.nd rfl (Or.inl rfl) (ze_callTy call_tuple_of rfl m_tuple (by rfl) (za_cons (ze_comp (own:=["part"]) scRdR rfl ⟨by decide +kernel,rfl,by decide +kernel,by decide +kernel,by decide +kernel,by decide +kernel,by decide +kernel,by decide +kernel,by decide +kernel⟩ (zi_list (ze_call G r rfl mG kG bG .nil pass0 (za_n (zv 0) (za_n (zv 1) (za_n (zv 2) za_nil))))) (fun C fp s H nd=>zg_name (i:=0) nd rfl (Or.inl rfl)) (fun C fp s H=>zts_nil) (fun C fp s H=>(ze_call G2 r2 rfl mG2 kG2 bG2 .nil pass0 (za_n (zv 0) za_nil)))) za_nil)))
    (zss_cons (zs_if (zt_not (zt_val (ze_callB (call_anyT rfl) rfl m_any (by rfl) (za_n (zv 3) za_nil)))) (zss_one zs_never) zss_nil)
    (zss_one (zs_ret (zv 3))))),fun ds d h=>?_⟩
  obtain ⟨z,y,m,ns,rfl,az,hy,hr0,rfl⟩:=h
  obtain ⟨h1,h2,h3⟩:=rdR_some hr0
  refine S.let1 (s:=.dat (tI ns)) (E1.to (E1.tupleL (A1.cons (E1.vwo (E1.compM (ds:=(Txt.split z y).map Dat.str) (f:=rdD whI Dat.int) (Wk.lst (E1.call (R:=RParts) (A1.cons (E1.var rfl) (A1.cons (E1.var rfl) (A1.cons (E1.var rfl) A1.nil))) ⟨z,y,(m:Int),rfl,az,hy,by rw [h1],rfl⟩)) (fun d hd=>by
      obtain ⟨x,hx,rfl⟩:=List.mem_map.mp hd
      obtain ⟨i,hi⟩:=allO_at h2 hx
      rw [rdD_one hi]
      exact E1.call (R:=RRdW) (A1.cons (E1.var rfl) A1.nil) ⟨x,i,rfl,split_asc az x hx,hi,rfl⟩) (by rw [List.length_map];exact Nat.le_trans (parts_len z y) (Nat.le_trans (Nat.add_le_add_right az.1 2) mx_2)))) A1.nil)) (by first | (rw [rdD_map h2];done) | (rw [rdD_map h2];rfl))) ?_
  refine S.ifsF (T1.notT ((T1.val (E1.anyT (E1.var rfl))).eqn h3)) ?_
  exact S.ret1 (s:=.dat (tI ns)) (E1.var rfl) ⟨rfl,noL_tI'⟩
theorem scRdF:FnScope ["text"] ["text"] (defScope sRdF):=⟨rfl,rfl,rfl,by decide +kernel,rfl,by decide +kernel,by decide +kernel⟩
theorem ok_rdf (F:Fun K "read_four" "read_four" sRdF f fd)
    (G:FnOk P w K mg base CX0 3 g gd ["text","between","many"] (spP K RRdR)) (bG:Binds K gd ["text","between","many"] []) (kG:PySem.W.keepIn K (.ref g)=true) (mG:mg "read_row" = some (.ref g)) :
    FnOk P w K mg base CX0 4 f fd ["text"] (spP K (RRd1 spa 4)):=by
  refine okP F scRdF (fun ds d h=>?_) (fun cdv A0 outer s0 H0 E0 hr=>?_)
  . obtain ⟨z,ns,rfl,_⟩:=h;rfl
  have r:=hr.mono (show 3<=3 by decide)
  refine ⟨_,(zss_one (zs_ret (ze_call G r rfl mG kG bG .nil pass0 (za_n (zv 0) (za_cons ze_str (za_i za_nil)))))),fun ds d h=>?_⟩
  obtain ⟨z,ns,rfl,az,hr0,rfl⟩:=h
  exact S.ret1 (s:=.dat (tI ns)) (E1.call (R:=RRdR) (A1.cons (E1.var rfl) (A1.cons E1.str (A1.cons E1.int A1.nil))) ⟨z,spa,4,ns,rfl,az,rfl,hr0,rfl⟩) ⟨rfl,noL_tI'⟩
theorem scRdWy:FnScope ["text"] ["text"] (defScope sRdWy):=⟨rfl,rfl,rfl,by decide +kernel,rfl,by decide +kernel,by decide +kernel⟩
theorem ok_rdwy (F:Fun K "read_way" "read_way" sRdWy f fd)
    (G:FnOk P w K mg base CX0 3 g gd ["text","between","many"] (spP K RRdR)) (bG:Binds K gd ["text","between","many"] []) (kG:PySem.W.keepIn K (.ref g)=true) (mG:mg "read_row" = some (.ref g)) :
    FnOk P w K mg base CX0 4 f fd ["text"] (spP K (RRd1 spa 3)):=by
  refine okP F scRdWy (fun ds d h=>?_) (fun cdv A0 outer s0 H0 E0 hr=>?_)
  . obtain ⟨z,ns,rfl,_⟩:=h;rfl
  have r:=hr.mono (show 3<=3 by decide)
  refine ⟨_,(zss_one (zs_ret (ze_call G r rfl mG kG bG .nil pass0 (za_n (zv 0) (za_cons ze_str (za_i za_nil)))))),fun ds d h=>?_⟩
  obtain ⟨z,ns,rfl,az,hr0,rfl⟩:=h
  exact S.ret1 (s:=.dat (tI ns)) (E1.call (R:=RRdR) (A1.cons (E1.var rfl) (A1.cons E1.str (A1.cons E1.int A1.nil))) ⟨z,spa,3,ns,rfl,az,rfl,hr0,rfl⟩) ⟨rfl,noL_tI'⟩
theorem scRdP:FnScope ["text"] ["text"] (defScope sRdP):=⟨rfl,rfl,rfl,by decide +kernel,rfl,by decide +kernel,by decide +kernel⟩
theorem ok_rdp (F:Fun K "read_point" "read_point" sRdP f fd)
    (G:FnOk P w K mg base CX0 1 g gd ["text","between","many"] (spP K RParts)) (bG:Binds K gd ["text","between","many"] []) (kG:PySem.W.keepIn K (.ref g)=true) (mG:mg "parts_of" = some (.ref g))
    (G2:FnOk P w K mg base CX0 3 g2 gd2 ["text"] (spP K RRdN)) (bG2:Binds K gd2 ["text"] []) (kG2:PySem.W.keepIn K (.ref g2)=true) (mG2:mg "read_number" = some (.ref g2)) (m_tuple:mg "tuple" = none) :
    FnOk P w K mg base CX0 4 f fd ["text"] (spP K RRdP):=by
  refine okP F scRdP (fun ds d h=>?_) (fun cdv A0 outer s0 H0 E0 hr=>?_)
  . obtain ⟨z,l,rfl,_⟩:=h;rfl
  have r:=hr.mono (show 1<=3 by decide)
  have r2:=hr.mono (show 3<=3 by decide)
  refine ⟨_,(zss_one (zs_ret (ze_callTy call_tuple_of rfl m_tuple (by rfl) (za_cons (ze_comp (own:=["part"]) scRdP rfl ⟨by decide +kernel,rfl,by decide +kernel,by decide +kernel,by decide +kernel,by decide +kernel,by decide +kernel,by decide +kernel,by decide +kernel⟩ (zi_list (ze_call G r rfl mG kG bG .nil pass0 (za_n (zv 0) (za_cons ze_str (za_i za_nil))))) (fun C fp s H nd=>zg_name (i:=0) nd rfl (Or.inl rfl)) (fun C fp s H=>zts_nil) (fun C fp s H=>(ze_call G2 r2 rfl mG2 kG2 bG2 .nil pass0 (za_n (zv 0) za_nil)))) za_nil)))),fun ds d h=>?_⟩
  obtain ⟨z,l,rfl,az,hr0,rfl⟩:=h
  obtain ⟨h1,h2⟩:=rd3_some hr0
  exact S.ret1 (s:=.dat (pD3 l)) (E1.to (E1.tupleL (A1.cons (E1.vwo (E1.compM (ds:=(Txt.split z spa).map Dat.str) (f:=rdD rdN qD) (Wk.lst (E1.call (R:=RParts) (A1.cons (E1.var rfl) (A1.cons E1.str (A1.cons E1.int A1.nil))) ⟨z,spa,3,rfl,az,rfl,(by first | (rw [h1];done) | (rw [h1];rfl)),rfl⟩)) (fun d hd=>by
      obtain ⟨x,hx,rfl⟩:=List.mem_map.mp hd
      obtain ⟨i,hi⟩:=allO_at h2 hx
      rw [rdD_one hi]
      exact E1.call (R:=RRdN) (A1.cons (E1.var rfl) A1.nil) ⟨x,i.1,i.2,rfl,split_asc az x hx,hi,rfl⟩) (by rw [List.length_map];exact Nat.le_trans (parts_len z spa) (Nat.le_trans (Nat.add_le_add_right az.1 2) mx_2)))) A1.nil)) (by first | (rw [rdD_map h2];done) | (rw [rdD_map h2];rfl))) ⟨rfl,noL_pD3 l⟩
theorem scRdT:FnScope ["text"] ["text"] (defScope sRdT):=⟨rfl,rfl,rfl,by decide +kernel,rfl,by decide +kernel,by decide +kernel⟩
theorem ok_rdt (F:Fun K "read_table" "read_table" sRdT f fd)
    (G:FnOk P w K mg base CX0 1 g gd ["text","between","many"] (spP K RParts)) (bG:Binds K gd ["text","between","many"] []) (kG:PySem.W.keepIn K (.ref g)=true) (mG:mg "parts_of" = some (.ref g))
    (G2:FnOk P w K mg base CX0 4 g2 gd2 ["text"] (spP K RRdP)) (bG2:Binds K gd2 ["text"] []) (kG2:PySem.W.keepIn K (.ref g2)=true) (mG2:mg "read_point" = some (.ref g2)) (m_tuple:mg "tuple" = none) :
    FnOk P w K mg base CX0 5 f fd ["text"] (spP K RRdT):=by
  refine okP F scRdT (fun ds d h=>?_) (fun cdv A0 outer s0 H0 E0 hr=>?_)
  . obtain ⟨z,l,rfl,_⟩:=h;rfl
  have r:=hr.mono (show 1<=4 by decide)
  have r2:=hr.mono (show 4<=4 by decide)
  refine ⟨_,(zss_one (zs_ret (ze_callTy call_tuple_of rfl m_tuple (by rfl) (za_cons (ze_comp (own:=["part"]) scRdT rfl ⟨by decide +kernel,rfl,by decide +kernel,by decide +kernel,by decide +kernel,by decide +kernel,by decide +kernel,by decide +kernel,by decide +kernel⟩ (zi_list (ze_call G r rfl mG kG bG .nil pass0 (za_n (zv 0) (za_cons ze_str (za_i za_nil))))) (fun C fp s H nd=>zg_name (i:=0) nd rfl (Or.inl rfl)) (fun C fp s H=>zts_nil) (fun C fp s H=>(ze_call G2 r2 rfl mG2 kG2 bG2 .nil pass0 (za_n (zv 0) za_nil)))) za_nil)))),fun ds d h=>?_⟩
  obtain ⟨z,l,rfl,az,hr0,rfl⟩:=h
  obtain ⟨h1,h2⟩:=rd3_some hr0
  exact S.ret1 (s:=.dat (tD3 l)) (E1.to (E1.tupleL (A1.cons (E1.vwo (E1.compM (ds:=(Txt.split z sem).map Dat.str) (f:=rdD rdPt pD3) (Wk.lst (E1.call (R:=RParts) (A1.cons (E1.var rfl) (A1.cons E1.str (A1.cons E1.int A1.nil))) ⟨z,sem,3,rfl,az,rfl,(by first | (rw [h1];done) | (rw [h1];rfl)),rfl⟩)) (fun d hd=>by
      obtain ⟨x,hx,rfl⟩:=List.mem_map.mp hd
      obtain ⟨i,hi⟩:=allO_at h2 hx
      rw [rdD_one hi]
      exact E1.call (R:=RRdP) (A1.cons (E1.var rfl) A1.nil) ⟨x,i,rfl,split_asc az x hx,hi,rfl⟩) (by rw [List.length_map];exact Nat.le_trans (parts_len z sem) (Nat.le_trans (Nat.add_le_add_right az.1 2) mx_2)))) A1.nil)) (by first | (rw [rdD_map h2];done) | (rw [rdD_map h2];rfl))) ⟨rfl,noL_tD3 l⟩
theorem scRdS:FnScope ["text"] ["text"] (defScope sRdS):=⟨rfl,rfl,rfl,by decide +kernel,rfl,by decide +kernel,by decide +kernel⟩
theorem ok_rds (F:Fun K "read_setting" "read_setting" sRdS f fd)
    (G:FnOk P w K mg base CX0 3 g gd ["text","between","many"] (spP K RRdR)) (bG:Binds K gd ["text","between","many"] []) (kG:PySem.W.keepIn K (.ref g)=true) (mG:mg "read_row" = some (.ref g)) :
    FnOk P w K mg base CX0 4 f fd ["text"] (spP K (RRd1 col 2)):=by
  refine okP F scRdS (fun ds d h=>?_) (fun cdv A0 outer s0 H0 E0 hr=>?_)
  . obtain ⟨z,ns,rfl,_⟩:=h;rfl
  have r:=hr.mono (show 3<=3 by decide)
  refine ⟨_,(zss_one (zs_ret (ze_call G r rfl mG kG bG .nil pass0 (za_n (zv 0) (za_cons ze_str (za_i za_nil)))))),fun ds d h=>?_⟩
  obtain ⟨z,ns,rfl,az,hr0,rfl⟩:=h
  exact S.ret1 (s:=.dat (tI ns)) (E1.call (R:=RRdR) (A1.cons (E1.var rfl) (A1.cons E1.str (A1.cons E1.int A1.nil))) ⟨z,col,2,ns,rfl,az,rfl,hr0,rfl⟩) ⟨rfl,noL_tI'⟩
theorem scRead47:FnScope ["_law_kind","_law_text"] ["_law_kind","_law_text"] (defScope sRead47):=⟨rfl,rfl,rfl,by decide +kernel,rfl,by decide +kernel,by decide +kernel⟩
theorem ok_read47 (F:Fun K "_law_read" "_law_read" sRead47 f fd)
    (G:FnOk P w K mg base CX0 3 g gd ["text"] (spP K RRdN)) (bG:Binds K gd ["text"] []) (kG:PySem.W.keepIn K (.ref g)=true) (mG:mg "read_number" = some (.ref g))
    (G2:FnOk P w K mg base CX0 4 g2 gd2 ["text"] (spP K (RRd1 spa 4))) (bG2:Binds K gd2 ["text"] []) (kG2:PySem.W.keepIn K (.ref g2)=true) (mG2:mg "read_four" = some (.ref g2))
    (G3:FnOk P w K mg base CX0 4 g3 gd3 ["text"] (spP K (RRd1 spa 3))) (bG3:Binds K gd3 ["text"] []) (kG3:PySem.W.keepIn K (.ref g3)=true) (mG3:mg "read_way" = some (.ref g3))
    (G4:FnOk P w K mg base CX0 4 g4 gd4 ["text"] (spP K RRdP)) (bG4:Binds K gd4 ["text"] []) (kG4:PySem.W.keepIn K (.ref g4)=true) (mG4:mg "read_point" = some (.ref g4))
    (G5:FnOk P w K mg base CX0 5 g5 gd5 ["text"] (spP K RRdT)) (bG5:Binds K gd5 ["text"] []) (kG5:PySem.W.keepIn K (.ref g5)=true) (mG5:mg "read_table" = some (.ref g5))
    (G6:FnOk P w K mg base CX0 4 g6 gd6 ["text"] (spP K (RRd1 col 2))) (bG6:Binds K gd6 ["text"] []) (kG6:PySem.W.keepIn K (.ref g6)=true) (mG6:mg "read_setting" = some (.ref g6)) :
    FnOk P w K mg base CX0 6 f fd ["_law_kind","_law_text"] (spP K RRead):=by
  refine okP F scRead47 (fun ds d h=>?_) (fun cdv A0 outer s0 H0 E0 hr=>?_)
  . obtain ⟨k,z,rfl,_⟩:=h;rfl
  have r:=hr.mono (show 3<=5 by decide)
  have r2:=hr.mono (show 4<=5 by decide)
  have r3:=hr.mono (show 4<=5 by decide)
  have r4:=hr.mono (show 4<=5 by decide)
  have r5:=hr.mono (show 5<=5 by decide)
  have r6:=hr.mono (show 4<=5 by decide)
  refine ⟨_,(zss_cons (zs_if (zt_cmpR op_eq (zv 0) ze_int (nomark _)) (zss_one (zs_ret (ze_call G r rfl mG kG bG .nil pass0 (za_n (zv 1) za_nil)))) zss_nil)
    (zss_cons (zs_if (zt_cmpR op_eq (zv 0) ze_int (nomark _)) (zss_one (zs_ret (ze_call G2 r2 rfl mG2 kG2 bG2 .nil pass0 (za_n (zv 1) za_nil)))) zss_nil)
    (zss_cons (zs_if (zt_cmpR op_eq (zv 0) ze_int (nomark _)) (zss_one (zs_ret (ze_call G3 r3 rfl mG3 kG3 bG3 .nil pass0 (za_n (zv 1) za_nil)))) zss_nil)
    (zss_cons (zs_if (zt_cmpR op_eq (zv 0) ze_int (nomark _)) (zss_one (zs_ret (ze_call G4 r4 rfl mG4 kG4 bG4 .nil pass0 (za_n (zv 1) za_nil)))) zss_nil)
    (zss_cons (zs_if (zt_cmpR op_eq (zv 0) ze_int (nomark _)) (zss_one (zs_ret (ze_call G5 r5 rfl mG5 kG5 bG5 .nil pass0 (za_n (zv 1) za_nil)))) zss_nil)
    (zss_one (zs_ret (ze_call G6 r6 rfl mG6 kG6 bG6 .nil pass0 (za_n (zv 1) za_nil))))))))),fun ds d h=>?_⟩
  obtain ⟨k,z,rfl,k0,k5,az,hd⟩:=h
  have hk:k=0\/k=1\/k=2\/k=3\/k=4\/k=5:=by omega
  rcases hk with rfl | rfl | rfl | rfl | rfl | rfl
  . have tb:=rdK_tx (by decide) (by decide) hd
    obtain ⟨q,h2,rfl⟩:=opt_map (show (rdN z).map qD=_ from hd)
    refine S.ifs (b:=true) ((T1.test (E1.eq (E1.var rfl) E1.int)).eqn (by decide)) (fun _=>?_) (fun z=>by cases z)
    exact S.ret1 (E1.call (R:=RRdN) (A1.cons (E1.var rfl) A1.nil) ⟨z,q.1,q.2,rfl,az,h2,rfl⟩) ⟨rfl,tb.nl⟩
  . have tb:=rdK_tx (by decide) (by decide) hd
    obtain ⟨q,h2,rfl⟩:=opt_map (show (rdR z spa 4).map tI=_ from hd)
    refine S.ifsF ((T1.test (E1.eq (E1.var rfl) E1.int)).eqn (by decide)) (S.ifs (b:=true) ((T1.test (E1.eq (E1.var rfl) E1.int)).eqn (by decide)) (fun _=>?_) (fun z=>by cases z))
    exact S.ret1 (E1.call (R:=(RRd1 spa 4)) (A1.cons (E1.var rfl) A1.nil) ⟨z,q,rfl,az,h2,rfl⟩) ⟨rfl,tb.nl⟩
  . have tb:=rdK_tx (by decide) (by decide) hd
    obtain ⟨q,h2,rfl⟩:=opt_map (show (rdR z spa 3).map tI=_ from hd)
    refine S.ifsF ((T1.test (E1.eq (E1.var rfl) E1.int)).eqn (by decide)) (S.ifsF ((T1.test (E1.eq (E1.var rfl) E1.int)).eqn (by decide)) (S.ifs (b:=true) ((T1.test (E1.eq (E1.var rfl) E1.int)).eqn (by decide)) (fun _=>?_) (fun z=>by cases z)))
    exact S.ret1 (E1.call (R:=(RRd1 spa 3)) (A1.cons (E1.var rfl) A1.nil) ⟨z,q,rfl,az,h2,rfl⟩) ⟨rfl,tb.nl⟩
  . have tb:=rdK_tx (by decide) (by decide) hd
    obtain ⟨q,h2,rfl⟩:=opt_map (show (rdPt z).map pD3=_ from hd)
    refine S.ifsF ((T1.test (E1.eq (E1.var rfl) E1.int)).eqn (by decide)) (S.ifsF ((T1.test (E1.eq (E1.var rfl) E1.int)).eqn (by decide)) (S.ifsF ((T1.test (E1.eq (E1.var rfl) E1.int)).eqn (by decide)) (S.ifs (b:=true) ((T1.test (E1.eq (E1.var rfl) E1.int)).eqn (by decide)) (fun _=>?_) (fun z=>by cases z))))
    exact S.ret1 (E1.call (R:=RRdP) (A1.cons (E1.var rfl) A1.nil) ⟨z,q,rfl,az,h2,rfl⟩) ⟨rfl,tb.nl⟩
  . have tb:=rdK_tx (by decide) (by decide) hd
    obtain ⟨q,h2,rfl⟩:=opt_map (show (rdTb z).map tD3=_ from hd)
    refine S.ifsF ((T1.test (E1.eq (E1.var rfl) E1.int)).eqn (by decide)) (S.ifsF ((T1.test (E1.eq (E1.var rfl) E1.int)).eqn (by decide)) (S.ifsF ((T1.test (E1.eq (E1.var rfl) E1.int)).eqn (by decide)) (S.ifsF ((T1.test (E1.eq (E1.var rfl) E1.int)).eqn (by decide)) (S.ifs (b:=true) ((T1.test (E1.eq (E1.var rfl) E1.int)).eqn (by decide)) (fun _=>?_) (fun z=>by cases z)))))
    exact S.ret1 (E1.call (R:=RRdT) (A1.cons (E1.var rfl) A1.nil) ⟨z,q,rfl,az,h2,rfl⟩) ⟨rfl,tb.nl⟩
  . have tb:=rdK_tx (by decide) (by decide) hd
    obtain ⟨q,h2,rfl⟩:=opt_map (show (rdR z col 2).map tI=_ from hd)
    refine S.ifsF ((T1.test (E1.eq (E1.var rfl) E1.int)).eqn (by decide)) (S.ifsF ((T1.test (E1.eq (E1.var rfl) E1.int)).eqn (by decide)) (S.ifsF ((T1.test (E1.eq (E1.var rfl) E1.int)).eqn (by decide)) (S.ifsF ((T1.test (E1.eq (E1.var rfl) E1.int)).eqn (by decide)) (S.ifsF ((T1.test (E1.eq (E1.var rfl) E1.int)).eqn (by decide)) ?_))))
    exact S.ret1 (E1.call (R:=(RRd1 col 2)) (A1.cons (E1.var rfl) A1.nil) ⟨z,q,rfl,az,h2,rfl⟩) ⟨rfl,tb.nl⟩
end
end K48
end
section
namespace K48
open PySem L2 Num K0 D
open PySem.W (Dat)
theorem us1 {P:List Value->Prop} (h:∀ a,P [a]):∀ (us:List Value),us.length=1->P us:=fun us l=>by
  cases us with
  | nil=>cases l
  | cons x0 us =>
  cases us with
  | cons _ _=>simp at l
  | nil=>exact h x0
theorem us2 {P:List Value->Prop} (h:∀ a b,P [a,b]):∀ (us:List Value),us.length=2->P us:=fun us l=>by
  cases us with
  | nil=>cases l
  | cons x0 us =>
  cases us with
  | nil=>cases l
  | cons x1 us =>
  cases us with
  | cons _ _=>simp at l
  | nil=>exact h x0 x1
theorem us3 {P:List Value->Prop} (h:∀ a b c,P [a,b,c]):∀ (us:List Value),us.length=3->P us:=fun us l=>by
  cases us with
  | nil=>cases l
  | cons x0 us =>
  cases us with
  | nil=>cases l
  | cons x1 us =>
  cases us with
  | nil=>cases l
  | cons x2 us =>
  cases us with
  | cons _ _=>simp at l
  | nil=>exact h x0 x1 x2
theorem all_mk {l:PySem.W.OpenLaw} {w:World} {K:PySem.W.Frag} {h:Heap} {mg:Str->Option Value} {fa cTurnError cNoTurn cNoHanger cTooMany cNoJoint cNoReach cNoDeed cNoName cNoMark cNoText cNoLine cNoKept:Addr} (X:K.In h) (G:h.Ns mainGlobals mg) (hfa:mg "law" = some (.ref fa))
    (g_TurnError:PySem.W.nsIn K mainGlobals "TurnError" = some (some (.ref cTurnError))) (g_NoTurn:PySem.W.nsIn K mainGlobals "NoTurn" = some (some (.ref cNoTurn))) (g_NoHanger:PySem.W.nsIn K mainGlobals "NoHanger" = some (some (.ref cNoHanger))) (g_TooMany:PySem.W.nsIn K mainGlobals "TooMany" = some (some (.ref cTooMany))) (g_NoJoint:PySem.W.nsIn K mainGlobals "NoJoint" = some (some (.ref cNoJoint))) (g_NoReach:PySem.W.nsIn K mainGlobals "NoReach" = some (some (.ref cNoReach))) (g_NoDeed:PySem.W.nsIn K mainGlobals "NoDeed" = some (some (.ref cNoDeed))) (g_NoName:PySem.W.nsIn K mainGlobals "NoName" = some (some (.ref cNoName))) (g_NoMark:PySem.W.nsIn K mainGlobals "NoMark" = some (some (.ref cNoMark))) (g_NoText:PySem.W.nsIn K mainGlobals "NoText" = some (some (.ref cNoText))) (g_NoLine:PySem.W.nsIn K mainGlobals "NoLine" = some (some (.ref cNoLine))) (g_NoKept:PySem.W.nsIn K mainGlobals "NoKept" = some (some (.ref cNoKept)))  (q_dig:L2.DigN K) (q_x_NoText:L2.Xc K "NoText" cNoText) (q_l_NoText:L2.XcL K cNoText) (q_s_NoText:PySem.W.kitOne K (.ref cNoText) (.ref cNoText)=some true) (q_n_NoText_NoTurn:PySem.W.kitOne K (.ref cNoText) (.ref cNoTurn)=some false) (q_n_NoText_NoHanger:PySem.W.kitOne K (.ref cNoText) (.ref cNoHanger)=some false) (q_n_NoText_TooMany:PySem.W.kitOne K (.ref cNoText) (.ref cTooMany)=some false) (q_n_NoText_NoJoint:PySem.W.kitOne K (.ref cNoText) (.ref cNoJoint)=some false) (q_n_NoText_NoReach:PySem.W.kitOne K (.ref cNoText) (.ref cNoReach)=some false) (q_n_NoText_NoDeed:PySem.W.kitOne K (.ref cNoText) (.ref cNoDeed)=some false) (q_n_NoText_NoName:PySem.W.kitOne K (.ref cNoText) (.ref cNoName)=some false) (q_n_NoText_NoMark:PySem.W.kitOne K (.ref cNoText) (.ref cNoMark)=some false) (q_n_NoText_NoLine:PySem.W.kitOne K (.ref cNoText) (.ref cNoLine)=some false) (q_n_NoText_NoKept:PySem.W.kitOne K (.ref cNoText) (.ref cNoKept)=some false) (q_v_NoText:PySem.W.kitOne K (.ref cNoText) (.type "ValueError")=some true) (q_t_NoText:PySem.W.kitOne K (.ref cNoText) (.ref cTurnError)=some true) (q_u_NoText:PySem.W.exmOne K (.ref cNoText) (.ref cTurnError)=some true) (d14:DefAt K "common_divisor" sCD) (d18:DefAt K "show_row" sShRb) (d19:DefAt K "show_number" sShNb) (d20:DefAt K "show_four" sShFb) (d21:DefAt K "show_way" sShWb) (d22:DefAt K "show_point" sShPb) (d23:DefAt K "show_table" sShTb) (d24:DefAt K "show_setting" sShSb) (d25:DefAt K "is_whole_text" sIsWT) (d26:DefAt K "read_whole" sRdWB) (d27:DefAt K "parts_of" sPartsB) (d28:DefAt K "read_number" sRdNB) (d29:DefAt K "read_row" sRdRB) (d30:DefAt K "read_four" sRdFB) (d31:DefAt K "read_way" sRdWyB) (d32:DefAt K "read_point" sRdPB) (d33:DefAt K "read_table" sRdTB) (d34:DefAt K "read_setting" sRdSB) (d36:DefAt K "_law_purse" sPurse90) (d37:DefAt K "_law_take" sTake) (d38:DefAt K "_law_number" sNumber2) (d39:DefAt K "_law_divisor" sDiv2) (d40:DefAt K "_law_lowest" sLowest) (d42:DefAt K "_law_whole" sWhole) (d43:DefAt K "_law_same" sDSame2) (d44:DefAt K "_law_thing" sThingB) (d45:DefAt K "_law_written" sWrittenB) (d46:DefAt K "_law_shown" sShownB) (d47:DefAt K "_law_read" sRead47B) (d48:DefAt K "_law_whole_of" sLWof) (d49:DefAt K "_law_fraction_of" sLFof) (d50:DefAt K "_law_row_of" sLRof) (d51:DefAt K "_law_point_of" sLPof) (d52:DefAt K "_law_due" sLDue47) (d53:DefAt K "_law_which" sLWhichX) (d54:DefAt K "_law_told" sLTold47) (d55:DefAt K "_law_good" sLGood47) (d56:DefAt K "_law_bent_text" sLBent46) (d57:DefAt K "_law_any_text" sLAny48) (d58:DefAt K "_law_holds" sLHold48) (d59:DefAt K "law" sLaw)
    (tb_MOST_FIGURES:IntTAt K "MOST_FIGURES" 1500) (tb_FIGURES:StrTAt K "FIGURES" figS) (z_abs:PySem.W.nsIn K mainGlobals "abs" = some none) (z_str:PySem.W.nsIn K mainGlobals "str" = some none) (z_len:PySem.W.nsIn K mainGlobals "len" = some none) (z_all:PySem.W.nsIn K mainGlobals "all" = some none) (z_tuple:PySem.W.nsIn K mainGlobals "tuple" = some none) (z_any:PySem.W.nsIn K mainGlobals "any" = some none) (z_range:PySem.W.nsIn K mainGlobals "range" = some none) (z_int:PySem.W.nsIn K mainGlobals "int" = some none) (z_isinstance:PySem.W.nsIn K mainGlobals "isinstance" = some none) (z_bool:PySem.W.nsIn K mainGlobals "bool" = some none) (z_list:PySem.W.nsIn K mainGlobals "list" = some none) (z_ValueError:PySem.W.nsIn K mainGlobals "ValueError" = some none) :
    ∃ fd:FuncData,(∀ (s:Shared) (v:Value),BindsTo s fd ⟨[v],[]⟩ [("_law_script",v)])/\∀ base:Heap,K.In base->base.Ns mainGlobals mg->FnOk l.prog w K mg base CX0 10 fa fd ["_law_script"] (spLaw K):=by
  obtain ⟨f14,fd14,F14,m14,k14⟩:=d14.get X G
  have b14:=F14.binds (ps:=["numbers"]) (by refine fun _ _ _ _ _ _=>us1 ?_;intros;rfl)
  obtain ⟨f18,fd18,F18,m18,k18⟩:=d18.get X G
  have b18:=F18.binds (ps:=["numbers"]) (by refine fun _ _ _ _ _ _=>us1 ?_;intros;rfl)
  obtain ⟨f19,fd19,F19,m19,k19⟩:=d19.get X G
  have b19:=F19.binds (ps:=["fraction"]) (by refine fun _ _ _ _ _ _=>us1 ?_;intros;rfl)
  obtain ⟨f20,fd20,F20,m20,k20⟩:=d20.get X G
  have b20:=F20.binds (ps:=["four"]) (by refine fun _ _ _ _ _ _=>us1 ?_;intros;rfl)
  obtain ⟨f21,fd21,F21,m21,k21⟩:=d21.get X G
  have b21:=F21.binds (ps:=["way"]) (by refine fun _ _ _ _ _ _=>us1 ?_;intros;rfl)
  obtain ⟨f22,fd22,F22,m22,k22⟩:=d22.get X G
  have b22:=F22.binds (ps:=["point"]) (by refine fun _ _ _ _ _ _=>us1 ?_;intros;rfl)
  obtain ⟨f23,fd23,F23,m23,k23⟩:=d23.get X G
  have b23:=F23.binds (ps:=["table"]) (by refine fun _ _ _ _ _ _=>us1 ?_;intros;rfl)
  obtain ⟨f24,fd24,F24,m24,k24⟩:=d24.get X G
  have b24:=F24.binds (ps:=["setting"]) (by refine fun _ _ _ _ _ _=>us1 ?_;intros;rfl)
  obtain ⟨f25,fd25,F25,m25,k25⟩:=d25.get X G
  have b25:=F25.binds (ps:=["text"]) (by refine fun _ _ _ _ _ _=>us1 ?_;intros;rfl)
  obtain ⟨f26,fd26,F26,m26,k26⟩:=d26.get X G
  have b26:=F26.binds (ps:=["text"]) (by refine fun _ _ _ _ _ _=>us1 ?_;intros;rfl)
  obtain ⟨f27,fd27,F27,m27,k27⟩:=d27.get X G
  have b27:=F27.binds (ps:=["text","between","many"]) (by refine fun _ _ _ _ _ _=>us3 ?_;intros;rfl)
  obtain ⟨f28,fd28,F28,m28,k28⟩:=d28.get X G
  have b28:=F28.binds (ps:=["text"]) (by refine fun _ _ _ _ _ _=>us1 ?_;intros;rfl)
  obtain ⟨f29,fd29,F29,m29,k29⟩:=d29.get X G
  have b29:=F29.binds (ps:=["text","between","many"]) (by refine fun _ _ _ _ _ _=>us3 ?_;intros;rfl)
  obtain ⟨f30,fd30,F30,m30,k30⟩:=d30.get X G
  have b30:=F30.binds (ps:=["text"]) (by refine fun _ _ _ _ _ _=>us1 ?_;intros;rfl)
  obtain ⟨f31,fd31,F31,m31,k31⟩:=d31.get X G
  have b31:=F31.binds (ps:=["text"]) (by refine fun _ _ _ _ _ _=>us1 ?_;intros;rfl)
  obtain ⟨f32,fd32,F32,m32,k32⟩:=d32.get X G
  have b32:=F32.binds (ps:=["text"]) (by refine fun _ _ _ _ _ _=>us1 ?_;intros;rfl)
  obtain ⟨f33,fd33,F33,m33,k33⟩:=d33.get X G
  have b33:=F33.binds (ps:=["text"]) (by refine fun _ _ _ _ _ _=>us1 ?_;intros;rfl)
  obtain ⟨f34,fd34,F34,m34,k34⟩:=d34.get X G
  have b34:=F34.binds (ps:=["text"]) (by refine fun _ _ _ _ _ _=>us1 ?_;intros;rfl)
  obtain ⟨f36,fd36,F36,m36,k36⟩:=d36.get X G
  have b36:=F36.binds (ps:=["_law_cell"]) (by refine fun _ _ _ _ _ _=>us1 ?_;intros;rfl)
  obtain ⟨f37,fd37,F37,m37,k37⟩:=d37.get X G
  have b37:=F37.binds (ps:=["_law_purse_here","_law_many"]) (by refine fun _ _ _ _ _ _=>us2 ?_;intros;rfl)
  obtain ⟨f38,fd38,F38,m38,k38⟩:=d38.get X G
  have b38:=F38.binds (ps:=["_law_purse_here","_law_kind"]) (by refine fun _ _ _ _ _ _=>us2 ?_;intros;rfl)
  obtain ⟨f39,fd39,F39,m39,k39⟩:=d39.get X G
  have b39:=F39.binds (ps:=["_law_one","_law_other"]) (by refine fun _ _ _ _ _ _=>us2 ?_;intros;rfl)
  obtain ⟨f40,fd40,F40,m40,k40⟩:=d40.get X G
  have b40:=F40.binds (ps:=["_law_top","_law_bottom"]) (by refine fun _ _ _ _ _ _=>us2 ?_;intros;rfl)
  obtain ⟨f42,fd42,F42,m42,k42⟩:=d42.get X G
  have b42:=F42.binds (ps:=["_law_found"]) (by refine fun _ _ _ _ _ _=>us1 ?_;intros;rfl)
  obtain ⟨f43,fd43,F43,m43,k43⟩:=d43.get X G
  have b43:=F43.binds (ps:=["_law_found","_law_due_here"]) (by refine fun _ _ _ _ _ _=>us2 ?_;intros;rfl)
  obtain ⟨f44,fd44,F44,m44,k44⟩:=d44.get X G
  have b44:=F44.binds (ps:=["_law_kind","_law_purse_here","_law_most"]) (by refine fun _ _ _ _ _ _=>us3 ?_;intros;rfl)
  obtain ⟨f45,fd45,F45,m45,k45⟩:=d45.get X G
  have b45:=F45.binds (ps:=["_law_kind","_law_thing_here"]) (by refine fun _ _ _ _ _ _=>us2 ?_;intros;rfl)
  obtain ⟨f46,fd46,F46,m46,k46⟩:=d46.get X G
  have b46:=F46.binds (ps:=["_law_kind","_law_thing_here"]) (by refine fun _ _ _ _ _ _=>us2 ?_;intros;rfl)
  obtain ⟨f47,fd47,F47,m47,k47⟩:=d47.get X G
  have b47:=F47.binds (ps:=["_law_kind","_law_text"]) (by refine fun _ _ _ _ _ _=>us2 ?_;intros;rfl)
  obtain ⟨f48,fd48,F48,m48,k48⟩:=d48.get X G
  have b48:=F48.binds (ps:=["_law_text"]) (by refine fun _ _ _ _ _ _=>us1 ?_;intros;rfl)
  obtain ⟨f49,fd49,F49,m49,k49⟩:=d49.get X G
  have b49:=F49.binds (ps:=["_law_text"]) (by refine fun _ _ _ _ _ _=>us1 ?_;intros;rfl)
  obtain ⟨f50,fd50,F50,m50,k50⟩:=d50.get X G
  have b50:=F50.binds (ps:=["_law_text","_law_many","_law_sign"]) (by refine fun _ _ _ _ _ _=>us3 ?_;intros;rfl)
  obtain ⟨f51,fd51,F51,m51,k51⟩:=d51.get X G
  have b51:=F51.binds (ps:=["_law_text"]) (by refine fun _ _ _ _ _ _=>us1 ?_;intros;rfl)
  obtain ⟨f52,fd52,F52,m52,k52⟩:=d52.get X G
  have b52:=F52.binds (ps:=["_law_kind","_law_text"]) (by refine fun _ _ _ _ _ _=>us2 ?_;intros;rfl)
  obtain ⟨f53,fd53,F53,m53,k53⟩:=d53.get X G
  have b53:=F53.binds (ps:=["_law_e"]) (by refine fun _ _ _ _ _ _=>us1 ?_;intros;rfl)
  obtain ⟨f54,fd54,F54,m54,k54⟩:=d54.get X G
  have b54:=F54.binds (ps:=["_law_kind","_law_text"]) (by refine fun _ _ _ _ _ _=>us2 ?_;intros;rfl)
  obtain ⟨f55,fd55,F55,m55,k55⟩:=d55.get X G
  have b55:=F55.binds (ps:=["_law_kind","_law_text"]) (by refine fun _ _ _ _ _ _=>us2 ?_;intros;rfl)
  obtain ⟨f56,fd56,F56,m56,k56⟩:=d56.get X G
  have b56:=F56.binds (ps:=["_law_text","_law_purse_here"]) (by refine fun _ _ _ _ _ _=>us2 ?_;intros;rfl)
  obtain ⟨f57,fd57,F57,m57,k57⟩:=d57.get X G
  have b57:=F57.binds (ps:=["_law_purse_here"]) (by refine fun _ _ _ _ _ _=>us1 ?_;intros;rfl)
  obtain ⟨f58,fd58,F58,m58,k58⟩:=d58.get X G
  have b58:=F58.binds (ps:=["_law_text"]) (by refine fun _ _ _ _ _ _=>us1 ?_;intros;rfl)
  obtain ⟨fd59,F59,b59⟩:=d59.law (y := "_law_script") X G hfa fun _ _ _ _ _ _ _=>rfl
  have m_TurnError:=PySem.W.mg_of X G g_TurnError
  have m_NoTurn:=PySem.W.mg_of X G g_NoTurn
  have m_NoHanger:=PySem.W.mg_of X G g_NoHanger
  have m_TooMany:=PySem.W.mg_of X G g_TooMany
  have m_NoJoint:=PySem.W.mg_of X G g_NoJoint
  have m_NoReach:=PySem.W.mg_of X G g_NoReach
  have m_NoDeed:=PySem.W.mg_of X G g_NoDeed
  have m_NoName:=PySem.W.mg_of X G g_NoName
  have m_NoMark:=PySem.W.mg_of X G g_NoMark
  have m_NoText:=PySem.W.mg_of X G g_NoText
  have m_NoLine:=PySem.W.mg_of X G g_NoLine
  have m_NoKept:=PySem.W.mg_of X G g_NoKept
  obtain ⟨dMOST_FIGURES,m_MOST_FIGURES,t_MOST_FIGURES⟩:=tb_MOST_FIGURES.get X G
  obtain ⟨dFIGURES,m_FIGURES,t_FIGURES⟩:=tb_FIGURES.get X G
  have m_abs:=PySem.W.mg_none_of X G z_abs
  have m_str:=PySem.W.mg_none_of X G z_str
  have m_len:=PySem.W.mg_none_of X G z_len
  have m_all:=PySem.W.mg_none_of X G z_all
  have m_tuple:=PySem.W.mg_none_of X G z_tuple
  have m_any:=PySem.W.mg_none_of X G z_any
  have m_range:=PySem.W.mg_none_of X G z_range
  have m_int:=PySem.W.mg_none_of X G z_int
  have m_isinstance:=PySem.W.mg_none_of X G z_isinstance
  have m_bool:=PySem.W.mg_none_of X G z_bool
  have m_list:=PySem.W.mg_none_of X G z_list
  have m_ValueError:=PySem.W.mg_none_of X G z_ValueError
  refine ⟨fd59,b59,fun base _ _=>?_⟩
  have o14_CD:=ok_cd (P:=l.prog) (w:=w) (mg:=mg) (base:=base) F14      m_abs 
  have o18_ShRb:=ok_shrb (P:=l.prog) (w:=w) (mg:=mg) (base:=base) F18    q_dig  m_str 
  have o19_ShNb:=ok_shnb (P:=l.prog) (w:=w) (mg:=mg) (base:=base) F19    q_dig  m_str 
  have o20_ShFb:=ok_shfb (P:=l.prog) (w:=w) (mg:=mg) (base:=base) F20     o18_ShRb b18 k18 m18  
  have o21_ShWb:=ok_shwb (P:=l.prog) (w:=w) (mg:=mg) (base:=base) F21     o18_ShRb b18 k18 m18  
  have o22_ShPb:=ok_shpb (P:=l.prog) (w:=w) (mg:=mg) (base:=base) F22     o19_ShNb b19 k19 m19  
  have o23_ShTb:=ok_shtb (P:=l.prog) (w:=w) (mg:=mg) (base:=base) F23     o22_ShPb b22 k22 m22  
  have o24_ShSb:=ok_shsb (P:=l.prog) (w:=w) (mg:=mg) (base:=base) F24    q_dig  m_str 
  have o25_IsWT:=ok_iswt (P:=l.prog) (w:=w) (mg:=mg) (base:=base) F25      m_len m_all m_MOST_FIGURES t_MOST_FIGURES m_FIGURES t_FIGURES
  have o26_RdWB:=ok_rdwb (P:=l.prog) (w:=w) (mg:=mg) (base:=base) F26   m_NoText q_x_NoText o25_IsWT b25 k25 m25  
  have o27_PartsB:=ok_partsb (P:=l.prog) (w:=w) (mg:=mg) (base:=base) F27   m_NoText q_x_NoText  m_len 
  have o36_Purse90:=ok_purse90 (P:=l.prog) (w:=w) (mg:=mg) (base:=base) F36      m_range 
  have o37_Take:=ok_take (P:=l.prog) (w:=w) (mg:=mg) (base:=base) F37      m_int 
  have o38_Number2:=ok_number2 (P:=l.prog) (w:=w) (mg:=mg) (base:=base) F38     o37_Take b37 k37 m37  
  have o39_Div2:=ok_div2 (P:=l.prog) (w:=w) (mg:=mg) (base:=base) F39      m_abs 
  have o40_Lowest:=ok_lowest (P:=l.prog) (w:=w) (mg:=mg) (base:=base) F40     o39_Div2 b39 k39 m39  
  have o42_Whole:=ok_whole (P:=l.prog) (w:=w) (mg:=mg) (base:=base) F42      m_isinstance m_int m_bool 
  have o43_DSame2:=ok_dsame2 (P:=l.prog) (w:=w) (mg:=mg) (base:=base) F43 b43 k43 m43     o42_Whole b42 k42 m42 m_isinstance m_list m_tuple m_len m_range m_str 
  have o44_ThingB:=ok_thingb (P:=l.prog) (w:=w) (mg:=mg) (base:=base) F44 b44 k44 m44     o38_Number2 b38 k38 m38 o37_Take b37 k37 m37 o40_Lowest b40 k40 m40 m_range m_tuple m_len 
  have o45_WrittenB:=ok_writtenb (P:=l.prog) (w:=w) (mg:=mg) (base:=base) F45 b45 k45 m45    q_dig  m_str m_int 
  have o46_ShownB:=ok_shownb (P:=l.prog) (w:=w) (mg:=mg) (base:=base) F46     o19_ShNb b19 k19 m19 o20_ShFb b20 k20 m20 o21_ShWb b21 k21 m21 o22_ShPb b22 k22 m22 o23_ShTb b23 k23 m23 o24_ShSb b24 k24 m24  
  have o48_LWof:=ok_lwof (P:=l.prog) (w:=w) (mg:=mg) (base:=base) F48    q_dig  m_int m_len 
  have o49_LFof:=ok_lfof (P:=l.prog) (w:=w) (mg:=mg) (base:=base) F49     o48_LWof b48 k48 m48 o39_Div2 b39 k39 m39 m_len m_tuple 
  have o50_LRof:=ok_lrof (P:=l.prog) (w:=w) (mg:=mg) (base:=base) F50     o48_LWof b48 k48 m48 m_len m_tuple 
  have o51_LPof:=ok_lpof (P:=l.prog) (w:=w) (mg:=mg) (base:=base) F51     o49_LFof b49 k49 m49 m_len m_tuple 
  have o52_LDue47:=ok_ldue47 (P:=l.prog) (w:=w) (mg:=mg) (base:=base) F52     o49_LFof b49 k49 m49 o51_LPof b51 k51 m51 o50_LRof b50 k50 m50 m_len m_tuple m_int 
  have o53_LWhichX:=ok_lwhichx (P:=l.prog) (w:=w) (mg:=mg) (base:=base) F53   m_NoTurn m_NoHanger m_TooMany m_NoJoint m_NoReach m_NoDeed m_NoName m_NoMark m_NoText m_NoLine m_NoKept m_TurnError q_x_NoText q_l_NoText q_s_NoText q_n_NoText_NoTurn q_n_NoText_NoHanger q_n_NoText_TooMany q_n_NoText_NoJoint q_n_NoText_NoReach q_n_NoText_NoDeed q_n_NoText_NoName q_n_NoText_NoMark q_n_NoText_NoLine q_n_NoText_NoKept q_v_NoText q_t_NoText  m_isinstance m_ValueError m_range 
  have o56_LBent46:=ok_lbent46 (P:=l.prog) (w:=w) (mg:=mg) (base:=base) F56     o37_Take b37 k37 m37 m_len 
  have o57_LAny48:=ok_lany48 (P:=l.prog) (w:=w) (mg:=mg) (base:=base) F57     o37_Take b37 k37 m37 m_range 
  have o26_RdW:=ok_rdw (P:=l.prog) (w:=w) (mg:=mg) (base:=base) F26    q_dig o25_IsWT b25 k25 m25 m_int 
  have o27_Parts:=ok_parts (P:=l.prog) (w:=w) (mg:=mg) (base:=base) F27      m_len 
  have o28_RdNB:=ok_rdnb (P:=l.prog) (w:=w) (mg:=mg) (base:=base) F28   m_NoText q_x_NoText o27_Parts b27 k27 m27 o27_PartsB b27 k27 m27 o26_RdW b26 k26 m26 o26_RdWB b26 k26 m26 o14_CD b14 k14 m14  
  have o29_RdRB:=ok_rdrb (P:=l.prog) (w:=w) (mg:=mg) (base:=base) F29   m_NoText q_x_NoText o27_Parts b27 k27 m27 o27_PartsB b27 k27 m27 o26_RdW b26 k26 m26 o26_RdWB b26 k26 m26 m_tuple m_any 
  have o30_RdFB:=ok_rdfb (P:=l.prog) (w:=w) (mg:=mg) (base:=base) F30     o29_RdRB b29 k29 m29  
  have o31_RdWyB:=ok_rdwyb (P:=l.prog) (w:=w) (mg:=mg) (base:=base) F31     o29_RdRB b29 k29 m29  
  have o34_RdSB:=ok_rdsb (P:=l.prog) (w:=w) (mg:=mg) (base:=base) F34     o29_RdRB b29 k29 m29  
  have o28_RdN:=ok_rdn (P:=l.prog) (w:=w) (mg:=mg) (base:=base) F28     o26_RdW b26 k26 m26 o27_Parts b27 k27 m27 o14_CD b14 k14 m14  
  have o32_RdPB:=ok_rdpb (P:=l.prog) (w:=w) (mg:=mg) (base:=base) F32     o27_Parts b27 k27 m27 o27_PartsB b27 k27 m27 o28_RdN b28 k28 m28 o28_RdNB b28 k28 m28 m_tuple 
  have o29_RdR:=ok_rdr (P:=l.prog) (w:=w) (mg:=mg) (base:=base) F29     o27_Parts b27 k27 m27 o26_RdW b26 k26 m26 m_tuple m_any 
  have o30_RdF:=ok_rdf (P:=l.prog) (w:=w) (mg:=mg) (base:=base) F30     o29_RdR b29 k29 m29  
  have o31_RdWy:=ok_rdwy (P:=l.prog) (w:=w) (mg:=mg) (base:=base) F31     o29_RdR b29 k29 m29  
  have o32_RdP:=ok_rdp (P:=l.prog) (w:=w) (mg:=mg) (base:=base) F32     o27_Parts b27 k27 m27 o28_RdN b28 k28 m28 m_tuple 
  have o33_RdTB:=ok_rdtb (P:=l.prog) (w:=w) (mg:=mg) (base:=base) F33     o27_Parts b27 k27 m27 o27_PartsB b27 k27 m27 o32_RdP b32 k32 m32 o32_RdPB b32 k32 m32 m_tuple 
  have o47_Read47B:=ok_read47b (P:=l.prog) (w:=w) (mg:=mg) (base:=base) F47     o28_RdNB b28 k28 m28 o30_RdFB b30 k30 m30 o31_RdWyB b31 k31 m31 o32_RdPB b32 k32 m32 o33_RdTB b33 k33 m33 o34_RdSB b34 k34 m34  
  have o33_RdT:=ok_rdt (P:=l.prog) (w:=w) (mg:=mg) (base:=base) F33     o27_Parts b27 k27 m27 o32_RdP b32 k32 m32 m_tuple 
  have o34_RdS:=ok_rds (P:=l.prog) (w:=w) (mg:=mg) (base:=base) F34     o29_RdR b29 k29 m29  
  have o47_Read47:=ok_read47 (P:=l.prog) (w:=w) (mg:=mg) (base:=base) F47     o28_RdN b28 k28 m28 o30_RdF b30 k30 m30 o31_RdWy b31 k31 m31 o32_RdP b32 k32 m32 o33_RdT b33 k33 m33 o34_RdS b34 k34 m34  
  have o54_LTold47:=ok_ltold47 (P:=l.prog) (w:=w) (mg:=mg) (base:=base) F54   m_TurnError q_x_NoText q_u_NoText o47_Read47 b47 k47 m47 o47_Read47B b47 k47 m47  
  have o55_LGood47:=ok_lgood47 (P:=l.prog) (w:=w) (mg:=mg) (base:=base) F55     o52_LDue47 b52 k52 m52 o54_LTold47 b54 k54 m54 o53_LWhichX b53 k53 m53 o43_DSame2 b43 k43 m43  
  have o58_LHold48:=ok_lhold48 (P:=l.prog) (w:=w) (mg:=mg) (base:=base) F58     o55_LGood47 b55 k55 m55 o54_LTold47 b54 k54 m54 o46_ShownB b46 k46 m46 m_range 
  exact ok_law (P:=l.prog) (w:=w) (mg:=mg) (base:=base) F59     o36_Purse90 b36 k36 m36 o57_LAny48 b57 k57 m57 o37_Take b37 k37 m37 o44_ThingB b44 k44 m44 o58_LHold48 b58 k58 m58 o56_LBent46 b56 k56 m56 o45_WrittenB b45 k45 m45 o43_DSame2 b43 k43 m43 o47_Read47 b47 k47 m47 o46_ShownB b46 k46 m46  
theorem walk {l:PySem.W.OpenLaw} {q:Program} {loose:List Str} {XP:(Str->Option Value)->Heap->Prop} {YP:World->Heap->Prop} {d:DefRec} {K:Params->PySem.W.Frag} (hn:l.most=some 63) (hdf:d.params.defaults=[])
    (hY:∀ (w:World) (h:Heap),YP w h->(K w.params).In h)
    (F:∀ (w:World) (mg:Str->Option Value) (fa:Addr) (h:Heap),(K w.params).In h->h.Ns mainGlobals mg->mg d.name=some (.ref fa) ->
      ∃ fd:FuncData,(∀ (s:Shared) (u:Value),BindsTo s fd ⟨[u],[]⟩ [("_law_script",u)])/\∀ base:Heap,(K w.params).In base->base.Ns mainGlobals mg->FnOk l.prog w (K w.params) mg base CX0 10 fa fd ["_law_script"] (spLaw (K w.params))) :
    PySem.W.WalkO q loose XP YP l.row.toRowW d [] (fun f vs=>PySem.call f vs) :=
  L2.walkB (n:=63) (k:=10) (x := "_law_script") (sp:=spLaw) hn (by decide) hdf ⟨rfl,by decide,by decide⟩ hY F (fun K H a ns hl hb hS=>⟨a,ns,rfl,hS,hl,hb,fun _=>rfl⟩)
end K48
open PySem PySem.W PyProof.Rows
namespace K48
noncomputable def vw:PySem.Program:={ PySem.Challenge.pw_hangrings_k48_whole_texts with main:={ PySem.Challenge.pw_hangrings_k48_whole_texts.main with body:=(PySem.Challenge.pw_hangrings_k48_whole_texts.main.body.zipIdx.filter fun x => !([0,13,15,35].contains x.2)).map (·.1) } }
noncomputable def hRun (T:PySem.W.BT) (w:PySem.World) (os:PySem.OsState):Option PySem.W.SharedT:=TopT.goes PySem.Challenge.pw_hangrings_k48_whole_texts 20000 T w os
noncomputable def hA (h0:PySem.Heap) (s:PySem.W.SharedT):Bool:=PySem.W.staticsOk (PySem.importedModules PySem.Challenge.pw_hangrings_k48_whole_texts.main.body) h0 s.abs.heap && PySem.W.namesBound PySem.Challenge.pw_hangrings_k48_whole_texts s.abs.heap && PySem.W.gensDone s.abs && PySem.W.laidKept h0 s.abs.heap
noncomputable def hB (s:PySem.W.SharedT):=PySem.W.openSeen vw [] (PySem.importedModules PySem.Challenge.pw_hangrings_k48_whole_texts.main.body) (fun s=>PySem.W.xlAt vw [] s && PySem.W.recOk [] s) true s.abs
noncomputable def hG:=PySem.W.openGood vw []
end K48
lay_quick K48.hRun K48.hA K48.hB K48.hG
theorem K48.lookA:∀ w os,(PySem.W.Fast.tw17453034709988286617 (TopT.bt w.params) w os).map (K48.hA (PySem.W.boot_heap w.params))=some true:=by
  rw [PySem.W.Fast.te8785956554560736467]
  refine TopT.byR "special-get-raises" ?_ ?_ <;> (intro w os;kernel_rfl)
theorem K48.lookB:∀ w os,(PySem.W.Fast.tw17453034709988286617 (TopT.bt w.params) w os).map K48.hB=some K48.hG:=by
  rw [PySem.W.Fast.te726977519150299995,PySem.W.Fast.te15242352916416788058]
  refine TopT.byR "special-get-raises" ?_ ?_ <;> (intro w os;kernel_rfl)
local macro_rules | `(tactic| o_head $H) => `(tactic| (refine PySem.W.holds_open (q := K48.vw) (loose := []) (Xt := fun s => PySem.W.xlAt K48.vw [] s && PySem.W.recOk [] s) (XP := PySem.W.XL K48.vw []) (Yf := PySem.W.Hook.obs $H) (Ya := PySem.W.Hook.val $H) (YP := PySem.W.Hook.says $H) (N := 20000) ?hl (PySem.W.Hook.of $H) (PySem.W.Hook.keeps $H) (fun s e => PySem.W.xl_of s (Bool.and_eq_true_iff.mp e).1) PySem.W.XL.keeps (by rfl) (by rfl) (by rfl) (fun s e => PySem.W.recFacts_of (Bool.and_eq_true_iff.mp e).2) (by rfl) (by first | assumption | decide +kernel) (by decide +kernel) ⟨rfl, rfl, rfl, rfl, rfl, by decide +kernel⟩ ?hw ?hc))
set_option maxRecDepth 100000 in
set_option maxHeartbeats 0 in
theorem PySem.Challenge.cw_hangrings_k48_whole_texts_holds : PySem.Challenge.rw_hangrings_k48_whole_texts.Holds := by
  w_on;o_law;k_head;(case hl=>exact TopT.leftT 20000 PySem.W.Fast.te17453034709988286617 (by kernel_rfl) (fun s=>by kernel_rfl) rfl rfl K48.lookA K48.lookB (TopT.byR "special-get-raises" (fun w os=>by kernel_rfl) (fun w os=>by kernel_rfl)));(case hw=>w_witness2)
  k_fill
  refine K48.walk (l:=PySem.Challenge.rw_hangrings_k48_whole_texts) rfl rfl (fun w h Y=>PySem.W.kIn_of Y) ?F
  case F =>
    intro w mg fa h KX G hmg
    refine' K48.all_mk KX G hmg ?gTurnError ?gNoTurn ?gNoHanger ?gTooMany ?gNoJoint ?gNoReach ?gNoDeed ?gNoName ?gNoMark ?gNoText ?gNoLine ?gNoKept  ?q_dig ?q_x_NoText ?q_l_NoText ?q_s_NoText ?q_n_NoText_NoTurn ?q_n_NoText_NoHanger ?q_n_NoText_TooMany ?q_n_NoText_NoJoint ?q_n_NoText_NoReach ?q_n_NoText_NoDeed ?q_n_NoText_NoName ?q_n_NoText_NoMark ?q_n_NoText_NoLine ?q_n_NoText_NoKept ?q_v_NoText ?q_t_NoText ?q_u_NoText (L2.DefAt.mk ?a14 ?l14 ?c14 ?k14) (L2.DefAt.mk ?a18 ?l18 ?c18 ?k18) (L2.DefAt.mk ?a19 ?l19 ?c19 ?k19) (L2.DefAt.mk ?a20 ?l20 ?c20 ?k20) (L2.DefAt.mk ?a21 ?l21 ?c21 ?k21) (L2.DefAt.mk ?a22 ?l22 ?c22 ?k22) (L2.DefAt.mk ?a23 ?l23 ?c23 ?k23) (L2.DefAt.mk ?a24 ?l24 ?c24 ?k24) (L2.DefAt.mk ?a25 ?l25 ?c25 ?k25) (L2.DefAt.mk ?a26 ?l26 ?c26 ?k26) (L2.DefAt.mk ?a27 ?l27 ?c27 ?k27) (L2.DefAt.mk ?a28 ?l28 ?c28 ?k28) (L2.DefAt.mk ?a29 ?l29 ?c29 ?k29) (L2.DefAt.mk ?a30 ?l30 ?c30 ?k30) (L2.DefAt.mk ?a31 ?l31 ?c31 ?k31) (L2.DefAt.mk ?a32 ?l32 ?c32 ?k32) (L2.DefAt.mk ?a33 ?l33 ?c33 ?k33) (L2.DefAt.mk ?a34 ?l34 ?c34 ?k34) (L2.DefAt.mk ?a36 ?l36 ?c36 ?k36) (L2.DefAt.mk ?a37 ?l37 ?c37 ?k37) (L2.DefAt.mk ?a38 ?l38 ?c38 ?k38) (L2.DefAt.mk ?a39 ?l39 ?c39 ?k39) (L2.DefAt.mk ?a40 ?l40 ?c40 ?k40) (L2.DefAt.mk ?a42 ?l42 ?c42 ?k42) (L2.DefAt.mk ?a43 ?l43 ?c43 ?k43) (L2.DefAt.mk ?a44 ?l44 ?c44 ?k44) (L2.DefAt.mk ?a45 ?l45 ?c45 ?k45) (L2.DefAt.mk ?a46 ?l46 ?c46 ?k46) (L2.DefAt.mk ?a47 ?l47 ?c47 ?k47) (L2.DefAt.mk ?a48 ?l48 ?c48 ?k48) (L2.DefAt.mk ?a49 ?l49 ?c49 ?k49) (L2.DefAt.mk ?a50 ?l50 ?c50 ?k50) (L2.DefAt.mk ?a51 ?l51 ?c51 ?k51) (L2.DefAt.mk ?a52 ?l52 ?c52 ?k52) (L2.DefAt.mk ?a53 ?l53 ?c53 ?k53) (L2.DefAt.mk ?a54 ?l54 ?c54 ?k54) (L2.DefAt.mk ?a55 ?l55 ?c55 ?k55) (L2.DefAt.mk ?a56 ?l56 ?c56 ?k56) (L2.DefAt.mk ?a57 ?l57 ?c57 ?k57) (L2.DefAt.mk ?a58 ?l58 ?c58 ?k58) (L2.DefAt.mk ?a59 ?l59 ?c59 ?k59) (L2.IntTAt.mk ?tAMOST_FIGURES) (L2.StrTAt.mk ?tAFIGURES) ?z0 ?z1 ?z2 ?z3 ?z4 ?z5 ?z6 ?z7 ?z8 ?z9 ?z10 ?z11
    (case gTurnError=>k_is)
    (case gNoTurn=>k_is)
    (case gNoHanger=>k_is)
    (case gTooMany=>k_is)
    (case gNoJoint=>k_is)
    (case gNoReach=>k_is)
    (case gNoDeed=>k_is)
    (case gNoName=>k_is)
    (case gNoMark=>k_is)
    (case gNoText=>k_is)
    (case gNoLine=>k_is)
    (case gNoKept=>k_is)
    (case q_dig=>first | k_is | kernel_rfl | (unfold L2.DigN;first | k_is | kernel_rfl))
    (case q_x_NoText=>exact ⟨by k_exc,by k_is⟩)
    (case q_l_NoText=>exact ⟨by first | k_is | kernel_rfl,by first | k_is | kernel_rfl,by first | k_is | kernel_rfl,by first | k_is | kernel_rfl,by first | k_is | kernel_rfl,by first | k_is | kernel_rfl,by first | k_is | kernel_rfl,by first | k_is | kernel_rfl⟩)
    (case q_s_NoText=>first | k_is | kernel_rfl)
    (case q_n_NoText_NoTurn=>first | k_is | kernel_rfl)
    (case q_n_NoText_NoHanger=>first | k_is | kernel_rfl)
    (case q_n_NoText_TooMany=>first | k_is | kernel_rfl)
    (case q_n_NoText_NoJoint=>first | k_is | kernel_rfl)
    (case q_n_NoText_NoReach=>first | k_is | kernel_rfl)
    (case q_n_NoText_NoDeed=>first | k_is | kernel_rfl)
    (case q_n_NoText_NoName=>first | k_is | kernel_rfl)
    (case q_n_NoText_NoMark=>first | k_is | kernel_rfl)
    (case q_n_NoText_NoLine=>first | k_is | kernel_rfl)
    (case q_n_NoText_NoKept=>first | k_is | kernel_rfl)
    (case q_v_NoText=>first | k_is | kernel_rfl)
    (case q_t_NoText=>first | k_is | kernel_rfl)
    (case q_u_NoText=>first | k_is | kernel_rfl)
    (case a14=>k_is);(case l14=>k_is);(case c14=>k_is);(case k14=>k_is)
    (case a18=>k_is);(case l18=>k_is);(case c18=>k_is);(case k18=>k_is)
    (case a19=>k_is);(case l19=>k_is);(case c19=>k_is);(case k19=>k_is)
    (case a20=>k_is);(case l20=>k_is);(case c20=>k_is);(case k20=>k_is)
    (case a21=>k_is);(case l21=>k_is);(case c21=>k_is);(case k21=>k_is)
    (case a22=>k_is);(case l22=>k_is);(case c22=>k_is);(case k22=>k_is)
    (case a23=>k_is);(case l23=>k_is);(case c23=>k_is);(case k23=>k_is)
    (case a24=>k_is);(case l24=>k_is);(case c24=>k_is);(case k24=>k_is)
    (case a25=>k_is);(case l25=>k_is);(case c25=>k_is);(case k25=>k_is)
    (case a26=>k_is);(case l26=>k_is);(case c26=>k_is);(case k26=>k_is)
    (case a27=>k_is);(case l27=>k_is);(case c27=>k_is);(case k27=>k_is)
    (case a28=>k_is);(case l28=>k_is);(case c28=>k_is);(case k28=>k_is)
    (case a29=>k_is);(case l29=>k_is);(case c29=>k_is);(case k29=>k_is)
    (case a30=>k_is);(case l30=>k_is);(case c30=>k_is);(case k30=>k_is)
    (case a31=>k_is);(case l31=>k_is);(case c31=>k_is);(case k31=>k_is)
    (case a32=>k_is);(case l32=>k_is);(case c32=>k_is);(case k32=>k_is)
    (case a33=>k_is);(case l33=>k_is);(case c33=>k_is);(case k33=>k_is)
    (case a34=>k_is);(case l34=>k_is);(case c34=>k_is);(case k34=>k_is)
    (case a36=>k_is);(case l36=>k_is);(case c36=>k_is);(case k36=>k_is)
    (case a37=>k_is);(case l37=>k_is);(case c37=>k_is);(case k37=>k_is)
    (case a38=>k_is);(case l38=>k_is);(case c38=>k_is);(case k38=>k_is)
    (case a39=>k_is);(case l39=>k_is);(case c39=>k_is);(case k39=>k_is)
    (case a40=>k_is);(case l40=>k_is);(case c40=>k_is);(case k40=>k_is)
    (case a42=>k_is);(case l42=>k_is);(case c42=>k_is);(case k42=>k_is)
    (case a43=>k_is);(case l43=>k_is);(case c43=>k_is);(case k43=>k_is)
    (case a44=>k_is);(case l44=>k_is);(case c44=>k_is);(case k44=>k_is)
    (case a45=>k_is);(case l45=>k_is);(case c45=>k_is);(case k45=>k_is)
    (case a46=>k_is);(case l46=>k_is);(case c46=>k_is);(case k46=>k_is)
    (case a47=>k_is);(case l47=>k_is);(case c47=>k_is);(case k47=>k_is)
    (case a48=>k_is);(case l48=>k_is);(case c48=>k_is);(case k48=>k_is)
    (case a49=>k_is);(case l49=>k_is);(case c49=>k_is);(case k49=>k_is)
    (case a50=>k_is);(case l50=>k_is);(case c50=>k_is);(case k50=>k_is)
    (case a51=>k_is);(case l51=>k_is);(case c51=>k_is);(case k51=>k_is)
    (case a52=>k_is);(case l52=>k_is);(case c52=>k_is);(case k52=>k_is)
    (case a53=>k_is);(case l53=>k_is);(case c53=>k_is);(case k53=>k_is)
    (case a54=>k_is);(case l54=>k_is);(case c54=>k_is);(case k54=>k_is)
    (case a55=>k_is);(case l55=>k_is);(case c55=>k_is);(case k55=>k_is)
    (case a56=>k_is);(case l56=>k_is);(case c56=>k_is);(case k56=>k_is)
    (case a57=>k_is);(case l57=>k_is);(case c57=>k_is);(case k57=>k_is)
    (case a58=>k_is);(case l58=>k_is);(case c58=>k_is);(case k58=>k_is)
    (case a59=>k_is);(case l59=>k_is);(case c59=>k_is);(case k59=>k_is)
    (case tAMOST_FIGURES=>k_is)
    (case tAFIGURES=>k_is)
    (case z0=>k_is)
    (case z1=>k_is)
    (case z2=>k_is)
    (case z3=>k_is)
    (case z4=>k_is)
    (case z5=>k_is)
    (case z6=>k_is)
    (case z7=>k_is)
    (case z8=>k_is)
    (case z9=>k_is)
    (case z10=>k_is)
    (case z11=>k_is)
#print axioms PySem.Challenge.cw_hangrings_k48_whole_texts_holds
end
