import PyProof.Rows.All
import Wide.All
import OpenK.AllK
import Wide.FinOn
import Lean
import PyProof.EqAt
import PyProof.EqKinds
import PyProof.TupleCall
import KE.KUnpack
import KE.KTab
import KE.LcSums
import KE.KSortTup
import KE.KDictAny
import PyProof.WalkInts
import PyProof.MinMaxWalk
import PyProof.P3In
import KE.KxIndex
import KE.KTryMore
import PyProof.NsDelKeeps
import KE.KIsNot
import KE.KIsAll
import PyProof.ExcArgsOwn
import PyProof.ExcAttrAll.ValueError
import PyProof.StrBlockH
import PySem.Challenge.RW_hangrings_k34_no_hangers
set_option bootstrap.genMatcherCode false
set_option linter.all false
set_option maxRecDepth 100000
set_option Elab.async false
set_option maxHeartbeats 4000000
set_option exponentiation.threshold 200000
section
set_option maxHeartbeats 0
namespace TopT
open PySem PySem.W
noncomputable def topRunT (tb:String->Option Builtin) (p:Program) (w:World) (n₀:Nat) (ann:Option Value):Nat->SharedT->Thread->Option SharedT
  | 0,_,_=>none
  | n + 1, s, t => match through t with
    | true=>some s
    | false=>match stepOk n₀ ann t with
      | false=>none
      | true=>match stepT (denote tb) p w s t with
        | some (s',t')=>topRunT tb p w n₀ ann n s' t'
        | none=>none
theorem topRun_of {tb : String -> Option Builtin} {p : Program} {w : World} {n₀ : Nat} {ann : Option Value} : ∀ {n : Nat} {s s' : SharedT} {t : Thread}, topRunT tb p w n₀ ann n s t = some s' -> topRun tb p w n₀ ann n s.abs t = some s'.abs
  | 0,_,_,_,h=>by cases h
  | n + 1, s, s', t, h => by
    unfold topRunT at h
    unfold topRun
    cases he:through t with
    | true=>rw [he] at h;cases h;rfl
    | false =>
      rw [he] at h
      cases hk:stepOk n₀ ann t with
      | false=>rw [hk] at h;cases h
      | true =>
        rw [hk] at h
        cases hs:stepT (denote tb) p w s t with
        | none=>rw [hs] at h;cases h
        | some r=>obtain ⟨s₂,t₂⟩:=r;rw [hs] at h;rw [stepT_spec hs];exact topRun_of h
noncomputable def ofL:BT->Nat->List Obj->BT
  | t,_,[]=>t
  | t,n,o :: l=>ofL (t.ins n o) (n + 1) l
noncomputable def bt (P:Params):BT:=ofL .nil 0 (boot_heap P).objs.toList
theorem bt_abs (P:Params):absHeap (bt P) 11 {}=boot_heap P:=by kernel_rfl
theorem size0 (P:Params):((boot_heap P).isNs mainGlobals,(boot_heap P).objs.size,(boot_heap P).nsMap mainGlobals "__annotations__")=(true,11,some (.ref 6)):=by kernel_rfl
noncomputable def goes (p:Program) (M:Nat) (T:BT) (w:World) (os:OsState):Option SharedT:=topRunT treeTable p w 11 (some (.ref 6)) M ⟨T,11,{}, #[],{},181,os⟩ (topStub p)
theorem leftT {p q:Program} {loose:List Str} {Xt:Shared->Bool} {α:Type} {Yf:Shared->α} {Ya:World->α} {N:Nat} (M:Nat)
    {R:BT->World->OsState->Option SharedT} (hR:goes p M=R) (e:opening p=plainProg p.main.scope.names) (f:∀ s,fenceModules? p s=some s) (hN:Nat.ble 600 N=true) (le:Nat.ble M N=true)
    (A:∀ w os,(R (bt w.params) w os).map (fun s=>staticsOk (importedModules p.main.body) (boot_heap w.params) s.abs.heap && namesBound p s.abs.heap && gensDone s.abs && laidKept (boot_heap w.params) s.abs.heap)=some true)
    (B:∀ w os,(R (bt w.params) w os).map (fun s=>openSeen q loose (importedModules p.main.body) Xt true s.abs)=some (openGood q loose))
    (C:∀ w os,(R (bt w.params) w os).map (fun s=>Yf s.abs)=some (Ya w)):LeftO p q loose Xt Yf Ya N:=fun w=>by
  subst hR
  obtain ⟨⟨h,gs,d,k,os⟩,e,e'⟩:=Option.map_eq_some_iff.mp (boot_open e hN f w)
  obtain ⟨rfl,rfl,rfl,rfl⟩:h=boot_heap w.params/\gs = #[]/\d=boot_drawn/\k=boot_toks:=by simpa using e'
  obtain ⟨z1,z2,z3⟩:_/\_/\_:=by simpa only [Prod.mk.injEq] using size0 w.params
  obtain ⟨s,hs,l1⟩:=Option.map_eq_some_iff.mp (A w os)
  have b:=B w os;rw [hs] at b
  have c:=C w os;rw [hs] at c
  have r:=topRun_mono (N - M) _ _ _ _ (topRun_of hs)
  rw [show M + (N - M)=N by have:=Nat.le_of_ble_eq_true le;omega] at r
  have r':topRun treeTable p w 11 (some (.ref 6)) N ⟨boot_heap w.params, #[],boot_drawn,boot_toks,os⟩ (topStub p)=some s.abs:=by
    rw [<- bt_abs];exact r
  have t:topFrom treeTable p w N ⟨boot_heap w.params, #[],boot_drawn,boot_toks,os⟩=some s.abs:=by
    unfold topFrom
    dsimp only
    rw [z1,z2,z3,r']
    show (match staticsOk (importedModules p.main.body) (boot_heap w.params) s.abs.heap && namesBound p s.abs.heap && gensDone s.abs && laidKept (boot_heap w.params) s.abs.heap with | true=>_ | false=>_)=_
    rw [l1]
  unfold openEnds
  rw [e]
  show (topFrom treeTable p w N _).map _=_
  rw [t]
  exact congrArg some (Prod.ext (Option.some.inj b) (Option.some.inj c))
theorem byR (row:String) {P:World->OsState->Prop} (hf:∀ (w:World) os,P (w.withFollow row false) os) (ht:∀ (w:World) os,P (w.withFollow row true) os):∀ w os,P w os:=fun w os=>byRow2 row (P:=fun w=>P w os) (fun w=>hf w os) (fun w=>ht w os) w
end TopT
end
section
namespace L2
open PySem PySem.Spec PyProof.Rows
noncomputable abbrev Key:=Sum Int Str
noncomputable def keyIs:Key->Value->Bool
  | .inl k,v=>Value.isInt k v
  | .inr x,v=>Value.isStrOf x v
noncomputable def keyH (w:World):Key->Int
  | .inl k=>hashInt k
  | .inr x=>hashStr w x
theorem keyIs_shape:∀ {k:Key} {v:Value},keyIs k v=true->(∃ i t,k=Sum.inl i/\v=Value.int i t)\/(∃ x t,k=Sum.inr x/\v=Value.str x t)
  | .inl i,v,h=>by
    obtain ⟨t,e⟩:=Value.isInt_shape (k:=i) (v:=v) h
    exact .inl ⟨i,t,rfl,e⟩
  | .inr x,v,h=>by
    obtain ⟨t,e⟩:=Value.isStrOf_shape (x:=x) (v:=v) h
    exact .inr ⟨x,t,rfl,e⟩
theorem key_ll (a b:Int):decide ((Sum.inl a:Key)=Sum.inl b)=(a == b):=by
  by_cases e:a=b
  . subst e;simp
  . have h:¬ (Sum.inl a:Key)=Sum.inl b:=fun q=>e (Sum.inl.inj q)
    rw [decide_eq_false h]
    exact (beq_eq_false_iff_ne.mpr e).symm
theorem key_rr (a b:Str):decide ((Sum.inr a:Key)=Sum.inr b)=decide (a=b):=by
  by_cases e:a=b
  . subst e;simp
  . have h:¬ (Sum.inr a:Key)=Sum.inr b:=fun q=>e (Sum.inr.inj q)
    rw [decide_eq_false h,decide_eq_false e]
theorem key_lr (a:Int) (b:Str):decide ((Sum.inl a:Key)=Sum.inr b)=false:=decide_eq_false (fun q=>nomatch q)
theorem key_rl (a:Str) (b:Int):decide ((Sum.inr a:Key)=Sum.inl b)=false:=decide_eq_false (fun q=>nomatch q)
noncomputable def mixKind (prog:Program) (w:World):PySem.KeyKind prog w Key where
  is:=keyIs
  hash:=keyH w
  inj := fun v a b ha hb => by
    rcases keyIs_shape ha with ⟨i,t,rfl,rfl⟩ | ⟨x,t,rfl,rfl⟩
    . rcases keyIs_shape hb with ⟨j,u,rfl,e⟩ | ⟨y,u,rfl,e⟩
      . injection e with e1 _;rw [e1]
      . exact nomatch e
    . rcases keyIs_shape hb with ⟨j,u,rfl,e⟩ | ⟨y,u,rfl,e⟩
      . exact nomatch e
      . injection e with e1 _;rw [e1]
  byValue:=fun k v h=>by
    rcases keyIs_shape h with ⟨i,t,rfl,rfl⟩ | ⟨x,t,rfl,rfl⟩ <;> rfl
  pyHash:=fun hv h=>by
    rcases keyIs_shape hv with ⟨i,t,rfl,rfl⟩ | ⟨x,t,rfl,rfl⟩
    . exact wpAny_pyHash_int h
    . exact wpAny_pyHash_str h
  eqBool:=fun hu hv h=>by
    rcases keyIs_shape hu with ⟨i,t,rfl,rfl⟩ | ⟨x,t,rfl,rfl⟩
    . rcases keyIs_shape hv with ⟨j,u,rfl,rfl⟩ | ⟨y,u,rfl,rfl⟩
      . rw [key_ll] at h;exact wpAny_eqBool_int h
      . rw [key_lr] at h;exact SeqAt.EqAt.int_str i t y u _ _ _ _ h
    . rcases keyIs_shape hv with ⟨j,u,rfl,rfl⟩ | ⟨y,u,rfl,rfl⟩
      . rw [key_rl] at h;exact SeqAt.EqAt.str_int x t j u _ _ _ _ h
      . rw [key_rr] at h;exact wpAny_eqBool_str h
  «strs» := fun k x t v h=>by
    rcases keyIs_shape h with ⟨i,u,rfl,e⟩ | ⟨y,u,rfl,e⟩
    . exact nomatch e
    . injection e with e1 _
      subst e1
      cases v <;> rfl
end L2
namespace L2
open PySem PySem.Spec PyProof.Rows
inductive V where
  | non | bl (b:Bool) | int (i:Int) | str (x:Str) | byt (b:Array UInt8) | flt (b:UInt64) | ref (a:Addr) | ty (n:String)
  deriving DecidableEq
noncomputable def RelV:V->Value->Prop
  | .non,u=>u=Value.none
  | .bl b,u=>u=Value.bool b
  | .int i,u=>∃ t,u=Value.int i t
  | .str x,u=>∃ t,u=Value.str x t
  | .byt b,u=>∃ t,u=Value.bytes b t
  | .flt b,u=>∃ t,u=Value.float b t
  | .ref a,u=>u=Value.ref a
  | .ty n,u=>u=Value.type n
noncomputable abbrev Vals:List V->List Value->Prop:=Paired RelV
theorem Vals.length {xs:List V} {us:List Value} (r:Vals xs us):xs.length=us.length:=Paired.length r
theorem Vals.get:∀ {xs:List V} {us:List Value} {i:Nat} {x:V},Vals xs us->xs[i]?=some x->∃ u,us[i]?=some u/\RelV x u
  | _,_,_,_,.nil,e=>by simp at e
  | _,_,0,_,.cons r _,e=>by simp at e;subst e;exact ⟨_,rfl,r⟩
  | _,_,i + 1,x,.cons _ t,e=>by
    obtain ⟨u,h1,h2⟩:=Vals.get (i:=i) (x:=x) t (by simpa using e)
    exact ⟨u,by simpa using h1,h2⟩
theorem Vals.set {x:V} {u:Value} (r:RelV x u):∀ {xs:List V} {us:List Value} (i:Nat),Vals xs us->Vals (xs.set i x) (us.set i u)
  | _,_,_,.nil=>.nil
  | _,_,0,.cons _ t=>.cons r t
  | _,_,i + 1,.cons q t=>.cons q (Vals.set r i t)
theorem Vals.append:∀ {xs ys:List V} {us ws:List Value},Vals xs us->Vals ys ws->Vals (xs ++ ys) (us ++ ws)
  | _,_,_,_,.nil,s=>s
  | _,_,_,_,.cons r t,s=>.cons r (Vals.append t s)
theorem Vals.take:∀ {xs:List V} {us:List Value} (n:Nat),Vals xs us->Vals (xs.take n) (us.take n)
  | _,_,0,_=>.nil
  | _,_,_ + 1,.nil=>.nil
  | _,_,n + 1,.cons r t=>.cons r (Vals.take n t)
theorem Vals.drop:∀ {xs:List V} {us:List Value} (n:Nat),Vals xs us->Vals (xs.drop n) (us.drop n)
  | _,_,0,r=>r
  | _,_,_ + 1,.nil=>.nil
  | _,_,n + 1,.cons _ t=>Vals.drop n t
noncomputable def RelO:Option V->Option Value->Prop
  | some v,some u=>RelV v u
  | none,none=>True
  | _,_=>False
noncomputable def KV {κ:Type}:List (κ × V)->List (κ × Value)->Prop:=Paired fun (p:κ × V) (q:κ × Value)=>p.1=q.1/\RelV p.2 q.2
noncomputable def kV:Key->V
  | .inl i=>.int i
  | .inr x=>.str x
inductive HO where
  | lst (xs:List V)
  | tup (xs:List V)
  | dK (kvs:List (Key × V)) | dT (kvs:List (List Key × V))
  | set (S:Int->Bool) (n:Nat)
  | ins (C dx:Addr) (fs:List (Str × V))
  | own (x:Addr)
  | xd (fs:List (Str × V))
  | met (f x:Addr)
  | rng (lo hi:Int)
  | frz (o:Obj) (u:HO)
  | tbl (ps:Array Value)
  | ext (φ:Heap->Prop)
noncomputable abbrev Hp:=Addr->Option HO
noncomputable def upd (H:Hp) (a:Addr) (o:HO):Hp:=fun b=>if b=a then some o else H b
theorem upd_same {H:Hp} {a:Addr} {o:HO}:upd H a o a=some o:=by unfold upd;rw [if_pos rfl]
theorem upd_ne {H:Hp} {a b:Addr} {o:HO} (h:b ≠ a):upd H a o b=H b:=by unfold upd;rw [if_neg h]
theorem ne_of {H:Hp} {a b:Addr} {o u:HO} (h:H a=some o) (h':H b=some u) (d:o ≠ u):a ≠ b:=by
  intro e;subst e;rw [h] at h';exact d (Option.some.inj h')
theorem ne_of_none {H:Hp} {a b:Addr} {o:HO} (h:H a=some o) (h':H b=none):a ≠ b:=by
  intro e;subst e;rw [h] at h';cases h'
section
variable (P:Program) (w:World)
noncomputable def ObjOk (H:Hp) (h:Heap) (a:Addr):HO->Prop
  | .lst xs=>xs.length<=sizeLine/\∃ (its:List Value) (n:Nat),Vals xs its/\h.get? a=some { cls:=.type "list",data:=.seq its.toArray n }
  | .tup xs=>xs.length<=sizeLine/\∃ its:List Value,Vals xs its/\IsTup h a its.toArray
  | .dK kvs=>kvs.length<=sizeLine/\(a == sysModules)=false/\∃ vs,KV kvs vs/\h.DictOf (mixKind P w) a vs
  | .dT kvs=>kvs.length<=sizeLine/\(a == sysModules)=false/\∃ xs:List (List Key × Addr × Value),
      Paired (fun (p:List Key × V) (q:List Key × Addr × Value)=>p.1=q.1/\H q.2.1=some (.tup (p.1.map kV))/\RelV p.2 q.2.2) kvs xs /\
      ∃ o es ep,h.get? a=some o/\o.ExactDict/\o.data = .dict es ep/\es.toList=xs.map (entryOfKey (tupleKind (mixKind P w)))/\(xs.map (·.1)).Nodup
  | .set S n=>h.SetOf (intKind P w) a S n
  | .ins C dx fs=>H dx=some (.own a)/\fs.length<=1000/\dx ≠ a/\h.get? a=some (PySem.W.instObj C dx) /\
      ∃ mA,h.Ns1 dx mA/\(∀ f,RelO (fs.lookup f) (mA f))/\PySem.Within mA (fs.map (·.1))
  | .own _=>∃ o,h.get? a=some o
  | .xd fs=>∃ mA,h.Ns1 a mA/\∀ f,RelO (fs.lookup f) (mA f)
  | .rng lo hi=>∃ t u v,h.get? a=some { cls:=.type "range",data:=.fields #[.int lo t,.int hi u,.int 1 v] }
  | .frz o u=>h.get? a=some o/\ObjOk H h a u
  | .tbl ps=>h.get? a=some { cls:=.none,data:=.fields ps }
  | .met f x=>h.get? a=some (PySem.W.methodObj (.ref f) (.ref x))
  | .ext φ=>φ h/\(∃ o,h.get? a=some o)/\∀ h1 h2:Heap,φ h1->(∀ o,h1.get? a=some o->h2.get? a=some o)->φ h2
noncomputable def HOk (H:Hp) (h:Heap):Prop:=∀ a o,H a=some o->ObjOk P w H h a o
end
section
variable {P:Program} {w:World} {H H':Hp} {h h':Heap} {a:Addr} {o:HO}
theorem ObjOk.lt (x:ObjOk P w H h a o):a < h.objs.size:=by
  cases o with
  | lst xs=>obtain ⟨_,_,_,_,e⟩:=x;exact Heap.lt_size e
  | tup xs=>obtain ⟨_,_,_,p⟩:=x;exact p.lt
  | dK kvs=>obtain ⟨_,_,_,_,o,_,_,e,_⟩:=x;exact Heap.lt_size e
  | dT kvs=>obtain ⟨_,_,_,_,o,_,_,e,_⟩:=x;exact Heap.lt_size e
  | set S n=>obtain ⟨o,_,_,_,e,_⟩:=x;exact Heap.lt_size e
  | ins C dx fs=>obtain ⟨_,_,_,e,_⟩:=x;exact Heap.lt_size e
  | own y=>obtain ⟨_,e⟩:=x;exact Heap.lt_size e
  | xd fs=>obtain ⟨_,⟨_,_,_,e,_⟩,_⟩:=x;exact Heap.lt_size e
  | rng lo hi=>obtain ⟨_,_,_,e⟩:=x;exact Heap.lt_size e
  | frz ob u=>obtain ⟨e,_⟩:=x;exact Heap.lt_size e
  | tbl ps=>exact Heap.lt_size (show h.get? a=some _ from x)
  | met f y=>exact Heap.lt_size (show h.get? a=some _ from x)
  | ext φ=>obtain ⟨_,⟨_,e⟩,_⟩:=x;exact Heap.lt_size e
theorem Paired.mapP {α β:Type} {F G:α->β->Prop}:∀ {l₁:List α} {l₂:List β},Paired F l₁ l₂->(∀ a b,F a b->G a b)->Paired G l₁ l₂
  | _,_,.nil,_=>.nil
  | _,_,.cons r t,f=>.cons (f _ _ r) (Paired.mapP t f)
theorem ObjOk.stay (x:ObjOk P w H h a o) (k:∀ b u,(b=a\/H b=some (.own a))->h.get? b=some u->h'.get? b=some u)
    (ho:∀ b,H b=some (.own a)->H' b=some (.own a)) (ht:∀ b xs,H b=some (.tup xs)->H' b=some (.tup xs)):ObjOk P w H' h' a o:=by
  induction o with
  | lst xs=>obtain ⟨z,its,n,r,e⟩:=x;exact ⟨z,its,n,r,k _ _ (.inl rfl) e⟩
  | tup xs=>obtain ⟨z,its,r,ob,e,c⟩:=x;exact ⟨z,its,r,ob,k _ _ (.inl rfl) e,c⟩
  | dK kvs=>obtain ⟨z,y,vs,r,ob,es,ep,e,c⟩:=x;exact ⟨z,y,vs,r,ob,es,ep,k _ _ (.inl rfl) e,c⟩
  | dT kvs =>
    obtain ⟨z,y,xs,r,ob,es,ep,e,c⟩:=x
    exact ⟨z,y,xs,Paired.mapP r fun p q z=>⟨z.1,ht _ _ z.2.1,z.2.2⟩,ob,es,ep,k _ _ (.inl rfl) e,c⟩
  | set S n=>obtain ⟨ob,es,ep,t,e,c⟩:=x;exact ⟨ob,es,ep,t,k _ _ (.inl rfl) e,c⟩
  | ins C dx fs =>
    obtain ⟨d,z,ne,e,mA,⟨od,es,ep,e2,c⟩,r⟩:=x
    exact ⟨ho _ d,z,ne,k _ _ (.inl rfl) e,mA,⟨od,es,ep,k _ _ (.inr d) e2,c⟩,r⟩
  | own y=>obtain ⟨ob,e⟩:=x;exact ⟨ob,k _ _ (.inl rfl) e⟩
  | xd fs=>obtain ⟨mA,⟨od,es,ep,e,c⟩,r⟩:=x;exact ⟨mA,⟨od,es,ep,k _ _ (.inl rfl) e,c⟩,r⟩
  | rng lo hi=>obtain ⟨t,u,v,e⟩:=x;exact ⟨t,u,v,k _ _ (.inl rfl) e⟩
  | frz ob u ih=>obtain ⟨e,q⟩:=x;exact ⟨k _ _ (.inl rfl) e,ih q⟩
  | tbl ps =>
    have e:h.get? a=some { cls:=.none,data:=.fields ps }:=x
    show h'.get? a=some { cls:=.none,data:=.fields ps }
    exact k a _ (.inl rfl) e
  | met f y =>
    have e:h.get? a=some (PySem.W.methodObj (.ref f) (.ref y)):=x
    show h'.get? a=some (PySem.W.methodObj (.ref f) (.ref y))
    exact k a _ (.inl rfl) e
  | ext φ=>obtain ⟨p,⟨o,e⟩,st⟩:=x;exact ⟨st _ _ p fun o q=>k _ _ (.inl rfl) q,⟨o,k _ _ (.inl rfl) e⟩,st⟩
theorem HOk.lt (x:HOk P w H h) (e:H a=some o):a < h.objs.size:=(x a o e).lt
theorem HOk.fresh (x:HOk P w H h) (e:h.objs.size<=a):H a=none:=by
  cases q:H a with
  | none=>rfl
  | some u=>exact absurd (Nat.lt_of_lt_of_le (x.lt q) e) (Nat.lt_irrefl _)
theorem HOk.kept (x:HOk P w H h) (k:∀ b u,h.get? b=some u->h'.get? b=some u):HOk P w H h':=fun a o e =>
  (x a o e).stay (fun b u _ q=>k b u q) (fun _ q=>q) fun _ _ q=>q
theorem HOk.laid (x:HOk P w H h) (k:∀ b u,h.get? b=some u->h'.get? b=some u) (hp:h.objs.size<=a) (new:ObjOk P w (upd H a o) h' a o):HOk P w (upd H a o) h':=fun b u e=>by
  have hn:=x.fresh hp
  by_cases hb:b=a
  . subst hb;rw [upd_same] at e;cases e;exact new
  . rw [upd_ne hb] at e
    exact (x b u e).stay (fun c v _ q=>k c v q) (fun c q=>by rw [upd_ne (ne_of_none q hn)];exact q) fun c xs q=>by rw [upd_ne (ne_of_none q hn)];exact q
end
noncomputable def Rd (H:Hp) (a:Addr) (u:HO):Prop:=H a=some u\/∃ o,H a=some (.frz o u)
theorem Rd.ok {P:Program} {w:World} {H:Hp} {h:Heap} {a:Addr} {u:HO} (r:Rd H a u) (x:HOk P w H h):ObjOk P w H h a u:=by
  rcases r with r | ⟨o,r⟩
  . exact x a u r
  . obtain ⟨_,q⟩:=x a _ r
    exact q
noncomputable def Mut:Option HO->Prop
  | some (.lst _)=>True
  | some (.dK _)=>True
  | some (.dT _)=>True
  | some (.set _ _)=>True
  | some (.ins _ _ _)=>True
  | some (.ext _)=>True
  | _=>False
section
variable {P:Program} {w:World} {H:Hp} {h h':Heap} {x e:Addr} {o':HO}
theorem HOk.write (ok : HOk P w H h) (mu : Mut (H x)) (he : e = x \/ H e = some (.own x)) (k : ∀ b u, b ≠ e -> h.get? b = some u -> h'.get? b = some u) (heo : ∃ u, h'.get? e = some u)
    (new:ObjOk P w (upd H x o') h' x o'):HOk P w (upd H x o') h':=fun b u q=>by
  have nown:∀ c y,H c=some (.own y)->c ≠ x:=fun c y r z=>by subst z;rw [r] at mu;exact mu
  have ntup:∀ c xs,H c=some (.tup xs)->c ≠ x:=fun c xs r z=>by subst z;rw [r] at mu;exact mu
  by_cases hb:b=x
  . subst hb;rw [upd_same] at q;cases q;exact new
  . rw [upd_ne hb] at q
    by_cases hbe:b=e
    . have q':H b=some (.own x):=by
        rcases he with z | z
        . exact absurd (hbe.trans z) hb
        . rw [hbe];exact z
      rw [q] at q';cases q'
      obtain ⟨v,hv⟩:=heo
      exact ⟨v,by rw [hbe];exact hv⟩
    . refine (ok b u q).stay (fun c v hc r=>k c v ?_ r) (fun c r=>by rw [upd_ne (nown c b r)];exact r) fun c xs r=>by rw [upd_ne (ntup c xs r)];exact r
      rcases hc with rfl | hc
      . exact hbe
      . rintro rfl
        rcases he with z | z
        . exact nown c b hc z
        . rw [hc] at z;cases z;exact hb rfl
end
structure Un (fs ex:List Addr) (H H':Hp) (h h':Heap):Prop where
  keep:∀ b o,h.get? b=some o->H b=none->b ∉ fs->b ∉ ex->h'.get? b=some o
  slot:∀ b o,h.get? b=some o->H b=none->b ∈ fs->b ∉ ex->∃ sl,h'.get? b=some { o with slots:=sl }
  free:∀ b o,h.get? b=some o->H b=none->b ∉ ex->H' b=none
  there:∀ b o,h.get? b=some o->b ∉ ex->∃ o',h'.get? b=some o'
  tups:∀ b xs,H b=some (.tup xs)->H' b=some (.tup xs)
  frzs:∀ b o u,H b=some (.frz o u)->H' b=some (.frz o u)
  tbls:∀ b ps,H b=some (.tbl ps)->∃ more,H' b=some (.tbl (ps ++ more))
section
variable {fs ex:List Addr} {H H1 H2:Hp} {h h1 h2 h':Heap} {a x e:Addr} {o:HO}
theorem Un.any (u:Un fs ex H H1 h h1) {b:Addr} {ob:Obj} (q:h.get? b=some ob) (n:H b=none) (hx:b ∉ ex):∃ sl,h1.get? b=some { ob with slots:=sl }:=by
  by_cases hb:b ∈ fs
  . exact u.slot b ob q n hb hx
  . exact ⟨ob.slots,u.keep b ob q n hb hx⟩
theorem Un.kept (k:∀ b u,h.get? b=some u->h'.get? b=some u):Un fs ex H H h h' :=
  ⟨fun b ob q _ _ _=>k b ob q,fun b ob q _ _ _=>⟨ob.slots,k b ob q⟩,fun _ _ _ n _=>n,fun b ob q _=>⟨ob,k b ob q⟩,fun _ _ q=>q,fun _ _ _ q=>q,fun _ ps q=>⟨#[],by rw [q];simp⟩⟩
theorem Un.refl:Un fs ex H H h h:=Un.kept fun _ _ q=>q
theorem Un.laid (k:∀ b u,h.get? b=some u->h'.get? b=some u) (hp:h.objs.size<=a) (hn:H a=none):Un fs ex H (upd H a o) h h' where
  keep:=fun b u q _ _ _=>k b u q
  slot:=fun b u q _ _ _=>⟨u.slots,k b u q⟩
  free:=fun b u q n _=>by rw [upd_ne (Nat.ne_of_lt (Nat.lt_of_lt_of_le (Heap.lt_size q) hp))];exact n
  there:=fun b u q _=>⟨u,k b u q⟩
  tups:=fun b xs q=>by rw [upd_ne (ne_of_none q hn)];exact q
  frzs:=fun b u xs q=>by rw [upd_ne (ne_of_none q hn)];exact q
  tbls:=fun b ps q=>⟨#[],by rw [upd_ne (ne_of_none q hn),q];simp⟩
theorem Un.write (mu:Mut (H x)) (he:e=x\/H e=some (.own x)) (k:∀ b u,b ≠ e->h.get? b=some u->h'.get? b=some u) (heo:∃ u,h'.get? e=some u):Un fs ex H (upd H x o) h h':=by
  have hx:∀ b,H b=none->b ≠ x:=fun b n z=>by subst z;rw [n] at mu;exact mu
  have hb:∀ b,H b=none->b ≠ e:=fun b n z=>by
    subst z
    rcases he with r | r
    . exact hx b n r
    . rw [n] at r;cases r
  have hm:∀ b u,H b=some u->¬ Mut (some u)->b ≠ x:=fun b u q nm z=>by subst z;rw [q] at mu;exact nm mu
  refine ⟨fun b u q n _ _=>k b u (hb b n) q,fun b u q n _ _=>⟨u.slots,k b u (hb b n) q⟩,fun b u q n _=>by rw [upd_ne (hx b n)];exact n,fun b u q _=>?_,
    fun b xs q=>by rw [upd_ne (hm b _ q fun z=>z)];exact q,fun b u xs q=>by rw [upd_ne (hm b _ q fun z=>z)];exact q,fun b ps q=>⟨#[],by rw [upd_ne (hm b _ q fun z=>z),q];simp⟩⟩
  by_cases hbe:b=e
  . subst hbe;exact heo
  . exact ⟨u,k b u hbe q⟩
end
noncomputable def trk (h:Heap) (H:Hp):List Addr:=(List.range h.objs.size).filter fun a=>(H a).isSome
noncomputable def hidT (h:Heap) (H:Hp):Heap:=PySem.W.hideAll h (trk h H)
theorem hidT_size (h:Heap) (H:Hp):(hidT h H).objs.size=h.objs.size:=PySem.W.hideAll_size _ _
theorem hidT_get {h:Heap} {H:Hp} {b:Addr} {o:Obj} (e:h.get? b=some o) (n:H b=none):(hidT h H).get? b=some o :=
  PySem.W.hideAll_get _ e fun hm=>by
    have q:(H b).isSome=true:=(List.mem_filter.mp hm).2
    rw [n] at q;simp at q
theorem of_hidT {h:Heap} {H:Hp} {b:Addr} {o:Obj} (e:(hidT h H).get? b=some o):h.get? b=some o/\H b=none:=by
  have e':h.get? b=some o:=PySem.W.of_hideAll (trk h H) e
  refine ⟨e',?_⟩
  cases q:H b with
  | none=>rfl
  | some x =>
    have hm:b ∈ trk h H:=List.mem_filter.mpr ⟨List.mem_range.mpr (Heap.lt_size e'),by simp [q]⟩
    have z:(hidT h H).get? b=none:=PySem.W.hideAll_none (trk h H) hm
    rw [z] at e;cases e
noncomputable def allNews (g h:Heap) (L:Addr):List (Addr × Obj):=(List.range h.objs.size).filterMap fun a=>if a=L\/(g.get? a).isSome=true then none else (h.get? a).map fun o=>(a,o)
noncomputable def rest (g h:Heap) (L d:Addr):List (Addr × Obj):=(allNews g h L).filter fun p=>decide (p.1 ≠ d)
end L2
namespace L2
open PySem PySem.Spec PyProof.Rows
structure Mod (K:PySem.W.Frag) (mg:Str->Option Value) (base:Heap):Prop where
  kin:K.In base
  glob:base.Ns mainGlobals mg
  blt:∃ mb,base.Ns builtinsNs mb/\∀ x:Str,x ≠ "__name__" -> mb x=bootBuiltins x
  nolimit:base.NoLimit
structure Cx where
  prog:Program
  w:World
  K:PySem.W.Frag
  mg:Str->Option Value
  base:Heap
  A:Around
  N:List Str
  s₀:Shared
  H₀:Hp
  env:Env
  outer:List Env
  stack:List Env
  ex:List Addr
  fn:Str->Bool
  calm:Bool
  pn:List (Addr × Obj)
  xe:Value->Shared->Prop
noncomputable def frs (l:List Env):List Addr:=l.filterMap (·.frame)
noncomputable abbrev Cx.fs (X:Cx):List Addr:=frs X.outer
noncomputable def Vis (sc:Scope) (x:Str):Prop:=sc.names.lookup x=some .local\/sc.names.lookup x=some .cell\/sc.names.lookup x=some .free
noncomputable def Loc (sc:Scope) (x:Str):Prop:=sc.names.lookup x=some .local\/sc.names.lookup x=some .cell
noncomputable def Look (env:Env) (h:Heap) (m:Str->Option Value) (x:Str) (u:Value):Prop :=
  (env.kindOf x=some .local/\m x=some u)\/((env.kindOf x=some .cell\/env.kindOf x=some .free)/\∃ c,env.cells.lookup x=some c/\h.IsCell c (some u))
structure Cx.Ok (X:Cx):Prop where
  mod:Mod X.K X.mg X.base
  kind:X.env.scope.kind = .function
  glob:X.env.globals=mainGlobals
  blt:X.env.builtins=builtinsNs
  above:X.s₀.heap.objs.size<=X.env.locals
  inj:∀ x y c,X.env.cells.lookup x=some c->X.env.cells.lookup y=some c->x=y
  has:∀ x,(X.env.kindOf x=some .cell\/X.env.kindOf x=some .free)->∃ c,X.env.cells.lookup x=some c
  cab:∀ x c,X.fn x=true->X.env.cells.lookup x=some c->X.s₀.heap.objs.size<=c
  hd:X.calm=true->X.A.handled=none
  frames:X.A.frames=some X.stack
  stk:X.stack=X.outer\/(X.stack=X.env :: X.outer/\X.env.frame=some X.env.locals)
  exf:∀ b ∈ X.ex,b ≠ X.env.locals/\∀ x c,X.env.cells.lookup x=some c->c ≠ b
  bs:∀ b o,X.base.get? b=some o->X.s₀.heap.get? b=some o/\X.H₀ b=none
  bsz:X.base.objs.size<=X.s₀.heap.objs.size
  noex:∀ b o,X.base.get? b=some o->b ∉ X.ex
  exfs:∀ b ∈ X.ex,b ∉ X.fs
  funs:X.s₀.heap.FunFrames X.base X.outer
  frf:∀ b ∈ X.fs,X.H₀ b=none
structure Inv (X:Cx) (pins:List (Addr × Obj)) (σ:List (Option V)) (H:Hp) (s:Shared):Prop where
  ok:X.Ok
  os:s.os=X.s₀.os
  bare:AllBare s.gens
  base:Un X.fs X.ex X.H₀ H X.s₀.heap s.heap
  loc:∃ m,s.heap.Ns X.env.locals m/\∀ (i:Nat) (x:Str) (v:V),X.N[i]?=some x->σ[i]?=some (some v)->Vis X.env.scope x->∃ u,RelV v u/\Look X.env s.heap m x u
  cell:∀ x c,X.env.cells.lookup x=some c->∃ v,s.heap.IsCell c v
  free:H X.env.locals=none
  freeC:∀ x c,X.env.cells.lookup x=some c->H c=none
  pin:∀ p ∈ X.pn ++ pins,s.heap.get? p.1=some p.2/\H p.1=none/\p.1 ≠ X.env.locals/\p.1 ∉ X.fs/\∀ v,p.2.data ≠ .cell v
  hok:HOk X.prog X.w H s.heap
  len:σ.length=X.N.length
section
variable {X:Cx} {pins:List (Addr × Obj)} {σ:List (Option V)} {H H':Hp} {s:Shared} {h':Heap}
theorem Cx.Ok.nofr (ok:X.Ok) {b:Addr} {o:Obj} (e:X.base.get? b=some o):b ∉ X.fs:=fun hb=>by
  have:=(ok.funs.mem hb).1
  rw [e] at this;cases this
theorem Inv.bs (I:Inv X pins σ H s):∀ b o,X.base.get? b=some o->s.heap.get? b=some o/\H b=none:=fun b o e =>
  ⟨I.base.keep b o (I.ok.bs b o e).1 (I.ok.bs b o e).2 (I.ok.nofr e) (I.ok.noex b o e),I.base.free b o (I.ok.bs b o e).1 (I.ok.bs b o e).2 (I.ok.noex b o e)⟩
theorem Inv.bk (I:Inv X pins σ H s):∀ b o,X.base.get? b=some o->s.heap.get? b=some o:=fun b o e=>(I.bs b o e).1
theorem Inv.mod (I:Inv X pins σ H s):Mod X.K X.mg X.base:=I.ok.mod
theorem Inv.kIn (I:Inv X pins σ H s):X.K.In s.heap:=I.ok.mod.kin.keeps I.bk
theorem Inv.fr (I:Inv X pins σ H s):∃ m,Fr X.base X.env.locals s.heap m :=
  let ⟨m,hn,_⟩:=I.loc
  ⟨m,hn,I.bk,Nat.le_trans I.ok.bsz I.ok.above⟩
theorem Inv.lt (I:Inv X pins σ H s):X.env.locals < s.heap.objs.size:=let ⟨_,hn,_⟩:=I.loc;hn.lt
theorem Inv.sz (I:Inv X pins σ H s):X.s₀.heap.objs.size<=s.heap.objs.size:=Nat.le_trans I.ok.above (Nat.le_of_lt I.lt)
theorem Inv.nofs (I:Inv X pins σ H s) {a:Addr} (h:s.heap.objs.size<=a):a ∉ X.fs:=fun hb=>by
  obtain ⟨_,o,ho,_⟩:=I.ok.funs.mem hb
  exact absurd (Nat.lt_of_lt_of_le (Heap.lt_size ho) (Nat.le_trans I.sz h)) (Nat.lt_irrefl _)
theorem Inv.cne (I:Inv X pins σ H s):∀ x c,X.env.cells.lookup x=some c->c ≠ X.env.locals:=fun x c e z=>by
  obtain ⟨v,o,ho,hd⟩:=I.cell x c e
  obtain ⟨m,⟨o',es,ep,ho',hd',_⟩,_⟩:=I.loc
  rw [z,ho'] at ho;cases ho;rw [hd'] at hd;cases hd
theorem Inv.funs (I:Inv X pins σ H s):s.heap.FunFrames X.base X.outer:=by
  have all:∀ (l:List Env),(∀ b ∈ frs l,b ∈ X.fs)->X.s₀.heap.FunFrames X.base l->s.heap.FunFrames X.base l:=by
    intro l
    induction l with
    | nil=>intro _ _;trivial
    | cons env r ih =>
      intro hs hl
      obtain ⟨hk,⟨L,o,hf,hn,ho,hd⟩,hr⟩:=hl
      have hL:L ∈ X.fs:=hs L (by unfold frs;rw [List.filterMap_cons,hf];exact List.mem_cons_self)
      obtain ⟨sl,e⟩:=I.base.slot L o ho (I.ok.frf L hL) hL fun z=>I.ok.exfs L z hL
      exact ⟨hk,⟨L,_,hf,hn,e,hd⟩,ih (fun b hb=>hs b (by unfold frs;rw [List.filterMap_cons,hf];exact List.mem_cons_of_mem _ hb)) hr⟩
  exact all X.outer (fun _ hb=>hb) I.ok.funs
theorem Inv.stack (I:Inv X pins σ H s):s.heap.FunFrames X.base X.stack:=by
  rcases I.ok.stk with e | ⟨e,hf⟩
  . rw [e];exact I.funs
  . rw [e]
    obtain ⟨m,hn,_⟩:=I.loc
    refine .cons (by rw [I.ok.kind];decide) hf hn ?_ I.funs
    exact Heap.get?_none_of_le (Nat.le_trans I.ok.bsz I.ok.above)
theorem Inv.stkSub (I:Inv X pins σ H s):∀ b ∈ frs X.stack,b ∈ X.env.locals :: X.fs:=fun b hb=>by
  rcases I.ok.stk with e | ⟨e,hf⟩
  . rw [e] at hb;exact List.mem_cons_of_mem _ hb
  . rw [e] at hb
    unfold frs at hb
    rw [List.filterMap_cons,hf] at hb
    exact hb
theorem Inv.stkFree (I:Inv X pins σ H s):∀ b ∈ frs X.stack,H b=none:=fun b hb=>by
  rcases List.mem_cons.mp (I.stkSub b hb) with e | hb
  . rw [e];exact I.free
  . obtain ⟨_,o,ho,_⟩:=I.ok.funs.mem hb
    exact I.base.free b o ho (I.ok.frf b hb) fun z=>I.ok.exfs b z hb
theorem Inv.step {g':Array GenState} {t':Nat} {d':Drawn} {ch:List Addr} (I:Inv X pins σ H s)
    (hch:∀ b ∈ ch,(b ∈ X.ex\/X.s₀.heap.objs.size<=b)/\b ≠ X.env.locals/\(∀ x c,X.env.cells.lookup x=some c->c ≠ b)/\∀ p ∈ X.pn ++ pins,p.1 ≠ b)
    (keep:∀ b o,b ≠ X.env.locals->b ∉ X.fs->b ∉ ch->s.heap.get? b=some o->H b=none->h'.get? b=some o)
    (slot:∀ b o,b ≠ X.env.locals->b ∈ X.fs->b ∉ ch->s.heap.get? b=some o->H b=none->∃ sl,h'.get? b=some { o with slots:=sl }) (free:∀ b o,b ∉ ch->s.heap.get? b=some o->H b=none->H' b=none)
    (there:∀ b o,b ∉ ch->s.heap.get? b=some o->∃ o',h'.get? b=some o')
    (tups:∀ b xs,H b=some (.tup xs)->H' b=some (.tup xs)) (frzs:∀ b o u,H b=some (.frz o u)->H' b=some (.frz o u)) (tbls:∀ b ps,H b=some (.tbl ps)->∃ more,H' b=some (.tbl (ps ++ more)))
    (ns:∀ m,s.heap.Ns X.env.locals m->h'.Ns X.env.locals m) (hok:HOk X.prog X.w H' h') (hg:AllBare g') :
    Inv X pins σ H' { s with heap:=h',gens:=g',drawn:=d',toks:=t' }:=by
  have neL:∀ b o,X.s₀.heap.get? b=some o->b ≠ X.env.locals:=fun b o e=>Nat.ne_of_lt (Nat.lt_of_lt_of_le (Heap.lt_size e) I.ok.above)
  have neC:∀ b o,X.s₀.heap.get? b=some o->b ∉ X.ex->b ∉ ch:=fun b o e hx hb=>by
    rcases (hch b hb).1 with z | z
    . exact hx z
    . exact absurd (Nat.lt_of_lt_of_le (Heap.lt_size e) z) (Nat.lt_irrefl _)
  have cellK:∀ x c,X.env.cells.lookup x=some c->∀ v,s.heap.IsCell c v->h'.IsCell c v:=fun x c e v ⟨o,ho,hd⟩=>by
    have nch:c ∉ ch:=fun z=>(hch c z).2.2.1 x c e rfl
    by_cases hc:c ∈ X.fs
    . obtain ⟨sl,q⟩:=slot c o (I.cne x c e) hc nch ho (I.freeC x c e)
      exact ⟨_,q,hd⟩
    . exact ⟨o,keep c o (I.cne x c e) hc nch ho (I.freeC x c e),hd⟩
  refine ⟨I.ok,I.os,hg,⟨fun b o e n hb hx=>?_,fun b o e n hb hx=>?_,fun b o e n hx=>?_,fun b o e hx=>?_,fun b xs e=>tups b xs (I.base.tups b xs e),fun b o xs e=>frzs b o xs (I.base.frzs b o xs e),fun b ps e=>?_⟩,?_,fun x c e=>?_,?_,fun x c e=>?_,fun p hp=>?_,hok,I.len⟩
  . exact keep b o (neL b o e) hb (neC b o e hx) (I.base.keep b o e n hb hx) (I.base.free b o e n hx)
  . obtain ⟨sl,e1⟩:=I.base.slot b o e n hb hx
    obtain ⟨sl',e2⟩:=slot b _ (neL b o e) hb (neC b o e hx) e1 (I.base.free b o e n hx)
    exact ⟨sl',e2⟩
  . obtain ⟨o',e1⟩:=I.base.there b o e hx
    exact free b o' (neC b o e hx) e1 (I.base.free b o e n hx)
  . obtain ⟨o',e1⟩:=I.base.there b o e hx
    exact there b o' (neC b o e hx) e1
  . obtain ⟨m1,e1⟩:=I.base.tbls b ps e
    obtain ⟨m2,e2⟩:=tbls b _ e1
    exact ⟨m1 ++ m2,by rw [e2,Array.append_assoc]⟩
  . obtain ⟨m,hn,hl⟩:=I.loc
    refine ⟨m,ns m hn,fun i x v e1 e2 e3=>?_⟩
    obtain ⟨u,r,l⟩:=hl i x v e1 e2 e3
    refine ⟨u,r,?_⟩
    rcases l with l | ⟨k,c,e,z⟩
    . exact .inl l
    . exact .inr ⟨k,c,e,cellK x c e _ z⟩
  . obtain ⟨v,z⟩:=I.cell x c e
    exact ⟨v,cellK x c e v z⟩
  . obtain ⟨m,⟨o,_,_,ho,_⟩,_⟩:=I.loc
    exact free _ o (fun z=>(hch _ z).2.1 rfl) ho I.free
  . obtain ⟨v,o,ho,hd⟩:=I.cell x c e
    exact free c o (fun z=>(hch c z).2.2.1 x c e rfl) ho (I.freeC x c e)
  . obtain ⟨e,n,ne,nf,d⟩:=I.pin p hp
    have nch:p.1 ∉ ch:=fun z=>(hch p.1 z).2.2.2 p hp rfl
    exact ⟨keep p.1 p.2 ne nf nch e n,free p.1 p.2 nch e n,ne,nf,d⟩
theorem Inv.un {t':Nat} (I:Inv X pins σ H s) (u:Un X.fs [] H H' s.heap h') (hok:HOk X.prog X.w H' h'):Inv X pins σ H' { s with heap:=h',toks:=t' }:=by
  obtain ⟨m,⟨o,es,ep,ho,r⟩,_⟩:=id I.loc
  obtain ⟨sl,hL⟩:=u.any ho I.free (by simp)
  exact I.step (g':=s.gens) (d':=s.drawn) (ch:=[]) (fun _ z=>nomatch z) (fun b o _ hb _ e n=>u.keep b o e n hb (by simp)) (fun b o _ hb _ e n=>u.slot b o e n hb (by simp)) (fun b o _ e n=>u.free b o e n (by simp)) (fun b o _ e=>u.there b o e (by simp)) u.tups u.frzs u.tbls (fun m' hm=>by
    obtain ⟨o',es',ep',ho',r'⟩:=hm
    rw [ho] at ho';cases ho'
    exact ⟨_,es',ep',hL,r'⟩) hok I.bare
theorem Inv.call {g':Array GenState} {t':Nat} {d':Drawn} {ch:List Addr} (I:Inv X pins σ H s) (u:Un (frs X.stack) ch H H' s.heap h') (hok:HOk X.prog X.w H' h') (hg:AllBare g')
    (hch:∀ b ∈ ch,(b ∈ X.ex\/X.s₀.heap.objs.size<=b)/\b ≠ X.env.locals/\(∀ x c,X.env.cells.lookup x=some c->c ≠ b)/\∀ p ∈ X.pn ++ pins,p.1 ≠ b) :
    Inv X pins σ H' { s with heap:=h',gens:=g',drawn:=d',toks:=t' }:=by
  obtain ⟨m,⟨o,es,ep,ho,r⟩,_⟩:=id I.loc
  obtain ⟨sl,hL⟩:=u.any ho I.free fun z=>(hch _ z).2.1 rfl
  exact I.step (ch:=ch) hch (fun b o hL hb hc e n=>u.keep b o e n (fun z=>(List.mem_cons.mp (I.stkSub b z)).elim hL hb) hc) (fun b o _ _ hc e n=>u.any e n hc) (fun b o hc e n=>u.free b o e n hc) (fun b o hc e=>u.there b o e hc) u.tups u.frzs u.tbls (fun m' hm=>by
    obtain ⟨o',es',ep',ho',r'⟩:=hm
    rw [ho] at ho';cases ho'
    exact ⟨_,es',ep',hL,r'⟩) hok hg
theorem Inv.turned {t':Nat} {it:Addr} (I:Inv X pins σ H s) (k:∀ b o,b ≠ it->s.heap.get? b=some o->h'.get? b=some o) (hn:H it=none) (hL:it ≠ X.env.locals)
    (h1:it ∈ X.ex\/X.s₀.heap.objs.size<=it) (h2:∀ x c,X.env.cells.lookup x=some c->c ≠ it) (h3:∀ p ∈ X.pn ++ pins,p.1 ≠ it):Inv X pins σ H { s with heap:=h',toks:=t' }:=by
  have nit:∀ b u,H b=some u->b ≠ it:=fun b u e z=>by rw [z,hn] at e;cases e
  refine I.step (g':=s.gens) (d':=s.drawn) (ch:=[it]) (fun b hb=>?_) (fun b o _ _ hc e _=>k b o (fun z=>hc (by simp [z])) e) (fun b o _ _ hc e _=>⟨o.slots,k b o (fun z=>hc (by simp [z])) e⟩) (fun _ _ _ _ n=>n)
    (fun b o hc e=>⟨o,k b o (fun z=>hc (by simp [z])) e⟩) (fun _ _ e=>e) (fun _ _ _ e=>e) (fun b ps e=>⟨#[],by rw [e];simp⟩) (fun m hm=>?_) (fun b u e=>?_) I.bare
  . have e:b=it:=by simpa using hb
    subst e
    exact ⟨h1,hL,h2,h3⟩
  . obtain ⟨o,es,ep,ho,r⟩:=hm
    exact ⟨o,es,ep,k _ o (Ne.symm hL) ho,r⟩
  . refine (I.hok b u e).stay (fun c v hc q=>k c v ?_ q) (fun _ q=>q) fun _ _ q=>q
    rcases hc with z | z
    . rw [z];exact nit b u e
    . exact nit c _ z
theorem Inv.tok (I:Inv X pins σ H s) (t:Nat):Inv X pins σ H { s with toks:=t }:=I.un (h':=s.heap) (t':=t) Un.refl I.hok
theorem Inv.kept {t':Nat} (I:Inv X pins σ H s) (k:∀ b u,s.heap.get? b=some u->h'.get? b=some u):Inv X pins σ H { s with heap:=h',toks:=t' }:=I.un (Un.kept k) (I.hok.kept k)
theorem Inv.laid {a:Addr} {o:HO} {t':Nat} (I:Inv X pins σ H s) (k:∀ b u,s.heap.get? b=some u->h'.get? b=some u) (hp:s.heap.objs.size<=a) (new:ObjOk X.prog X.w (upd H a o) h' a o) :
    Inv X pins σ (upd H a o) { s with heap:=h',toks:=t' }:=I.un (Un.laid k hp (I.hok.fresh hp)) (I.hok.laid k hp new)
theorem Inv.write {x e:Addr} {o:HO} {t':Nat} (I:Inv X pins σ H s) (mu:Mut (H x)) (he:e=x\/H e=some (.own x)) (k:∀ b u,b ≠ e->s.heap.get? b=some u->h'.get? b=some u) (heo:∃ u,h'.get? e=some u)
    (new:ObjOk X.prog X.w (upd H x o) h' x o):Inv X pins σ (upd H x o) { s with heap:=h',toks:=t' }:=I.un (Un.write mu he k heo) (I.hok.write mu he k heo new)
theorem Inv.pins_of {pins':List (Addr × Obj)} (I:Inv X pins σ H s) (h:∀ p ∈ pins',s.heap.get? p.1=some p.2/\H p.1=none/\p.1 ≠ X.env.locals/\p.1 ∉ X.fs/\∀ v,p.2.data ≠ .cell v):Inv X pins' σ H s :=
  ⟨I.ok,I.os,I.bare,I.base,I.loc,I.cell,I.free,I.freeC,fun p hp=>(List.mem_append.mp hp).elim (fun z=>I.pin p (List.mem_append_left _ z)) (h p),I.hok,I.len⟩
theorem nodup_ix {N:List Str} (hN:N.Nodup) {i j:Nat} {x:Str} (a:N[i]?=some x) (b:N[j]?=some x):i=j:=by
  obtain ⟨h1,e1⟩:=List.getElem?_eq_some_iff.mp a
  obtain ⟨h2,e2⟩:=List.getElem?_eq_some_iff.mp b
  exact (List.getElem_inj hN).mp (e1.trans e2.symm)
theorem store_ok2 {M : Model} {A : Around} {E : Value -> Shared -> Prop} {i : Nat} {x : Str} {v : V} {u : Value} {Q : Unit -> Shared -> Prop} (I : Inv X pins σ H s) (hN : X.N.Nodup) (hi : X.N[i]? = some x) (hx : Loc X.env.scope x) (r : RelV v u)
    (h:∀ s',Inv X pins (σ.set i (some v)) H s'->(∃ a,Heap.SameBut a s.heap s'.heap/\(a=X.env.locals\/X.env.cells.lookup x=some a))->Q () s') (hf:X.fn x=true\/X.env.scope.names.lookup x=some .local:=by first | exact .inl rfl | exact .inr rfl | assumption):wpAny M A (storeName X.env x u) Q E s:=by
  obtain ⟨m,hn,hl⟩:=id I.loc
  have hcls:(X.env.scope.kind == .class || (X.env.scope.kind == .module && X.env.locals != X.env.globals))=false:=by rw [I.ok.kind];rfl
  have hiσ:i < σ.length:=by rw [I.len];exact (List.getElem?_eq_some_iff.mp hi).1
  have cne:=I.cne
  have tracked:∀ {a:Addr} {h':Heap},(∃ o,s.heap.get? a=some o/\H a=none)->Heap.SameBut a s.heap h'->HOk X.prog X.w H h':=fun {a h'} ha hs b ob e=>by
    obtain ⟨_,_,hfree⟩:=ha
    refine (I.hok b ob e).stay (fun c w' hc q=>(hs.2 c ?_).trans q) (fun _ q=>q) fun _ _ q=>q
    rintro rfl
    rcases hc with rfl | hc
    . rw [hfree] at e;cases e
    . rw [hfree] at hc;cases hc
  rcases hx with hk | hk
  . refine wpAny_storeName_local hk hn (fun h' hn' hs=>?_) hcls
    obtain ⟨oL,_,_,hoL,_⟩:=id hn
    refine h _ ⟨I.ok,I.os,I.bare,⟨fun b o e n hb hx=>?_,fun b o e n hb hx=>?_,I.base.free,fun b o e hx=>?_,I.base.tups,I.base.frzs,I.base.tbls⟩,⟨_,hn',fun j y v' e1 e2 e3=>?_⟩,fun y c e=>?_,I.free,I.freeC,fun p hp=>?_,tracked ⟨oL,hoL,I.free⟩ hs,by simpa using I.len⟩ ⟨_,hs,.inl rfl⟩
    . exact (hs.2 b (Nat.ne_of_lt (Nat.lt_of_lt_of_le (Heap.lt_size e) I.ok.above))).trans (I.base.keep b o e n hb hx)
    . obtain ⟨sl,e1⟩:=I.base.slot b o e n hb hx
      exact ⟨sl,(hs.2 b (Nat.ne_of_lt (Nat.lt_of_lt_of_le (Heap.lt_size e) I.ok.above))).trans e1⟩
    . obtain ⟨o',e1⟩:=I.base.there b o e hx
      exact ⟨o',(hs.2 b (Nat.ne_of_lt (Nat.lt_of_lt_of_le (Heap.lt_size e) I.ok.above))).trans e1⟩
    . by_cases hj:j=i
      . subst hj
        rw [hi] at e1;cases e1
        rw [List.getElem?_set_self hiσ] at e2
        cases e2
        exact ⟨u,r,.inl ⟨hk,by simp⟩⟩
      . rw [List.getElem?_set_ne (Ne.symm hj)] at e2
        obtain ⟨u',r',q⟩:=hl j y v' e1 e2 e3
        refine ⟨u',r',?_⟩
        rcases q with ⟨k,e⟩ | ⟨k,c,e,z⟩
        . refine .inl ⟨k,?_⟩
          have:y ≠ x:=fun e=>hj (nodup_ix hN e1 (e ▸ hi))
          simp [this,e]
        . exact .inr ⟨k,c,e,z.sameBut hs (cne y c e)⟩
    . obtain ⟨w',z⟩:=I.cell y c e
      exact ⟨w',z.sameBut hs (cne y c e)⟩
    . obtain ⟨e,n,ne,nf,d⟩:=I.pin p hp
      exact ⟨(hs.2 p.1 ne).trans e,n,ne,nf,d⟩
  . have hfn:X.fn x=true:=by
      rcases hf with z | z
      . exact z
      . rw [z] at hk;cases hk
    obtain ⟨c,hc⟩:=I.ok.has x (.inl hk)
    obtain ⟨w',z⟩:=I.cell x c hc
    refine wpAny_storeName_cell I.ok.kind hk hc z (fun h' hc' hs=>?_)
    obtain ⟨oc,hoc,hocd⟩:=id z
    refine h { s with heap:=h' } ⟨I.ok,I.os,I.bare,⟨fun b o e n hb hx=>?_,fun b o e n hb hx=>?_,I.base.free,fun b o e hx=>?_,I.base.tups,I.base.frzs,I.base.tbls⟩,⟨m,hn.sameBut hs (Ne.symm (cne x c hc)),fun j y v' e1 e2 e3=>?_⟩,fun y c' e=>?_,I.free,I.freeC,fun p hp=>?_,tracked ⟨oc,hoc,I.freeC x c hc⟩ hs,by simpa using I.len⟩ ⟨c,hs,.inr hc⟩
    . exact (hs.2 b (Nat.ne_of_lt (Nat.lt_of_lt_of_le (Heap.lt_size e) (I.ok.cab x c hfn hc)))).trans (I.base.keep b o e n hb hx)
    . obtain ⟨sl,e1⟩:=I.base.slot b o e n hb hx
      exact ⟨sl,(hs.2 b (Nat.ne_of_lt (Nat.lt_of_lt_of_le (Heap.lt_size e) (I.ok.cab x c hfn hc)))).trans e1⟩
    . obtain ⟨o',e1⟩:=I.base.there b o e hx
      exact ⟨o',(hs.2 b (Nat.ne_of_lt (Nat.lt_of_lt_of_le (Heap.lt_size e) (I.ok.cab x c hfn hc)))).trans e1⟩
    . by_cases hj:j=i
      . subst hj
        rw [hi] at e1;cases e1
        rw [List.getElem?_set_self hiσ] at e2
        cases e2
        exact ⟨u,r,.inr ⟨.inl hk,c,hc,hc'⟩⟩
      . rw [List.getElem?_set_ne (Ne.symm hj)] at e2
        obtain ⟨u',r',q⟩:=hl j y v' e1 e2 e3
        refine ⟨u',r',?_⟩
        rcases q with q | ⟨k,c',e,z'⟩
        . exact .inl q
        . refine .inr ⟨k,c',e,z'.sameBut hs ?_⟩
          rintro rfl
          exact hj (nodup_ix hN e1 (I.ok.inj _ _ _ e hc ▸ hi))
    . by_cases hcc:c'=c
      . subst hcc;exact ⟨_,hc'⟩
      . obtain ⟨w2,z2⟩:=I.cell y c' e
        exact ⟨w2,z2.sameBut hs hcc⟩
    . obtain ⟨e,n,ne,nf,d⟩:=I.pin p hp
      refine ⟨(hs.2 p.1 ?_).trans e,n,ne,nf,d⟩
      intro q
      rw [q,hoc] at e
      have q':oc=p.2:=Option.some.inj e
      exact d w' (by rw [<- q'];exact hocd)
theorem store_ok {M:Model} {A:Around} {E:Value->Shared->Prop} {i:Nat} {x:Str} {v:V} {u:Value} {Q:Unit->Shared->Prop} (I:Inv X pins σ H s) (hN:X.N.Nodup) (hi:X.N[i]?=some x) (hx:Loc X.env.scope x) (r:RelV v u)
    (h:∀ s',Inv X pins (σ.set i (some v)) H s'->Q () s') (hf:X.fn x=true\/X.env.scope.names.lookup x=some .local:=by first | exact .inl rfl | exact .inr rfl | assumption):wpAny M A (storeName X.env x u) Q E s :=
  store_ok2 I hN hi hx r (fun s' I' _=>h s' I') hf
theorem Inv.call' {s':Shared} {ch:List Addr} (I:Inv X pins σ H s) (ho:s'.os=s.os) (u:Un (frs X.stack) ch H H' s.heap s'.heap) (hok:HOk X.prog X.w H' s'.heap) (hg:AllBare s'.gens)
    (hch:∀ b ∈ ch,(b ∈ X.ex\/X.s₀.heap.objs.size<=b)/\b ≠ X.env.locals/\(∀ x c,X.env.cells.lookup x=some c->c ≠ b)/\∀ p ∈ X.pn ++ pins,p.1 ≠ b):Inv X pins σ H' s':=by
  obtain ⟨h',g',d',t',o'⟩:=s'
  have e:o'=s.os:=ho
  subst e
  exact I.call (g':=g') (t':=t') (d':=d') u hok hg hch
end
noncomputable abbrev XK:=Value->Option Addr->Hp->Prop
noncomputable abbrev St:=List (Option V)
noncomputable abbrev VK:=V->Hp->Prop
noncomputable abbrev TE:=St->Hp->VK->Prop
noncomputable abbrev TT:=St->Hp->(Bool->Hp->Prop)->Prop
noncomputable abbrev TA:=St->Hp->(List V->Hp->Prop)->Prop
structure Ends where
  nx:St->Hp->Prop
  rt:VK
  bk:St->Hp->Prop:=fun _ _=>False
  ct:St->Hp->Prop:=fun _ _=>False
noncomputable abbrev TS:=Ends->St->Hp->Prop
noncomputable def EP (X:Cx) (pins:List (Addr × Obj)) (σ:St) (Q:VK) (u:Value) (s':Shared):Prop:=∃ v H',Inv X pins σ H' s'/\RelV v u/\Q v H'
noncomputable def TP (X:Cx) (pins:List (Addr × Obj)) (σ:St) (Q:Bool->Hp->Prop) (b:Bool) (s':Shared):Prop:=∃ H',Inv X pins σ H' s'/\Q b H'
noncomputable def AP (X:Cx) (pins:List (Addr × Obj)) (σ:St) (Q:List V->Hp->Prop) (us:List Value) (s':Shared):Prop:=∃ vs H',Inv X pins σ H' s'/\Vals vs us/\Q vs H'
noncomputable def SP (X:Cx) (pins:List (Addr × Obj)) (D:Ends) (f:Flow) (s':Shared):Prop :=
  match f with
  | .next=>∃ σ' H',Inv X pins σ' H' s'/\D.nx σ' H'
  | .brk=>∃ σ' H',Inv X pins σ' H' s'/\D.bk σ' H'
  | .cont=>∃ σ' H',Inv X pins σ' H' s'/\D.ct σ' H'
  | .ret u=>∃ v σ' H',Inv X pins σ' H' s'/\RelV v u/\D.rt v H'
noncomputable def PE (X:Cx) (e:Expr) (t:TE):Prop :=
  ∀ (pins:List (Addr × Obj)) (s:Shared) (σ:St) (H:Hp) (Q:VK),Inv X pins σ H s->t σ H Q->wpAny (model X.prog X.w) X.A (eval e X.env) (EP X pins σ Q) X.xe s
noncomputable def PT (X:Cx) (e:Expr) (t:TT):Prop :=
  ∀ (pins:List (Addr × Obj)) (s:Shared) (σ:St) (H:Hp) (Q:Bool->Hp->Prop),Inv X pins σ H s->t σ H Q->wpAny (model X.prog X.w) X.A (isTrue e X.env (eval e X.env)) (TP X pins σ Q) X.xe s
noncomputable def PW (X:Cx) (e:Expr) (t:TT):Prop :=
  ∀ (whole:Sem Value) (pins:List (Addr × Obj)) (s:Shared) (σ:St) (H:Hp) (Q:Bool->Hp->Prop),Inv X pins σ H s->t σ H Q->wpAny (model X.prog X.w) X.A (isTrue e X.env whole) (TP X pins σ Q) X.xe s
theorem PW.pt {X:Cx} {e:Expr} {t:TT} (h:PW X e t):PT X e t:=h _
noncomputable def PA (X:Cx) (es:List Expr) (t:TA):Prop :=
  ∀ (pos:Pos) (pins:List (Addr × Obj)) (s:Shared) (σ:St) (H:Hp) (Q:List V->Hp->Prop),Inv X pins σ H s->t σ H Q->wpAny (model X.prog X.w) X.A (spliced (backTo pos (starEach es X.env))) (AP X pins σ Q) X.xe s
noncomputable def PS (X:Cx) (st:Stmt) (t:TS):Prop :=
  ∀ (pins:List (Addr × Obj)) (s:Shared) (σ:St) (H:Hp) (D:Ends),Inv X pins σ H s->t D σ H->wpAny (model X.prog X.w) X.A (exec st X.env) (SP X pins D) X.xe s
noncomputable def PSs (X:Cx) (st:List Stmt) (t:TS):Prop :=
  ∀ (pins:List (Addr × Obj)) (s:Shared) (σ:St) (H:Hp) (D:Ends),Inv X pins σ H s->t D σ H->wpAny (model X.prog X.w) X.A (execs st X.env) (SP X pins D) X.xe s
theorem thn {α:Type} {t:Sem α} {Q Q':α->Shared->Prop} {M:Model} {A:Around} {E:Value->Shared->Prop} {s:Shared} (h:wpAny M A t Q E s) (hQ:∀ a s,Q a s->Q' a s):wpAny M A t Q' E s:=wpAny_mono h hQ fun _ _ x=>x
end L2
namespace L2
open PySem PySem.Spec PyProof.Rows
section
variable {X:Cx}
theorem bin {a b:Expr} {ta tb:TE} (ha:PE X a ta) (hb:PE X b tb) {pins:List (Addr × Obj)} {s:Shared} {σ:St} {H:Hp} {R:V->V->Hp->Prop} (I:Inv X pins σ H s) (h:ta σ H fun x H1=>tb σ H1 fun y H2=>R x y H2)
    {α:Type} {Q:α->Shared->Prop} {f:Value->Value->Sem α}
    (hf:∀ v u s2 x y H2,Inv X pins σ H2 s2->RelV x v->RelV y u->R x y H2->wpAny (model X.prog X.w) X.A (f v u) Q X.xe s2) :
    wpAny (model X.prog X.w) X.A (eval a X.env) (fun v s₁=>wpAny (model X.prog X.w) X.A (eval b X.env) (fun u s₂=>wpAny (model X.prog X.w) X.A (f v u) Q X.xe s₂) X.xe s₁) X.xe s:=by
  refine thn (ha pins s σ H _ I h) fun v s1 ⟨x,H1,I1,r1,q1⟩=>?_
  refine thn (hb pins s1 σ H1 _ I1 q1) fun u s2 ⟨y,H2,I2,r2,q2⟩=>?_
  exact hf v u s2 x y H2 I2 r1 r2 q2
noncomputable def tVar (i:Nat):TE:=fun σ H Q=>∃ v,σ[i]?=some (some v)/\Q v H
noncomputable def tC (v:V):TE:=fun _ H Q=>Q v H
theorem pe_var {i:Nat} {x:Str} {pos:Pos} (hN:X.N[i]?=some x) (hv:Vis X.env.scope x) (hd:(x == ("__debug__" : Str))=false:=by decide) (hcd:(x == ("__classdict__" : Str))=false:=by decide):PE X (.Name x pos) (tVar i):=by
  intro pins s σ H Q I h
  obtain ⟨v,e,h⟩:=h
  obtain ⟨m,hn,hl⟩:=I.loc
  obtain ⟨u,r,l⟩:=hl i x v hN e hv
  have fin:EP X pins σ Q u s:=⟨v,H,I,r,h⟩
  rcases l with ⟨hk,hm⟩ | ⟨hk,c,hc,hcell⟩
  . exact wpAny_Name (wpAny_loadName_local I.ok.kind hk hn hm fin) hd
  . rcases hk with hk | hk
    . exact wpAny_Name (wpAny_loadName_cell I.ok.kind hk hc hcell fin) hd
    . exact wpAny_Name (wpAny_loadName_free I.ok.kind hk hc hcell fin hcd) hd
theorem pe_int {i j pos}:PE X (.Constant (.int i) j pos) (tC (.int i)):=fun _ _ _ H _ I h=>wpAny_Constant_int ⟨.int i,H,I.tok _,⟨_,rfl⟩,h⟩
theorem pe_bl {b j pos}:PE X (.Constant (.bool b) j pos) (tC (.bl b)):=fun _ _ _ H _ I h=>Constant_bool ⟨.bl b,H,I,rfl,h⟩
theorem pe_non {j pos}:PE X (.Constant .none j pos) (tC .non):=fun _ _ _ H _ I h=>Constant_none ⟨.non,H,I,rfl,h⟩
theorem pe_str {x j pos}:PE X (.Constant (.str x) j pos) (tC (.str x)):=fun _ _ _ H _ I h=>Calls.Constant_str ⟨.str x,H,I.tok _,⟨_,rfl⟩,h⟩
noncomputable def Gl (X:Cx) (x:Str):Prop:=X.env.kindOf x=some .globalImplicit
theorem ld_glob {E:Value->Shared->Prop} {pins:List (Addr × Obj)} {s:Shared} {σ:St} {H:Hp} {x:Str} {u:Value} {pos:Pos} {Q:Value->Shared->Prop} (I:Inv X pins σ H s) (hg:Gl X x) (hm:X.mg x=some u) (h:Q u s)
    (hd:(x == ("__debug__" : Str))=false:=by decide):wpAny (model X.prog X.w) X.A (eval (.Name x pos) X.env) Q E s :=
  Calls.Name_function_global I.ok.kind hg (Calls.loadGlobal_global (by rw [I.ok.glob];exact I.mod.glob.keeps I.bk) hm h) hd
theorem ld_blt {E:Value->Shared->Prop} {pins:List (Addr × Obj)} {s:Shared} {σ:St} {H:Hp} {x:Str} {u:Value} {pos:Pos} {Q:Value->Shared->Prop} (I:Inv X pins σ H s) (hg:Gl X x) (hm:X.mg x=none) (hv:bootBuiltins x=some u) (h:Q u s)
    (hn:x ≠ "__name__" := by decide) (hd:(x == ("__debug__" : Str))=false:=by decide):wpAny (model X.prog X.w) X.A (eval (.Name x pos) X.env) Q E s:=by
  obtain ⟨mb,h1,h2⟩:=I.mod.blt
  exact Calls.Name_function_global I.ok.kind hg (Calls.loadGlobal_builtin (by rw [I.ok.glob];exact I.mod.glob.keeps I.bk) hm (by rw [I.ok.blt];exact h1.keeps I.bk) ((h2 x hn).trans hv) h) hd
theorem pe_glob {x:Str} {v:V} {u:Value} {pos:Pos} (hg:Gl X x) (hm:X.mg x=some u) (r:RelV v u) (hd:(x == ("__debug__" : Str))=false:=by decide):PE X (.Name x pos) (tC v) :=
  fun _ _ _ H _ I h=>ld_glob I hg hm ⟨v,H,I,r,h⟩ hd
theorem pe_bltn {x:Str} {v:V} {u:Value} {pos:Pos} (hg:Gl X x) (hm:X.mg x=none) (hv:bootBuiltins x=some u) (r:RelV v u) (hn:x ≠ "__name__" := by decide) (hd:(x == ("__debug__" : Str))=false:=by decide):PE X (.Name x pos) (tC v) :=
  fun _ _ _ H _ I h=>ld_blt I hg hm hv ⟨v,H,I,r,h⟩ hn hd
variable {a b:Expr} {ta tb:TE} {pos:Pos}
noncomputable def PC (X:Cx) (op:CmpOp) (a b:Expr) (t:TE):Prop :=
  ∀ (pins:List (Addr × Obj)) (s:Shared) (σ:St) (H:Hp) (Q:VK),Inv X pins σ H s->t σ H Q ->
    wpAny (model X.prog X.w) X.A (eval a X.env) (fun v s₁=>wpAny (model X.prog X.w) X.A (eval b X.env) (fun u s₂=>wpAny (model X.prog X.w) X.A (compareOp op v u) (EP X pins σ Q) X.xe s₂) X.xe s₁) X.xe s
noncomputable def tB (t:TE):TT:=fun σ H Q=>t σ H fun x H1=>∃ c,x = .bl c/\Q c H1
theorem pt_cmp {op:CmpOp} {t:TE} (h:PC X op a b t) (h1:behindInMarks op b=false:=by first | exact nobehind _ (by decide) (by decide) | rfl):PT X (.Compare a [op] [b] pos) (tB t):=by
  intro pins s σ H Q I hw
  refine wpAny_isTrue_Compare1 (thn (h pins s σ H _ I hw) fun v s1 h1=>thn h1 fun u s2 h2=>thn h2 fun c s3 ⟨x,H1,I1,r1,q1⟩=>?_) h1
  obtain ⟨d,rfl,q⟩:=q1
  cases r1
  exact wpAny_truthy_bool ⟨H1,I1,q⟩
theorem pt_val {e:Expr} {t:TE} (h:PE X e t) (he:∀ whole,isTrue e X.env whole=(do let v <- whole;standAt e.pos;holding [v] (truthy v)):=by intro _;rfl):PT X e (tB t):=by
  intro pins s σ H Q I hw
  refine isTrue_plain (thn (h pins s σ H _ I hw) fun v s1 ⟨x,H1,I1,r1,q1⟩=>?_) (he _)
  obtain ⟨d,rfl,q⟩:=q1
  cases r1
  exact wpAny_truthy_bool ⟨H1,I1,q⟩
variable {tA tB':TT} {rest:List Expr}
noncomputable def tAnd (t u:TT):TT:=fun σ H Q=>t σ H fun c H1=>if c=true then u σ H1 Q else Q false H1
noncomputable def tOr (t u:TT):TT:=fun σ H Q=>t σ H fun c H1=>if c=true then Q true H1 else u σ H1 Q
noncomputable def tNot (t:TT):TT:=fun σ H Q=>t σ H fun c H1=>Q (!c) H1
theorem pw_and1 (ha:PT X a tA):PW X (.BoolOp .And [a] pos) tA:=by
  intro wh pins s σ H Q I h
  refine isTrue_and (thn (ha pins s σ H Q I h) fun c s1 e=>?_)
  cases c with
  | true=>exact isTrue_and_nil e
  | false=>exact e
theorem pw_or1 (ha:PT X a tA):PW X (.BoolOp .Or [a] pos) tA:=by
  intro wh pins s σ H Q I h
  refine isTrue_or (thn (ha pins s σ H Q I h) fun c s1 e=>?_)
  cases c with
  | false=>exact isTrue_or_nil e
  | true=>exact e
theorem pw_and (ha:PT X a tA) (hb:PW X (.BoolOp .And (b :: rest) pos) tB'):PW X (.BoolOp .And (a :: b :: rest) pos) (tAnd tA tB'):=by
  intro wh pins s σ H Q I h
  refine isTrue_and (thn (ha pins s σ H _ I h) fun c s1 ⟨H1,I1,q1⟩=>?_)
  cases c with
  | true=>exact hb wh pins s1 σ H1 Q I1 q1
  | false=>exact ⟨H1,I1,q1⟩
theorem pw_or (ha:PT X a tA) (hb:PW X (.BoolOp .Or (b :: rest) pos) tB'):PW X (.BoolOp .Or (a :: b :: rest) pos) (tOr tA tB'):=by
  intro wh pins s σ H Q I h
  refine isTrue_or (thn (ha pins s σ H _ I h) fun c s1 ⟨H1,I1,q1⟩=>?_)
  cases c with
  | true=>exact ⟨H1,I1,q1⟩
  | false=>exact hb wh pins s1 σ H1 Q I1 q1
theorem pt_not (ha:PT X a tA):PT X (.UnaryOp .Not a pos) (tNot tA):=by
  intro pins s σ H Q I h
  exact isTrue_not (ha pins s σ H (fun c H1=>Q (!c) H1) I h)
noncomputable def tAndV (ta tb:TE):TE:=fun σ H Q=>ta σ H fun x H1=>∃ c,x = .bl c/\if c=true then tb σ H1 Q else Q (.bl false) H1
theorem pe_one {op} {t:TE} (h:PE X a t):PE X (.BoolOp op [a] pos) t:=fun pins s σ H Q I hw=>BoolOp_one (h pins s σ H Q I hw)
theorem pe_and (ha:PE X a ta) (hb:PE X (.BoolOp .And (b :: rest) pos) tb):PE X (.BoolOp .And (a :: b :: rest) pos) (tAndV ta tb):=by
  intro pins s σ H Q I h
  refine BoolOp_and (thn (ha pins s σ H _ I h) fun v s1 ⟨x,H1,I1,r1,q1⟩=>?_)
  obtain ⟨c,rfl,q1⟩:=q1
  cases r1
  refine wpAny_truthy_bool ?_
  cases c with
  | true=>exact hb pins s1 σ H1 Q I1 q1
  | false=>exact ⟨.bl false,H1,I1,rfl,q1⟩
noncomputable def tIf (t:TT) (ta tb:TE):TE:=fun σ H Q=>t σ H fun c H1=>if c=true then ta σ H1 Q else tb σ H1 Q
theorem pe_ifExp {c:Expr} (hc:PT X c tA) (ha:PE X a ta) (hb:PE X b tb):PE X (.IfExp c a b pos) (tIf tA ta tb):=by
  intro pins s σ H Q I h
  refine wpAny_IfExp (thn (hc pins s σ H _ I h) fun d s1 ⟨H1,I1,q1⟩=>?_)
  cases d with
  | true=>exact ha pins s1 σ H1 Q I1 q1
  | false=>exact hb pins s1 σ H1 Q I1 q1
end
end L2
namespace L2
open PySem PySem.Spec PyProof.Rows
noncomputable def SqL (K:PySem.W.Frag) (H:Hp) (a:Addr) (xs:List V):Prop :=
  Rd H a (.lst xs) \/
    ∃ (o:Obj) (its:Array Value) (n:Nat),K.lookup a=some o/\o.cls = .type "list" /\ o.dict=none/\o.data = .seq its n/\its.size<=sizeLine/\Vals xs its.toList
noncomputable def SqT (K:PySem.W.Frag) (H:Hp) (a:Addr) (xs:List V):Prop :=
  Rd H a (.tup xs) \/
    ∃ (o:Obj) (its:Array Value) (n:Nat),K.lookup a=some o/\o.cls = .type "tuple" /\ o.data = .seq its n/\its.size<=sizeLine/\Vals xs its.toList
noncomputable def absV:Value->Option V
  | .none=>some .non
  | .bool b=>some (.bl b)
  | .int i _=>some (.int i)
  | .str x _=>some (.str x)
  | .bytes b _=>some (.byt b)
  | .float b _=>some (.flt b)
  | .ref a=>some (.ref a)
  | .type n=>some (.ty n)
  | _=>none
theorem RelV.abs {x:V} {u:Value} (r:RelV x u):absV u=some x:=by
  cases x with
  | non=>cases r;rfl
  | bl _=>cases r;rfl
  | int _=>obtain ⟨t,rfl⟩:=r;rfl
  | str _=>obtain ⟨t,rfl⟩:=r;rfl
  | byt _=>obtain ⟨t,rfl⟩:=r;rfl
  | flt _=>obtain ⟨t,rfl⟩:=r;rfl
  | ref _=>cases r;rfl
  | ty _=>cases r;rfl
theorem RelV.inj {x y:V} {u:Value} (r:RelV x u) (q:RelV y u):x=y:=Option.some.inj (r.abs.symm.trans q.abs)
theorem Vals.inj:∀ {xs ys:List V} {us:List Value},Vals xs us->Vals ys us->xs=ys
  | _,_,_,.nil,.nil=>rfl
  | _,_,_,.cons r t,.cons r' t'=>by rw [r.inj r',Vals.inj t t']
section
variable {X:Cx} {pins:List (Addr × Obj)} {σ:St} {H:Hp} {s:Shared} {a:Addr} {xs ys:List V}
theorem SqL.of {K:PySem.W.Frag} (h:H a=some (.lst xs)):SqL K H a xs:=.inl (.inl h)
theorem SqT.of {K:PySem.W.Frag} (h:H a=some (.tup xs)):SqT K H a xs:=.inl (.inl h)
theorem Inv.list (I:Inv X pins σ H s) (h:SqL X.K H a xs):∃ its:List Value,Vals xs its/\PlainL s.heap a its.toArray/\xs.length<=sizeLine:=by
  rcases h with h | ⟨o,its,n,hk,hc,hd,hs,hz,r⟩
  . obtain ⟨z,its,n,r,e⟩:=h.ok I.hok
    exact ⟨its,r,⟨_,n,e,rfl,rfl,rfl⟩,z⟩
  . refine ⟨its.toList,r,⟨o,n,I.kIn a o hk,hc,hd,by simpa using hs⟩,?_⟩
    have e:=r.length
    simp only [Array.length_toList] at e
    omega
theorem Inv.tuple (I:Inv X pins σ H s) (h:SqT X.K H a xs):∃ its:List Value,Vals xs its/\IsTup s.heap a its.toArray/\xs.length<=sizeLine:=by
  rcases h with h | ⟨o,its,n,hk,hc,hs,hz,r⟩
  . obtain ⟨z,its,r,p⟩:=h.ok I.hok
    exact ⟨its,r,p,z⟩
  . refine ⟨its.toList,r,⟨o,I.kIn a o hk,hc,n,by simpa using hs⟩,?_⟩
    have e:=r.length
    simp only [Array.length_toList] at e
    omega
theorem Inv.list_inj (I:Inv X pins σ H s) (h:SqL X.K H a xs) (h':SqL X.K H a ys):xs=ys:=by
  obtain ⟨its,r,⟨o,n,e,_,_,d⟩,_⟩:=I.list h
  obtain ⟨its',r',⟨o',n',e',_,_,d'⟩,_⟩:=I.list h'
  rw [e] at e';cases e'
  rw [d] at d'
  injection d' with d1 _
  have:its=its':=by simpa using congrArg Array.toList d1
  subst this
  exact r.inj r'
theorem Inv.tuple_inj (I:Inv X pins σ H s) (h:SqT X.K H a xs) (h':SqT X.K H a ys):xs=ys:=by
  obtain ⟨its,r,⟨o,e,_,n,d⟩,_⟩:=I.tuple h
  obtain ⟨its',r',⟨o',e',_,n',d'⟩,_⟩:=I.tuple h'
  rw [e] at e';cases e'
  rw [d] at d'
  injection d' with d1 _
  have:its=its':=by simpa using congrArg Array.toList d1
  subst this
  exact r.inj r'
end
noncomputable abbrev Cx.wish (X:Cx) (E:Value->Shared->Prop):Cx:={ X with xe:=E }
noncomputable abbrev Cx.nox (X:Cx):Cx:=X.wish fun _ _=>False
theorem Cx.Ok.wish {X:Cx} (ok:X.Ok) (E:Value->Shared->Prop):(X.wish E).Ok :=
  ⟨ok.mod,ok.kind,ok.glob,ok.blt,ok.above,ok.inj,ok.has,ok.cab,ok.hd,ok.frames,ok.stk,ok.exf,ok.bs,ok.bsz,ok.noex,ok.exfs,ok.funs,ok.frf⟩
theorem Cx.Ok.unwish {X:Cx} {E:Value->Shared->Prop} (ok:(X.wish E).Ok):X.Ok :=
  ⟨ok.mod,ok.kind,ok.glob,ok.blt,ok.above,ok.inj,ok.has,ok.cab,ok.hd,ok.frames,ok.stk,ok.exf,ok.bs,ok.bsz,ok.noex,ok.exfs,ok.funs,ok.frf⟩
section
variable {X:Cx} {pins:List (Addr × Obj)} {σ:St} {H:Hp} {s:Shared} {E:Value->Shared->Prop}
theorem Inv.wish (I:Inv X pins σ H s) (E:Value->Shared->Prop):Inv (X.wish E) pins σ H s:=⟨I.ok.wish E,I.os,I.bare,I.base,I.loc,I.cell,I.free,I.freeC,I.pin,I.hok,I.len⟩
theorem Inv.unwish (I:Inv (X.wish E) pins σ H s):Inv X pins σ H s:=⟨I.ok.unwish,I.os,I.bare,I.base,I.loc,I.cell,I.free,I.freeC,I.pin,I.hok,I.len⟩
theorem SP.unwish {D:Ends} {f:Flow} {s':Shared} (h:SP (X.wish E) pins D f s'):SP X pins D f s':=by
  cases f with
  | next=>obtain ⟨σ',H',I,q⟩:=h;exact ⟨σ',H',I.unwish,q⟩
  | brk=>obtain ⟨σ',H',I,q⟩:=h;exact ⟨σ',H',I.unwish,q⟩
  | cont=>obtain ⟨σ',H',I,q⟩:=h;exact ⟨σ',H',I.unwish,q⟩
  | ret u=>obtain ⟨v,σ',H',I,r,q⟩:=h;exact ⟨v,σ',H',I.unwish,r,q⟩
theorem PSs.nox {st:List Stmt} {t:TS} (h:PSs X.nox st t):PSs X st t:=fun pins s σ H D I hw =>
  wpAny_mono (h pins s σ H D (I.wish _) hw) (fun _ _ q=>q.unwish) fun _ _ z=>False.elim z
end
section
variable {X:Cx} {st:Stmt} {rest:List Stmt} {t u:TS} {e:Expr} {te:TE} {pos:Pos}
noncomputable def tNext:TS:=fun D σ H=>D.nx σ H
noncomputable def tSeq (t u:TS):TS:=fun D σ H=>t { D with nx:=u D } σ H
theorem pss_nil:PSs X [] tNext:=fun _ _ σ H _ I h=>wpAny_execs_nil ⟨σ,H,I,h⟩
theorem pss_cons (h1:PS X st t) (h2:PSs X rest u):PSs X (st :: rest) (tSeq t u):=by
  intro pins s σ H D I h
  refine wpAny_execs_cons (thn (h1 pins s σ H { D with nx:=u D } I h) fun f s1 q=>?_)
  cases f with
  | next =>
    obtain ⟨σ',H',I',q⟩:=q
    exact h2 pins s1 σ' H' D I' q
  | ret v=>exact q
  | brk=>exact q
  | cont=>exact q
theorem pss_one (h1:PS X st t):PSs X [st] t:=by
  intro pins s σ H D I h
  refine wpAny_execs_cons (thn (h1 pins s σ H D I h) fun f s1 q=>?_)
  cases f with
  | next=>exact wpAny_execs_nil q
  | ret v=>exact q
  | brk=>exact q
  | cont=>exact q
theorem Inv.quiet {pins:List (Addr × Obj)} {σ:St} {H:Hp} {s:Shared} (I:Inv X pins σ H s):interactive X.env=false:=by simp [interactive,I.ok.kind]
noncomputable def tDrop (te:TE):TS:=fun D σ H=>te σ H fun _ H1=>D.nx σ H1
theorem ps_expr (he:PE X e te) (hs:swapsWith e none pos.line X.env=pure false:=by rfl):PS X (.Expr e pos) (tDrop te):=by
  intro pins s σ H D I h
  exact wpAny_Expr_any (thn (he pins s σ H _ I h) fun v s1 ⟨x,H1,I1,r1,q1⟩=>⟨σ,H1,I1,q1⟩) I.quiet hs
noncomputable def tRet (te:TE):TS:=fun D σ H=>te σ H D.rt
theorem ps_ret (he:PE X e te):PS X (.Return (some e) pos) (tRet te):=by
  intro pins s σ H D I h
  exact wpAny_Return_some (thn (he pins s σ H _ I h) fun v s1 ⟨x,H1,I1,r1,q1⟩=>⟨x,σ,H1,I1,r1,q1⟩)
noncomputable def tIfS (c:TT) (t u:TS):TS:=fun D σ H=>c σ H fun b H1=>if b=true then t D σ H1 else u D σ H1
theorem ps_if {c:Expr} {a b:List Stmt} {tc:TT} (hc:PT X c tc) (ha:PSs X a t) (hb:PSs X b u):PS X (.If c a b pos) (tIfS tc t u):=by
  intro pins s σ H D I h
  refine wpAny_If (thn (hc pins s σ H _ I h) fun d s1 ⟨H1,I1,q1⟩=>?_)
  cases d with
  | true=>exact ha pins s1 σ H1 D I1 q1
  | false=>exact hb pins s1 σ H1 D I1 q1
noncomputable def tNever:TS:=fun _ _ _=>False
theorem ps_never:PS X st tNever:=fun _ _ _ _ _ _ h=>h.elim
end
noncomputable abbrev TG:=V->St->Hp->(St->Hp->Prop)->Prop
noncomputable abbrev TGs:=List V->St->Hp->(St->Hp->Prop)->Prop
noncomputable def PG (X:Cx) (target:Expr) (t:TG):Prop :=
  ∀ (pins:List (Addr × Obj)) (s:Shared) (σ:St) (H:Hp) (v:V) (u:Value) (Q:St->Hp->Prop),Inv X pins σ H s->RelV v u->t v σ H Q ->
    wpAny (model X.prog X.w) X.A (assign target X.env u) (fun _ s'=>∃ σ' H',Inv X pins σ' H' s'/\Q σ' H') X.xe s
noncomputable def PGs (X:Cx) (ts:List Expr) (t:TGs):Prop :=
  ∀ (pins:List (Addr × Obj)) (s:Shared) (σ:St) (H:Hp) (vs:List V) (us:List Value) (Q:St->Hp->Prop),Inv X pins σ H s->Vals vs us->t vs σ H Q ->
    wpAny (model X.prog X.w) X.A (assignInOrder ((assignEach ts X.env).map (·.2)) us) (fun _ s'=>∃ σ' H',Inv X pins σ' H' s'/\Q σ' H') X.xe s
noncomputable abbrev TSet:=V->V->V->Hp->(Hp->Prop)->Prop
noncomputable def PSet (X:Cx) (t:TSet):Prop :=
  ∀ (pins:List (Addr × Obj)) (s:Shared) (σ:St) (H:Hp) (o i v:V) (ov iv u:Value) (Q:Hp->Prop),Inv X pins σ H s->RelV o ov->RelV i iv->RelV v u->t o i v H Q ->
    wpAny (model X.prog X.w) X.A (setItem ov iv u) (fun _ s'=>∃ H',Inv X pins σ H' s'/\Q H') X.xe s
section
variable {X:Cx} {pos:Pos}
noncomputable def gName (i:Nat):TG:=fun v σ H Q=>Q (σ.set i (some v)) H
theorem pg_name {i:Nat} {x:Str} (hN:X.N.Nodup) (hi:X.N[i]?=some x) (hx:Loc X.env.scope x) (hf:X.fn x=true\/X.env.scope.names.lookup x=some .local:=by first | exact .inl rfl | exact .inr rfl | assumption):PG X (.Name x pos) (gName i):=by
  intro pins s σ H v u Q I r h
  exact wpAny_assign_Name (store_ok I hN hi hx r (fun s' I'=>⟨_,H,I',h⟩) hf)
noncomputable def gNil:TGs:=fun vs σ H Q=>vs=[]/\Q σ H
noncomputable def gCons (t:TG) (u:TGs):TGs:=fun vs σ H Q=>∃ v r,vs=v :: r/\t v σ H fun σ' H'=>u r σ' H' Q
theorem pgs_nil:PGs X [] gNil:=by
  intro pins s σ H vs us Q I r h
  obtain ⟨e,h⟩:=h
  subst e
  cases r
  exact assignInOrder_nil ⟨σ,H,I,h⟩
theorem pgs_cons {e:Expr} {es:List Expr} {t:TG} {u:TGs} (h1:PG X e t) (h2:PGs X es u)
    (hs:(assignEach (e :: es) X.env).map (·.2)=assign e X.env :: (assignEach es X.env).map (·.2):=by rfl):PGs X (e :: es) (gCons t u):=by
  intro pins s σ H vs us Q I r h
  obtain ⟨v,vr,e1,h⟩:=h
  subst e1
  cases r with
  | cons r rr =>
    rw [hs]
    refine assignInOrder_cons (thn (h1 pins s σ H _ _ _ I r h) fun _ s1 ⟨σ1,H1,I1,q1⟩=>?_)
    exact h2 pins s1 σ1 H1 _ _ Q I1 rr q1
noncomputable def gTup (K:PySem.W.Frag) (n:Nat) (t:TGs):TG:=fun v σ H Q=>∃ a xs,v = .ref a/\SqT K H a xs/\xs.length=n/\t xs σ H Q
theorem pg_tup {es:List Expr} {k:Nat} {t:TGs} {n:Nat} (hc:X.calm=true) (h:PGs X es t)
    (hn:(assignEach es X.env).length=n:=by rfl) (hst:(assignEach es X.env).findIdx? (·.1)=none:=by rfl):PG X (.Tuple es k pos) (gTup X.K n t):=by
  intro pins s σ H v u Q I r hw
  obtain ⟨a,xs,e1,hq,hl,hw⟩:=hw
  subst e1
  cases r
  obtain ⟨its,rv,ht,hz⟩:=I.tuple hq
  refine assign_Tuple_tuple (I.ok.hd hc) ht (by simp [hn, <- hl,rv.length]) hst fun h' hx=>?_
  have I1:Inv X pins σ H { s with heap:=h' }:=I.kept (t':=s.toks) fun b o e=>hx b o (Nat.ne_of_lt (Heap.lt_size e)) e
  exact h pins _ σ H xs _ Q I1 (by simpa using rv) hw
noncomputable def gSub (to ti:TE) (t:TSet):TG:=fun v σ H Q=>to σ H fun o H1=>ti σ H1 fun i H2=>t o i v H2 fun H3=>Q σ H3
theorem pg_sub {o i:Expr} {to ti:TE} {t:TSet} (ho:PE X o to) (hi:PE X i ti) (hs:PSet X t)
    (ha:∀ v,assign (.Subscript o i pos) X.env v=(do
      let ov <- holding [v] (eval o X.env)
      let iv <- holding [v,ov] (eval i X.env)
      standAt pos
      holding [v,ov,iv] (setItem ov iv v)
      release [v,ov,iv] []):=by intro _;rfl):PG X (.Subscript o i pos) (gSub to ti t):=by
  intro pins s σ H v u Q I r h
  rw [ha]
  refine wpAny_bind (wpAny_holding (thn (ho pins s σ H _ I h) fun ov s1 ⟨x,H1,I1,r1,q1⟩=>?_))
  refine wpAny_bind (wpAny_holding (thn (hi pins s1 σ H1 _ I1 q1) fun iv s2 ⟨y,H2,I2,r2,q2⟩=>?_))
  refine wpAny_bind (wpAny_standAt (wpAny_bind (wpAny_holding (thn (hs pins s2 σ H2 x y v ov iv u _ I2 r1 r2 r q2) fun _ s3 ⟨H3,I3,q3⟩=>?_))))
  exact wpAny_release ⟨σ,H3,I3,q3⟩
noncomputable def tAsg (te:TE) (g:TG):TS:=fun D σ H=>te σ H fun x H1=>g x σ H1 D.nx
theorem ps_asg {tg e:Expr} {te:TE} {g:TG} (he:PE X e te) (hg:PG X tg g) (hs:swapsWithSole [tg] e pos.line X.env=pure false:=by rfl) (hw:swappedStores [tg] e X.env=pure none:=by rfl)
    (h1:(assignEach [tg] X.env).map (·.2)=[assign tg X.env]:=by rfl):PS X (.Assign [tg] e pos) (tAsg te g):=by
  intro pins s σ H D I h
  refine wpAny_Assign_stores (thn (he pins s σ H _ I h) fun v s1 ⟨x,H1,I1,r1,q1⟩=>?_) hs hw
  rw [h1]
  exact thn (hg pins s1 σ H1 x v _ I1 r1 q1) fun _ s2 q=>q
theorem ps_set {i:Nat} {x:Str} {e:Expr} {te:TE} {pos':Pos} (hN:X.N.Nodup) (hi:X.N[i]?=some x) (hx:Loc X.env.scope x) (he:PE X e te) (hs:swapsWith e (some (.Name x pos')) pos.line X.env=pure false:=by rfl) (hf:X.fn x=true\/X.env.scope.names.lookup x=some .local:=by first | exact .inl rfl | exact .inr rfl | assumption) :
    PS X (.Assign [.Name x pos'] e pos) (tAsg te (gName i)):=by
  intro pins s σ H D I h
  refine wpAny_Assign_Name (thn (he pins s σ H _ I h) fun v s1 ⟨y,H1,I1,r1,q1⟩=>?_) hs
  exact store_ok I1 hN hi hx r1 (fun s2 I2=>⟨_,H1,I2,q1⟩) hf
end
section
variable {X:Cx} {pos:Pos}
noncomputable def tWhile (c:TT) (tb:TS):TS:=fun D σ H=>∃ W:Nat->St->Hp->Prop,(∃ m,W m σ H)/\∀ m σ H,W m σ H ->
  c σ H fun b H1=>if b=true then ∃ N:St->Hp->Prop,(∀ σ' H',N σ' H'->∃ m',m' < m/\W m' σ' H')/\tb { D with nx:=N,ct:=N,bk:=D.nx } σ H1 else D.nx σ H1
theorem ps_while {c:Expr} {body:List Stmt} {tc:TT} {tb:TS} (hp:PassesOwn (model X.prog X.w) X.A X.env X.xe) (hc:PT X c tc) (hb:PSs X body tb):PS X (.While c body [] pos) (tWhile tc tb):=by
  intro pins s σ H D I h
  obtain ⟨W,⟨m0,w0⟩,turn⟩:=h
  refine wpAny_While (codeAny_whileLoop (fun n s'=>∃ σ' H',Inv X pins σ' H' s'/\W n σ' H') ?_ m0 ⟨σ,H,I,w0⟩)
  rintro n s1 ⟨σ1,H1,I1,w1⟩
  refine wpAny_passesOwn hp (thn (hc pins s1 σ1 H1 _ I1 (turn n σ1 H1 w1)) fun b s2 ⟨H2,I2,q2⟩=>?_)
  cases b with
  | true =>
    obtain ⟨N,hN,q2⟩:=q2
    rw [if_pos rfl]
    refine wpAny_passesOwn hp (thn (hb pins s2 σ1 H2 _ I2 q2) fun f s3 q3=>?_)
    cases f with
    | next =>
      obtain ⟨σ3,H3,I3,n3⟩:=q3
      obtain ⟨m',hm,w3⟩:=hN σ3 H3 n3
      exact ⟨m',hm,σ3,H3,I3,w3⟩
    | cont =>
      obtain ⟨σ3,H3,I3,n3⟩:=q3
      obtain ⟨m',hm,w3⟩:=hN σ3 H3 n3
      exact ⟨m',hm,σ3,H3,I3,w3⟩
    | brk=>exact q3
    | ret v=>exact q3
  | false =>
    rw [if_neg Bool.false_ne_true]
    exact wpAny_execs_nil ⟨σ1,H2,I2,q2⟩
end
structure It where
  go:Nat->Hp->Prop
  yld:Nat->Hp->V->Hp->Prop
  stop:Nat->Hp->Prop
noncomputable def FpOk (X:Cx) (pins:List (Addr × Obj)) (H:Hp) (b:Addr):Prop :=
  H b=none/\b ≠ X.env.locals/\b ∉ X.fs/\(b ∈ X.ex\/X.s₀.heap.objs.size<=b)/\(∀ x c,X.env.cells.lookup x=some c->c ≠ b)/\∀ p ∈ X.pn ++ pins,p.1 ≠ b
theorem Inv.fpOk {X:Cx} {pins:List (Addr × Obj)} {σ:St} {H H':Hp} {s:Shared} {b:Addr} (I:Inv X pins σ H s) (hb:s.heap.objs.size<=b) (hn:H' b=none):FpOk X pins H' b:=by
  refine ⟨hn,Nat.ne_of_gt (Nat.lt_of_lt_of_le I.lt hb),I.nofs hb,.inr (Nat.le_trans I.sz hb),fun x c e z=>?_,fun p hp z=>?_⟩
  . obtain ⟨v,q⟩:=I.cell x c e
    exact absurd (Nat.lt_of_lt_of_le q.lt (by rw [z];exact hb)) (Nat.lt_irrefl _)
  . exact absurd (Nat.lt_of_lt_of_le (Heap.lt_size (I.pin p hp).1) (by rw [z];exact hb)) (Nat.lt_irrefl _)
structure Turn (P:Program) (w:World) (K:PySem.W.Frag) (tg:Expr) (J:It) (fp:List Addr) (it:Addr) (tn:Nat->Heap->Prop):Prop where
  mem:it ∈ fp
  obj:∀ i h,tn i h->∀ b ∈ fp,∃ o,h.get? b=some o/\∀ v,o.data ≠ .cell v
  keep:∀ i h h',tn i h->(∀ b ∈ fp,∀ o,h.get? b=some o->h'.get? b=some o)->tn i h'
  item:∀ (X:Cx),X.prog=P->X.w=w->X.K=K->X.calm=true->∀ (i:Nat) (pins:List (Addr × Obj)) (s:Shared) (σ:St) (H:Hp) (E:Value->Shared->Prop),Inv X pins σ H s->(∀ b ∈ fp,FpOk X pins H b)->tn i s.heap->J.go i H ->
    wpAny (model P w) X.A (pyNext (.ref it)) (fun r s1=>∃ u,r=some u /\
      wpAny (model P w) X.A (letOwnedTupleGo tg (.ref it) u) (fun _ s2=>∃ x H',Inv X pins σ H' s2/\RelV x u/\J.yld i H x H'/\tn (i + 1) s2.heap/\∀ b ∈ fp,H' b=none) E s1) E s
  done:∀ (X:Cx),X.prog=P->X.w=w->X.K=K->X.calm=true->∀ (i:Nat) (pins:List (Addr × Obj)) (s:Shared) (σ:St) (H:Hp) (E:Value->Shared->Prop),Inv X pins σ H s->(∀ b ∈ fp,FpOk X pins H b)->tn i s.heap->J.stop i H ->
    wpAny (model P w) X.A (pyNext (.ref it)) (fun r s1=>r=none/\Inv X pins σ H s1) E s
  self:∀ (A:Around) (i:Nat) (s:Shared) (Q:Value->Shared->Prop) (E:Value->Shared->Prop),tn i s.heap->Q (.ref it) s->wpAny (model P w) A (pyIter (.ref it)) Q E s
noncomputable abbrev TI:=St->Hp->(It->Hp->Prop)->Prop
noncomputable def PIE (X:Cx) (pins:List (Addr × Obj)) (σ:St) (tg:Expr) (R:It->Hp->Prop) (itv:Value) (s2:Shared):Prop :=
  ∃ (it:Addr) (fp:List Addr) (tn:Nat->Heap->Prop) (J:It) (H':Hp),itv = .ref it/\Inv X pins σ H' s2/\Turn X.prog X.w X.K tg J fp it tn/\tn 0 s2.heap/\(∀ b ∈ fp,FpOk X pins H' b)/\R J H'
noncomputable def PI (X:Cx) (tg iter:Expr) (wi:TI):Prop :=
  ∀ (pins:List (Addr × Obj)) (s:Shared) (σ:St) (H:Hp) (R:It->Hp->Prop),Inv X pins σ H s->wi σ H R ->
    wpAny (model X.prog X.w) X.A (eval iter X.env) (fun v s1=>wpAny (model X.prog X.w) X.A (pyIter v) (PIE X pins σ tg R) X.xe s1) X.xe s
theorem go_of {M : Model} {A : Around} {E : Value -> Shared -> Prop} {s : Shared} {tg : Expr} {it : Addr} {u : Value} {o : Obj} {n : String} {vs : Array Value} {Q : Unit -> Shared -> Prop} (ho : s.heap.get? it = some o) (hc : o.cls = .type n) (hd : o.data = .fields vs)
    (hn:["enumerate","zip","dict_itemiterator","dict_reverseitemiterator","odict_iterator","itertools.zip_longest","itertools.pairwise"].contains n=false) (hQ:Q () s):wpAny M A (letOwnedTupleGo tg (.ref it) u) Q E s:=by
  unfold letOwnedTupleGo
  cases tg <;> first
    | exact wpAny_pure hQ
    | (cases u <;> first
        | exact wpAny_pure hQ
        | (refine wpAny_bind (wpAny_load ho ?_)
           rw [hc,hd]
           show wpAny M A (if (["enumerate","zip","dict_itemiterator","dict_reverseitemiterator","odict_iterator","itertools.zip_longest","itertools.pairwise"].contains n && vs[0]? == some (rawInt _))=true then _ else _) Q E s
           rw [if_neg (by intro h;rw [hn,Bool.false_and] at h;cases h)]
           exact wpAny_pure hQ))
noncomputable def Itl (K:PySem.W.Frag) (a:Addr):It :=
  ⟨fun i H=>∃ xs x,SqL K H a xs/\xs[i]?=some x,fun i H x H'=>H'=H/\∀ xs,SqL K H a xs->xs[i]?=some x,fun i H=>∃ xs,SqL K H a xs/\xs.length<=i⟩
noncomputable def Itt (K:PySem.W.Frag) (a:Addr):It :=
  ⟨fun i H=>∃ xs x,SqT K H a xs/\xs[i]?=some x,fun i H x H'=>H'=H/\∀ xs,SqT K H a xs->xs[i]?=some x,fun i H=>∃ xs,SqT K H a xs/\xs.length<=i⟩
noncomputable def Itr (lo:Int) (n:Nat):It:=⟨fun i _=>i < n,fun i H x H'=>H'=H/\x = .int (lo + i),fun i _=>n<=i⟩
theorem turn_list {P:Program} {w:World} {K:PySem.W.Frag} {tg:Expr} (a it:Addr):Turn P w K tg (Itl K a) [it] it (fun i h=>h.IsListIter it a i) where
  mem:=by simp
  obj:=fun i h st b hb=>by
    have e:b=it:=by simpa using hb
    subst e
    obtain ⟨o,e,c,d⟩:=st
    exact ⟨o,e,fun v z=>by rw [d] at z;cases z⟩
  keep:=fun i h h' st k=>st.at fun o e=>k it (by simp) o e
  item:=by
    intro X hP hw hK hc i pins s σ H E I hf st hg
    subst hP hw hK
    obtain ⟨xs,x,hq,hx⟩:=hg
    obtain ⟨its,rv,p,hz⟩:=I.list hq
    obtain ⟨u,hu,ru⟩:=rv.get hx
    obtain ⟨f0,f1,f2,f3,f4,f5⟩:=hf it (by simp)
    refine wpAny_pyNext_list_item st p.isList (x:=u) (by simpa using hu) fun h' st' sb=>?_
    have I1:Inv X pins σ H { s with heap:=h' }:=I.turned (t':=s.toks) (fun b o hb e=>(sb.2 b hb).trans e) f0 f1 f3 f4 f5
    obtain ⟨o,e,c,d⟩:=id st'
    exact ⟨u,rfl,go_of (s:={ s with heap:=h' }) e c d (by decide) ⟨x,H,I1,ru,⟨rfl,fun ys hy=>by rw [I.list_inj hy hq];exact hx⟩,st',fun b hb=>(hf b hb).1⟩⟩
  done:=by
    intro X hP hw hK hc i pins s σ H E I hf st hg
    subst hP hw hK
    obtain ⟨xs,hq,hx⟩:=hg
    obtain ⟨its,rv,p,hz⟩:=I.list hq
    obtain ⟨f0,f1,f2,f3,f4,f5⟩:=hf it (by simp)
    have hl:=rv.length
    exact wpAny_pyNext_list_end (I.ok.hd hc) st p.isList (by simp;omega) fun h' eb=>⟨rfl,I.turned (t':=s.toks) (fun b o hb e=>eb b o hb e) f0 f1 f3 f4 f5⟩
  self:=fun _ _ _ _ _ st h=>wpAny_pyIter_listiter st h
theorem turn_tuple {P:Program} {w:World} {K:PySem.W.Frag} {tg:Expr} (a it:Addr):Turn P w K tg (Itt K a) [it] it (fun i h=>h.IsTupleIter it a i) where
  mem:=by simp
  obj:=fun i h st b hb=>by
    have e:b=it:=by simpa using hb
    subst e
    obtain ⟨o,e,c,d⟩:=st
    exact ⟨o,e,fun v z=>by rw [d] at z;cases z⟩
  keep:=fun i h h' st k=>st.at fun o e=>k it (by simp) o e
  item:=by
    intro X hP hw hK hc i pins s σ H E I hf st hg
    subst hP hw hK
    obtain ⟨xs,x,hq,hx⟩:=hg
    obtain ⟨its,rv,p,hz⟩:=I.tuple hq
    obtain ⟨u,hu,ru⟩:=rv.get hx
    obtain ⟨f0,f1,f2,f3,f4,f5⟩:=hf it (by simp)
    refine wpAny_pyNext_tuple_item st (show s.heap.IsTuple a its.toArray from p) (x:=u) (by simpa using hu) fun h' st' sb=>?_
    have I1:Inv X pins σ H { s with heap:=h' }:=I.turned (t':=s.toks) (fun b o hb e=>(sb.2 b hb).trans e) f0 f1 f3 f4 f5
    obtain ⟨o,e,c,d⟩:=id st'
    exact ⟨u,rfl,go_of (s:={ s with heap:=h' }) e c d (by decide) ⟨x,H,I1,ru,⟨rfl,fun ys hy=>by rw [I.tuple_inj hy hq];exact hx⟩,st',fun b hb=>(hf b hb).1⟩⟩
  done:=by
    intro X hP hw hK hc i pins s σ H E I hf st hg
    subst hP hw hK
    obtain ⟨xs,hq,hx⟩:=hg
    obtain ⟨its,rv,p,hz⟩:=I.tuple hq
    obtain ⟨f0,f1,f2,f3,f4,f5⟩:=hf it (by simp)
    have hl:=rv.length
    exact wpAny_pyNext_tuple_end (I.ok.hd hc) st (show s.heap.IsTuple a its.toArray from p) (by simp;omega) fun h' eb=>⟨rfl,I.turned (t':=s.toks) (fun b o hb e=>eb b o hb e) f0 f1 f3 f4 f5⟩
  self:=fun _ _ _ _ _ st h=>wpAny_pyIter_tupleiter st h
theorem turn_range {P:Program} {w:World} {K:PySem.W.Frag} {tg:Expr} (it:Addr) (lo:Int) (n:Nat):Turn P w K tg (Itr lo n) [it] it (fun i h=>IsRangeIter h it (lo + (i:Nat) * 1) ((n:Int) - (i:Nat)) 1) where
  mem:=by simp
  obj := fun i h st b hb => by
    have e:b=it:=by simpa using hb
    subst e
    exact ⟨_,st,fun v z=>by
      have z':Data.fields _=Data.cell v:=z
      cases z'⟩
  keep:=fun i h h' st k=>k it (by simp) _ st
  item:=by
    intro X hP hw hK hc i pins s σ H E I hf st hg
    subst hP hw hK
    obtain ⟨f0,f1,f2,f3,f4,f5⟩:=hf it (by simp)
    have W:=Walks.range (prog:=X.prog) (w:=X.w) (I.ok.hd hc) it lo 1 n
    refine W.item i s _ _ hg st fun v h' tk hv st' kk=>?_
    obtain ⟨t,rfl⟩:=hv
    have I1:Inv X pins σ H { s with heap:=h',toks:=tk }:=I.turned (fun b o hb e=>kk b o (by simpa using hb) e) f0 f1 f3 f4 f5
    refine ⟨_,rfl,go_of (s:={ s with heap:=h',toks:=tk }) (n := "range_iterator") st' rfl rfl (by decide) ⟨.int (lo + i),H,I1,⟨t,?_⟩,⟨rfl,rfl⟩,st',fun b hb=>(hf b hb).1⟩⟩
    rw [Int.mul_one]
  done:=by
    intro X hP hw hK hc i pins s σ H E I hf st hg
    subst hP hw hK
    obtain ⟨f0,f1,f2,f3,f4,f5⟩:=hf it (by simp)
    exact wpAny_pyNext_range_end (I.ok.hd hc) st (by have:n<=i:=hg;omega) fun h' eb=>⟨rfl,I.turned (t':=s.toks) (fun b o hb e=>eb b o hb e) f0 f1 f3 f4 f5⟩
  self:=fun _ _ _ _ _ st h=>wpAny_pyIter_rangeiter st h
end L2
namespace L2
open PySem PySem.Spec PyProof.Rows
section
variable {X:Cx} {tg:Expr}
noncomputable def iList (K:PySem.W.Frag) (tl:TE):TI:=fun σ H R=>tl σ H fun x H1=>∃ a,x = .ref a/\(∃ xs,SqL K H1 a xs)/\R (Itl K a) H1
noncomputable def iTup (K:PySem.W.Frag) (tl:TE):TI:=fun σ H R=>tl σ H fun x H1=>∃ a,x = .ref a/\(∃ xs,SqT K H1 a xs)/\R (Itt K a) H1
theorem pi_list {l:Expr} {tl:TE} (hl:PE X l tl):PI X tg l (iList X.K tl):=by
  intro pins s σ H R I h
  refine thn (hl pins s σ H _ I h) fun v s1 ⟨x,H1,I1,r1,q1⟩=>?_
  obtain ⟨a,e,⟨xs,hq⟩,q⟩:=q1
  subst e
  cases r1
  obtain ⟨its,rv,p,hz⟩:=I1.list hq
  refine wpAny_pyIter_list p.isList ?_
  refine ⟨s1.heap.objs.size,[s1.heap.objs.size],_,_,H1,rfl,I1.kept (t':=s1.toks) fun b o e=>Heap.get?_push_of_some _ e,turn_list a _,⟨_,Heap.get?_push_size _ rfl,rfl,rfl⟩,fun b hb=>?_,q⟩
  have e:b=s1.heap.objs.size:=by simpa using hb
  subst e
  exact I1.fpOk (Nat.le_refl _) (I1.hok.fresh (Nat.le_refl _))
theorem pi_tup {l:Expr} {tl:TE} (hl:PE X l tl):PI X tg l (iTup X.K tl):=by
  intro pins s σ H R I h
  refine thn (hl pins s σ H _ I h) fun v s1 ⟨x,H1,I1,r1,q1⟩=>?_
  obtain ⟨a,e,⟨xs,hq⟩,q⟩:=q1
  subst e
  cases r1
  obtain ⟨its,rv,p,hz⟩:=I1.tuple hq
  refine wpAny_pyIter_tuple (show s1.heap.IsTuple a its.toArray from p) ?_
  refine ⟨s1.heap.objs.size,[s1.heap.objs.size],_,_,H1,rfl,I1.kept (t':=s1.toks) fun b o e=>Heap.get?_push_of_some _ e,turn_tuple a _,⟨_,Heap.get?_push_size _ rfl,rfl,rfl⟩,fun b hb=>?_,q⟩
  have e:b=s1.heap.objs.size:=by simpa using hb
  subst e
  exact I1.fpOk (Nat.le_refl _) (I1.hok.fresh (Nat.le_refl _))
theorem range_it {pins:List (Addr × Obj)} {σ:St} {H:Hp} {s:Shared} {R:It->Hp->Prop} {E:Value->Shared->Prop} {lo hi:Int} {t u v:Tok} {tk:Nat} (I:Inv X pins σ H s) (h1 : -(2 ^ 62)<=lo) (h2:lo < 2 ^ 62) (h3 : -(2 ^ 62)<=hi) (h4:hi < 2 ^ 62)
    (q:R (Itr lo (hi - lo).toNat) H):wpAny (model X.prog X.w) X.A (pyIter (.ref s.heap.objs.size)) (PIE X pins σ tg R) E { s with heap:=s.heap.push { cls:=.type "range",data:=.fields #[.int lo t,.int hi u,.int 1 v] },toks:=tk }:=by
  refine wpAny_pyIter_range (IsRange.new ..) (small_one h1 h2 h3 h4) ?_
  have I1:Inv X pins σ H { s with heap:=s.heap.push { cls:=.type "range",data:=.fields #[.int lo t,.int hi u,.int 1 v] },toks:=tk }:=I.kept fun b o e=>Heap.get?_push_of_some _ e
  refine ⟨(s.heap.push { cls:=.type "range",data:=.fields #[.int lo t,.int hi u,.int 1 v] }).objs.size,[(s.heap.push { cls:=.type "range",data:=.fields #[.int lo t,.int hi u,.int 1 v] }).objs.size],_,_,H,rfl,
    I1.kept (t':=tk) fun b o e=>Heap.get?_push_of_some _ e,turn_range _ lo (hi - lo).toNat,?_,fun b hb=>?_,q⟩
  . have e1:lo + ((0:Nat):Int) * 1=lo:=by simp
    have e2:(((hi - lo).toNat:Nat):Int) - ((0:Nat):Int)=Builtin.Range.rangeSize lo hi 1:=by rw [rangeSize_one];split <;> omega
    show IsRangeIter _ _ (lo + ((0:Nat):Int) * 1) ((((hi - lo).toNat:Nat):Int) - ((0:Nat):Int)) 1
    rw [e1,e2]
    exact Heap.get?_push_size _ rfl
  . have e:b=(s.heap.push { cls:=.type "range",data:=.fields #[.int lo t,.int hi u,.int 1 v] }).objs.size:=by simpa using hb
    subst e
    exact I1.fpOk (Nat.le_refl _) (I1.hok.fresh (Nat.le_refl _))
noncomputable def iRng1 (ta:TA):TI:=fun σ H R=>ta σ H fun vs H1=>∃ j:Int,vs=[.int j] /\ -(2 ^ 62)<=j/\j < 2 ^ 62/\R (Itr 0 j.toNat) H1
theorem pi_range1 {a:Expr} {ta:TA} {p pos:Pos} (hg:Gl X "range") (hm:X.mg "range" = none) (ha:PA X [a] ta) (hs:starEach [a] X.env=[(false,eval a X.env)]:=by rfl):PI X tg (.Call (.Name "range" p) [a] [] pos) (iRng1 ta):=by
  intro pins s σ H R I h
  refine Call_ (ld_blt I hg hm boot_range (PyProof.Rows.callWith_type1 (thn (ha pos pins s σ H _ I h) fun us s1 ⟨vs,H1,I1,r1,q1⟩=>?_) hs rfl))
  obtain ⟨j,e,q1,q2,q⟩:=q1
  subst e
  cases r1 with
  | cons r rr =>
    cases rr
    obtain ⟨t,rfl⟩:=r
    exact call_range_1 (range_it I1 (by omega) (by omega) q1 q2 (by simpa using q))
noncomputable def tFor (wi:TI) (g:TG) (tb:TS):TS:=fun D σ H=>wi σ H fun J H1=>∃ W:Nat->Nat->St->Hp->Prop,(∃ m,W 0 m σ H1)/\∀ i m σ H,W i m σ H ->
  (J.stop i H/\D.nx σ H)\/(J.go i H/\∃ N:St->Hp->Prop,(∀ σ' H',N σ' H'->∃ m',m' < m/\W (i + 1) m' σ' H')/\∀ x H',J.yld i H x H'->g x σ H' fun σ2 H2=>tb { D with nx:=N,ct:=N,bk:=D.nx } σ2 H2)
noncomputable def pinsAt (fp:List Addr) (h:Heap):List (Addr × Obj):=fp.filterMap fun b=>(h.get? b).map fun o=>(b,o)
theorem mem_pinsAt {fp:List Addr} {h:Heap} {b:Addr} {o:Obj} (hb:b ∈ fp) (e:h.get? b=some o):(b,o) ∈ pinsAt fp h:=List.mem_filterMap.mpr ⟨b,hb,by rw [e];rfl⟩
theorem of_pinsAt {fp:List Addr} {h:Heap} {p:Addr × Obj} (hp:p ∈ pinsAt fp h):p.1 ∈ fp/\h.get? p.1=some p.2:=by
  obtain ⟨b,hb,e⟩:=List.mem_filterMap.mp hp
  cases q:h.get? b with
  | none=>rw [q] at e;cases e
  | some o =>
    rw [q] at e
    have e':(b,o)=p:=Option.some.inj e
    subst e'
    exact ⟨hb,q⟩
theorem Inv.pinned {pins:List (Addr × Obj)} {σ:St} {H:Hp} {s:Shared} {fp:List Addr} (I:Inv X pins σ H s) (hf:∀ b ∈ fp,FpOk X pins H b) (ho:∀ b ∈ fp,∃ o,s.heap.get? b=some o/\∀ v,o.data ≠ .cell v):Inv X (pins ++ pinsAt fp s.heap) σ H s :=
  I.pins_of fun p hp=>(List.mem_append.mp hp).elim (fun z=>I.pin p (List.mem_append_right _ z)) fun z=>by
    obtain ⟨hb,e⟩:=of_pinsAt z
    obtain ⟨f0,f1,f2,_⟩:=hf p.1 hb
    obtain ⟨o,e',d⟩:=ho p.1 hb
    rw [e] at e';cases e'
    exact ⟨e,f0,f1,f2,d⟩
theorem Inv.unpinned {pins pl:List (Addr × Obj)} {σ:St} {H:Hp} {s:Shared} (I:Inv X (pins ++ pl) σ H s):Inv X pins σ H s:=I.pins_of fun p hp=>I.pin p (List.mem_append_right _ (List.mem_append_left _ hp))
theorem ps_for {iter:Expr} {body:List Stmt} {wi:TI} {g:TG} {tb:TS} {pos:Pos} (hp:PassesOwn (model X.prog X.w) X.A X.env X.xe) (hc:X.calm=true) (hi:PI X tg iter wi) (hg:PG X tg g) (hb:PSs X body tb)
    (hs:∀ x,foldedSetIterable iter X.env x=pure x:=by intro _;rfl):PS X (.For tg iter body [] pos) (tFor wi g tb):=by
  intro pins s σ H D I h
  refine wpAny_For (thn (hi pins s σ H _ I h) fun v s1 h1=>thn h1 fun itv s2 h2=>?_) hs
  obtain ⟨it,fp,tn,J,H2,e,I2,T,st2,f2,W,⟨m0,w0⟩,turn⟩:=h2
  subst e
  have stat:∀ {H':Hp},(∀ b ∈ fp,H' b=none)->∀ b ∈ fp,FpOk X pins H' b:=fun hn b hb=>⟨hn b hb,(f2 b hb).2⟩
  refine codeAny_forLoop_any (fun n s'=>∃ i σ' H',Inv X pins σ' H' s'/\tn i s'.heap/\(∀ b ∈ fp,H' b=none)/\W i n σ' H') ?_ m0 ⟨0,σ,H2,I2,st2,fun b hb=>(f2 b hb).1,w0⟩
  rintro n s3 ⟨i,σ3,H3,I3,st3,fr3,w3⟩
  rcases turn i n σ3 H3 w3 with ⟨stop,qn⟩ | ⟨go,N,hN,step⟩
  . refine wpAny_passesOwn hp (thn (T.done X rfl rfl rfl hc i pins s3 σ3 H3 X.xe I3 (stat fr3) st3 stop) fun r s4 ⟨hr,I4⟩=>?_)
    subst hr
    exact wpAny_execs_nil ⟨σ3,H3,I4,qn⟩
  . refine wpAny_passesOwn hp (thn (T.item X rfl rfl rfl hc i pins s3 σ3 H3 X.xe I3 (stat fr3) st3 go) fun r s4 ⟨u,hr,h4⟩=>?_)
    subst hr
    refine wpAny_passesOwn hp (thn h4 fun _ s5 ⟨x,H5,I5,r5,y5,st5,fr5⟩=>?_)
    have I5':=I5.pinned (stat fr5) (T.obj _ _ st5)
    refine wpAny_passesOwn hp (thn (hg _ s5 σ3 H5 x u _ I5' r5 (step x H5 y5)) fun _ s6 ⟨σ6,H6,I6,q6⟩=>?_)
    refine wpAny_passesOwn hp (thn (hb _ s6 σ6 H6 _ I6 q6) fun f s7 q7=>?_)
    have again:∀ {σ7:St} {H7:Hp},Inv X (pins ++ pinsAt fp s5.heap) σ7 H7 s7->N σ7 H7->∃ m,m < n/\∃ i σ' H',Inv X pins σ' H' s7/\tn i s7.heap/\(∀ b ∈ fp,H' b=none)/\W i m σ' H':=fun {σ7 H7} I7 n7=>by
      obtain ⟨m',hm,w7⟩:=hN σ7 H7 n7
      refine ⟨m',hm,i + 1,σ7,H7,I7.unpinned,T.keep _ _ _ st5 fun b hb o e=>(I7.pin (b,o) (List.mem_append_right _ (List.mem_append_right _ (mem_pinsAt hb e)))).1,fun b hb=>?_,w7⟩
      obtain ⟨o,e,d⟩:=T.obj _ _ st5 b hb
      exact (I7.pin (b,o) (List.mem_append_right _ (List.mem_append_right _ (mem_pinsAt hb e)))).2.1
    cases f with
    | next=>obtain ⟨σ7,H7,I7,n7⟩:=q7;exact again I7 n7
    | cont=>obtain ⟨σ7,H7,I7,n7⟩:=q7;exact again I7 n7
    | brk=>obtain ⟨σ7,H7,I7,q7⟩:=q7;exact ⟨σ7,H7,I7.unpinned,q7⟩
    | ret v=>obtain ⟨x7,σ7,H7,I7,r7,q7⟩:=q7;exact ⟨x7,σ7,H7,I7.unpinned,r7,q7⟩
end
theorem for_list {K:PySem.W.Frag} {a:Addr} {xs:List V} {g:TG} {tb:TS} {D:Ends} {σ:St} {H:Hp} (Pv:Nat->St->Hp->Prop) (h0:Pv 0 σ H) (hl:∀ i σ H,i<=xs.length->Pv i σ H->SqL K H a xs)
    (hs:∀ i x σ H,xs[i]?=some x->Pv i σ H->g x σ H fun σ2 H2=>tb { D with nx:=Pv (i + 1),ct:=Pv (i + 1),bk:=D.nx } σ2 H2) (hd:∀ σ H,Pv xs.length σ H->D.nx σ H) :
    ∃ W:Nat->Nat->St->Hp->Prop,(∃ m,W 0 m σ H)/\∀ i m σ H,W i m σ H ->
      ((Itl K a).stop i H/\D.nx σ H)\/((Itl K a).go i H/\∃ N:St->Hp->Prop,(∀ σ' H',N σ' H'->∃ m',m' < m/\W (i + 1) m' σ' H')/\∀ x H',(Itl K a).yld i H x H'->g x σ H' fun σ2 H2=>tb { D with nx:=N,ct:=N,bk:=D.nx } σ2 H2):=by
  refine ⟨fun i m σ H=>m=xs.length - i/\i<=xs.length/\Pv i σ H,⟨xs.length,by simp,Nat.zero_le _,h0⟩,?_⟩
  rintro i m σ H ⟨rfl,hi,p⟩
  have q:=hl i σ H hi p
  by_cases hlt:i < xs.length
  . refine .inr ⟨⟨xs,xs[i],q,by simp [hlt]⟩,Pv (i + 1),fun σ' H' p'=>⟨xs.length - (i + 1),by omega,rfl,hlt,p'⟩,fun x H' y=>?_⟩
    obtain ⟨e,y⟩:=y
    subst e
    exact hs i x σ _ (y xs q) p
  . have e:i=xs.length:=by omega
    subst e
    exact .inl ⟨⟨xs,q,Nat.le_refl _⟩,hd σ H p⟩
theorem for_tup {K:PySem.W.Frag} {a:Addr} {xs:List V} {g:TG} {tb:TS} {D:Ends} {σ:St} {H:Hp} (Pv:Nat->St->Hp->Prop) (h0:Pv 0 σ H) (hl:∀ i σ H,i<=xs.length->Pv i σ H->SqT K H a xs)
    (hs:∀ i x σ H,xs[i]?=some x->Pv i σ H->g x σ H fun σ2 H2=>tb { D with nx:=Pv (i + 1),ct:=Pv (i + 1),bk:=D.nx } σ2 H2) (hd:∀ σ H,Pv xs.length σ H->D.nx σ H) :
    ∃ W:Nat->Nat->St->Hp->Prop,(∃ m,W 0 m σ H)/\∀ i m σ H,W i m σ H ->
      ((Itt K a).stop i H/\D.nx σ H)\/((Itt K a).go i H/\∃ N:St->Hp->Prop,(∀ σ' H',N σ' H'->∃ m',m' < m/\W (i + 1) m' σ' H')/\∀ x H',(Itt K a).yld i H x H'->g x σ H' fun σ2 H2=>tb { D with nx:=N,ct:=N,bk:=D.nx } σ2 H2):=by
  refine ⟨fun i m σ H=>m=xs.length - i/\i<=xs.length/\Pv i σ H,⟨xs.length,by simp,Nat.zero_le _,h0⟩,?_⟩
  rintro i m σ H ⟨rfl,hi,p⟩
  have q:=hl i σ H hi p
  by_cases hlt:i < xs.length
  . refine .inr ⟨⟨xs,xs[i],q,by simp [hlt]⟩,Pv (i + 1),fun σ' H' p'=>⟨xs.length - (i + 1),by omega,rfl,hlt,p'⟩,fun x H' y=>?_⟩
    obtain ⟨e,y⟩:=y
    subst e
    exact hs i x σ _ (y xs q) p
  . have e:i=xs.length:=by omega
    subst e
    exact .inl ⟨⟨xs,q,Nat.le_refl _⟩,hd σ H p⟩
theorem for_range {lo:Int} {n:Nat} {g:TG} {tb:TS} {D:Ends} {σ:St} {H:Hp} (Pv:Nat->St->Hp->Prop) (h0:Pv 0 σ H)
    (hs:∀ i σ H,i < n->Pv i σ H->g (.int (lo + i)) σ H fun σ2 H2=>tb { D with nx:=Pv (i + 1),ct:=Pv (i + 1),bk:=D.nx } σ2 H2) (hd:∀ σ H,Pv n σ H->D.nx σ H) :
    ∃ W:Nat->Nat->St->Hp->Prop,(∃ m,W 0 m σ H)/\∀ i m σ H,W i m σ H ->
      ((Itr lo n).stop i H/\D.nx σ H)\/((Itr lo n).go i H/\∃ N:St->Hp->Prop,(∀ σ' H',N σ' H'->∃ m',m' < m/\W (i + 1) m' σ' H')/\∀ x H',(Itr lo n).yld i H x H'->g x σ H' fun σ2 H2=>tb { D with nx:=N,ct:=N,bk:=D.nx } σ2 H2):=by
  refine ⟨fun i m σ H=>m=n - i/\i<=n/\Pv i σ H,⟨n,by simp,Nat.zero_le _,h0⟩,?_⟩
  rintro i m σ H ⟨rfl,hi,p⟩
  by_cases hlt:i < n
  . refine .inr ⟨hlt,Pv (i + 1),fun σ' H' p'=>⟨n - (i + 1),by omega,rfl,hlt,p'⟩,fun x H' y=>?_⟩
    obtain ⟨e,y⟩:=y
    subst e y
    exact hs i σ _ hlt p
  . have e:i=n:=by omega
    subst e
    exact .inl ⟨Nat.le_refl _,hd σ H p⟩
theorem while_by {c:TT} {tb:TS} {D:Ends} {σ:St} {H:Hp} (Pv:St->Hp->Prop) (μ:St->Hp->Nat) (h0:Pv σ H)
    (hs:∀ σ H,Pv σ H->c σ H fun b H1=>if b=true then tb { D with nx:=fun σ' H'=>Pv σ' H'/\μ σ' H' < μ σ H,ct:=fun σ' H'=>Pv σ' H'/\μ σ' H' < μ σ H,bk:=D.nx } σ H1 else D.nx σ H1)
    (mono:∀ σ H Q Q',(∀ b H1,Q b H1->Q' b H1)->c σ H Q->c σ H Q'):tWhile c tb D σ H:=by
  refine ⟨fun m σ H=>m=μ σ H/\Pv σ H,⟨_,rfl,h0⟩,?_⟩
  rintro m σ H ⟨rfl,p⟩
  refine mono σ H _ _ (fun b H1 q=>?_) (hs σ H p)
  cases b with
  | true=>exact ⟨_,fun σ' H' ⟨p',l⟩=>⟨_,l,rfl,p'⟩,q⟩
  | false=>exact q
end L2
namespace L2
open PySem PySem.Spec PyProof.Rows
noncomputable abbrev R2:=V->V->Hp->VK->Prop
noncomputable def OpR (X:Cx) (f:Value->Value->Sem Value) (r:R2):Prop :=
  ∀ (pins:List (Addr × Obj)) (s:Shared) (σ:St) (H:Hp) (x y:V) (v u:Value) (Q:VK),Inv X pins σ H s->RelV x v->RelV y u->r x y H Q ->
    wpAny (model X.prog X.w) X.A (f v u) (EP X pins σ Q) X.xe s
noncomputable def UnR (X:Cx) (f:Value->Sem Value) (r:V->Hp->VK->Prop):Prop :=
  ∀ (pins:List (Addr × Obj)) (s:Shared) (σ:St) (H:Hp) (x:V) (v:Value) (Q:VK),Inv X pins σ H s->RelV x v->r x H Q ->
    wpAny (model X.prog X.w) X.A (f v) (EP X pins σ Q) X.xe s
noncomputable def CallR (X:Cx) (f:Value) (r:List V->Hp->VK->Prop):Prop :=
  ∀ (pins:List (Addr × Obj)) (s:Shared) (σ:St) (H:Hp) (xs:List V) (us:List Value) (Q:VK),Inv X pins σ H s->Vals xs us->r xs H Q ->
    wpAny (model X.prog X.w) X.A (call f us) (EP X pins σ Q) X.xe s
noncomputable def tOp (r:R2) (ta tb:TE):TE:=fun σ H Q=>ta σ H fun x H1=>tb σ H1 fun y H2=>r x y H2 Q
noncomputable def tUn (r:V->Hp->VK->Prop) (ta:TE):TE:=fun σ H Q=>ta σ H fun x H1=>r x H1 Q
noncomputable def rI (C:Int->Int->Prop) (g:Int->Int->V):R2:=fun x y H Q=>∃ i j,x = .int i/\y = .int j/\C i j/\Q (g i j) H
noncomputable def rI0 (g:Int->Int->V):R2:=fun x y H Q=>∃ i j,x = .int i/\y = .int j/\Q (g i j) H
noncomputable def rU (g:Int->V):V->Hp->VK->Prop:=fun x H Q=>∃ i,x = .int i/\Q (g i) H
section
variable {X:Cx} {a b c:Expr} {ta tb tc:TE} {pos:Pos}
theorem binT (ha:PE X a ta) (hb:PE X b tb) {pins:List (Addr × Obj)} {s:Shared} {σ:St} {H:Hp} {R:V->V->Hp->Prop} (I:Inv X pins σ H s)
    (h:ta σ H fun x H1=>tb σ H1 fun y H2=>R x y H2) {Q:Value->Shared->Prop} {f:Value->Value->Sem Value}
    (hf:∀ v u s2 x y H2,Inv X pins σ H2 s2->RelV x v->RelV y u->R x y H2->wpAny (model X.prog X.w) X.A (f v u) Q X.xe s2) :
    wpAny (model X.prog X.w) X.A (eval a X.env) (fun v s₁=>wpAny (model X.prog X.w) X.A (eval b X.env) (fun u s₂=>wpAny (model X.prog X.w) X.A (f v u) Q X.xe s₂) X.xe s₁) X.xe s:=by
  refine thn (ha pins s σ H _ I h) fun v s1 ⟨x,H1,I1,r1,q1⟩=>?_
  refine thn (hb pins s1 σ H1 _ I1 q1) fun u s2 ⟨y,H2,I2,r2,q2⟩=>?_
  exact hf v u s2 x y H2 I2 r1 r2 q2
theorem pe_op {op:Operator} {r:R2} (ho:OpR X (binaryOp op) r) (ha:PE X a ta) (hb:PE X b tb):PE X (.BinOp a op b pos) (tOp r ta tb):=by
  intro pins s σ H Q I h
  exact wpAny_BinOp (binT ha hb I h fun v u s2 x y H2 I2 rx ry q=>ho pins s2 σ H2 x y v u Q I2 rx ry q)
theorem pe_un {op:UnaryOp} {r:V->Hp->VK->Prop} (ho:UnR X (unaryOp op) r) (ha:PE X a ta):PE X (.UnaryOp op a pos) (tUn r ta):=by
  intro pins s σ H Q I h
  exact UnaryOp_ (thn (ha pins s σ H _ I h) fun v s1 ⟨x,H1,I1,r1,q1⟩=>ho pins s1 σ H1 x v Q I1 r1 q1)
theorem opI {f:Value->Value->Sem Value} {C:Int->Int->Prop} {g:Int->Int->Int}
    (rule:∀ (i j:Int) (t u:Tok) (s:Shared) (Q:Value->Shared->Prop) (E:Value->Shared->Prop),C i j->Q (.int (g i j) s.toks) { s with toks:=s.toks + 1 }->wpAny (model X.prog X.w) X.A (f (.int i t) (.int j u)) Q E s) :
    OpR X f (rI C fun i j=>.int (g i j)):=by
  intro pins s σ H x y v u Q I rx ry h
  obtain ⟨i,j,rfl,rfl,hc,q⟩:=h
  obtain ⟨t,rfl⟩:=rx
  obtain ⟨t',rfl⟩:=ry
  exact rule i j t t' s _ _ hc ⟨.int (g i j),H,I.tok _,⟨_,rfl⟩,q⟩
theorem opI0 {f:Value->Value->Sem Value} {g:Int->Int->Int}
    (rule:∀ (i j:Int) (t u:Tok) (s:Shared) (Q:Value->Shared->Prop) (E:Value->Shared->Prop),Q (.int (g i j) s.toks) { s with toks:=s.toks + 1 }->wpAny (model X.prog X.w) X.A (f (.int i t) (.int j u)) Q E s) :
    OpR X f (rI0 fun i j=>.int (g i j)):=by
  intro pins s σ H x y v u Q I rx ry h
  obtain ⟨i,j,rfl,rfl,q⟩:=h
  obtain ⟨t,rfl⟩:=rx
  obtain ⟨t',rfl⟩:=ry
  exact rule i j t t' s _ _ ⟨.int (g i j),H,I.tok _,⟨_,rfl⟩,q⟩
theorem opB0 {f:Value->Value->Sem Value} {g:Int->Int->Bool}
    (rule:∀ (i j:Int) (t u:Tok) (s:Shared) (Q:Value->Shared->Prop) (E:Value->Shared->Prop),Q (.bool (g i j)) s->wpAny (model X.prog X.w) X.A (f (.int i t) (.int j u)) Q E s) :
    OpR X f (rI0 fun i j=>.bl (g i j)):=by
  intro pins s σ H x y v u Q I rx ry h
  obtain ⟨i,j,rfl,rfl,q⟩:=h
  obtain ⟨t,rfl⟩:=rx
  obtain ⟨t',rfl⟩:=ry
  exact rule i j t t' s _ _ ⟨.bl (g i j),H,I,rfl,q⟩
noncomputable def CPow (i j:Int):Prop:=0<=j/\j<=1000000/\i.natAbs < 2 ^ 64
noncomputable def CMul (i j:Int):Prop:=(-(2 ^ 64) < i/\i < 2 ^ 64)\/(-(2 ^ 64) < j/\j < 2 ^ 64)
theorem CMul.ok {i j:Int} (h:CMul i j):IntMulOk i j:=by
  rcases h with ⟨h1,h2⟩ | ⟨h1,h2⟩
  . exact .of_left (intBits_le_64 h1 h2)
  . exact .of_right (intBits_le_64 h1 h2)
theorem op_add:OpR X (binaryOp .Add) (rI0 fun i j=>.int (i + j)):=opI0 fun _ _ _ _ _ _ _ q=>add_int q
theorem op_sub:OpR X (binaryOp .Sub) (rI0 fun i j=>.int (i - j)):=opI0 fun _ _ _ _ _ _ _ q=>sub_int q
theorem op_mul:OpR X (binaryOp .Mult) (rI CMul fun i j=>.int (i * j)):=opI fun _ _ _ _ _ _ _ hc q=>mul_int q hc.ok
theorem op_mod:OpR X (binaryOp .Mod) (rI (fun _ j=>0 < j) fun i j=>.int (i % j)):=opI fun i j _ _ _ _ _ hc q=>by
  have h1:(0:Int) < j:=hc
  exact mod_int' (by omega) (by rw [Int.fmod_eq_emod_of_nonneg i (by omega)];exact q)
theorem op_pow:OpR X (binaryOp .Pow) (rI CPow fun i j=>.int (i ^ j.toNat)):=opI fun _ _ _ _ _ _ _ hc q=>pow_int_small hc.1 hc.2.1 hc.2.2 q
theorem op_shl:OpR X (binaryOp .LShift) (rI CPow fun i j=>.int (i * 2 ^ j.toNat)):=opI fun _ _ _ _ _ _ _ hc q=>lshift_int_small hc.1 hc.2.1 hc.2.2 q
theorem unI {f:Value->Sem Value} {g:Int->Int}
    (rule:∀ (i:Int) (t:Tok) (s:Shared) (Q:Value->Shared->Prop) (E:Value->Shared->Prop),Q (.int (g i) s.toks) { s with toks:=s.toks + 1 }->wpAny (model X.prog X.w) X.A (f (.int i t)) Q E s) :
    UnR X f (rU fun i=>.int (g i)):=by
  intro pins s σ H x v Q I rx h
  obtain ⟨i,rfl,q⟩:=h
  obtain ⟨t,rfl⟩:=rx
  exact rule i t s _ _ ⟨.int (g i),H,I.tok _,⟨_,rfl⟩,q⟩
theorem un_neg:UnR X (unaryOp .USub) (rU fun i=>.int (-i)):=unI fun _ _ _ _ _ q=>neg_int q
end
noncomputable def scal:V->V->Bool
  | .non,.non=>true | .non,.int _=>true | .int _,.non=>true | .non,.bl _=>true | .bl _,.non=>true | .non,.str _=>true | .str _,.non=>true
  | .int _,.int _=>true | .bl _,.bl _=>true | .str _,.str _=>true | .byt _,.byt _=>true
  | .int _,.str _=>true | .str _,.int _=>true | .bl _,.str _=>true | .str _,.bl _=>true
  | _,_=>false
noncomputable def rEq:R2:=fun x y H Q=>scal x y=true/\Q (.bl (decide (x=y))) H
noncomputable def rNe:R2:=fun x y H Q=>scal x y=true/\Q (.bl (!decide (x=y))) H
theorem dec_int {i j:Int}:decide (V.int i=V.int j)=(i == j):=by
  rw [Bool.eq_iff_iff]
  simp
theorem dec_bl {i j:Bool}:decide (V.bl i=V.bl j)=(i == j):=by
  rw [Bool.eq_iff_iff]
  simp
theorem dec_str {i j:Str}:decide (V.str i=V.str j)=(i == j):=by
  rw [Bool.eq_iff_iff]
  simp
theorem dec_byt {i j:Array UInt8}:decide (V.byt i=V.byt j)=(i.toList == j.toList):=by
  rw [Bool.eq_iff_iff]
  cases i
  cases j
  simp
section
variable {X:Cx} {a b c:Expr} {ta tb tc:TE} {pos:Pos}
theorem fin_bl {pins:List (Addr × Obj)} {σ:St} {H:Hp} {s:Shared} {Q:VK} {k k':Bool} (I:Inv X pins σ H s) (q:Q (.bl k) H) (e:k=k'):EP X pins σ Q (.bool k') s:=by
  subst e
  exact ⟨.bl k,H,I,rfl,q⟩
theorem op_eq:OpR X (compareOp .Eq) rEq:=by
  intro pins s σ H x y v u Q I rx ry h
  obtain ⟨hs,q⟩:=h
  cases x with
  | non =>
    cases rx
    cases y with
    | non=>cases ry;exact PySem.EqNone.eq_none_none (fin_bl I q (by simp))
    | bl j=>cases ry;exact PySem.EqNone.eq_none_bool (fin_bl I q (by simp))
    | int j=>obtain ⟨t',rfl⟩:=ry;exact PySem.EqNone.eq_none_int (fin_bl I q (by simp))
    | str j=>obtain ⟨t',rfl⟩:=ry;exact PySem.EqNone.eq_none_str (fin_bl I q (by simp))
    | _=>exact absurd (show false=true from hs) Bool.false_ne_true
  | bl i =>
    cases rx
    cases y with
    | non=>cases ry;exact PySem.EqNone.eq_bool_none (fin_bl I q (by simp))
    | bl j=>cases ry;exact eq_bool (fin_bl I q dec_bl)
    | str j=>obtain ⟨t',rfl⟩:=ry;exact PySem.EqMixed.eq_bool_str (fin_bl I q (by simp))
    | _=>exact absurd (show false=true from hs) Bool.false_ne_true
  | int i =>
    obtain ⟨t,rfl⟩:=rx
    cases y with
    | non=>cases ry;exact PySem.EqNone.eq_int_none (fin_bl I q (by simp))
    | int j=>obtain ⟨t',rfl⟩:=ry;exact eq_int (fin_bl I q dec_int)
    | str j=>obtain ⟨t',rfl⟩:=ry;exact PySem.EqMixed.eq_int_str (fin_bl I q (by simp))
    | _=>exact absurd (show false=true from hs) Bool.false_ne_true
  | str i =>
    obtain ⟨t,rfl⟩:=rx
    cases y with
    | non=>cases ry;exact PySem.EqNone.eq_str_none (fin_bl I q (by simp))
    | bl j=>cases ry;exact PySem.EqMixed.eq_str_bool (fin_bl I q (by simp))
    | int j=>obtain ⟨t',rfl⟩:=ry;exact PySem.EqMixed.eq_str_int (fin_bl I q (by simp))
    | str j=>obtain ⟨t',rfl⟩:=ry;exact eq_str (fin_bl I q dec_str)
    | _=>exact absurd (show false=true from hs) Bool.false_ne_true
  | byt i =>
    obtain ⟨t,rfl⟩:=rx
    cases y with
    | byt j=>obtain ⟨t',rfl⟩:=ry;exact PySem.W.eq_bytes (fin_bl I q dec_byt)
    | _=>exact absurd (show false=true from hs) Bool.false_ne_true
  | _=>cases y <;> exact absurd (show false=true from hs) Bool.false_ne_true
theorem op_ne:OpR X (compareOp .NotEq) rNe:=by
  intro pins s σ H x y v u Q I rx ry h
  obtain ⟨hs,q⟩:=h
  cases x with
  | non =>
    cases rx
    cases y with
    | non=>cases ry;exact PySem.EqNone.ne_none_none (fin_bl I q (by simp))
    | bl j=>cases ry;exact PySem.EqNone.ne_none_bool (fin_bl I q (by simp))
    | int j=>obtain ⟨t',rfl⟩:=ry;exact PySem.EqNone.ne_none_int (fin_bl I q (by simp))
    | str j=>obtain ⟨t',rfl⟩:=ry;exact PySem.EqNone.ne_none_str (fin_bl I q (by simp))
    | _=>exact absurd (show false=true from hs) Bool.false_ne_true
  | bl i =>
    cases rx
    cases y with
    | non=>cases ry;exact PySem.EqNone.ne_bool_none (fin_bl I q (by simp))
    | bl j=>cases ry;exact ne_bool (fin_bl I q (congrArg not dec_bl))
    | str j=>obtain ⟨t',rfl⟩:=ry;exact PySem.EqMixed.ne_bool_str (fin_bl I q (by simp))
    | _=>exact absurd (show false=true from hs) Bool.false_ne_true
  | int i =>
    obtain ⟨t,rfl⟩:=rx
    cases y with
    | non=>cases ry;exact PySem.EqNone.ne_int_none (fin_bl I q (by simp))
    | int j=>obtain ⟨t',rfl⟩:=ry;exact ne_int (fin_bl I q (congrArg not dec_int))
    | str j=>obtain ⟨t',rfl⟩:=ry;exact PySem.EqMixed.ne_int_str (fin_bl I q (by simp))
    | _=>exact absurd (show false=true from hs) Bool.false_ne_true
  | str i =>
    obtain ⟨t,rfl⟩:=rx
    cases y with
    | non=>cases ry;exact PySem.EqNone.ne_str_none (fin_bl I q (by simp))
    | bl j=>cases ry;exact PySem.EqMixed.ne_str_bool (fin_bl I q (by simp))
    | int j=>obtain ⟨t',rfl⟩:=ry;exact PySem.EqMixed.ne_str_int (fin_bl I q (by simp))
    | str j=>obtain ⟨t',rfl⟩:=ry;exact ne_str (fin_bl I q (congrArg not dec_str))
    | _=>exact absurd (show false=true from hs) Bool.false_ne_true
  | byt i =>
    obtain ⟨t,rfl⟩:=rx
    cases y with
    | byt j=>obtain ⟨t',rfl⟩:=ry;exact PySem.W.ne_bytes (fin_bl I q (congrArg not dec_byt))
    | _=>exact absurd (show false=true from hs) Bool.false_ne_true
  | _=>cases y <;> exact absurd (show false=true from hs) Bool.false_ne_true
theorem op_lt:OpR X (compareOp .Lt) (rI0 fun i j=>.bl (decide (i < j))):=opB0 fun _ _ _ _ _ _ _ q=>lt_int q
theorem op_gt:OpR X (compareOp .Gt) (rI0 fun i j=>.bl (decide (j < i))):=opB0 fun _ _ _ _ _ _ _ q=>gt_int q
theorem op_ge:OpR X (compareOp .GtE) (rI0 fun i j=>.bl (decide (j<=i))):=opB0 fun _ _ _ _ _ _ _ q=>ge_int q
theorem op_in_str:OpR X (compareOp .In) (fun x y H Q=>∃ i j,x = .str i/\y = .str j/\Q (.bl (!(Builtin.Str.occurrences j i 0 j.length 1).isEmpty)) H):=by
  intro pins s σ H x y v u Q I rx ry h
  obtain ⟨i,j,rfl,rfl,q⟩:=h
  obtain ⟨t,rfl⟩:=rx
  obtain ⟨t',rfl⟩:=ry
  exact in_str (fin_bl I q rfl)
theorem op_isN:OpR X (compareOp .Is) (fun x y H Q=>y = .non/\Q (.bl (decide (x = .non))) H):=by
  intro pins s σ H x y v u Q I rx ry h
  obtain ⟨rfl,q⟩:=h
  cases ry
  refine is_none_gen (fin_bl I q ?_)
  cases x <;> first
    | (cases rx;rfl)
    | (obtain ⟨t,rfl⟩:=rx;rfl)
theorem nomark (b:Expr) {op:CmpOp} (h:op ≠ .In:=by decide) (h2:op ≠ .NotIn:=by decide):behindInMarks op b=false:=by
  have e1:(op == CmpOp.In)=false:=by cases op <;> first | rfl | exact absurd rfl h
  have e2:(op == CmpOp.NotIn)=false:=by cases op <;> first | rfl | exact absurd rfl h2
  cases b <;> simp [behindInMarks,e1,e2]
theorem pe_cmpR {op:CmpOp} {r:R2} (ho:OpR X (compareOp op) r) (ha:PE X a ta) (hb:PE X b tb) (hm:behindInMarks op b=false):PE X (.Compare a [op] [b] pos) (tOp r ta tb):=by
  intro pins s σ H Q I h
  exact wpAny_Compare1 (binT ha hb I h fun v u s2 x y H2 I2 rx ry q=>ho pins s2 σ H2 x y v u Q I2 rx ry q) hm
noncomputable def tTest (t:TE):TT:=fun σ H Q=>t σ H fun x H'=>∃ k,x = .bl k/\Q k H'
theorem pt_cmpR {op:CmpOp} {r:R2} (ho:OpR X (compareOp op) r) (ha:PE X a ta) (hb:PE X b tb) (hm:behindInMarks op b=false):PT X (.Compare a [op] [b] pos) (tTest (tOp r ta tb)):=by
  intro pins s σ H Q I h
  refine wpAny_isTrue_Compare1 (thn (ha pins s σ H _ I h) fun v s1 ⟨x,H1,I1,r1,q1⟩=>thn (hb pins s1 σ H1 _ I1 q1) fun u s2 ⟨y,H2,I2,r2,q2⟩ =>
    thn (ho pins s2 σ H2 x y v u _ I2 r1 r2 q2) fun c s3 ⟨z,H3,I3,r3,k,e,q3⟩=>?_) hm
  subst e
  cases r3
  exact wpAny_truthy_bool ⟨H3,I3,q3⟩
theorem line63:(sizeLine:Nat) < 2 ^ 63:=by rw [sizeLine_eq];decide
theorem op_add_str:OpR X (binaryOp .Add) (fun x y H Q=>∃ i j,x = .str i/\y = .str j/\i.length + j.length<=sizeLine/\Q (.str (i ++ j)) H):=by
  intro pins s σ H x y v u Q I rx ry h
  obtain ⟨i,j,rfl,rfl,hz,q⟩:=h
  obtain ⟨t,rfl⟩:=rx
  obtain ⟨t',rfl⟩:=ry
  exact add_str (fun t' tk=>⟨.str (i ++ j),H,I.tok _,⟨_,rfl⟩,q⟩) hz
theorem vals1 {x:V} {us:List Value} (r:Vals [x] us):∃ u,us=[u]/\RelV x u:=by
  cases r with
  | cons r1 r2=>cases r2;exact ⟨_,rfl,r1⟩
theorem call_abs:CallR X (.builtin "abs") (fun xs H Q=>∃ i,xs=[.int i]/\Q (.int (if i < 0 then -i else i)) H):=by
  intro pins s σ H xs us Q I r h
  obtain ⟨i,rfl,q⟩:=h
  obtain ⟨u,rfl,t,rfl⟩:=vals1 r
  exact call_abs_int fun u tk=>⟨.int (if i < 0 then -i else i),H,I.tok _,⟨_,rfl⟩,q⟩
theorem call_int1:CallR X (.type "int") (fun xs H Q=>(∃ i,xs=[.int i]/\Q (.int i) H)\/∃ k,xs=[.bl k]/\Q (.int (if k then 1 else 0)) H):=by
  intro pins s σ H xs us Q I r h
  rcases h with ⟨i,rfl,q⟩ | ⟨k,rfl,q⟩
  . obtain ⟨u,rfl,t,rfl⟩:=vals1 r
    exact call_int_int ⟨.int i,H,I,⟨_,rfl⟩,q⟩
  . obtain ⟨u,rfl,r1⟩:=vals1 r
    cases r1
    exact call_int_bool ⟨.int (if k then 1 else 0),H,I.tok _,⟨_,rfl⟩,q⟩
end
end L2
namespace L2
open PySem PySem.Spec PyProof.Rows
section
variable {prog:Program} {w:World} {A:Around} {E:Value->Shared->Prop} {s:Shared} {K:PySem.W.Frag} {x dx C f:Addr} {mA:Str->Option Value} {name:Str} {v:Value}
end
section
variable {P:Program} {w:World} {H H':Hp} {h h':Heap} {a C dx:Addr} {fs:List (Str × V)}
end
structure Con (K:PySem.W.Frag) (C:Addr) (f:Str) (v:V) (u:Value):Prop where
  at_:PySem.W.findIn K (.ref C) f=some (some u)
  rel:RelV v u
  get:PySem.W.specialIn K u "__get__" = some none
  cp:PySem.W.copiedNames.contains f=false
section
variable {X:Cx} {pins:List (Addr × Obj)} {σ:St} {H:Hp} {s:Shared} {a C dx:Addr} {fs:List (Str × V)} {f:Str} {v:V} {A:Around} {E:Value->Shared->Prop}
end
section
variable {X:Cx} {o e value:Expr} {f:Str} {pos pos':Pos} {ta:TE}
end
section
variable {X:Cx} {pins:List (Addr × Obj)} {σ:St} {H:Hp} {s:Shared} {A:Around} {E:Value->Shared->Prop} {Q:Value->Shared->Prop} {c:Value} {b:Bool}
end
end L2
namespace L2
open PySem PySem.Spec PyProof.Rows
structure Room (k:Nat) (A:Around):Prop where
  hd:A.handled=none
  dp:A.depth + 3 * k + 5 < recursionLimit
  un:A.units + 16 * k + 200 < cLine
theorem Room.mono {j k:Nat} {A:Around} (r:Room k A) (h:j<=k):Room j A:=⟨r.hd,by have:=r.dp;omega,by have:=r.un;omega⟩
theorem Room.deeper {k:Nat} {A:Around} (r:Room (k + 1) A) (env:Env):Room k (A.deeper env) :=
  ⟨r.hd,by have:=r.dp;show A.depth + 1 + 3 * k + 5 < _;omega,by have:=r.un;show A.units + 3 + 16 * k + 200 < _;omega⟩
theorem Room.depth {k:Nat} {A:Around} (r:Room k A):A.depth < recursionLimit:=by have:=r.dp;omega
theorem Room.units {k:Nat} {A:Around} (r:Room k A):A.units + 64 < cLine:=by have:=r.un;omega
theorem Room.units0 {k:Nat} {A:Around} (r:Room k A):A.units < cLine:=by have:=r.un;omega
noncomputable def tNil:TA:=fun _ H Q=>Q [] H
noncomputable def tCons (ta:TE) (tr:TA):TA:=fun σ H Q=>ta σ H fun x H1=>tr σ H1 fun xs H2=>Q (x :: xs) H2
section
variable {X:Cx} {e:Expr} {es:List Expr} {te:TE} {t:TA} {pos:Pos}
theorem pa_nil:PA X [] tNil:=fun _ _ _ _ H Q I h=>Calls.spliced_nil ⟨[],H,I,.nil,h⟩
theorem pa_cons (ha:PE X e te) (hr:PA X es t) (hs:starEach (e :: es) X.env=(false,eval e X.env) :: starEach es X.env:=by rfl):PA X (e :: es) (tCons te t):=by
  intro pos pins s σ H Q I h
  rw [hs]
  show wpAny _ _ (spliced ((false,eval e X.env) :: backTo pos (starEach es X.env))) _ _ s
  refine Calls.spliced_cons (thn (ha pins s σ H _ I h) fun u s1 ⟨x,H1,I1,r1,q1⟩=>?_)
  exact thn (hr pos pins s1 σ H1 _ I1 q1) fun us s2 ⟨xs,H2,I2,r2,q2⟩=>⟨x :: xs,H2,I2,.cons r1 r2,q2⟩
noncomputable def tTup (t:TA):TE:=fun σ H Q=>t σ H fun xs H1=>xs.length<=sizeLine/\∀ p,H1 p=none->Q (.ref p) (upd H1 p (.tup xs))
noncomputable def tLst (t:TA):TE:=fun σ H Q=>t σ H fun xs H1=>xs.length<=sizeLine/\∀ p,H1 p=none->Q (.ref p) (upd H1 p (.lst xs))
theorem pe_tup {x1} (h:PA X es t):PE X (.Tuple es x1 pos) (tTup t):=by
  intro pins s σ H Q I hq
  refine wpAny_Tuple_spliced (thn (h pos pins s σ H _ I hq) fun us s1 ⟨xs,H1,I1,r,z,q⟩=>⟨by rw [<- r.length];exact z,?_⟩)
  have hf:H1 s1.heap.objs.size=none:=I1.hok.fresh (Nat.le_refl _)
  refine ⟨.ref s1.heap.objs.size,upd H1 s1.heap.objs.size (.tup xs),I1.laid (t':=s1.toks) (fun b u e=>Heap.get?_push_of_some _ e) (Nat.le_refl _) ?_,rfl,q _ hf⟩
  exact ⟨z,us,r,⟨_,Heap.get?_push_size _ rfl,rfl,_,rfl⟩⟩
theorem pe_lst (h:PA X es t):PE X (.List es pos) (tLst t):=by
  intro pins s σ H Q I hq
  refine wpAny_List_spliced (thn (h pos pins s σ H _ I hq) fun us s1 ⟨xs,H1,I1,r,z,q⟩=>⟨by rw [<- r.length];exact z,?_⟩)
  have hf:H1 s1.heap.objs.size=none:=I1.hok.fresh (Nat.le_refl _)
  refine ⟨.ref s1.heap.objs.size,upd H1 s1.heap.objs.size (.lst xs),I1.laid (t':=s1.toks) (fun b u e=>Heap.get?_push_of_some _ e) (Nat.le_refl _) ?_,rfl,q _ hf⟩
  exact ⟨z,us,0,r,Heap.get?_push_size _ rfl⟩
end
noncomputable abbrev Sp:=List V->Hp->VK->XK->Prop
noncomputable abbrev CXT:=List Env->Hp->Shared->XK->Value->Shared->Prop
structure Env0 (P:Program) (w:World) (K:PySem.W.Frag) (mg:Str->Option Value) (base:Heap) (A:Around) (outer:List Env) (s:Shared) (H:Hp):Prop where
  frames:A.frames=some outer
  mod:Mod K mg base
  bs:∀ b o,base.get? b=some o->s.heap.get? b=some o/\H b=none
  bsz:base.objs.size<=s.heap.objs.size
  funs:s.heap.FunFrames base outer
  frf:∀ b ∈ frs outer,H b=none
  hok:HOk P w H s.heap
  bare:AllBare s.gens
noncomputable def CE (outer:List Env) (P:Program) (w:World) (H:Hp) (s:Shared) (Q:VK) (u:Value) (s':Shared):Prop :=
  ∃ v H',s'.os=s.os/\AllBare s'.gens/\Un (frs outer) [] H H' s.heap s'.heap/\HOk P w H' s'.heap/\RelV v u/\Q v H'
noncomputable def CR (CX:CXT) (outer:List Env) (P:Program) (w:World) (H:Hp) (s:Shared) (Q:VK) (E:XK) (r:Result) (s':Shared):Prop :=
  match r with
  | .ok (.ret u)=>CE outer P w H s Q u s'
  | .ok _=>False
  | .error e=>CX outer H s E e s'
structure FnOk (P:Program) (w:World) (K:PySem.W.Frag) (mg:Str->Option Value) (base:Heap) (CX:CXT) (k:Nat) (f:Addr) (fd:FuncData) (ps:List Str) (sp:Sp):Prop where
  len:∀ vs H Q E,sp vs H Q E->vs.length=ps.length
  run:∀ (A:Around) (outer:List Env) (s:Shared) (H:Hp) (args:Args) (us:List Value) (vs:List V) (Q:VK) (E:XK),Room k A->Env0 P w K mg base A outer s H->BindsTo s fd args (ps.zip us)->Vals vs us->sp vs H Q E ->
    codeAny (model P w) A (.call (.ref f) args) (CR CX outer P w H s Q E) s
section
variable {X:Cx} {pins:List (Addr × Obj)} {σ:St} {H:Hp} {s s':Shared}
theorem Inv.env0 (I:Inv X pins σ H s):Env0 X.prog X.w X.K X.mg X.base X.A X.stack s H :=
  ⟨I.ok.frames,I.ok.mod,I.bs,Nat.le_trans I.ok.bsz I.sz,I.stack,I.stkFree,I.hok,I.bare⟩
theorem Inv.after {Q:VK} {u:Value} (I:Inv X pins σ H s) (h:CE X.stack X.prog X.w H s Q u s'):EP X pins σ Q u s':=by
  obtain ⟨v,H',os,bare,un,hok,r,q⟩:=h
  obtain ⟨hh,g,d,t,os'⟩:=s'
  obtain rfl:os'=s.os:=os
  exact ⟨v,H',I.call (h':=hh) (g':=g) (d':=d) (t':=t) (ch:=[]) un hok bare (fun b z=>absurd z (by simp)),r,q⟩
end
noncomputable def tCall (sp:Sp) (dvs:List V) (E:XK) (t:TA):TE:=fun σ H Q=>t σ H fun vs H1=>sp (vs ++ dvs) H1 Q E
noncomputable def Binds (K:PySem.W.Frag) (fd:FuncData) (ps:List Str) (ds:List Value):Prop :=
  ∀ (s:Shared) (us:List Value),K.In s.heap->(us ++ ds).length=ps.length->BindsTo s fd ⟨us,[]⟩ (ps.zip (us ++ ds))
theorem Binds.all {K:PySem.W.Frag} {fd:FuncData} {ps:List Str} (h:∀ us:List Value,us.length=ps.length->bindArgs fd ⟨us,[]⟩=pure (ps.zip us)):Binds K fd ps []:=fun s us _ hl=>by
  rw [List.append_nil] at hl ⊢
  exact .of_eq (h us hl)
noncomputable def Passes (CX:CXT) (X:Cx) (E:XK):Prop:=∀ (pins:List (Addr × Obj)) (σ:St) (H:Hp) (s:Shared) (e:Value) (s':Shared),Inv X pins σ H s->CX X.stack H s E e s'->X.xe e s'
section
variable {X:Cx} {CX:CXT} {k:Nat} {f C:Addr} {fd:FuncData} {ps:List Str} {sp:Sp} {dvs:List V} {ds:List Value} {E:XK} {x m:Str} {p pos apos:Pos} {e o:Expr} {es:List Expr} {ta:TE} {t:TA}
theorem run_fn {pins:List (Addr × Obj)} {σ:St} {H:Hp} {s:Shared} {Q:VK} {us:List Value} {vs:List V} (F:FnOk X.prog X.w X.K X.mg X.base CX k f fd ps sp) (hr:Room k X.A) (hb:Binds X.K fd ps ds) (hd:Vals dvs ds) (hx:Passes CX X E)
    (I:Inv X pins σ H s) (r:Vals vs us) (h:sp (vs ++ dvs) H Q E):wpAny (model X.prog X.w) X.A (call (.ref f) us) (EP X pins σ Q) X.xe s:=by
  have r2:Vals (vs ++ dvs) (us ++ ds):=r.append hd
  have hl:(us ++ ds).length=ps.length:=by rw [<- r2.length];exact F.len _ _ _ _ h
  refine wpAny_call (codeAny_mono (F.run X.A X.stack s H ⟨us,[]⟩ (us ++ ds) (vs ++ dvs) Q E hr I.env0 (hb s us I.kIn hl) r2 h) fun r s' hq=>?_)
  cases r with
  | error e=>exact hx pins σ H s e s' I hq
  | ok fl =>
    cases fl with
    | ret u=>exact I.after hq
    | next=>exact False.elim hq
    | brk=>exact False.elim hq
    | cont=>exact False.elim hq
theorem pe_call (F:FnOk X.prog X.w X.K X.mg X.base CX k f fd ps sp) (hr:Room k X.A) (hg:Gl X x) (hm:X.mg x=some (.ref f)) (hk:PySem.W.keepIn X.K (.ref f)=true) (hb:Binds X.K fd ps ds) (hd:Vals dvs ds) (hx:Passes CX X E)
    (ha:PA X (e :: es) t) (hdb:(x == ("__debug__" : Str))=false:=by decide) (he:starEach (e :: es) X.env=(false,eval e X.env) :: starEach es X.env:=by rfl) (hpl:(backTo pos (starEach es X.env)).any (·.1)=false:=by rfl) :
    PE X (.Call (.Name x p) (e :: es) [] pos) (tCall sp dvs E t):=by
  intro pins s σ H Q I h
  refine wpAny_Call_Name_kw (ld_glob I hg hm ?_ hdb)
  refine PySem.W.callWith_K (h₀:=X.base) I.ok.mod.kin hk (thn (ha pos pins s σ H _ I h) fun us s1 ⟨vs,H1,I1,r,q⟩=>⟨I1.kIn,?_⟩) he hpl
  exact run_fn F hr hb hd hx I1 r q
end
section
variable {X:Cx} {CX:CXT} {k:Nat} {f C:Addr} {fd:FuncData} {ps:List Str} {sp:Sp} {E:XK} {x m:Str} {p pos apos:Pos} {e o:Expr} {es:List Expr} {te ta:TE} {t tk:TA} {nm:Option Str}
variable {g:List Value->List Value->List Value}
end
structure FnScope (N P:List Str) (sc:Scope):Prop where
  kind:sc.kind = .function
  co:sc.isCoroutine=false
  gen:sc.isGenerator=false
  nd:N.Nodup
  pre:N.take P.length=P
  par:∀ x ∈ P,sc.names.lookup x=some .local\/sc.names.lookup x=some .cell
  nofree:∀ y ∈ sc.names,y.2 ≠ .free
theorem bindL_out {kindOf:Str->Option NameKind} {x:Str}:∀ {binds:List (Str × Value)} {m:Str->Option Value},(∀ v,(x,v) ∉ binds)->bindL kindOf binds m x=m x
  | [],_,_=>rfl
  | (n,v) :: r,m,h=>by
    unfold bindL
    rw [bindL_out fun w hw=>h w (List.mem_cons_of_mem _ hw)]
    split
    . have:x ≠ n:=by rintro rfl;exact h v List.mem_cons_self
      simp [this]
    . rfl
theorem bindC_out {kindOf:Str->Option NameKind} {x:Str}:∀ {binds:List (Str × Value)} {m:Str->Option Value},(∀ v,(x,v) ∉ binds)->bindC kindOf binds m x=m x
  | [],_,_=>rfl
  | (n,v) :: r,m,h=>by
    unfold bindC
    rw [bindC_out fun w hw=>h w (List.mem_cons_of_mem _ hw)]
    split
    . rfl
    . have:x ≠ n:=by rintro rfl;exact h v List.mem_cons_self
      simp [this]
theorem bindL_get {kindOf:Str->Option NameKind} {x:Str} {v:Value}:∀ {P:List Str} {vs:List Value} {i:Nat} {m:Str->Option Value},P.Nodup->P[i]?=some x->vs[i]?=some v->kindOf x=some .local ->
    bindL kindOf (P.zip vs) m x=some v
  | [],_,_,_,_,h,_,_=>by simp at h
  | _ :: _,[],_,_,_,_,h,_=>by simp at h
  | p :: P,w :: vs,0,m,nd,h1,h2,hk=>by
    simp at h1 h2;subst h1;subst h2
    show bindL kindOf ((p,w) :: P.zip vs) m p=_
    unfold bindL
    rw [bindL_out fun v hv=>(List.nodup_cons.mp nd).1 (List.of_mem_zip hv).1,if_pos hk]
    simp
  | p :: P,w :: vs,i + 1,m,nd,h1,h2,hk=>by
    show bindL kindOf ((p,w) :: P.zip vs) m x=_
    unfold bindL
    exact bindL_get (i:=i) (List.nodup_cons.mp nd).2 (by simpa using h1) (by simpa using h2) hk
theorem bindC_get {kindOf:Str->Option NameKind} {x:Str} {v:Value}:∀ {P:List Str} {vs:List Value} {i:Nat} {m:Str->Option Value},P.Nodup->P[i]?=some x->vs[i]?=some v->kindOf x ≠ some .local ->
    bindC kindOf (P.zip vs) m x=some v
  | [],_,_,_,_,h,_,_=>by simp at h
  | _ :: _,[],_,_,_,_,h,_=>by simp at h
  | p :: P,w :: vs,0,m,nd,h1,h2,hk=>by
    simp at h1 h2;subst h1;subst h2
    show bindC kindOf ((p,w) :: P.zip vs) m p=_
    unfold bindC
    rw [bindC_out fun v hv=>(List.nodup_cons.mp nd).1 (List.of_mem_zip hv).1,if_neg hk]
    simp
  | p :: P,w :: vs,i + 1,m,nd,h1,h2,hk=>by
    show bindC kindOf ((p,w) :: P.zip vs) m x=_
    unfold bindC
    exact bindC_get (i:=i) (List.nodup_cons.mp nd).2 (by simpa using h1) (by simpa using h2) hk
noncomputable def start (N:List Str) (vs:List V):St:=vs.map some ++ List.replicate (N.length - vs.length) none
noncomputable def cxOf (CX:CXT) (P:Program) (w:World) (K:PySem.W.Frag) (mg:Str->Option Value) (base:Heap) (N:List Str) (qual:Str) (scope:Scope) (f:Addr) (cd:Value) (A:Around) (outer:List Env) (s:Shared) (H:Hp) (E:XK):Cx where
  prog:=P
  w:=w
  K:=K
  mg:=mg
  base:=base
  A:=A.deeper (envOfC qual scope s.heap.objs.size f cd)
  N:=N
  s₀:=s
  H₀:=H
  env:=envOfC qual scope s.heap.objs.size f cd
  outer:=outer
  stack:=envOfC qual scope s.heap.objs.size f cd :: outer
  ex:=[]
  calm:=true
  fn:=fun _=>true
  pn:=[]
  xe:=fun e s'=>wpAny (model P w) (A.deeper (envOfC qual scope s.heap.objs.size f cd)) (leaving (envOfC qual scope s.heap.objs.size f cd) e) (fun _ s''=>CX outer H s E e s'') (fun e' s''=>CX outer H s E e' s'') s'
theorem cell_has {sc:Scope} {n:Nat} {x:Str} (h:sc.names.lookup x=some .cell):∃ c,(cellsFrom n sc.names []).lookup x=some c:=by
  have q:=PySem.W.cellsFrom_some sc.names n [] (.inl h)
  exact Option.isSome_iff_exists.mp q
theorem inv_start {CX : CXT} {P : Program} {w : World} {K : PySem.W.Frag} {mg : Str -> Option Value} {base : Heap} {N ps : List Str} {qual : Str} {scope : Scope} {f : Addr} {cd : Value} {A : Around} {outer : List Env} {s s1 : Shared} {H : Hp} {E : XK} {us : List Value} {vs : List V}
    (S:FnScope N ps scope) (hd:A.handled=none) (e0:Env0 P w K mg base A outer s H) (hl:vs.length=ps.length) (r:Vals vs us)
    (x:InCallC s s.heap.objs.size (bindL (envOfC qual scope s.heap.objs.size f cd).kindOf (ps.zip us) fun _=>none) (cellsFrom (s.heap.objs.size + 1) scope.names []) (bindC (envOfC qual scope s.heap.objs.size f cd).kindOf (ps.zip us) fun _=>none) s1) :
    Inv (cxOf CX P w K mg base N qual scope f cd A outer s H E) [] (start N vs) H s1:=by
  have hpl:ps.length<=N.length:=by have:=congrArg List.length S.pre;rw [List.length_take] at this;omega
  obtain ⟨h1,tk,rfl,hk⟩:=x.done
  have noA:∀ b:Addr,b ∉ (cxOf CX P w K mg base N qual scope f cd A outer s H E).ex:=fun b z=>absurd (show b ∈ ([]:List Addr) from z) (by simp)
  refine ⟨⟨e0.mod,S.kind,rfl,rfl,Nat.le_refl _,fun y z c h1 h2=>?_,fun y hy=>?_,fun y c _ h=>?_,fun _=>hd,Around.frames_deeper e0.frames,.inr ⟨rfl,rfl⟩,fun b z=>absurd z (noA b),e0.bs,e0.bsz,fun b _ _=>noA b,fun b z=>absurd z (noA b),e0.funs,e0.frf⟩,
    rfl,e0.bare,Un.kept hk,⟨_,x.toInCall.ns,fun i y v h1 h2 h3=>?_⟩,fun y c h=>⟨_,x.cell y c h⟩,e0.hok.fresh (Nat.le_refl _),fun y c h=>?_,fun p hp=>absurd (show p ∈ ([]:List (Addr × Obj)) from hp) (by simp),e0.hok.kept hk,?_⟩
  . exact name_of_addr x.apart (PySem.mem_of_lookup h1) (PySem.mem_of_lookup h2)
  . have hy:scope.names.lookup y=some .cell\/scope.names.lookup y=some .free:=hy
    rcases hy with hy | hy
    . exact cell_has hy
    . exact absurd rfl (S.nofree _ (PySem.mem_of_lookup hy))
  . exact Nat.le_of_lt (x.above y c (PySem.mem_of_lookup h))
  . have hi:i < vs.length:=by
      unfold start at h2
      by_cases hi:i < vs.length
      . exact hi
      . rw [List.getElem?_append_right (by simpa using hi)] at h2
        rw [List.getElem?_replicate] at h2
        split at h2 <;> cases h2
    have ha:vs[i]?=some v:=by
      unfold start at h2
      rw [List.getElem?_append_left (by simpa using hi),List.getElem?_map] at h2
      cases e:vs[i]? with
      | none=>rw [e] at h2;cases h2
      | some a=>rw [e] at h2;cases h2;rfl
    obtain ⟨u,hu,rv⟩:=r.get ha
    have hp:ps[i]?=some y:=by
      rw [<- S.pre,List.getElem?_take_of_lt (by omega)];exact h1
    have ndP:ps.Nodup:=by rw [<- S.pre];exact S.nd.sublist (List.take_sublist _ _)
    refine ⟨u,rv,?_⟩
    rcases S.par y (List.mem_of_getElem? hp) with k | k
    . exact .inl ⟨k,bindL_get ndP hp hu k⟩
    . obtain ⟨c,e⟩:=cell_has (n:=s.heap.objs.size + 1) k
      refine .inr ⟨.inl k,c,e,?_⟩
      have q:=x.cell y c e
      rw [bindC_get ndP hp hu (by show scope.names.lookup y ≠ _;rw [k];decide)] at q
      exact q
  . exact e0.hok.fresh (Nat.le_of_lt (x.above y c (PySem.mem_of_lookup h)))
  . unfold start
    show _=N.length
    rw [List.length_append,List.length_map,List.length_replicate]
    omega
theorem fn_of {CX:CXT} {P:Program} {w:World} {K:PySem.W.Frag} {mg:Str->Option Value} {base:Heap} {k:Nat} {f:Addr} {name qual:Str} {params:Arguments} {body:List Stmt} {scope:Scope} {dV kV doc pm cdv ct oc:Value} {an od:Option Addr}
    {osl:Array (Option Value)} {N ps:List Str} {sp:Sp} (lk:K.lookup f=some ⟨oc,od,.func (PySem.W.fnOf name qual params body scope dV kV doc pm an cdv ct),osl⟩) (hcd:PySem.W.codeIn K cdv qual=true) (S:FnScope N ps scope)
    (len:∀ vs H Q E,sp vs H Q E->vs.length=ps.length)
    (hbody:∀ (A:Around) (outer:List Env) (s:Shared) (H:Hp) (vs:List V) (Q:VK) (E:XK),Room k (A.deeper (envOfC qual scope s.heap.objs.size f cdv))->sp vs H Q E ->
      ∃ t,PSs (cxOf CX P w K mg base N qual scope f cdv A outer s H E) body t/\t { nx:=fun _ H'=>Q .non H',rt:=Q } (start N vs) H) :
    FnOk P w K mg base CX (k + 1) f (PySem.W.fnOf name qual params body scope dV kV doc pm an cdv ct) ps sp:=by
  refine ⟨len,fun A outer s H args us vs Q E hr e0 hb r hsp=>?_⟩
  have hl:=len _ _ _ _ hsp
  have KX:K.In s.heap:=e0.mod.kin.keeps fun b o e=>(e0.bs b o e).1
  have lim:s.heap.NoLimit:=e0.mod.nolimit.keeps fun b o e=>(e0.bs b o e).1
  have hkind:∀ y ∈ ps.zip us,scope.names.lookup y.1=some .local\/(scope.names.lookup y.1=some .cell/\((cellsFrom (s.heap.objs.size + 1) scope.names []).lookup y.1).isSome=true):=fun ⟨n,v⟩ hy=>by
    rcases S.par n (List.of_mem_zip hy).1 with q | q
    . exact .inl q
    . exact .inr ⟨q,PySem.W.cellsFrom_some _ _ _ (.inl q)⟩
  refine codeAny_call_function hr.depth (KX _ _ lk) rfl S.co S.gen rfl (PySem.W.codeRec_of KX hcd) (hb _ _ _ _ ?_)
  refine wpAny_newFunctionEnv_cells S.kind hkind fun env he s1 x=>?_
  subst he
  refine ⟨lim.keeps x.toInCall.keep,codeAny_func ?_⟩
  obtain ⟨t,ht,hq⟩:=hbody A outer s H vs Q E (hr.deeper _) hsp
  have I:Inv (cxOf CX P w K mg base N qual scope f cdv A outer s H E) [] (start N vs) H s1:=inv_start S hr.hd e0 hl r x
  refine wpAny_mono (ht [] s1 (start N vs) H _ I hq) (fun fl s' hs=>?_) fun e s' hs=>hs
  have fin:∀ {σ':St} {H':Hp} {v:V} {u:Value},Inv (cxOf CX P w K mg base N qual scope f cdv A outer s H E) [] σ' H' s'->RelV v u->Q v H'->CE outer P w H s Q u s' :=
    fun {σ' H' v u} J rv q=>⟨v,H',J.os,J.bare,J.base,J.hok,rv,q⟩
  cases fl with
  | ret u =>
    obtain ⟨v,σ',H',J,rv,q⟩:=hs
    exact fin J rv q
  | next =>
    obtain ⟨σ',H',J,q⟩:=hs
    exact fin (v:=V.non) (u:=Value.none) J rfl q
  | brk =>
    obtain ⟨_,_,_,q⟩:=hs
    exact False.elim q
  | cont =>
    obtain ⟨_,_,_,q⟩:=hs
    exact False.elim q
end L2
namespace L2
open PySem PySem.Spec PyProof.Rows
section
variable {X:Cx} {x:Str} {p pos:Pos} {e:Expr} {es:List Expr} {t:TA} {id T:String} {r:List V->Hp->VK->Prop}
noncomputable def tCB (r:List V->Hp->VK->Prop) (t:TA):TE:=fun σ H Q=>t σ H fun vs H1=>r vs H1 Q
theorem pe_callB (hc:CallR X (.builtin id) r) (hg:Gl X x) (hm:X.mg x=none) (hv:bootBuiltins x=some (.builtin id)) (ha:PA X (e :: es) t) (hn:x ≠ "__name__" := by decide) (hdb:(x == ("__debug__" : Str))=false:=by decide)
    (he:starEach (e :: es) X.env=(false,eval e X.env) :: starEach es X.env:=by rfl) (hpl:(backTo pos (starEach es X.env)).any (·.1)=false:=by rfl):PE X (.Call (.Name x p) (e :: es) [] pos) (tCB r t):=by
  intro pins s σ H Q I h
  refine wpAny_Call_Name_kw (ld_blt I hg hm hv ?_ hn hdb)
  exact PyProof.Rows.callWith_builtin1 (thn (ha pos pins s σ H _ I h) fun us s1 ⟨vs,H1,I1,r1,q1⟩=>hc pins s1 σ H1 vs us Q I1 r1 q1) he hpl
theorem pe_callTy (hc:CallR X (.type T) r) (hg:Gl X x) (hm:X.mg x=none) (hv:bootBuiltins x=some (.type T)) (ha:PA X (e :: es) t) (hn:x ≠ "__name__" := by decide) (hdb:(x == ("__debug__" : Str))=false:=by decide)
    (he:starEach (e :: es) X.env=(false,eval e X.env) :: starEach es X.env:=by rfl) (hpl:(backTo pos (starEach es X.env)).any (·.1)=false:=by rfl):PE X (.Call (.Name x p) (e :: es) [] pos) (tCB r t):=by
  intro pins s σ H Q I h
  refine wpAny_Call_Name_kw (ld_blt I hg hm hv ?_ hn hdb)
  exact PyProof.Rows.callWith_type1 (thn (ha pos pins s σ H _ I h) fun us s1 ⟨vs,H1,I1,r1,q1⟩=>hc pins s1 σ H1 vs us Q I1 r1 q1) he hpl
end
end L2
namespace HT
open PySem PyProof.Rows
noncomputable def lexLt:List Int->List Int->Bool
  | [],[]=>false
  | [],_ :: _=>true
  | _ :: _,[]=>false
  | x :: xs,y :: ys=>if x=y then lexLt xs ys else decide (x < y)
theorem lexLt_cons (x y:Int) (xs ys:List Int):lexLt (x :: xs) (y :: ys)=if x=y then lexLt xs ys else decide (x < y):=rfl
theorem lexLt_nil_nil:lexLt [] []=false:=rfl
theorem lexLt_nil_cons (y:Int) (ys:List Int):lexLt [] (y :: ys)=true:=rfl
theorem lexLt_cons_nil (x:Int) (xs:List Int):lexLt (x :: xs) []=false:=rfl
theorem eqAt_int (A:Around) (s:Shared) (a:Int) (t:Tok) (c:Int) (u:Tok):∃ e,SeqAt.EqAt A s (.int a t) (.int c u) e/\(e=true ↔ a=c) :=
  ⟨(a == c),SeqAt.EqAt.int_int a t c u,by simp⟩
theorem rcLt_int (A:Around) (s:Shared) (a:Int) (t:Tok) (c:Int) (u:Tok) (prog:Program) (w:World) (E:Value->Shared->Prop) (Q:Value->Shared->Prop) (h:Q (.bool (decide (a < c))) s) :
    wpAny (model prog w) A (richCompare .Lt (.int a t) (.int c u)) Q E s :=
  (PyProof.Rows.lt_int h:wpAny (model prog w) A (compareOp .Lt (.int a t) (.int c u)) Q E s)
section
open PySem.SeqAt
open PySem.AutoSeq1 (wpAny_loadPart')
open PySem.MeetsSeq PySem.MeetsSeq2 PySem.MeetsSeq3
theorem tuple_lt_ints (l b : Addr) (items items2 : Array Value) (n n2 : Nat) (dd dd2 : Option Addr) (sl sl2 : Array (Option Value)) (ns ms : List Int) (hi : IntsAre items.toList ns) (hj : IntsAre items2.toList ms) :
    Meets (Builtin.«tuple.__lt__» ⟨[.ref l,.ref b],[]⟩)
      (fun _ R s=>s.heap.get? l=some { cls:=.type "tuple",dict:=dd,data:=.seq items n,slots:=sl }/\s.heap.get? b=some { cls:=.type "tuple",dict:=dd2,data:=.seq items2 n2,slots:=sl2 } /\
        R (.ok (.ret (.bool (lexLt ns ms)))) s) :=
  .of_wp fun prog w A R s h=>by
    obtain ⟨hp,g,d,tk,os⟩:=s;obtain ⟨hl,hb,h⟩:=h
    have f2:=AutoSeq1.sub_tuple_tuple
    have z1:items.size=ns.length:=by rw [<- hi.length];simp
    have z2:items2.size=ms.length:=by rw [<- hj.length];simp
    wp_walk using wpAny_loadPart' hl,wpAny_loadPart' hb,wpAny_forIn_list _ (fun rest b s'=>b.1=none/\s'=⟨hp,g,d,tk,os⟩/\∃ (vs ws:List Value) (ns' ms':List Int),rest=vs.zip ws /\
      IntsAre vs ns'/\IntsAre ws ms'/\ns'.length + items2.size=ms'.length + items.size/\R (.ok (.ret (.bool (lexLt ns' ms')))) ⟨hp,g,d,tk,os⟩) _
    case turn =>
      rintro ⟨y,x⟩ rest b s' ⟨hb',rfl,vs,ws,ns',ms',hz,hvi,hwi,hlen,hR⟩
      cases hvi with
      | nil=>rw [List.zip_nil_left] at hz;cases hz
      | cons a t hvi' =>
        cases hwi with
        | nil=>rw [List.zip_nil_right] at hz;cases hz
        | cons c u hwi' =>
          rw [List.zip_cons_cons] at hz
          injection hz with hyx hrest
          injection hyx with hy hx
          subst hy hx
          rw [lexLt_cons] at hR
          simp only [List.length_cons] at hlen
          obtain ⟨e,he,hiff⟩:=eqAt_int A.in1 ⟨hp,g,d,tk,os⟩ a t c u
          refine wpAny_bind (he prog w _ _ ?_)
          cases e with
          | true =>
            rw [if_pos (hiff.mp rfl)] at hR
            wp_walk
            exact ⟨rfl,rfl,_,_,_,_,hrest,hvi',hwi',by omega,hR⟩
          | false =>
            rw [if_neg (fun q=>absurd (hiff.mpr q) Bool.false_ne_true)] at hR
            have hri:=rcLt_int A.in1 ⟨hp,g,d,tk,os⟩ a t c u prog w
            wp_walk using hri
            exact ⟨_,rfl,by simpa using hR⟩
    case fin =>
      rintro ⟨b1,b2⟩ s' ⟨hb',rfl,vs,ws,ns',ms',hz,hvi,hwi,hlen,hR⟩
      simp only at hb'
      subst hb'
      have hv:lexLt ns' ms'=decide (items.size < items2.size):=by
        cases hvi with
        | nil =>
          cases hwi with
          | nil =>
            simp only [List.length_nil] at hlen
            rw [lexLt_nil_nil]
            exact (decide_eq_false (by omega)).symm
          | cons c u hw =>
            simp only [List.length_nil,List.length_cons] at hlen
            rw [lexLt_nil_cons]
            exact (decide_eq_true (by omega)).symm
        | cons a t hv =>
          cases hwi with
          | nil =>
            simp only [List.length_nil,List.length_cons] at hlen
            rw [lexLt_cons_nil]
            exact (decide_eq_false (by omega)).symm
          | cons c u hw =>
            rw [List.zip_cons_cons] at hz
            cases hz
      rw [hv] at hR
      wp_walk
      exact ⟨_,rfl,by simpa [Builtin.Tuple.tupleCompareSizes] using hR⟩
    case h =>
      exact ⟨rfl,rfl,items.toList,items2.toList,ns,ms,rfl,hi,hj,by omega,h⟩
end
section
variable {prog:Program} {w:World} {A:Around} {E:Value->Shared->Prop} {s:Shared}
theorem lt_tupInts {l b:Addr} {items items2:Array Value} {ns ms:List Int} {Q:Value->Shared->Prop} (hl:IsTup s.heap l items) (hb:IsTup s.heap b items2) (hi:IntsAre items.toList ns) (hj:IntsAre items2.toList ms)
    (hu:A.units < cLine) (h:Q (.bool (lexLt ns ms)) s):wpAny (model prog w) A (compareOp .Lt (.ref l) (.ref b)) Q E s:=by
  obtain ⟨⟨cls,dd,data,sl⟩,ho,hc,n,hd⟩:=id hl
  obtain ⟨⟨cls2,dd2,data2,sl2⟩,ho2,hc2,n2,hd2⟩:=id hb
  simp only at hc hd hc2 hd2
  subst hc hd hc2 hd2
  exact richCompare_meets_room (op:=.Lt) ⟨_,ho,rfl⟩ ⟨_,ho2,rfl⟩ PySem.F.slot_tuple_lt PySem.F.entry_tuple_lt (PySem.F.args_tuple_lt_2 _ _) (tuple_lt_ints l b items items2 n n2 dd dd2 sl sl2 ns ms hi hj)
    ⟨ho,ho2,show Value.bool (lexLt ns ms) ≠ Value.notImplemented/\Q (.bool (lexLt ns ms)) s from ⟨(fun x=>nomatch x),h⟩⟩ hu
noncomputable def sIx (n d:Nat):Option Int->Nat
  | none=>d
  | some v=>if v < 0 then (v + (n:Int)).toNat else min v.toNat n
end
end HT
namespace L2
open PySem PySem.Spec PyProof.Rows
noncomputable abbrev TO:=St->Hp->(Option Int->Hp->Prop)->Prop
noncomputable def PO (X:Cx) (e:Option Expr) (t:TO):Prop :=
  ∀ (pins:List (Addr × Obj)) (s:Shared) (σ:St) (H:Hp) (Q:Option Int->Hp->Prop),Inv X pins σ H s->t σ H Q ->
    wpAny (model X.prog X.w) X.A (evalPart e X.env) (fun u s'=>∃ o H',Inv X pins σ H' s'/\IsPart u o/\Q o H') X.xe s
noncomputable def tNoPart:TO:=fun _ H Q=>Q none H
noncomputable def tPart (t:TE):TO:=fun σ H Q=>t σ H fun x H1=>∃ i,x = .int i/\Q (some i) H1
theorem intsAre_of {ns:List Int}:∀ {us:List Value},Vals (ns.map V.int) us->IntsAre us ns:=by
  induction ns with
  | nil=>intro us r;rw [List.map_nil] at r;cases r;exact .nil
  | cons n ns ih =>
    intro us r
    rw [List.map_cons] at r
    cases r with
    | cons r1 r2 =>
      obtain ⟨t,e⟩:=r1
      subst e
      exact .cons n t (ih r2)
section
variable {X:Cx} {e:Expr} {te:TE} {lo hi:Option Expr} {tl th:TO} {pos p2:Pos}
theorem po_none:PO X none tNoPart:=by
  intro pins s σ H Q I h
  rw [evalPart_none]
  exact wpAny_pure ⟨none,H,I,.none,h⟩
theorem po_some (h:PE X e te):PO X (some e) (tPart te):=by
  intro pins s σ H Q I hw
  rw [evalPart_some]
  refine thn (h pins s σ H _ I hw) fun u s1 ⟨x,H1,I1,r1,q1⟩=>?_
  obtain ⟨i,rfl,q⟩:=q1
  obtain ⟨t,rfl⟩:=r1
  exact ⟨some i,H1,I1,.int i t,q⟩
noncomputable def SlR (X:Cx) (r:V->Option Int->Option Int->Hp->VK->Prop):Prop :=
  ∀ (pins:List (Addr × Obj)) (s:Shared) (σ:St) (H:Hp) (x:V) (v vl vu:Value) (lo hi:Option Int) (sl:Addr) (Q:VK),Inv X pins σ H s->RelV x v->s.heap.IsSliceOf sl vl vu .none->IsPart vl lo->IsPart vu hi->r x lo hi H Q ->
    ∃ T id,typeLookup (.type T) "__getitem__" = pure (some (.builtin id))/\s.TypeIs v T/\wpAny (model X.prog X.w) X.A (getItem v (.ref sl)) (EP X pins σ Q) X.xe s
noncomputable def tSl (r:V->Option Int->Option Int->Hp->VK->Prop) (te:TE) (tl th:TO):TE:=fun σ H Q=>te σ H fun x H1=>tl σ H1 fun l H2=>th σ H2 fun u H3=>r x l u H3 Q
theorem pe_slice {r:V->Option Int->Option Int->Hp->VK->Prop} (hr:SlR X r) (he:PE X e te) (hl:PO X lo tl) (hu:PO X hi th):PE X (.Subscript e (.Slice lo hi none p2) pos) (tSl r te tl th):=by
  intro pins s σ H Q I h
  refine Subscript_ (thn (he pins s σ H _ I h) fun v s1 ⟨x,H1,I1,r1,q1⟩=>?_)
  refine wpAny_Slice (thn (hl pins s1 σ H1 _ I1 q1) fun vl s2 ⟨l,H2,I2,pl,q2⟩=>thn (hu pins s2 σ H2 _ I2 q2) fun vu s3 ⟨u,H3,I3,pu,q3⟩=>?_)
  rw [evalPart_none]
  refine wpAny_pure ?_
  have I4:Inv X pins σ H3 { s3 with heap:=s3.heap.push { cls:=.type "slice",data:=.fields #[vl,vu,.none] } }:=I3.kept (t':=s3.toks) fun b ob q=>Heap.get?_push_of_some _ q
  obtain ⟨T,id,hT,ht,hg⟩:=hr pins { s3 with heap:=s3.heap.push { cls:=.type "slice",data:=.fields #[vl,vu,.none] } } σ H3 x v vl vu l u s3.heap.objs.size Q I4 r1 (Heap.IsSliceOf.new ..) pl pu q3
  show wpAny (model X.prog X.w) X.A (subscriptTail e (.Slice lo hi none p2) v (.ref s3.heap.objs.size)) (EP X pins σ Q) X.xe { s3 with heap:=s3.heap.push { cls:=.type "slice",data:=.fields #[vl,vu,.none] } }
  exact tail_any (ops:=[.ref s3.heap.objs.size,v]) ht hT hg (by with_unfolding_all rfl)
noncomputable def cutV (xs:List V) (lo hi:Option Int):List V:=(xs.drop (HT.sIx xs.length 0 lo)).take (HT.sIx xs.length xs.length hi - HT.sIx xs.length 0 lo)
theorem cutV_length (xs:List V) (lo hi:Option Int):(cutV xs lo hi).length<=xs.length:=by
  unfold cutV
  rw [List.length_take,List.length_drop]
  omega
noncomputable def rLtT (K:PySem.W.Frag):R2:=fun x y H Q=>∃ a b ns ms,x = .ref a/\y = .ref b/\SqT K H a (ns.map V.int)/\SqT K H b (ms.map V.int)/\Q (.bl (HT.lexLt ns ms)) H
theorem op_ltT (hu:X.A.units < cLine):OpR X (compareOp .Lt) (rLtT X.K):=by
  intro pins s σ H x y v u Q I rx ry h
  obtain ⟨a,b,ns,ms,rfl,rfl,ha,hb,q⟩:=h
  cases rx
  cases ry
  obtain ⟨its,r1,p1,_⟩:=I.tuple ha
  obtain ⟨its2,r2,p2,_⟩:=I.tuple hb
  have i1:IntsAre its.toArray.toList ns:=intsAre_of r1
  have i2:IntsAre its2.toArray.toList ms:=intsAre_of r2
  exact HT.lt_tupInts p1 p2 i1 i2 hu ⟨.bl (HT.lexLt ns ms),H,I,rfl,q⟩
end
end L2
namespace L2
open PySem PySem.Spec PyProof.Rows
noncomputable def ixN (n:Nat) (i:Int):Option Nat:=if 0<=i then (if i < n then some i.toNat else none) else if -(n:Int)<=i then some (i + n).toNat else none
noncomputable def atI {α:Type} (xs:List α) (i:Int):Option α:=(ixN xs.length i).bind fun j=>xs[j]?
theorem ixN_seq {n:Nat} {i:Int} {j:Nat} (h:ixN n i=some j):seqIndex? i n=some j/\j < n /\ -(n:Int)<=i/\i < n:=by
  unfold ixN at h
  by_cases h0:0<=i
  . rw [if_pos h0] at h
    by_cases h1:i < n
    . rw [if_pos h1] at h
      have e:i.toNat=j:=Option.some.inj h
      exact ⟨by rw [seqIndex_of h0 h1,e],by omega,by omega,h1⟩
    . rw [if_neg h1] at h;cases h
  . rw [if_neg h0] at h
    by_cases h1 : -(n:Int)<=i
    . rw [if_pos h1] at h
      have e:(i + n).toNat=j:=Option.some.inj h
      exact ⟨by rw [seqIndex_neg (by omega) h1,e],by omega,h1,by omega⟩
    . rw [if_neg h1] at h;cases h
theorem atI_get {α:Type} {xs:List α} {i:Int} {v:α} (h:atI xs i=some v):∃ j,seqIndex? i xs.length=some j/\xs[j]?=some v/\j < xs.length /\ -(xs.length:Int)<=i/\i < xs.length:=by
  unfold atI at h
  cases e:ixN xs.length i with
  | none=>rw [e] at h;cases h
  | some j =>
    rw [e] at h
    obtain ⟨h1,h2,h3,h4⟩:=ixN_seq e
    exact ⟨j,h1,h,h2,h3,h4⟩
theorem atI_nat {α:Type} {xs:List α} {j:Nat} {v:α} (h:xs[j]?=some v):atI xs (j:Int)=some v:=by
  have hj:j < xs.length:=(List.getElem?_eq_some_iff.mp h).1
  have e:ixN xs.length (j:Int)=some j:=by
    unfold ixN
    rw [if_pos (by omega),if_pos (by omega)];simp
  unfold atI;rw [e];exact h
noncomputable def PlainIx (b:Expr):Prop:=∀ o i,subscripted b false o i=operate [o,i] (getItem o i)
noncomputable def IxR (X:Cx) (r:R2):Prop :=
  ∀ (value slice:Expr) (pins:List (Addr × Obj)) (s:Shared) (σ:St) (H:Hp) (x y:V) (v u:Value) (Q:VK),Inv X pins σ H s->RelV x v->RelV y u->r x y H Q ->
    subscripted slice false v u=operate [v,u] (getItem v u)->wpAny (model X.prog X.w) X.A (subscriptTail value slice v u) (EP X pins σ Q) X.xe s
noncomputable def MtR (X:Cx) (id:String) (r:V->List V->Hp->VK->Prop):Prop :=
  ∀ (pins:List (Addr × Obj)) (s:Shared) (σ:St) (H:Hp) (x:V) (xs:List V) (v:Value) (us:List Value) (Q:VK),Inv X pins σ H s->RelV x v->Vals xs us->r x xs H Q ->
    wpAny (model X.prog X.w) X.A (call (.builtin id) (v :: us)) (EP X pins σ Q) X.xe s
section
variable {X:Cx} {a b:Expr} {ta tb:TE} {pos:Pos}
theorem pe_ix {r:R2} (hr:IxR X r) (ha:PE X a ta) (hb:PE X b tb) (hs:PlainIx b):PE X (.Subscript a b pos) (tOp r ta tb):=by
  intro pins s σ H Q I h
  exact Subscript_ (binT ha hb I h fun v u s2 x y H2 I2 rx ry q=>hr a b pins s2 σ H2 x y v u Q I2 rx ry q (hs _ _))
noncomputable def rIxL (K:PySem.W.Frag):R2:=fun x y H Q=>∃ p xs i v,x = .ref p/\y = .int i/\SqL K H p xs/\atI xs i=some v/\Q v H
noncomputable def rIxT (K:PySem.W.Frag):R2:=fun x y H Q=>∃ p xs i v,x = .ref p/\y = .int i/\SqT K H p xs/\atI xs i=some v/\Q v H
noncomputable def rIxS:R2:=fun x y H Q=>∃ z i c,x = .str z/\y = .int i/\z.length<=sizeLine/\atI z.cps.toList i=some c/\Q (.str ⟨#[c]⟩) H
theorem ix_list:IxR X (rIxL X.K):=by
  intro value slice pins s σ H x y v u Q I rx ry h hs
  obtain ⟨p,xs,i,z,rfl,rfl,hq,he,q⟩:=h
  cases rx
  obtain ⟨t,rfl⟩:=ry
  obtain ⟨its,r,pl,hz⟩:=I.list hq
  obtain ⟨j,h1,h2,h3,h4,h5⟩:=atI_get he
  obtain ⟨w,ew,rw'⟩:=r.get h2
  have hl:=r.length
  have hn:=line63
  have fin:EP X pins σ Q w s:=⟨z,H,I,rw',q⟩
  by_cases h0:0<=i
  . have hj:i.toNat=j:=by
      rw [seqIndex_of h0 h5] at h1
      exact Option.some.inj h1
    exact item_listR pl.isList h0 (by omega) (by rw [hj];simpa using ew) fin hs
  . have hj:(i + (its.toArray.size:Int)).toNat=j:=by
      rw [seqIndex_neg (by omega) h4] at h1
      rw [List.size_toArray, <- hl]
      exact Option.some.inj h1
    exact subscriptTail_builtinR (x:=w) pl.isList.typeIs slot_list_getitem.lookup
      (wpAny_getItem_list_neg (Q:=fun r s'=>r=w/\EP X pins σ Q r s') pl.isList (by omega) (by rw [List.size_toArray] <;> omega) (by omega) (by rw [hj];simpa using ew) ⟨rfl,fin⟩) hs
theorem ix_tup:IxR X (rIxT X.K):=by
  intro value slice pins s σ H x y v u Q I rx ry h hs
  obtain ⟨p,xs,i,z,rfl,rfl,hq,he,q⟩:=h
  cases rx
  obtain ⟨t,rfl⟩:=ry
  obtain ⟨its,r,pl,hz⟩:=I.tuple hq
  obtain ⟨j,h1,h2,h3,h4,h5⟩:=atI_get he
  obtain ⟨w,ew,rw'⟩:=r.get h2
  have hl:=r.length
  have hn:=line63
  have fin:EP X pins σ Q w s:=⟨z,H,I,rw',q⟩
  exact subscriptTail_builtinR (x:=w) pl.typeIs slot_tuple_getitem.lookup
    (getItem_tuple (j:=j) (Q:=fun r s'=>r=w/\EP X pins σ Q r s') pl (by omega) (by omega) (by rw [List.size_toArray, <- hl];exact h1) (by simpa using ew) ⟨rfl,fin⟩) hs
theorem ix_str:IxR X rIxS:=by
  intro value slice pins s σ H x y v u Q I rx ry h hs
  obtain ⟨z,i,c,rfl,rfl,hz,he,q⟩:=h
  obtain ⟨t,rfl⟩:=rx
  obtain ⟨t',rfl⟩:=ry
  obtain ⟨j,h1,h2,h3,h4,h5⟩:=atI_get he
  have hl:z.cps.toList.length=z.length:=by simp [Str.length]
  rw [hl] at h1 h4 h5
  have hn:=line63
  exact tail_any (typeIs_str s z t) slot_str_getitem.lookup (getItem_str (c:=c) (by
    have e1:decide (i < -(2 ^ 63:Int))=false:=decide_eq_false (by omega)
    have e2:decide (i ≥ 2 ^ 63)=false:=decide_eq_false (by omega)
    rw [e1,e2,Bool.or_false]) (by rw [h1];simpa using h2) ⟨.str ⟨#[c]⟩,H,I.tok _,⟨_,rfl⟩,q⟩) hs
theorem mapSeq_set (its:List Value) (n j:Nat) (u:Value):Obj.mapSeq (·.setIfInBounds j u) { cls:=.type "list",data:=.seq its.toArray n }={ cls:=.type "list",data:=.seq (its.set j u).toArray n }:=by
  simp [Obj.mapSeq]
theorem Inv.lst {pins:List (Addr × Obj)} {σ:St} {H:Hp} {s:Shared} {p:Addr} {xs:List V} (I:Inv X pins σ H s) (h:H p=some (.lst xs)) :
    ∃ (its:List Value) (n:Nat),Vals xs its/\s.heap.get? p=some { cls:=.type "list",data:=.seq its.toArray n }/\xs.length<=sizeLine:=by
  obtain ⟨z,its,n,r,e⟩:=I.hok p _ h
  exact ⟨its,n,r,e,z⟩
theorem Inv.lstUpd {pins:List (Addr × Obj)} {σ:St} {H:Hp} {s:Shared} {p:Addr} {xs ys:List V} {its its':List Value} {n n':Nat} {f:Obj->Obj} (I:Inv X pins σ H s) (h:H p=some (.lst xs))
    (ho:s.heap.get? p=some { cls:=.type "list",data:=.seq its.toArray n }) (hf:f { cls:=.type "list",data:=.seq its.toArray n }={ cls:=.type "list",data:=.seq its'.toArray n' }) (r:Vals ys its') (hz:ys.length<=sizeLine) (t:Nat) :
    Inv X pins σ (upd H p (.lst ys)) { s with heap:=s.heap.update p f,toks:=t }:=by
  have e:(s.heap.update p f).get? p=some { cls:=.type "list",data:=.seq its'.toArray n' }:=by
    rw [Heap.get?_update_self f ho (by rw [hf] <;> rfl),hf]
  refine I.write (x:=p) (e:=p) (by rw [h];trivial) (.inl rfl) (fun b u hb q=>(Heap.get?_update_other _ _ (Ne.symm hb)).trans q) ⟨_,e⟩ ?_
  exact ⟨hz,its',n',r,e⟩
noncomputable def rSetL:V->V->V->Hp->(Hp->Prop)->Prop:=fun o i v H Q=>∃ p xs k j,o = .ref p/\i = .int k/\H p=some (.lst xs)/\ixN xs.length k=some j/\Q (upd H p (.lst (xs.set j v)))
theorem set_list:PSet X rSetL:=by
  intro pins s σ H o i v ov iv u Q I ro ri rv h
  obtain ⟨p,xs,k,j,rfl,rfl,hp,hj,q⟩:=h
  cases ro
  obtain ⟨t,rfl⟩:=ri
  obtain ⟨its,n,r,ho,hz⟩:=I.lst hp
  obtain ⟨h1,h2,h3,h4⟩:=ixN_seq hj
  have hl:=r.length
  have hn:=line63
  have I':Inv X pins σ (upd H p (.lst (xs.set j v))) { s with heap:=s.heap.update p (Obj.mapSeq (·.setIfInBounds j u)) } :=
    I.lstUpd hp ho (mapSeq_set its n j u) (r.set rv j) (by rw [List.length_set];exact hz) s.toks
  by_cases h0:0<=k
  . have hk:k.toNat=j:=by
      rw [seqIndex_of h0 h4] at h1
      exact Option.some.inj h1
    exact PySem.W.ki_setAt ho h0 (by omega) (by rw [List.size_toArray, <- hl];exact h4) (by rw [hk];exact ⟨_,I',q⟩)
  . have hk:(k + (its.toArray.size:Int)).toNat=j:=by
      rw [seqIndex_neg (by omega) h3] at h1
      rw [List.size_toArray, <- hl]
      exact Option.some.inj h1
    exact PySem.W.ki_setBack ho (by omega) (by rw [List.size_toArray, <- hl];exact h3) (by omega) (by rw [hk];exact ⟨_,I',q⟩)
theorem slice_bounds (lo hi:Option Int) (n:Nat):(sliceBounds lo hi none n).1=((HT.sIx n 0 lo:Nat):Int)/\(sliceBounds lo hi none n).2.1=((HT.sIx n n hi:Nat):Int)/\(sliceBounds lo hi none n).2.2=1:=by
  refine ⟨?_,?_,rfl⟩
  . cases lo with
    | none=>simp [sliceBounds,HT.sIx]
    | some i =>
      simp only [sliceBounds,HT.sIx,Option.getD_none,show (1:Int) > 0 by decide,if_true]
      by_cases h:i < 0
      . simp only [h,if_true] <;> omega
      . simp only [h,if_false] <;> omega
  . cases hi with
    | none=>simp [sliceBounds,HT.sIx]
    | some i =>
      simp only [sliceBounds,HT.sIx,Option.getD_none,show (1:Int) > 0 by decide,if_true]
      by_cases h:i < 0
      . simp only [h,if_true] <;> omega
      . simp only [h,if_false] <;> omega
theorem slicePick_cut (its:List Value) (lo hi:Option Int):slicePick its.toArray lo hi none=((its.drop (HT.sIx its.length 0 lo)).take (HT.sIx its.length its.length hi - HT.sIx its.length 0 lo)).toArray:=by
  obtain ⟨h1,h2,h3⟩:=slice_bounds lo hi its.toArray.size
  unfold slicePick
  rw [h1,h2,h3]
  simp only [sliceRange_one,pick_run,List.size_toArray] <;> rfl
noncomputable def rSlL (K:PySem.W.Frag):V->Option Int->Option Int->Hp->VK->Prop:=fun x lo hi H Q=>∃ a xs,x = .ref a/\SqL K H a xs/\∀ p,H p=none->Q (.ref p) (upd H p (.lst (cutV xs lo hi)))
theorem sl_list:SlR X (rSlL X.K):=by
  intro pins s σ H x v vl vu lo hi sl Q I rx hs pl pu h
  obtain ⟨a,xs,rfl,hx,q⟩:=h
  cases rx
  obtain ⟨its,r,ht,hz⟩:=I.list hx
  have hlen:=r.length
  refine ⟨"list",_,slot_list_getitem.lookup,ht.isList.typeIs,?_⟩
  refine wpAny_getItem_list_slice ht.isList hs pl pu .none (by simp) ?_ (by rw [List.size_toArray] <;> omega)
  rw [slicePick_cut, <- hlen]
  refine ⟨.ref s.heap.objs.size,_,I.laid (t':=s.toks) (o:=.lst (cutV xs lo hi)) (fun b ob q=>Heap.get?_push_of_some _ q) (Nat.le_refl _) ?_,rfl,q _ (I.hok.fresh (Nat.le_refl _))⟩
  exact ⟨Nat.le_trans (cutV_length xs lo hi) hz,_,0,(r.drop (HT.sIx xs.length 0 lo)).take (HT.sIx xs.length xs.length hi - HT.sIx xs.length 0 lo),Heap.get?_push_size _ rfl⟩
theorem call_len_seq:CallR X (.builtin "len") (fun xs H Q=>∃ p ys,xs=[.ref p]/\(SqL X.K H p ys\/SqT X.K H p ys)/\Q (.int ys.length) H):=by
  intro pins s σ H xs us Q I r h
  obtain ⟨p,ys,rfl,hq,q⟩:=h
  obtain ⟨u,rfl,rx⟩:=vals1 r
  cases rx
  have hn:=line63
  rcases hq with hq | hq
  . obtain ⟨its,r',pl,hz⟩:=I.list hq
    have hlen:=r'.length
    exact Calls.call_len_list pl.isList (by simp only [List.size_toArray] <;> omega) ⟨.int ys.length,H,I.tok _,⟨s.toks + 1,by rw [List.size_toArray,hlen]⟩,q⟩
  . obtain ⟨its,r',pl,hz⟩:=I.tuple hq
    have hlen:=r'.length
    exact len_tuple pl (by simp only [List.size_toArray] <;> omega) ⟨.int ys.length,H,I.tok _,⟨s.toks + 1,by rw [List.size_toArray,hlen]⟩,q⟩
theorem call_len_str:CallR X (.builtin "len") (fun xs H Q=>∃ z,xs=[.str z]/\z.length<=sizeLine/\Q (.int z.length) H):=by
  intro pins s σ H xs us Q I r h
  obtain ⟨z,rfl,hz,q⟩:=h
  obtain ⟨u,rfl,t,rfl⟩:=vals1 r
  have hn:=line63
  exact len_str (by omega) ⟨.int z.length,H,I.tok _,⟨_,rfl⟩,q⟩
theorem call_tuple_of:CallR X (.type "tuple") (fun xs H Q=>∃ p ys,xs=[.ref p]/\((SqL X.K H p ys/\∀ l,H l=none->Q (.ref l) (upd H l (.tup ys)))\/(SqT X.K H p ys/\Q (.ref p) H))):=by
  intro pins s σ H xs us Q I r h
  obtain ⟨p,ys,rfl,h⟩:=h
  obtain ⟨u,rfl,rx⟩:=vals1 r
  cases rx
  rcases h with ⟨hq,q⟩ | ⟨hq,q⟩
  . obtain ⟨its,r',pl,hz⟩:=I.list hq
    have hlen:=r'.length
    refine call_tuple_list pl.isList (fun h' kp=>?_) (by simp only [List.size_toArray] <;> omega)
    have I1:Inv X pins σ H { s with heap:=h' }:=I.kept (t':=s.toks) kp
    have I2:Inv X pins σ (upd H h'.objs.size (.tup ys)) { s with heap:=h'.push { cls:=.type "tuple",data:=.seq its.toArray } } :=
      I1.laid (t':=s.toks) (fun b o e=>Heap.get?_push_of_some _ e) (Nat.le_refl _) (show ObjOk X.prog X.w _ _ _ (.tup ys) from ⟨hz,its,r',IsTup.new _ _⟩)
    exact ⟨.ref h'.objs.size,_,I2,rfl,q _ (I1.hok.fresh (Nat.le_refl _))⟩
  . obtain ⟨its,r',pl,hz⟩:=I.tuple hq
    exact call_tuple_same pl ⟨.ref p,H,I,rfl,q⟩
noncomputable def tyV (K:PySem.W.Frag) (T:String) (x:V) (H:Hp):Prop:=match x with
  | .str _=>T = "str"
  | .int _=>T = "int"
  | .ref p=>(T = "list" /\ ∃ xs,SqL K H p xs)\/(T = "tuple" /\ ∃ o,K.lookup p=some o/\o.cls = .type "tuple" /\ o.dict=none) \/
      (T = "dict" /\ ((∃ kvs,H p=some (.dK kvs))\/∃ kvs,H p=some (.dT kvs)))\/(T = "set" /\ ∃ S n,H p=some (.set S n))
  | _=>False
theorem tyV_is {pins : List (Addr × Obj)} {σ : St} {H : Hp} {s : Shared} {T : String} {x : V} {v : Value} (I : Inv X pins σ H s) (r : RelV x v) (ty : tyV X.K T x H) :
    s.TypeIs v T/\∀ a,v = .ref a->∃ ob,s.heap.get? a=some ob/\ob.dict=none:=by
  cases x with
  | str z =>
    obtain ⟨t,rfl⟩:=r
    cases (show T = "str" from ty)
    exact ⟨typeIs_str s z t,fun _ e=>nomatch e⟩
  | int i =>
    obtain ⟨t,rfl⟩:=r
    cases (show T = "int" from ty)
    exact ⟨typeIs_int s i t,fun _ e=>nomatch e⟩
  | ref p =>
    cases r
    rcases ty with ⟨rfl,xs,hq⟩ | ⟨rfl,o,hk,hc,hd⟩ | ⟨rfl,hk⟩ | ⟨rfl,S,n,hk⟩
    . obtain ⟨its,_,pl,_⟩:=I.list hq
      refine ⟨pl.isList.typeIs,fun a e=>?_⟩
      cases e
      obtain ⟨o,n,e,c,hd,_⟩:=pl
      exact ⟨o,e,hd⟩
    . refine ⟨⟨o,I.kIn p o hk,hc⟩,fun a e=>?_⟩
      cases e
      exact ⟨o,I.kIn _ o hk,hd⟩
    . have z:∃ o,s.heap.get? p=some o/\o.ExactDict:=by
        rcases hk with ⟨kvs,hk⟩ | ⟨kvs,hk⟩
        . obtain ⟨_,_,_,_,o,_,_,e,ex,_⟩:=I.hok p _ hk
          exact ⟨o,e,ex⟩
        . obtain ⟨_,_,_,_,o,_,_,e,ex,_⟩:=I.hok p _ hk
          exact ⟨o,e,ex⟩
      obtain ⟨o,e,ex⟩:=z
      refine ⟨⟨o,e,ex.1⟩,fun a e2=>?_⟩
      cases e2
      exact ⟨o,e,ex.2.1⟩
    . obtain ⟨o,_,_,_,e,ex,_⟩:=I.hok p _ hk
      refine ⟨⟨o,e,ex.1⟩,fun a e2=>?_⟩
      cases e2
      exact ⟨o,e,ex.2.1⟩
  | _=>exact False.elim ty
noncomputable def tBM0 (K:PySem.W.Frag) (T:String) (r:V->List V->Hp->VK->Prop) (to:TE):TE:=fun σ H Q=>to σ H fun x H1=>tyV K T x H1/\r x [] H1 Q
variable {o e:Expr} {es:List Expr} {to:TE} {t:TA} {name:Str} {apos cpos:Pos} {T id:String} {r:V->List V->Hp->VK->Prop}
theorem pe_bm0 (pa:PlainAttrs T) (slot:Slot T name id) (hty:typeOf (.builtin id)=pure (.type "method_descriptor")) (hm:MtR X id r) (ho:PE X o to)
    (hbase:attributeBase o name X.env (eval o X.env)=eval o X.env:=by rfl) (hline:(apos.endLine == cpos.line)=true:=by rfl):PE X (.Call (.Attribute o name apos) [] [] cpos) (tBM0 X.K T r to):=by
  intro pins s σ H Q I h
  refine wpAny_Call_method0_late hbase hline (thn (ho pins s σ H _ I h) fun v s1 ⟨x,H1,I1,r1,ty,q1⟩=>?_)
  obtain ⟨h1,h2⟩:=tyV_is I1 r1 ty
  exact ⟨T,id,pa,slot,hty,h1,h2,Calls.callWith_builtin rfl (PySem.evalArgs_none (hm pins s1 σ H1 x [] v [] Q I1 r1 .nil q1))⟩
end
end L2
namespace L2
open PySem PySem.Spec PyProof.Rows
noncomputable def MtM (X:Cx) (id:String) (r:V->List V->Hp->VK->Prop):Prop :=
  ∀ (pins:List (Addr × Obj)) (s:Shared) (σ:St) (H:Hp) (x:V) (xs:List V) (v:Value) (us:List Value) (Q:VK),Inv X pins σ H s->RelV x v->Vals xs us->r x xs H Q ->
    wpAny (model X.prog X.w) X.A (call (.builtin id) (v :: us)) (EP X pins σ Q) X.xe s
theorem Vals.one:∀ {x:V} {us:List Value},Vals [x] us->∃ u,us=[u]/\RelV x u
  | _,_,.cons r .nil=>⟨_,rfl,r⟩
section
variable {X:Cx} {pins:List (Addr × Obj)} {σ:St} {H:Hp} {s:Shared} {l b:Addr} {xs ys zs:List V}
theorem Inv.lset {its its':List Value} {n:Nat} {f:Array Value->Array Value} {t':Nat} (I:Inv X pins σ H s) (hH:H l=some (.lst xs))
    (e:s.heap.get? l=some { cls:=.type "list",data:=.seq its.toArray n }) (hf:f its.toArray=its'.toArray) (hv:Vals ys its') (hz:ys.length<=sizeLine) :
    Inv X pins σ (upd H l (.lst ys)) { s with heap:=s.heap.update l (Obj.mapSeq f),toks:=t' }:=by
  have q:=PySem.IsL.update e f
  rw [hf] at q
  refine I.write (x:=l) (e:=l) (by rw [hH];exact trivial) (.inl rfl) (fun b' u hb hu=>(Heap.get?_update_other s.heap (Obj.mapSeq f) (Ne.symm hb)).trans hu) ⟨_,q⟩ ?_
  exact ⟨hz,its',_,hv,q⟩
theorem Inv.lnew {its:List Value} {t':Nat} (I:Inv X pins σ H s) (hv:Vals ys its) (hz:ys.length<=sizeLine) :
    Inv X pins σ (upd H s.heap.objs.size (.lst ys)) { s with heap:=s.heap.push { cls:=.type "list",data:=.seq its.toArray },toks:=t' } :=
  I.laid (fun _ _ q=>Heap.get?_push_of_some _ q) (Nat.le_refl _) ⟨hz,its,0,hv,Heap.get?_push_size _ rfl⟩
theorem Inv.fresh (I:Inv X pins σ H s):H s.heap.objs.size=none:=I.hok.fresh (Nat.le_refl _)
theorem Inv.lstM (I:Inv X pins σ H s) (hH:H l=some (.lst xs)):xs.length<=sizeLine/\∃ (its:List Value) (n:Nat),Vals xs its/\xs.length=its.length/\s.heap.get? l=some { cls:=.type "list",data:=.seq its.toArray n }:=by
  obtain ⟨z,its,n,r,e⟩:=I.hok l _ hH
  exact ⟨z,its,n,r,r.length,e⟩
theorem notLongL {n:Nat} (h:n<=sizeLine):Builtin.List.listTooLong n=false:=by
  unfold Builtin.List.listTooLong
  exact decide_eq_false (by omega)
end
section
variable {X:Cx}
noncomputable def rAppend:V->List V->Hp->VK->Prop:=fun x vs H Q=>∃ l xs y,x = .ref l/\vs=[y]/\H l=some (.lst xs)/\xs.length < sizeLine/\Q .non (upd H l (.lst (xs ++ [y])))
theorem mt_append:MtM X "list.append" rAppend:=by
  intro pins s σ H x vs v us Q I rx rv h
  obtain ⟨l,xs,y,rfl,rfl,hH,hz,q⟩:=h
  cases rx
  obtain ⟨u,rfl,ru⟩:=rv.one
  obtain ⟨z,its,n,r,hl,e⟩:=I.lstM hH
  refine call_meets F.slot_list_append ⟨_,e,rfl⟩ F.entry_list_append (F.args_list_append_2 _ _) (PySem.list_append l its.toArray n u (by rw [List.size_toArray];omega)) ⟨e,?_⟩
  refine ⟨.non,_,I.lset (its':=its ++ [u]) hH e (by simp) (r.append (.cons ru .nil)) ?_,rfl,q⟩
  rw [List.length_append,List.length_singleton]
  omega
noncomputable def rExtend:V->List V->Hp->VK->Prop:=fun x vs H Q=>∃ l b xs zs,x = .ref l/\vs=[.ref b]/\H l=some (.lst xs)/\H b=some (.lst zs)/\xs.length + zs.length<=sizeLine/\Q .non (upd H l (.lst (xs ++ zs)))
theorem mt_extend:MtM X "list.extend" rExtend:=by
  intro pins s σ H x vs v us Q I rx rv h
  obtain ⟨l,b,xs,zs,rfl,rfl,hH,hB,hz,q⟩:=h
  cases rx
  obtain ⟨u,rfl,ru⟩:=rv.one
  cases ru
  obtain ⟨z,its,n,r,hl,e⟩:=I.lstM hH
  obtain ⟨z2,its2,n2,r2,hl2,e2⟩:=I.lstM hB
  have hsz:its.toArray.size + its2.toArray.size<=sizeLine:=by rw [List.size_toArray,List.size_toArray];omega
  have hlong:¬ (!its.toArray.isEmpty && Builtin.List.listTooLong (its.toArray.size + its2.toArray.size))=true:=by
    rw [notLongL hsz,Bool.and_false]
    exact Bool.false_ne_true
  refine call_meets F.slot_list_extend ⟨_,e,rfl⟩ F.entry_list_extend (F.args_list_extend_2 _ _)
    (AutoSeq1.list_extend_list_list_0 l its.toArray n b its2.toArray n2 hlong (by rw [List.size_toArray];omega) (by omega)) ⟨e,e2,?_⟩
  refine ⟨.non,_,I.lset (its':=its ++ its2) hH e (by simp) (r.append r2) ?_,rfl,q⟩
  rw [List.length_append]
  omega
noncomputable def rCat:R2:=fun x y H Q=>∃ l b xs zs,x = .ref l/\y = .ref b/\H l=some (.lst xs)/\H b=some (.lst zs)/\xs.length + zs.length<=sizeLine/\∀ p,H p=none->Q (.ref p) (upd H p (.lst (xs ++ zs)))
theorem op_cat:OpR X (binaryOp .Add) rCat:=by
  intro pins s σ H x y v u Q I rx ry h
  obtain ⟨l,b,xs,zs,rfl,rfl,hH,hB,hz,q⟩:=h
  cases rx
  cases ry
  obtain ⟨z,its,n,r,hl,e⟩:=I.lstM hH
  obtain ⟨z2,its2,n2,r2,hl2,e2⟩:=I.lstM hB
  refine PySem.P.add_list e e2 ?_ (by rw [List.size_toArray,List.size_toArray];omega)
  have ea:its.toArray ++ its2.toArray=(its ++ its2).toArray:=by simp
  rw [ea]
  exact ⟨.ref _,_,I.lnew (t':=s.toks) (r.append r2) (by rw [List.length_append];omega),rfl,q _ I.fresh⟩
end
section
variable {prog:Program} {w:World} {A:Around} {E:Value->Shared->Prop} {s:Shared}
end
section
variable {X:Cx}
end
end L2
namespace Att
open PySem PySem.W PySem.Calls PyProof.Rows
theorem ints_of_wellAll {P:Params} {h:Heap}:∀ (ns:List Int) (vs:List Value),WellAll P h vs (ns.map WData.int)->IntsAre vs ns:=by
  intro ns
  induction ns with
  | nil =>
    intro vs w
    rw [List.map_nil] at w
    cases w
    exact .nil
  | cons n ns ih =>
    intro vs w
    rw [List.map_cons] at w
    cases w with
    | cons a b =>
      cases a
      exact .cons _ _ (ih _ b)
theorem script_of {l:OpenLaw} {n:Nat} (hn:l.most=some n) {P:Params} {h:Heap} {args:List WData} {vals:List Value}
    (hpre:l.row.toRowW.claim.pre args=true) (hwl:WellAll P h vals args) :
    ∃ a vs ns,vals=[Value.ref a]/\args=[WData.list (ns.map WData.int)]/\h.get? a=some { cls:=.type "list",data:=.seq vs.toArray }/\IntsAre vs ns/\ns.length<=n:=by
  have hsh:WShape.hasAll [] args [.list .int]=true:=(pre_splitW hpre).1
  have hc:l.pre.holds [] { args:=args }=true:=(pre_splitW hpre).2
  obtain ⟨d,r,rfl,h1,h2⟩:=hasAllW_cons hsh
  obtain rfl:=hasAllW_nil h2
  obtain ⟨xs,rfl,h3⟩:=hasW_list h1
  obtain ⟨ns,rfl⟩:=items_int h3
  have hlen:ns.length<=n:=by
    unfold OpenLaw.pre at hc
    have h4:(WTm.not (.lt (.lit (.int (n:Int))) (.len (.arg 0)))).holds [] { args:=[.list (ns.map .int)] }=true:=by
      have h4:=(holds_andW hc).1
      rw [hn] at h4
      exact h4
    have h5:=condW_of h4 (w_not (w_lt w_lit (w_len_list (w_arg rfl))))
    rw [List.length_map] at h5
    refine Nat.le_of_not_lt fun q=>?_
    have q':(n:Int) < ((ns.length:Nat):Int):=by omega
    first
      | (rw [decide_eq_true q'] at h5;exact absurd h5 (by decide))
      | (simp at h5;omega)
  cases hwl with
  | cons w1 w2 =>
    cases w2
    cases w1 with
    | list ho hall=>exact ⟨_,_,ns,rfl,rfl,ho,ints_of_wellAll ns _ hall,hlen⟩
theorem post_true (l:OpenLaw) (args:List WData):l.row.toRowW.claim.post args (.bool true) args=true :=
  postW_of (r:=l.row.toRowW) (X:=(true == true))
    (show WShape.has [] (.bool true) .bool=true by first | rfl | decide | simp [WShape.has,WShape.arms,WShape.armsAll])
    (show (WTm.eq .res (.lit (.bool true))).value [] { args:=args,res:=some (.bool true),after:=args }=some (.bool (true == true)) from w_eq_bool (w_res rfl) w_lit) rfl
section
variable {prog:Program} {w:World} {A:Around} {E:Value->Shared->Prop} {s:Shared} {K:Frag}
noncomputable def noObjs (h:Heap):Heap:={ h with objs := #[] }
theorem noObjs_get (h:Heap) (b:Addr):(noObjs h).get? b=none:=by
  cases e:(noObjs h).get? b with
  | none=>rfl
  | some o=>exact absurd (Heap.lt_size e) (Nat.not_lt_zero _)
noncomputable def ledger (h:Heap) (L d:Addr):List (Addr × Obj):=(List.range h.objs.size).filterMap fun a=>if a=L\/a=d then none else (h.get? a).map fun o=>(a,o)
theorem mem_ledger {h:Heap} {L d a:Addr} {o:Obj}:(a,o) ∈ ledger h L d ↔ a ≠ L/\a ≠ d/\h.get? a=some o:=by
  unfold ledger
  rw [List.mem_filterMap]
  constructor
  . rintro ⟨b,_,e⟩
    split at e
    . cases e
    . rename_i hb
      obtain ⟨o',ho,e'⟩:=Option.map_eq_some_iff.mp e
      cases e'
      exact ⟨fun q=>hb (.inl q),fun q=>hb (.inr q),ho⟩
  . rintro ⟨n1,n2,ho⟩
    refine ⟨a,List.mem_range.mpr (Heap.lt_size ho),?_⟩
    rw [if_neg (show ¬ (a=L\/a=d) from fun q=>q.elim n1 n2),ho] <;> rfl
theorem fr_all {h:Heap} {L:Addr} {m:Str->Option Value} (n:h.Ns L m):Fr (noObjs h) L h m :=
  ⟨n,fun b o e=>(by rw [noObjs_get] at e;cases e),Nat.zero_le _⟩
end
end Att
namespace L2
open PySem PySem.Spec PyProof.Rows
theorem vals_ints:∀ {vs:List Value} {ns:List Int},IntsAre vs ns->Vals (ns.map V.int) vs
  | _,_,.nil=>.nil
  | _,_,.cons n t h=>.cons ⟨t,rfl⟩ (vals_ints h)
noncomputable def Only (H:Hp):Prop:=∀ b,H b=none\/∃ o xs,H b=some (.frz o (.lst xs))
theorem law_call {P : Program} {w : World} {K : PySem.W.Frag} {mg mb : Str -> Option Value} {CX : CXT} {k : Nat} {fa a : Addr} {fd : FuncData} {x : Str} {sp : Sp} {s₁ : Shared} {vs : List Value} {ns : List Int}
    (KX:K.In s₁.heap) (hns:s₁.heap.Ns mainGlobals mg) (hb:s₁.heap.Ns builtinsNs mb) (hbb:∀ x:Str,x ≠ "__name__" -> mb x=bootBuiltins x) (hlim:s₁.heap.NoLimit) (hg:s₁.gens = #[])
    (ha:s₁.heap.get? a=some { cls:=.type "list",data:=.seq vs.toArray }) (hi:IntsAre vs ns) (hl:ns.length<=sizeLine) (hr:Room k callerA)
    (F:∀ base:Heap,K.In base->base.Ns mainGlobals mg->FnOk P w K mg base CX k fa fd [x] sp) (hbind:∀ (s:Shared) (u:Value),BindsTo s fd ⟨[u],[]⟩ [(x,u)])
    (hsp:∀ H:Hp,Only H->SqL K H a (ns.map V.int)->sp [.ref a] H (fun v _=>v = .bl true) fun _ _ _=>False)
    (hCX:∀ H e s',CX [] H s₁ (fun _ _ _=>False) e s'->False) :
    codeAny (model P w) callerA (.call (.ref fa) ⟨[.ref a],[]⟩) (fun r s'=>r = .ok (.ret (.bool true))/\OldK s₁.heap s'.heap/\s'.os=s₁.os/\AllBare s'.gens) s₁:=by
  have rv:=vals_ints hi
  have lenV:=hi.length
  have core : ∀ H : Hp, Only H -> SqL K H a (ns.map V.int) -> HOk P w H s₁.heap -> (∀ b, H b ≠ none -> b = a) -> (H a ≠ none -> K.lookup a = none) ->
      codeAny (model P w) callerA (.call (.ref fa) ⟨[.ref a],[]⟩) (fun r s'=>r = .ok (.ret (.bool true))/\OldK s₁.heap s'.heap/\s'.os=s₁.os/\AllBare s'.gens) s₁:=by
    intro H hO hS hok hA hK
    have base_of:∀ {b:Addr} {o:Obj},s₁.heap.get? b=some o->H b=none->(hidT s₁.heap H).get? b=some o:=fun e n=>hidT_get e n
    have noA:∀ {b:Addr} {o:Obj} {es:Array DictEntry} {ep:Nat},s₁.heap.get? b=some o->o.data = .dict es ep->H b=none:=fun {b o es ep} e d=>by
      cases q:H b with
      | none=>rfl
      | some u =>
        have e':b=a:=hA b (by rw [q];simp)
        subst e'
        rw [ha] at e;cases e
        have d':Data.seq vs.toArray _=Data.dict es ep:=d
        cases d'
    have nsK:∀ {b:Addr} {m:Str->Option Value},s₁.heap.Ns b m->(hidT s₁.heap H).Ns b m:=fun {b m} ⟨o,es,ep,e,d,r⟩=>⟨o,es,ep,base_of e (noA e d),d,r⟩
    have hKb:K.In (hidT s₁.heap H):=fun b o e=>base_of (KX b o e) (by
      cases q:H b with
      | none=>rfl
      | some u =>
        have e':b=a:=hA b (by rw [q];simp)
        subst e'
        rw [hK (by rw [q];simp)] at e;cases e)
    have hM:Mod K mg (hidT s₁.heap H):=⟨hKb,nsK hns,⟨mb,nsK hb,hbb⟩,let ⟨mc,h1,h2⟩:=hlim;⟨mc,nsK h1,h2⟩⟩
    have e0:Env0 P w K mg (hidT s₁.heap H) callerA [] s₁ H:=⟨rfl,hM,fun b o e=>of_hidT e,Nat.le_of_eq (hidT_size _ _),trivial,fun b hb=>absurd (show b ∈ ([]:List Addr) from hb) (by simp),hok,.of_eq hg⟩
    refine codeAny_mono ((F _ hKb (nsK hns)).run callerA [] s₁ H ⟨[.ref a],[]⟩ [.ref a] [.ref a] _ _ hr e0 (hbind s₁ (.ref a)) (.cons rfl .nil) (hsp H hO hS)) fun r s' h=>?_
    cases r with
    | error e=>exact (hCX H e s' h).elim
    | ok fl =>
      cases fl with
      | next=>exact False.elim h
      | brk=>exact False.elim h
      | cont=>exact False.elim h
      | ret u =>
        obtain ⟨v,H',os,bare,un,hok',r',q⟩:=h
        have q':v = .bl true:=q
        subst q'
        obtain rfl:u=Value.bool true:=r'
        refine ⟨rfl,OldK.of_keep fun b o e=>?_,os,bare⟩
        cases q:H b with
        | none=>exact un.keep b o e q (by intro z;exact absurd (show b ∈ ([]:List Addr) from z) (by simp)) (by simp)
        | some u =>
          rcases hO b with z | ⟨ob,xs,z⟩
          . rw [q] at z;cases z
          . have z2:=un.frzs b ob _ z
            obtain ⟨e1,_⟩:=hok b _ z
            obtain ⟨e2,_⟩:=hok' b _ z2
            rw [e] at e1;cases e1
            exact e2
  cases hk:K.lookup a with
  | some o =>
    have e:=KX a o hk
    rw [ha] at e
    cases e
    refine core (fun _=>none) (fun _=>.inl rfl) (.inr ⟨_,vs.toArray,_,hk,rfl,rfl,rfl,by rw [List.size_toArray,lenV];exact hl,by simpa using rv⟩) (fun b u z=>by have z':(none:Option HO)=some u:=z;cases z') (fun b z=>absurd rfl z) fun z=>absurd rfl z
  | none =>
    refine core (fun b=>if b=a then some (.frz { cls:=.type "list",data:=.seq vs.toArray } (.lst (ns.map V.int))) else none) (fun b=>?_) (.inl (.inr ⟨{ cls:=.type "list",data:=.seq vs.toArray },if_pos rfl⟩)) (fun b u z=>?_) (fun b z=>?_) fun _=>hk
    . by_cases hb:b=a
      . exact .inr ⟨_,_,if_pos hb⟩
      . exact .inl (if_neg hb)
    . by_cases hb:b=a
      . have z':=(if_pos hb).symm.trans z
        cases z'
        subst hb
        exact ⟨ha,by rw [List.length_map];exact hl,vs,_,rv,ha⟩
      . have z':=(if_neg hb).symm.trans z
        cases z'
    . by_cases hb:b=a
      . exact hb
      . exact absurd (if_neg hb) z
end L2
namespace L2
open PySem PySem.Spec PyProof.Rows
end L2
namespace L2
open PySem PySem.Spec PyProof.Rows
noncomputable def defArgs (s:Stmt):Arguments:=match s with
  | .FunctionDef _ a _ _ _ _ _ _ _ _=>a
  | _=>{ posonlyargs:=[],args:=[],vararg:=none,kwonlyargs:=[],kw_defaults:=[],kwarg:=none,defaults:=[] }
noncomputable def defBody (s:Stmt):List Stmt:=match s with
  | .FunctionDef _ _ b _ _ _ _ _ _ _=>b
  | _=>[]
noncomputable def defScope (s:Stmt):Scope:=match s with
  | .FunctionDef _ _ _ _ _ _ sc _ _ _=>sc
  | _=>{ kind:=.function,names:=[],isGenerator:=false,isCoroutine:=false }
noncomputable abbrev CX0:CXT:=fun _ _ _ _ _ _=>False
noncomputable abbrev E0:XK:=fun _ _ _=>False
theorem pass0 {X:Cx}:Passes CX0 X E0:=fun _ _ _ _ _ _ _ h=>h.elim
structure Fun (K:PySem.W.Frag) (x qual:Str) (st:Stmt) (f:Addr) (fd:FuncData):Prop where
  ex:∃ (oc:Value) (od:Option Addr) (kV doc pm:Value) (an:Option Addr) (cdv ct:Value) (osl:Array (Option Value)),
    fd=PySem.W.fnOf x qual (defArgs st) (defBody st) (defScope st) .none kV doc pm an cdv ct/\K.lookup f=some ⟨oc,od,.func fd,osl⟩/\PySem.W.codeIn K cdv qual=true
  kp:PySem.W.keepIn K (.ref f)=true
section
variable {P:Program} {w:World} {K:PySem.W.Frag} {mg:Str->Option Value} {base:Heap}
theorem Fun.ok {x qual:Str} {st:Stmt} {f:Addr} {fd:FuncData} {N ps:List Str} {k:Nat} {sp:Sp} (F:Fun K x qual st f fd) (S:FnScope N ps (defScope st)) (len:∀ vs H Q E,sp vs H Q E->vs.length=ps.length)
    (hbody:∀ (cdv:Value) (A:Around) (outer:List Env) (s:Shared) (H:Hp) (vs:List V) (Q:VK) (E:XK),Room k (A.deeper (envOfC qual (defScope st) s.heap.objs.size f cdv))->sp vs H Q E ->
      ∃ t,PSs (cxOf CX0 P w K mg base N qual (defScope st) f cdv A outer s H E).nox (defBody st) t/\t { nx:=fun _ H'=>Q .non H',rt:=Q } (start N vs) H):FnOk P w K mg base CX0 (k + 1) f fd ps sp:=by
  obtain ⟨oc,od,kV,doc,pm,an,cdv,ct,osl,rfl,lk,hcd⟩:=F.ex
  refine fn_of lk hcd S len fun A outer s H vs Q E hr hsp=>?_
  obtain ⟨t,h,q⟩:=hbody cdv A outer s H vs Q E hr hsp
  exact ⟨t,h.nox,q⟩
theorem Fun.binds {x qual:Str} {st:Stmt} {f:Addr} {fd:FuncData} {ps:List Str} (F:Fun K x qual st f fd)
    (h:∀ (kV doc pm:Value) (an:Option Addr) (cdv ct:Value) (us:List Value),us.length=ps.length->bindArgs (PySem.W.fnOf x qual (defArgs st) (defBody st) (defScope st) .none kV doc pm an cdv ct) ⟨us,[]⟩=pure (ps.zip us)):Binds K fd ps []:=by
  obtain ⟨oc,od,kV,doc,pm,an,cdv,ct,osl,rfl,lk,hcd⟩:=F.ex
  exact .all (h kV doc pm an cdv ct)
theorem fun_mk {x qual:Str} {st:Stmt} {f:Addr} {oc:Value} {od an:Option Addr} {osl:Array (Option Value)} {kV doc pm cdv ct:Value} (l:K.lookup f=some ⟨oc,od,.func (PySem.W.fnOf x qual (defArgs st) (defBody st) (defScope st) .none kV doc pm an cdv ct),osl⟩)
    (c:PySem.W.codeIn K cdv qual=true) (k:PySem.W.keepIn K (.ref f)=true):Fun K x qual st f (PySem.W.fnOf x qual (defArgs st) (defBody st) (defScope st) .none kV doc pm an cdv ct):=⟨⟨oc,od,kV,doc,pm,an,cdv,ct,osl,rfl,l,c⟩,k⟩
end
theorem small1000 {n:Nat} (h:n<=1000):n < sizeLine:=Nat.lt_of_le_of_lt h (by decide)
section
variable {X:Cx}
end
theorem ite2 {c A B:Prop} [Decidable c] (h1:c->A) (h2:¬ c->B):if c then A else B:=by
  by_cases h:c
  . rw [if_pos h]
    exact h1 h
  . rw [if_neg h]
    exact h2 h
noncomputable def Same (H H':Hp):Prop:=∀ b o,H b=some o->H' b=some o
theorem Same.refl (H:Hp):Same H H:=fun _ _ h=>h
theorem Same.trans {H H1 H2:Hp} (a:Same H H1) (b:Same H1 H2):Same H H2:=fun c o h=>b c o (a c o h)
theorem Same.free {H H':Hp} (e:Same H H') {l:Addr} (h:H' l=Option.none):H l=Option.none:=by
  cases q:H l with
  | none=>rfl
  | some o =>
    rw [e l o q] at h
    cases h
theorem Same.seq {K:PySem.W.Frag} {H H':Hp} {a:Addr} {xs:List V} (e:Same H H') (h:SqL K H a xs):SqL K H' a xs:=by
  rcases h with (h | ⟨o,h⟩) | h
  . exact .inl (.inl (e _ _ h))
  . exact .inl (.inr ⟨o,e _ _ h⟩)
  . exact .inr h
end L2
end
section
namespace L2
open PySem PySem.Spec PyProof.Rows
section
variable {κ:Type} [DecidableEq κ]
end
section
end
section
variable {X:Cx} {o:Option V}
end
section
variable {X:Cx}
end
section
variable {X:Cx} {o e:Expr}
end
section
variable {X:Cx}
end
structure M1 (X:Cx) (o:Expr) (m:Str) (apos:Pos) (e:Expr) (cpos:Pos):Prop where
  base:attributeBase o m X.env (eval o X.env)=eval o X.env
  few:((backTo cpos (starEach [e] X.env)).all (fun x => !x.1) && (backToKw cpos (keywordEach [] X.env)).all (fun x=>x.1.isSome)
    && decide (([e]:List Expr).length + ([]:List Keyword).length + (if ([]:List Keyword).isEmpty then 0 else 1) < 30))=true
  line:(apos.endLine == cpos.line)=true
  trees:backTo cpos (starEach [e] X.env)=[(false,eval e X.env)]
section
variable {X:Cx} {o:Option V}
end
section
variable {X:Cx} {o e:Expr} {apos cpos:Pos}
end
section
variable {X:Cx}
end
section
variable {X:Cx}
end
end L2
namespace L2
open PySem PySem.Spec PyProof.Rows
section
variable {X:Cx}
end
section
variable {κ:Type} [DecidableEq κ]
end
end L2
end
section
namespace L2
open PySem PySem.Spec PyProof.Rows
section
variable {prog:Program} {w:World} {A:Around} {R:Result->Shared->Prop} {s:Shared}
theorem compLoop_any {elt target iter:Expr} {ifs:List Expr} {scope:Scope} {pos:Pos} {it acc:Value} {env:Env} (I:Nat->Shared->Prop)
    (turn : ∀ n s, I n s -> wpAny (model prog w) A (pyNext it) (fun r s₁ => match r with
      | none=>R (.ok .next) s₁
      | some v=>wpAny (model prog w) A (letOwnedTupleGo target it v) (fun _ s₁=>wpAny (model prog w) A (assign target env v) (fun _ s₂ =>
          wpAny (model prog w) A (forIn ifs true fun c r=>if r=true then do let ok <- isTrue c env (eval c env);pure (ForInStep.yield ok) else pure (ForInStep.yield r)) (fun ok s₃ =>
            if ok=true then wpAny (model prog w) A (eval elt env) (fun x s₄ =>
              wpAny (model prog w) A (call (.builtin "list.append") [acc,x]) (fun _ s₅=>∃ m,m < n/\I m s₅) (fun _ _=>False) s₄) (fun _ _=>False) s₃
            else ∃ m,m < n/\I m s₃) (fun _ _=>False) s₂) (fun _ _=>False) s₁) (fun _ _=>False) s₁) (fun _ _=>False) s)
    (n:Nat) (h:I n s) :
    codeAny (model prog w) A (.compLoop (.ListComp elt [⟨target,iter,ifs,0⟩] scope pos) 0 it acc env) R s:=by
  refine codeAny_loop rfl I (fun n s hI=>?_) n h
  show wpAny _ A ((compTurn (.ListComp elt [⟨target,iter,ifs,0⟩] scope pos) 0 it acc env).onRaise (fun x=>do noteFrame x env;theTreesLotGoes x)) _ _ s
  refine wpAny_noted ?_
  rw [compTurn_list]
  refine wpAny_bind (wpAny_standAt (wpAny_bind (wpAny_mono (turn n s hI) (fun r s₁ h₁=>?_) fun _ _ h'=>h'.elim)))
  cases r with
  | none=>exact wpAny_pure h₁
  | some v =>
    refine wpAny_bind (wpAny_mono h₁ (fun _ s₁ h₁=>?_) fun _ _ h'=>h'.elim)
    refine wpAny_bind (wpAny_mono h₁ (fun _ s₂ h₂=>wpAny_bind (wpAny_mono h₂ (fun ok s₃ h₃=>?_) fun _ _ h'=>h'.elim)) fun _ _ h'=>h'.elim)
    cases ok with
    | false=>exact wpAny_pure ⟨rfl,h₃⟩
    | true =>
      exact wpAny_bind (wpAny_bind (wpAny_mono h₃ (fun x s₄ h₄=>wpAny_bind (wpAny_mono h₄ (fun _ s₅ h₅=>wpAny_pure (wpAny_pure ⟨rfl,h₅⟩)) fun _ _ h'=>h'.elim)) fun _ _ h'=>h'.elim))
end
noncomputable def clOf (cells:List (Str × Addr)):List (Str × NameKind)->List (Str × Addr)->List (Str × Addr)
  | [],acc=>acc
  | (n,k) :: r,acc=>clOf cells r (if k == .free then match cells.lookup n with | some c=>(n,c) :: acc | none=>acc else acc)
theorem closureFor_go {env:Env}:∀ (names:List (Str × NameKind)) (acc:List (Str × Addr)),(∀ y ∈ names,y.2 = .free->∃ c,env.cells.lookup y.1=some c) ->
    (forIn names acc (fun (x:Str × NameKind) (cs:List (Str × Addr))=>(if x.2 == .free then (do let a <- cellOf env x.1;pure (ForInStep.yield ((x.1,a) :: cs))) else pure (ForInStep.yield cs):Sem (ForInStep (List (Str × Addr))))))=pure (clOf env.cells names acc)
  | [],acc,_=>rfl
  | (n,k) :: r,acc,h=>by
    rw [List.forIn_cons]
    have hr:=fun a=>closureFor_go r a fun y hy=>h y (List.mem_cons_of_mem _ hy)
    by_cases hk:k = .free
    . subst hk
      obtain ⟨c,e⟩:=h (n,.free) List.mem_cons_self rfl
      have ec:cellOf env n=pure c:=by unfold cellOf;rw [e]
      simp only [beq_self_eq_true,if_true,ec,clOf,e]
      exact hr _
    . have hb:(k == NameKind.free)=false:=by simpa using hk
      simp only [hb,Bool.false_eq_true,if_false,clOf]
      exact hr _
theorem closureFor_eq {scope:Scope} {env:Env} (h:∀ y ∈ scope.names,y.2 = .free->∃ c,env.cells.lookup y.1=some c):closureFor scope env=pure (clOf env.cells scope.names []):=by
  have q:=closureFor_go (env:=env) scope.names [] h
  unfold closureFor
  show (forIn scope.names [] _ >>= fun cs=>pure cs)=_
  first
    | (rw [show (forIn scope.names [] _:Sem (List (Str × Addr)))=_ from q];rfl)
    | (erw [q];rfl)
end L2
end
section
namespace L2
open PySem PySem.Spec PyProof.Rows
noncomputable def maskS (y:Str):Str:=⟨#[0] ++ y.cps⟩
noncomputable def maskN (own N:List Str):List Str:=own ++ N.map fun y=>if own.contains y then maskS y else y
noncomputable def cxComp (X:Cx) (own:List Str) (scope:Scope) (C:Addr) (fp:List Addr) (s:Shared) (H:Hp):Cx :=
  { X with N:=maskN own X.N,s₀:=s,H₀:=H,env:=compEnvC scope (clOf X.env.cells scope.names []) C X.env,outer:=X.stack,stack:=X.stack,ex:=fp,fn:=fun x=>own.contains x,pn:=[],xe:=fun _ _=>False }
structure CompScope (own N:List Str) (sc scope:Scope):Prop where
  nd:(maskN own N).Nodup
  kind:scope.kind = .function
  nocell:∀ y ∈ scope.names,y.2 ≠ .cell
  loc:∀ y ∈ scope.names,y.2 = .local->scope.names.lookup y.1=some .local
  fr:∀ y ∈ scope.names,y.2 = .free->scope.names.lookup y.1=some .free
  up:∀ y ∈ scope.names,y.2 = .free->sc.names.lookup y.1=some .cell\/sc.names.lookup y.1=some .free
  ow:∀ x ∈ own,scope.names.lookup x=some .local
  mask:∀ x ∈ own,scope.names.lookup (maskS x)=none
  only:∀ y ∈ scope.names,y.2 = .local->y.1 ∈ own\/y.1 ∉ N
theorem lookup_mem {β:Type}:∀ {l:List (Str × β)} {x:Str} {k:β},l.lookup x=some k->(x,k) ∈ l
  | [],_,_,h=>by simp at h
  | (n,k') :: r,x,k,h=>by
    rw [List.lookup_cons] at h
    by_cases e:x=n
    . subst e;simp at h;subst h;exact List.mem_cons_self
    . have:(x == n)=false:=by simpa using e
      rw [this] at h
      exact List.mem_cons_of_mem _ (lookup_mem h)
theorem clOf_spec {cells : List (Str × Addr)} : ∀ (names : List (Str × NameKind)) (acc : List (Str × Addr)) (x : Str) (c : Addr), (clOf cells names acc).lookup x = some c -> (cells.lookup x = some c /\ (x, NameKind.free) ∈ names) \/ acc.lookup x = some c
  | [],acc,x,c,h=>.inr h
  | (n, k) :: r, acc, x, c, h => by
    rw [clOf] at h
    rcases clOf_spec r _ x c h with ⟨h1,h2⟩ | h1
    . exact .inl ⟨h1,List.mem_cons_of_mem _ h2⟩
    . by_cases hk:k = .free
      . subst hk
        simp only [beq_self_eq_true,if_true] at h1
        cases e:cells.lookup n with
        | none=>rw [e] at h1;exact .inr h1
        | some c' =>
          rw [e] at h1
          dsimp only at h1
          rw [List.lookup_cons] at h1
          by_cases ex:x=n
          . subst ex;simp at h1;subst h1;exact .inl ⟨e,List.mem_cons_self⟩
          . have:(x == n)=false:=by simpa using ex
            rw [this] at h1;exact .inr h1
      . have hb:(k == NameKind.free)=false:=by simpa using hk
        rw [hb] at h1;exact .inr h1
theorem clOf_acc {cells : List (Str × Addr)} : ∀ (names : List (Str × NameKind)) (acc : List (Str × Addr)) (x : Str), (acc.lookup x).isSome = true -> ((clOf cells names acc).lookup x).isSome = true
  | [],acc,x,h=>h
  | (n, k) :: r, acc, x, h => by
    rw [clOf]
    refine clOf_acc r _ x ?_
    split
    . split
      . rw [List.lookup_cons];split
        . rfl
        . exact h
      . exact h
    . exact h
theorem clOf_has {cells:List (Str × Addr)}:∀ (names:List (Str × NameKind)) (acc:List (Str × Addr)) (x:Str) (c:Addr),(x,NameKind.free) ∈ names->cells.lookup x=some c->((clOf cells names acc).lookup x).isSome=true
  | (n,k) :: r,acc,x,c,hm,e=>by
    rw [clOf]
    rcases List.mem_cons.mp hm with z | z
    . cases z
      refine clOf_acc r _ _ ?_
      simp [e]
    . exact clOf_has r _ x c z e
section
variable {X:Cx} {own:List Str} {scope:Scope} {C:Addr} {fp:List Addr} {s:Shared} {H:Hp}
theorem relabel_lookup {env : Env} : ∀ {names : List (Str × NameKind)} {x : Str} {k : NameKind},
    (names.map fun (n,k)=>if (k == NameKind.free && env.scope.kind == .function && env.kindOf n == some .cell) then (n,NameKind.cell) else (n,k)).lookup x=some k ->
    ∃ k',names.lookup x=some k'/\(k=k'\/(k = .cell/\k' = .free))
  | [],_,_,h=>by simp at h
  | (n, k0) :: r, x, k, h => by
    have ih:=@relabel_lookup env r x k
    rw [List.map_cons] at h
    by_cases ex:x=n
    . subst ex
      refine ⟨k0,by simp,?_⟩
      dsimp only at h
      split at h
      . rename_i hc
        simp at h
        have:k0 = .free:=by
          simp only [Bool.and_eq_true,beq_iff_eq] at hc
          exact hc.1.1
        exact .inr ⟨h.symm,this⟩
      . simp at h;exact .inl h.symm
    . have hb:(x == n)=false:=by simpa using ex
      have h2:(r.map fun (n,k)=>if (k == NameKind.free && env.scope.kind == .function && env.kindOf n == some .cell) then (n,NameKind.cell) else (n,k)).lookup x=some k:=by
        dsimp only at h
        split at h <;> (rw [List.lookup_cons,hb] at h;exact h)
      obtain ⟨k',e,q⟩:=ih h2
      exact ⟨k',by rw [List.lookup_cons,hb];exact e,q⟩
theorem relabel_local {env:Env} {x:Str}:(relabel scope env).names.lookup x=some .local->scope.names.lookup x=some .local:=fun h=>by
  obtain ⟨k',e,q⟩:=relabel_lookup (env:=env) h
  rcases q with q | ⟨q,_⟩
  . rw [e, <- q]
  . cases q
theorem relabel_cf {env:Env} {x:Str} (nc:∀ y ∈ scope.names,y.2 ≠ .cell):((relabel scope env).names.lookup x=some .cell\/(relabel scope env).names.lookup x=some .free)->scope.names.lookup x=some .free:=fun h=>by
  rcases h with h | h
  . obtain ⟨k',e,q⟩:=relabel_lookup (env:=env) h
    rcases q with q | ⟨_,q⟩
    . rw [<- q] at e;exact absurd rfl (nc _ (lookup_mem e))
    . rw [e,q]
  . obtain ⟨k',e,q⟩:=relabel_lookup (env:=env) h
    rcases q with q | ⟨q,_⟩
    . rw [e, <- q]
    . cases q
theorem cxComp_ok {pins:List (Addr × Obj)} {σ:St} (S:CompScope own X.N X.env.scope scope) (I:Inv X pins σ H s) (hC:s.heap.objs.size<=C) (hf:∀ b ∈ fp,FpOk X pins H b) (ho:∀ b ∈ fp,∃ o,s.heap.get? b=some o):(cxComp X own scope C fp s H).Ok:=by
  have cl:∀ x c,(clOf X.env.cells scope.names []).lookup x=some c->X.env.cells.lookup x=some c/\(x,NameKind.free) ∈ scope.names:=fun x c e=>by
    rcases clOf_spec _ _ _ _ e with q | q
    . exact q
    . simp at q
  refine ⟨I.ok.mod,S.kind,I.ok.glob,I.ok.blt,hC,fun x y c h1 h2=>I.ok.inj x y c (cl x c h1).1 (cl y c h2).1,fun x hx=>?_,fun x c h1 h2=>?_,I.ok.hd,I.ok.frames,.inl rfl,fun b hb=>⟨?_,fun x c e=>(hf b hb).2.2.2.2.1 x c (cl x c e).1⟩,I.bs,Nat.le_trans I.ok.bsz I.sz,fun b o e hb=>?_,fun b hb z=>?_,I.stack,I.stkFree⟩
  . have hx':((relabel scope X.env).names.lookup x=some .cell\/(relabel scope X.env).names.lookup x=some .free):=hx
    have q:=relabel_cf S.nocell hx'
    have m:=lookup_mem q
    obtain ⟨c,e⟩:=I.ok.has x (by rcases S.up _ m rfl with z | z;exact .inl z;exact .inr z)
    exact Option.isSome_iff_exists.mp (clOf_has scope.names [] x c m e)
  . have h1':own.contains x=true:=h1
    have m:=(cl x c h2).2
    have l:=S.ow x (by simpa using h1')
    rw [S.fr _ m rfl] at l;cases l
  . obtain ⟨o,e⟩:=ho b hb
    exact Nat.ne_of_lt (Nat.lt_of_lt_of_le (Heap.lt_size e) hC)
  . rcases (hf b hb).2.2.2.1 with z | z
    . exact I.ok.noex b o e z
    . exact absurd (Nat.lt_of_lt_of_le (Heap.lt_size e) (Nat.le_trans I.ok.bsz z)) (Nat.lt_irrefl _)
  . have z':b ∈ frs X.stack:=z
    rcases List.mem_cons.mp (I.stkSub b z') with q | q
    . exact (hf b hb).2.1 q
    . exact (hf b hb).2.2.1 q
theorem cxComp_inv {pins : List (Addr × Obj)} {σ : St} {h' : Heap} {t' : Nat} {m : Str -> Option Value} {H' : Hp} (S : CompScope own X.N X.env.scope scope) (I : Inv X pins σ H s) (hC : s.heap.objs.size <= C) (hf : ∀ b ∈ fp, FpOk X pins H b) (ho : ∀ b ∈ fp, ∃ o, s.heap.get? b = some o)
    (hk:∀ b o,s.heap.get? b=some o->h'.get? b=some o) (hn:h'.Ns C m) (hU:Un (frs X.stack) fp H H' s.heap h') (hok:HOk X.prog X.w H' h') (hC0:H' C=none) (hle:∀ b,b < s.heap.objs.size->H' b=H b) :
    Inv (cxComp X own scope C fp s H) [] (List.replicate own.length none ++ σ) H' { s with heap:=h',toks:=t' }:=by
  have cl:∀ x c,(clOf X.env.cells scope.names []).lookup x=some c->X.env.cells.lookup x=some c/\(x,NameKind.free) ∈ scope.names:=fun x c e=>by
    rcases clOf_spec _ _ _ _ e with q | q
    . exact q
    . simp at q
  refine ⟨cxComp_ok S I hC hf ho,rfl,I.bare,hU,⟨m,hn,fun i x v h1 h2 h3=>?_⟩,fun x c e=>?_,hC0,fun x c e=>?_,fun p hp=>?_,hok,?_⟩
  . have h1':(maskN own X.N)[i]?=some x:=h1
    by_cases hi:i < own.length
    . rw [List.getElem?_append_left (by simpa using hi),List.getElem?_replicate] at h2
      split at h2 <;> cases h2
    . rw [List.getElem?_append_right (by simpa using hi),List.length_replicate] at h2
      unfold maskN at h1'
      rw [List.getElem?_append_right (by simpa using hi),List.getElem?_map] at h1'
      cases ey:X.N[i - own.length]? with
      | none=>rw [ey] at h1';cases h1'
      | some y =>
        rw [ey] at h1'
        have ex:(if own.contains y then maskS y else y)=x:=by simpa using h1'
        have h3':(relabel scope X.env).names.lookup x=some .local\/(relabel scope X.env).names.lookup x=some .cell\/(relabel scope X.env).names.lookup x=some .free:=h3
        by_cases hyo:own.contains y=true
        . rw [if_pos hyo] at ex
          subst ex
          have none:=S.mask y (by simpa using hyo)
          rcases h3' with z | z
          . rw [relabel_local z] at none;cases none
          . rw [relabel_cf S.nocell z] at none;cases none
        . rw [if_neg hyo] at ex
          subst ex
          rcases h3' with z | z
          . rcases S.only _ (lookup_mem (relabel_local z)) rfl with q | q
            . exact absurd (by simpa using q) hyo
            . exact absurd (List.mem_of_getElem? ey) q
          . have q:=relabel_cf S.nocell z
            have mm:=lookup_mem q
            have up:=S.up _ mm rfl
            obtain ⟨m0,_,hl⟩:=I.loc
            obtain ⟨u,r,l⟩:=hl _ y v ey h2 (.inr up)
            refine ⟨u,r,.inr ⟨z,?_⟩⟩
            rcases l with ⟨k,_⟩ | ⟨k,c,e,ic⟩
            . have k':X.env.scope.names.lookup y=some .local:=k
              rcases up with u1 | u1 <;> (rw [u1] at k';cases k')
            . obtain ⟨c',e'⟩:=Option.isSome_iff_exists.mp (clOf_has scope.names [] y c mm e)
              have e2:=(cl y c' e').1
              rw [e] at e2;cases e2
              obtain ⟨o,g1,g2⟩:=ic
              exact ⟨c,e',o,hk _ _ g1,g2⟩
  . obtain ⟨v,o,g1,g2⟩:=I.cell x c (cl x c e).1
    exact ⟨v,o,hk _ _ g1,g2⟩
  . obtain ⟨v,o,g1,g2⟩:=I.cell x c (cl x c e).1
    rw [hle c (Heap.lt_size g1)]
    exact I.freeC x c (cl x c e).1
  . exact absurd (show p ∈ ([]:List (Addr × Obj)) from hp) (by simp)
  . show (List.replicate own.length none ++ σ).length=(maskN own X.N).length
    unfold maskN
    rw [List.length_append,List.length_append,List.length_replicate,List.length_map,I.len]
theorem Inv.behind {pins:List (Addr × Obj)} {σ σ':St} {pins':List (Addr × Obj)} {H':Hp} {s':Shared} (I:Inv X pins σ H s) (hf:∀ b ∈ fp,FpOk X pins H b) (J:Inv (cxComp X own scope C fp s H) pins' σ' H' s'):Inv X pins σ H' s':=by
  refine I.call' J.os J.base J.hok J.bare fun b hb=>?_
  obtain ⟨h0,h1,h2,h3,h4,h5⟩:=hf b hb
  exact ⟨h3,h1,h4,h5⟩
end
end L2
end
section
namespace L2
open PySem PySem.Spec PyProof.Rows
noncomputable def PTs (Y:Cx) (ifs:List Expr) (t:TT):Prop :=
  ∀ (pins:List (Addr × Obj)) (s:Shared) (σ:St) (H:Hp) (Q:Bool->Hp->Prop),Inv Y pins σ H s->t σ H Q ->
    wpAny (model Y.prog Y.w) Y.A (forIn ifs true fun c r=>if r=true then do let ok <- isTrue c Y.env (eval c Y.env);pure (ForInStep.yield ok) else pure (ForInStep.yield r)) (TP Y pins σ Q) Y.xe s
noncomputable def tAll:TT:=fun _ H Q=>Q true H
theorem pts_nil {Y:Cx}:PTs Y [] tAll:=fun _ _ _ H _ I h=>wpAny_tests_nil ⟨H,I,h⟩
theorem pts_one {Y:Cx} {c:Expr} {t:TT} (h:PT Y c t):PTs Y [c] t:=fun pins s σ H Q I q=>wpAny_tests_one (h pins s σ H Q I q)
noncomputable def CompW (no:Nat) (J:It) (g:TG) (tt:TT) (te:TE) (σ:St) (H1:Hp) (Q:VK):Prop:=∀ D,H1 D=none ->
  ∃ W : Nat -> Nat -> St -> Hp -> Prop, (∃ m, W 0 m (List.replicate no none ++ σ) (upd H1 D (.lst []))) /\ ∀ i m σ' H', W i m σ' H' ->
    (J.stop i H'/\Q (.ref D) H')\/(J.go i H'/\∀ x H2,J.yld i H' x H2->g x σ' H2 fun σ3 H3=>tt σ3 H3 fun b H4 =>
      if b=true then te σ3 H4 fun v H5=>∃ xs,H5 D=some (.lst xs)/\xs.length < sizeLine/\∃ m',m' < m/\W (i + 1) m' σ3 (upd H5 D (.lst (xs ++ [v]))) else ∃ m',m' < m/\W (i + 1) m' σ3 H4)
noncomputable def tCompB (no:Nat) (wi:TI) (g:TG) (tt:TT) (te:TE):TE:=fun σ H Q=>wi σ H fun J H1=>CompW no J g tt te σ H1 Q
section
variable {X:Cx} {own:List Str} {scope:Scope} {elt tg iter:Expr} {ifs:List Expr} {pos:Pos} {wi:TI} {g:TG} {tt:TT} {te:TE}
theorem comp_block {pins : List (Addr × Obj)} {σ : St} {H : Hp} {s : Shared} {it : Addr} {fp : List Addr} {tn : Nat -> Heap -> Prop} {J : It} {Q : VK} {RR : Value -> Addr -> Result -> Shared -> Prop} {E : Value -> Shared -> Prop}
    (hc:X.calm=true) (S:CompScope own X.N X.env.scope scope)
    (hg:∀ C fp s H,PG (cxComp X own scope C fp s H) tg g) (ht:∀ C fp s H,PTs (cxComp X own scope C fp s H) ifs tt) (he:∀ C fp s H,PE (cxComp X own scope C fp s H) elt te)
    (I:Inv X pins σ H s) (T:Turn X.prog X.w X.K tg J fp it tn) (st:tn 0 s.heap) (hf:∀ b ∈ fp,FpOk X pins H b)
    (h:CompW own.length J g tt te σ H Q)
    (hRR:∀ D C s' H' m,Inv X pins σ H' s'->s'.heap.Ns C m->H' C=none->s.heap.objs.size<=C->Q (.ref D) H'->RR (.ref D) C (.ok .next) s') :
    wpAny (model X.prog X.w) X.A (newList []) (fun acc s₃=>wpAny (model X.prog X.w) X.A (newFunctionEnv scope X.env.globals (clOf X.env.cells scope.names []) [] X.env.qual none .none (some X.env)) (fun cenv s₄ =>
      codeAny (model X.prog X.w) X.A (.compStart (.ListComp elt [⟨tg,iter,ifs,0⟩] scope pos) 0 (.ref it) acc { cenv with scope:=relabel scope X.env }) (RR acc cenv.locals) s₄) E s₃) E s:=by
  refine wpAny_newObj_type (wpAny_newFunctionEnv S.nocell (by intro y hy;simp at hy) (fun h₁ hns₁ hsb₁=>?_) S.kind)
  dsimp only at hns₁ hsb₁ ⊢
  generalize hH2:s.heap.push { cls:=.type "list",dict:=none,data:=.seq ([]:List Value).toArray }=H2 at hns₁ hsb₁ ⊢
  have hC:H2.objs.size=s.heap.objs.size + 1:=by rw [<- hH2,Heap.size_push]
  have hDC:s.heap.objs.size ≠ H2.objs.size:=by rw [hC];exact Nat.ne_of_lt (Nat.lt_succ_self _)
  have hCle:s.heap.objs.size<=H2.objs.size:=by rw [hC];exact Nat.le_succ _
  have below:∀ b,b < s.heap.objs.size->b ≠ H2.objs.size:=fun b hb=>by rw [hC];exact Nat.ne_of_lt (Nat.lt_succ_of_lt hb)
  have old:∀ b o,s.heap.get? b=some o->h₁.get? b=some o:=fun b o e=>hsb₁.extBut b o (below b (Heap.lt_size e)) (Heap.get?_push_of_some _ (hH2 ▸ Heap.get?_push_of_some _ e))
  have hacc:h₁.get? s.heap.objs.size=some { cls:=.type "list",dict:=none,data:=.seq ([]:List Value).toArray }:=hsb₁.extBut _ _ hDC (Heap.get?_push_of_some _ (hH2 ▸ Heap.get?_push_size _ rfl))
  have ho:∀ b ∈ fp,∃ o,s.heap.get? b=some o:=fun b hb=>let ⟨o,e,_⟩:=T.obj _ _ st b hb;⟨o,e⟩
  have fresh:∀ a,s.heap.objs.size<=a->H a=none:=fun a ha=>I.hok.fresh ha
  generalize hD:s.heap.objs.size=D at *
  generalize hCC:H2.objs.size=C at *
  have I1:Inv (cxComp X own scope C fp s H) [] (List.replicate own.length none ++ σ) (upd H D (.lst [])) { s with heap:=h₁,toks:=s.toks + ([]:List (Str × Value)).length }:=by
    refine cxComp_inv S I (by rw [hD];exact hCle) hf ho old hns₁ (Un.laid old (by rw [hD];exact Nat.le_refl _) (fresh D (Nat.le_refl _))) (I.hok.laid old (by rw [hD];exact Nat.le_refl _) ?_) ?_ fun b hb=>?_
    . exact ⟨Nat.zero_le _,[],0,.nil,hacc⟩
    . rw [upd_ne (Ne.symm hDC)];exact fresh C hCle
    . rw [hD] at hb;rw [upd_ne (Nat.ne_of_lt hb)]
  obtain ⟨W,⟨m0,w0⟩,turn⟩:=h D (fresh D (Nat.le_refl _))
  have fpY:∀ {H':Hp},(∀ b ∈ fp,H' b=none)->∀ b ∈ fp,FpOk (cxComp X own scope C fp s H) [] H' b:=fun hn b hb=>by
    obtain ⟨q0,q1,q2,q3,q4,q5⟩:=hf b hb
    refine ⟨hn b hb,I1.ok.exf b hb |>.1,I1.ok.exfs b hb,.inl hb,I1.ok.exf b hb |>.2,fun p hp=>absurd (show p ∈ ([]:List (Addr × Obj)) from hp) (by simp)⟩
  have loop:codeAny (model X.prog X.w) X.A (.compLoop (.ListComp elt [⟨tg,iter,ifs,0⟩] scope pos) 0 (.ref it) (.ref D) (compEnvC scope (clOf X.env.cells scope.names []) C X.env)) (RR (.ref D) C) { s with heap:=h₁,toks:=s.toks + ([]:List (Str × Value)).length }:=by
    refine compLoop_any (fun n s'=>∃ i σ' H',Inv (cxComp X own scope C fp s H) [] σ' H' s'/\tn i s'.heap/\(∀ b ∈ fp,H' b=none)/\W i n σ' H') ?_ m0
      ⟨0,_,_,I1,T.keep _ _ _ st fun b _ o e=>old b o e,fun b hb=>?_,w0⟩
    . rintro n s3 ⟨i,σ3,H3,I3,st3,fr3,w3⟩
      rcases turn i n σ3 H3 w3 with ⟨stop,qn⟩ | ⟨go,step⟩
      . refine thn (T.done (cxComp X own scope C fp s H) rfl rfl rfl hc i [] s3 σ3 H3 _ I3 (fpY fr3) st3 stop) fun r s4 ⟨hr,I4⟩=>?_
        subst hr
        obtain ⟨m,hm,_⟩:=I4.loc
        exact hRR D C s4 H3 m (I.behind hf I4) hm I4.free hCle qn
      . refine thn (T.item (cxComp X own scope C fp s H) rfl rfl rfl hc i [] s3 σ3 H3 _ I3 (fpY fr3) st3 go) fun r s4 ⟨u,hr,h4⟩=>?_
        subst hr
        dsimp only
        refine thn h4 fun _ s5 ⟨x,H5,I5,r5,y5,st5,fr5⟩=>?_
        have I5':=I5.pinned (fpY fr5) (T.obj _ _ st5)
        refine thn (hg C fp s H _ s5 σ3 H5 x u _ I5' r5 (step x H5 y5)) fun _ s6 ⟨σ6,H6,I6,q6⟩=>?_
        refine thn (ht C fp s H _ s6 σ6 H6 _ I6 q6) fun b s7 ⟨H7,I7,q7⟩=>?_
        have again:∀ {s8:Shared} {σ7:St} {H7:Hp},Inv (cxComp X own scope C fp s H) ([] ++ pinsAt fp s5.heap) σ7 H7 s8->(∃ m',m' < n/\W (i + 1) m' σ7 H7)->∃ m,m < n/\∃ i σ' H',Inv (cxComp X own scope C fp s H) [] σ' H' s8/\tn i s8.heap/\(∀ b ∈ fp,H' b=none)/\W i m σ' H':=fun {s8 σ7 H7} I7 n7=>by
          obtain ⟨m',hm,w7⟩:=n7
          refine ⟨m',hm,i + 1,σ7,H7,I7.unpinned,T.keep _ _ _ st5 fun b hb o e=>(I7.pin (b,o) (List.mem_append_right _ (List.mem_append_right _ (mem_pinsAt hb e)))).1,fun b hb=>?_,w7⟩
          obtain ⟨o,e,d⟩:=T.obj _ _ st5 b hb
          exact (I7.pin (b,o) (List.mem_append_right _ (List.mem_append_right _ (mem_pinsAt hb e)))).2.1
        cases b with
        | false =>
          rw [if_neg (by simp)] at q7
          exact again I7 q7
        | true =>
          rw [if_pos rfl] at q7 ⊢
          refine thn (he C fp s H _ s7 σ6 H7 _ I7 q7) fun u8 s8 ⟨v,H8,I8,r8,xs,hx,hz,q8⟩=>?_
          refine thn (mt_append (X:=cxComp X own scope C fp s H) _ s8 σ6 H8 (.ref D) [v] (.ref D) [u8] (fun _ H9=>∃ m',m' < n/\W (i + 1) m' σ6 H9) I8 rfl (.cons r8 .nil) ⟨D,xs,v,rfl,rfl,hx,hz,q8⟩) fun _ s9 ⟨_,H9,I9,_,q9⟩=>?_
          exact again I9 q9
    . have lt:b < D:=by
        obtain ⟨o,e⟩:=ho b hb
        exact hD ▸ Heap.lt_size e
      rw [upd_ne (Nat.ne_of_lt lt)]
      exact (hf b hb).1
  exact codeAny_compStart_list loop (T.self _ 0 _ _ _ (T.keep _ _ _ st fun b _ o e=>old b o e) loop)
theorem comp_clos {pins:List (Addr × Obj)} {σ:St} {H:Hp} {s:Shared} (S:CompScope own X.N X.env.scope scope) (I:Inv X pins σ H s):closureFor scope X.env=pure (clOf X.env.cells scope.names []) :=
  closureFor_eq fun y hy hk=>I.ok.has y.1 (by rcases S.up y hy hk with z | z;exact .inl z;exact .inr z)
theorem Inv.letgo {pins:List (Addr × Obj)} {σ:St} {H':Hp} {s':Shared} {h':Heap} {C:Addr} {z:Nat} (I:Inv X pins σ H' s') (hC:H' C=none) (h0:X.s₀.heap.objs.size<=z) (hz:z<=C) (hL:X.env.locals < z) (hcl:∀ x c,X.env.cells.lookup x=some c->c < z) (hp:∀ p ∈ X.pn ++ pins,p.1 < z) (hs:Heap.SameBut C s'.heap h'):Inv X pins σ H' { s' with heap:=h' } :=
  I.turned (t':=s'.toks) (it:=C) (fun b o hb e=>hs.extBut b o hb e) hC (Nat.ne_of_gt (Nat.lt_of_lt_of_le hL hz)) (.inr (Nat.le_trans h0 hz)) (fun x c e=>Nat.ne_of_lt (Nat.lt_of_lt_of_le (hcl x c e) hz)) fun p hq=>Nat.ne_of_lt (Nat.lt_of_lt_of_le (hp p hq) hz)
theorem pe_comp {N0 P0:List Str} {sc:Scope} (S0:FnScope N0 P0 sc) (hc:X.calm=true) (S1:CompScope own N0 sc scope) (hi:PI X tg iter wi)
    (hg:∀ C fp s H,(maskN own N0).Nodup->PG (cxComp X own scope C fp s H) tg g) (ht:∀ C fp s H,PTs (cxComp X own scope C fp s H) ifs tt) (he:∀ C fp s H,PE (cxComp X own scope C fp s H) elt te)
    (hs:∀ x,foldedSetIterable iter X.env x=pure x:=by intro _;rfl) (hN0:X.N=N0:=by rfl) (hsc:X.env.scope=sc:=by rfl):PE X (.ListComp elt [⟨tg,iter,ifs,0⟩] scope pos) (tCompB own.length wi g tt te):=by
  intro pins s σ H Q I h
  subst hN0 hsc
  have S:=S1
  replace hg:=fun C fp s H=>hg C fp s H S1.nd
  rw [eval_ListComp]
  refine wpAny_comprehension_free (use:=none) rfl hs (comp_clos S I) S.kind S.loc (thn (hi pins s σ H _ I h) fun xv s₁ h₁=>thn h₁ fun itv s₂ h₂=>?_)
  obtain ⟨it,fp,tn,J,H2,rfl,I2,T,st2,f2,q2⟩:=h₂
  refine comp_block (Q:=Q) hc S hg ht he I2 T st2 f2 q2 ?_
  intro D C s' H' m I' hm hC hCle q
  refine ⟨m,hm,fun h' hs'=>⟨.ref D,H',?_,rfl,q⟩⟩
  exact I'.letgo hC I2.sz hCle I2.lt (fun x c e=>let ⟨v,z⟩:=I2.cell x c e;z.lt) (fun p hp=>Heap.lt_size (I2.pin p hp).1) hs'
theorem ps_comp {i:Nat} {x:Str} {pos' spos:Pos} {N0 P0:List Str} {sc:Scope} (S0:FnScope N0 P0 sc) (hc:X.calm=true) (S1:CompScope own N0 sc scope) (hi:PI X tg iter wi)
    (hg:∀ C fp s H,(maskN own N0).Nodup->PG (cxComp X own scope C fp s H) tg g) (ht:∀ C fp s H,PTs (cxComp X own scope C fp s H) ifs tt) (he:∀ C fp s H,PE (cxComp X own scope C fp s H) elt te)
    (hN:X.N.Nodup) (hiN:X.N[i]?=some x) (hx:Loc X.env.scope x)
    (hsw:swapsWith (.ListComp elt [⟨tg,iter,ifs,0⟩] scope pos) (some (.Name x pos')) spos.line X.env=pure true)
    (hs:∀ x,foldedSetIterable iter X.env x=pure x:=by intro _;rfl) (hf:X.fn x=true\/X.env.scope.names.lookup x=some .local:=by first | exact .inl rfl | exact .inr rfl | assumption) (hN0:X.N=N0:=by rfl) (hsc:X.env.scope=sc:=by rfl) :
    PS X (.Assign [.Name x pos'] (.ListComp elt [⟨tg,iter,ifs,0⟩] scope pos) spos) (tAsg (tCompB own.length wi g tt te) (gName i)):=by
  intro pins s σ H D I h
  subst hN0 hsc
  have S:=S1
  replace hg:=fun C fp s H=>hg C fp s H S1.nd
  rw [exec_Assign_Name_used _ _ _ _ hsw]
  refine wpAny_bind (wpAny_standAt (wpAny_bind ?_))
  show wpAny _ X.A (do let _ <- comprehension (.ListComp elt [⟨tg,iter,ifs,0⟩] scope pos) scope X.env _ (newList []) false (eval iter X.env) (some (assign (.Name x pos') X.env))) _ _ s
  refine wpAny_bind (wpAny_mono (wpAny_comprehension_free (use:=some (assign (.Name x pos') X.env)) (Q:=fun _ s'=>SP X pins D .next s') rfl hs (comp_clos S I) S.kind S.loc
    (thn (hi pins s σ H _ I h) fun xv s₁ h₁=>thn h₁ fun itv s₂ h₂=>?_)) (fun _ s' hq=>wpAny_pure (wpAny_pure hq)) fun _ _ e=>e)
  obtain ⟨it,fp,tn,J,H2,rfl,I2,T,st2,f2,q2⟩:=h₂
  refine comp_block (Q:=fun v H=>D.nx (σ.set i (some v)) H) hc S hg ht he I2 T st2 f2 q2 ?_
  intro Dl C s' H' m I' hm hC hCle q
  have hL:=I2.lt
  have hcl:∀ x c,X.env.cells.lookup x=some c->c < s₂.heap.objs.size:=fun x c e=>let ⟨v,z⟩:=I2.cell x c e;z.lt
  show wpAny _ X.A (assign (.Name x pos') X.env (.ref Dl)) _ _ _
  refine wpAny_assign_Name (store_ok2 I' hN hiN hx (v:=.ref Dl) rfl (fun s'' I'' ⟨a,sb,ha⟩=>?_) hf)
  have ne:C ≠ a:=by
    rcases ha with rfl | ha
    . exact Nat.ne_of_gt (Nat.lt_of_lt_of_le hL hCle)
    . exact Nat.ne_of_gt (Nat.lt_of_lt_of_le (hcl _ _ ha) hCle)
  refine ⟨m,hm.sameBut sb ne,fun h' hs'=>⟨_,H',?_,q⟩⟩
  exact I''.letgo hC I2.sz hCle hL hcl (fun p hp=>Heap.lt_size (I2.pin p hp).1) hs'
end
end L2
end
section
namespace L2
open PySem PySem.Spec PyProof.Rows
open PySem.W (Dat kqdP kqdPs kqdOk)
section
variable {X:Cx}
theorem op_mulB:OpR X (binaryOp .Mult) (rI IntMulOk fun i j=>.int (i * j)):=opI fun _ _ _ _ _ _ _ hc q=>mul_int q hc
noncomputable def CDivB (i j:Int):Prop:=j ≠ 0/\j.natAbs.log2 < 9000
theorem op_fdivB:OpR X (binaryOp .FloorDiv) (rI CDivB fun i j=>.int (i.fdiv j)):=opI fun _ _ _ _ _ _ _ hc q=>floordiv_int hc.1 q (.inl (PyProof.noPylong_of_log2 hc.2))
end
noncomputable def IsX (C:Value) (e:Addr):Heap->Prop:=fun h=>∃ o,h.get? e=some o/\o.cls=C/\o.dict=none/\∃ fs,o.data = .fields fs
theorem IsX.st {C:Value} {e:Addr} (h1 h2:Heap) (x:IsX C e h1) (k:∀ o,h1.get? e=some o->h2.get? e=some o):IsX C e h2:=let ⟨o,q,r⟩:=x;⟨o,k o q,r⟩
noncomputable def XN (K:PySem.W.Frag) (c:Array UInt8) (C:Value):Prop:=PySem.W.nsIn K mainGlobals ⟨c.map (·.toNat)⟩=some (some C)
noncomputable def XAt (K:PySem.W.Frag) (H:Hp) (a:Addr) (c:Array UInt8):Prop:=∃ ob C,H a=some (.frz ob (.ext (IsX C a)))/\XN K c C
mutual
inductive Is (K:PySem.W.Frag) (H:Hp):V->Dat->Prop
  | none:Is K H .non .none
  | bool (b:Bool):Is K H (.bl b) (.bool b)
  | int (i:Int):Is K H (.int i) (.int i)
  | str (x:Str):Is K H (.str x) (.str x)
  | tup {a:Addr} {xs:List V} {ds:List Dat}:SqT K H a xs->Iss K H xs ds->Is K H (.ref a) (.tuple ds)
  | lst {a:Addr} {xs:List V} {ds:List Dat}:SqL K H a xs->Iss K H xs ds->Is K H (.ref a) (.list ds)
  | exc {a:Addr} {c:Array UInt8}:XAt K H a c->Is K H (.ref a) (.bytes c)
inductive Iss (K:PySem.W.Frag) (H:Hp):List V->List Dat->Prop
  | nil:Iss K H [] []
  | cons {x:V} {d:Dat} {xs:List V} {ds:List Dat}:Is K H x d->Iss K H xs ds->Iss K H (x :: xs) (d :: ds)
end
theorem Same.tup {K:PySem.W.Frag} {H H':Hp} {a:Addr} {xs:List V} (e:Same H H') (h:SqT K H a xs):SqT K H' a xs:=by
  rcases h with (h | ⟨o,h⟩) | h
  . exact .inl (.inl (e _ _ h))
  . exact .inl (.inr ⟨o,e _ _ h⟩)
  . exact .inr h
theorem Same.new {H:Hp} {p:Addr} (h:H p=Option.none) (o:HO):Same H (upd H p o):=fun b u q=>by rw [upd_ne (ne_of_none q h)];exact q
section
variable {K:PySem.W.Frag} {H H':Hp}
theorem Iss.ints (ns:List Int):Iss K H (ns.map V.int) (ns.map Dat.int):=by
  induction ns with
  | nil=>exact .nil
  | cons n ns ih=>exact .cons (.int n) ih
end
section
variable {X:Cx} {pins:List (Addr × Obj)} {σ:St} {H:Hp} {s:Shared}
mutual
theorem Is.reads (I:Inv X pins σ H s):∀ {v:V} {d:Dat} {u:Value},Is X.K H v d->∀ n,kqdOk n d=true->RelV v u->∃ as,Reads s.heap u (kqdP d) as
  | _,_,_,.none,_,_,r=>by cases (show _=Value.none from r);exact ⟨_,.none⟩
  | _,_,_,.bool b,_,_,r=>by cases (show _=Value.bool b from r);exact ⟨_,.bool b⟩
  | _,_,_,.int i,_,_,r=>by obtain ⟨t,rfl⟩:=r;exact ⟨_,.int i t⟩
  | _,_,_,.str x,_,_,r=>by obtain ⟨t,rfl⟩:=r;exact ⟨_,.str x t⟩
  | _,_,_,.tup (a:=a) h q,0,ok,r=>by simp [kqdOk] at ok
  | _,_,_,.tup (a:=a) h q,n + 1,ok,r=>by
    cases (show _=Value.ref a from r)
    obtain ⟨its,rv,⟨o,e,c,n2,d⟩,_⟩:=I.tuple h
    obtain ⟨as,z⟩:=Iss.reads I q n (by rw [kqdOk] at ok;exact ok) rv
    rw [kqdP]
    exact ⟨as,.tuple e c d (by simpa using z)⟩
  | _,_,_,.lst (a:=a) h q,0,ok,r=>by simp [kqdOk] at ok
  | _,_,_,.lst (a:=a) h q,n + 1,ok,r=>by
    cases (show _=Value.ref a from r)
    obtain ⟨its,rv,⟨o,n2,e,c,_,d⟩,_⟩:=I.list h
    obtain ⟨as,z⟩:=Iss.reads I q n (by rw [kqdOk] at ok;exact ok) rv
    rw [kqdP]
    exact ⟨_,.list e c d (by simpa using z)⟩
  | _,_,_,.exc h,n,ok,r=>by cases n <;> simp [kqdOk] at ok
theorem Iss.reads (I:Inv X pins σ H s):∀ {v:List V} {d:List Dat} {u:List Value},Iss X.K H v d->∀ n,d.all (kqdOk n)=true->Vals v u->∃ as,ReadsAll s.heap u (kqdPs d) as
  | _,_,_,.nil,_,_,.nil=>⟨_,.nil⟩
  | _,_,_,.cons a r,n,ok,.cons b t=>by
    rw [List.all_cons,Bool.and_eq_true] at ok
    obtain ⟨as,p⟩:=Is.reads I a n ok.1 b
    obtain ⟨bs,q⟩:=Iss.reads I r n ok.2 t
    rw [kqdPs]
    exact ⟨_,.cons p q⟩
end
end
open Classical in
noncomputable def deq (d e:Dat):Bool:=decide (d=e)
open Classical in
theorem deq_self (d:Dat):deq d d=true:=decide_eq_true rfl
open Classical in
theorem deq_true {d e:Dat} (h:d=e):deq d e=true:=decide_eq_true h
open Classical in
theorem deq_ne {d e:Dat} (h:d ≠ e):deq d e=false:=decide_eq_false h
open Classical in
theorem deq_iff {d e:Dat}:deq d e=true ↔ d=e:=⟨fun h=>of_decide_eq_true h,deq_true⟩
noncomputable def rEqD (K:PySem.W.Frag) (n:Bool):R2:=fun x y H Q=>∃ d e,Is K H x d/\Is K H y e/\kqdOk 9 d=true/\kqdOk 9 e=true/\Q (.bl (if n then !deq d e else deq d e)) H
theorem eqv_deq {d e:Dat} (h1:kqdOk 9 d=true) (h2:kqdOk 9 e=true):PyData.eqv (kqdP d) (kqdP e)=deq d e:=by
  have q:=PySem.W.kqd_eqv 9 d e 9 h1 h2
  by_cases z:d=e
  . rw [deq_true z];exact q.mpr z
  . rw [deq_ne z];exact Bool.eq_false_iff.mpr fun x=>z (q.mp x)
theorem shaped9 {d:Dat} (h:kqdOk 9 d=true):SeqAt.shaped (kqdP d)=true:=by
  have l:=PySem.W.kqd_lay 9 d h
  unfold SeqAt.shaped
  rw [l.1,Bool.true_and]
  exact decide_eq_true (Nat.le_trans l.2 (by decide))
section
variable {X:Cx}
theorem op_eqD (hu:X.A.units + 64 < cLine):OpR X (compareOp .Eq) (rEqD X.K false):=by
  intro pins s σ H x y v u Q I rx ry h
  obtain ⟨d,e,hd,he,o1,o2,q⟩:=h
  obtain ⟨as,ra⟩:=hd.reads I 9 o1 rx
  obtain ⟨bs,rb⟩:=he.reads I 9 o2 ry
  refine PyProof.Rows.eq_dataH ra rb (shaped9 o1) (shaped9 o2) hu ?_
  rw [eqv_deq o1 o2]
  exact ⟨.bl _,H,I,rfl,q⟩
theorem call_sumL (hc:X.calm=true):CallR X (.builtin "sum") (fun xs H Q=>∃ (a:Addr) (ns:List Int),xs=[.ref a]/\SqL X.K H a (ns.map V.int)/\Q (.int ns.sum) H):=by
  intro pins s σ H xs us Q I r h
  obtain ⟨a,ns,rfl,hl,q⟩:=h
  cases r with
  | cons r1 r2 =>
    cases r2
    cases (show _=Value.ref a from r1)
    obtain ⟨its,rv,pl,_⟩:=I.list hl
    obtain ⟨m,F⟩:=I.fr
    have hi:IntsAre its ns:=intsAre_of rv
    obtain ⟨xs,hxs⟩:=(IntsAre.allInts hi).items
    have e:numsOf its=ns:=hi.numsOf
    refine sum_intListG (xs:=xs) (I.ok.hd hc) (by rw [<- hxs];exact pl.isList) fun h' tk t' hk=>?_
    refine ⟨.int ns.sum,H,I.kept (t':=tk) hk,⟨t',?_⟩,q⟩
    have e2:numsOf its=(xs.map Prod.fst).toList:=by
      have:=nums_intItems (xs:=xs)
      rw [<- hxs] at this
      simpa using this
    rw [preSum_eq,List.take_of_length_le (by simp)]
    rw [<- e,e2,Array.toList_map]
end
end L2
end
section
namespace L2
open PySem PySem.Spec PyProof.Rows
section
variable {prog:Program} {w:World} {A:Around} {E:Value->Shared->Prop} {s:Shared}
theorem tupNext {it t:Addr} {i:Nat} {its:Array Value} {x:Value} {Q:Value->Shared->Prop} (hit:s.heap.IsTupleIter it t i) (ht:s.heap.IsTuple t its) (hx:its[i]?=some x)
    (k:∀ g,g.IsTupleIter it t (i + 1)->Heap.SameBut it s.heap g->Q x { s with heap:=g }):wpAny (model prog w) A (Builtin.SmallTypes.nextOf (.ref it)) Q E s:=by
  obtain ⟨o,g1,g2,g3⟩:=id hit
  obtain ⟨p,q1,_,n,q2⟩:=ht
  unfold Builtin.SmallTypes.nextOf
  refine wpAny_bind (wpAny_callSpecial?_slot (name:=Str.ofString "__next__") hit.typeIs F.slot_tuple_iterator_next (wpAny_call_entry F.slot_tuple_iterator_next hit.typeIs F.entry_tuple_iterator_next ?_ (F.args_tuple_iterator_next_1 _)))
  show wpAny _ _ (field (.ref it) 0 >>= _) _ _ s;refine wpAny_bind (wpAny_field g1 g3 (x:=.ref t) rfl ?_);show wpAny _ _ (if (Value.ref t == Value.none)=true then _ else _) _ _ s
  rw [if_neg (show ¬ ((Value.ref t == Value.none)=true) from Bool.false_ne_true)];show wpAny _ _ (field (.ref it) 1 >>= _) _ _ s;refine wpAny_bind (wpAny_field g1 g3 (x:=.int i 0) rfl ?_)
  show wpAny _ _ (seqItems? (.ref t) >>= _) _ _ s;refine wpAny_bind (wpAny_seqItems q1 q2 ?_);simp only [Int.toNat_natCast,hx]
  refine wpAny_bind (wpAny_setField g1 g3 (by simp) (wpAny_pure ⟨x,rfl,wpAny_pure (k _ ⟨_,Heap.get?_update_self _ g1 (Obj.isFreed_of_fields (Obj.data_mapFields g3 _)),(Obj.cls_mapFields ..).trans g2,?_⟩ (Heap.SameBut.update ..))⟩))
  rw [Obj.data_mapFields g3];simp [rawInt]
theorem tupEnd {it t:Addr} {i:Nat} {its:Array Value} {Q:Value->Shared->Prop} (hh:A.handled=none) (hit:s.heap.IsTupleIter it t i) (ht:s.heap.IsTuple t its) (hx:its[i]?=none)
    (k:∀ g e,Heap.ExtBut it s.heap g->(∃ o,g.get? e=some o/\o.cls = .type "StopIteration")->E (.ref e) { s with heap:=g }):wpAny (model prog w) A (Builtin.SmallTypes.nextOf (.ref it)) Q E s:=by
  obtain ⟨o,g1,g2,g3⟩:=id hit
  obtain ⟨p,q1,_,n,q2⟩:=ht
  unfold Builtin.SmallTypes.nextOf
  refine wpAny_bind (wpAny_callSpecial?_slot (name:=Str.ofString "__next__") hit.typeIs F.slot_tuple_iterator_next (wpAny_call_entry F.slot_tuple_iterator_next hit.typeIs F.entry_tuple_iterator_next ?_ (F.args_tuple_iterator_next_1 _)))
  show wpAny _ _ (field (.ref it) 0 >>= _) _ _ s;refine wpAny_bind (wpAny_field g1 g3 (x:=.ref t) rfl ?_);show wpAny _ _ (if (Value.ref t == Value.none)=true then _ else _) _ _ s
  rw [if_neg (show ¬ ((Value.ref t == Value.none)=true) from Bool.false_ne_true)];show wpAny _ _ (field (.ref it) 1 >>= _) _ _ s;refine wpAny_bind (wpAny_field g1 g3 (x:=.int i 0) rfl ?_)
  show wpAny _ _ (seqItems? (.ref t) >>= _) _ _ s;refine wpAny_bind (wpAny_seqItems q1 q2 ?_);simp only [Int.toNat_natCast,hx]
  refine wpAny_bind (wpAny_rule (wpAny_bind (wpAny_setField g1 g3 (by simp) ?_)));show wpAny _ _ (newExc (.type "StopIteration") [] >>= _) _ _ _
  refine wpAny_bind ?_;simp only [newExc,newTuple];refine wpAny_bind (wpAny_newObj_type ?_ (by size_fits))
  refine wpAny_bind (m:=firstArgMember _ _) (wpAny_of_eq (a:=Value.none) (by first | rfl | (simp only [firstArgMember];rfl)) ?_);refine wpAny_newObj_type ?_ (by size_fits)
  simp only [raiseNew];refine wpAny_bind (wpAny_handled ?_);first | rw [show A.in1.handled=none from hh] | rw [hh]
  refine wpAny_bind (wpAny_pure (wpAny_throw ?_));exact k _ _ (((Heap.SameBut.update ..).extBut.push _).push _) ⟨_,Heap.get?_push_size _ rfl,rfl⟩
structure ZipAt (h:Heap) (z a b i1 i2 l1 l2:Addr) (xs ys:Array Value) (k:Nat) (f:Value):Prop where
  z:IsZip h z a b f
  a:IsPair h a (.ref i1) (.ref i2)
  b:∃ u v,IsPair h b u v
  i1:h.IsTupleIter i1 l1 k
  i2:h.IsTupleIter i2 l2 k
  l1:h.IsTuple l1 xs
  l2:h.IsTuple l2 ys
theorem zipNext {z a b i1 i2 l1 l2:Addr} {k:Nat} {xs ys:Array Value} {x y:Value} {Q:Option Value->Shared->Prop} (D:ZipApart z a b i1 i2 l1 l2) (Z:ZipAt s.heap z a b i1 i2 l1 l2 xs ys k .none) (hx:xs[k]?=some x) (hy:ys[k]?=some y)
    (kq:∀ g,ZipAt g z a b i1 i2 l1 l2 xs ys (k + 1) (rawInt s.heap.objs.size)->IsPair g s.heap.objs.size x y->(∀ c o,c ≠ z->c ≠ b->c ≠ i1->c ≠ i2->s.heap.get? c=some o->g.get? c=some o)->Q (some (.ref s.heap.objs.size)) { s with heap:=g }) :
    wpAny (model prog w) A (pyNext (.ref z)) Q E s:=by
  obtain ⟨hz,ha,⟨u,v,hb⟩,h1,h2,t1,t2⟩:=Z
  have hT:s.TypeIs (.ref z) "zip" := ⟨_,hz,rfl⟩
  unfold pyNext
  refine wpAny_bind (wpAny_attempt (wpAny_callSpecial?_slot (name:=Str.ofString "__next__") hT F.slot_zip_next (wpAny_call_entry F.slot_zip_next hT F.entry_zip_next ?_ (F.args_zip_next_1 _))))
  show wpAny _ _ (field (.ref z) 2 >>= _) _ _ _;refine wpAny_bind (wpAny_field hz rfl (x:=.bool false) rfl ?_);show wpAny _ _ (field (.ref z) 3 >>= _) _ _ _
  refine wpAny_bind (wpAny_field hz rfl (x:=.ref a) rfl ?_);refine wpAny_bind (wpAny_seqItems ha rfl ?_);show wpAny _ _ (Builtin.SmallTypes.ownedTupleIsFree (.ref z) >>= _) _ _ _
  refine wpAny_bind ?_;unfold Builtin.SmallTypes.ownedTupleIsFree;refine wpAny_bind (wpAny_field hz rfl (x:=.none) rfl (wpAny_pure ?_))
  simp only [if_true];refine wpAny_bind (wpAny_rule ?_);refine wpAny_bind (wpAny_field hz rfl (x:=.ref b) rfl ?_)
  refine wpAny_bind (wpAny_setField_rec hz (by simp) fun g₁ e₁ s₁=>?_)
  replace e₁:IsZip g₁ z a b .ellipsis:=e₁
  refine wpAny_bind ?_;simp only [List.zipIdx_cons,List.zipIdx_nil,List.forIn_cons,List.forIn_nil]
  refine wpAny_bind (wpAny_bind (wpAny_onRaise ?_));show wpAny _ _ (Builtin.SmallTypes.nextOf (.ref i1) >>= _) _ _ _
  refine wpAny_bind (tupNext (h1.extBut s₁.extBut D.i1z) (t1.extBut s₁.extBut D.l1z) hx fun g₂ f₂ s₂=>wpAny_pure ?_)
  have b₂:IsPair g₂ b u v:=s₂.extBut _ _ D.TOi1 (s₁.extBut _ _ D.TOz hb)
  refine wpAny_bind (wpAny_seqItems b₂ rfl ?_);refine wpAny_bind (wpAny_updateSeq_pair b₂ fun g₃ b₃ s₃=>?_)
  replace b₃:IsPair g₃ b x v:=b₃
  refine wpAny_bind (wpAny_letGo (wpAny_pure ?_));refine wpAny_bind (wpAny_bind (wpAny_onRaise ?_));show wpAny _ _ (Builtin.SmallTypes.nextOf (.ref i2) >>= _) _ _ _
  refine wpAny_bind (tupNext (((h2.extBut s₁.extBut D.i2z).extBut s₂.extBut D.i12.symm).extBut s₃.extBut D.TOi2.symm) (((t2.extBut s₁.extBut D.l2z).extBut s₂.extBut D.l2i1).extBut s₃.extBut D.l2TO) hy fun g₄ f₄ s₄=>wpAny_pure ?_)
  have b₄:IsPair g₄ b x v:=s₄.extBut _ _ D.TOi2 b₃
  refine wpAny_bind (wpAny_seqItems b₄ rfl ?_);refine wpAny_bind (wpAny_updateSeq_pair b₄ fun g₅ b₅ s₅=>?_)
  replace b₅:IsPair g₅ b x y:=b₅
  refine wpAny_bind (wpAny_letGo (wpAny_pure (wpAny_pure ?_)));refine wpAny_bind (wpAny_seqItems b₅ rfl ?_);refine wpAny_bind (wpAny_newTuple ?_)
  have sz:g₅.objs.size=s.heap.objs.size:=by rw [s₅.1,s₄.1,s₃.1,s₂.1,s₁.1]
  have e₅:IsZip g₅ z a b .ellipsis:=s₅.extBut _ _ D.TOz.symm (s₄.extBut _ _ D.i2z.symm (s₃.extBut _ _ D.TOz.symm (s₂.extBut _ _ D.i1z.symm e₁)))
  have k₅:∀ c o,c ≠ z->c ≠ b->c ≠ i1->c ≠ i2->s.heap.get? c=some o->g₅.get? c=some o:=fun c o c1 c2 c3 c4 e=>s₅.extBut _ _ c2 (s₄.extBut _ _ c4 (s₃.extBut _ _ c2 (s₂.extBut _ _ c3 (s₁.extBut _ _ c1 e))))
  have m₁:g₅.IsTupleIter i1 l1 (k + 1):=((f₂.extBut s₃.extBut D.TOi1.symm).extBut s₄.extBut D.i12).extBut s₅.extBut D.TOi1.symm
  have m₂:g₅.IsTupleIter i2 l2 (k + 1):=f₄.extBut s₅.extBut D.TOi2.symm
  have lz:z < g₅.objs.size:=Heap.lt_size e₅
  show wpAny _ _ (Builtin.SmallTypes.ownedTupleHandOut (.ref z) (.ref g₅.objs.size) >>= _) _ _ _;refine wpAny_bind ?_;unfold Builtin.SmallTypes.ownedTupleHandOut
  have e₆:IsZip (g₅.push { cls:=.type "tuple",data:=.seq #[x,y] }) z a b .ellipsis:=Heap.get?_push_of_some _ e₅
  refine wpAny_bind (wpAny_setField_rec e₆ (by simp) fun g₇ e₇ s₇=>?_)
  replace e₇:IsZip g₇ z a b (rawInt g₅.objs.size):=e₇
  refine wpAny_setField_rec e₇ (by simp) fun g₈ e₈ s₈=>?_
  replace e₈:IsZip g₈ z a b (rawInt g₅.objs.size):=e₈
  have up:∀ c o,c ≠ z->g₅.get? c=some o->g₈.get? c=some o:=fun c o c1 e=>s₈.extBut _ _ c1 (s₇.extBut _ _ c1 (Heap.get?_push_of_some _ e))
  have p₈:IsPair g₈ g₅.objs.size x y:=s₈.extBut _ _ (Nat.ne_of_gt lz) (s₇.extBut _ _ (Nat.ne_of_gt lz) (Heap.get?_push_size _ rfl))
  rw [sz] at e₈ p₈
  refine wpAny_pure ⟨_,rfl,wpAny_pure ?_⟩
  show Q (some (.ref g₅.objs.size)) _;rw [sz]
  have all:∀ c o,c ≠ z->c ≠ b->c ≠ i1->c ≠ i2->s.heap.get? c=some o->g₈.get? c=some o:=fun c o c1 c2 c3 c4 e=>up c o c1 (k₅ c o c1 c2 c3 c4 e)
  exact kq g₈ ⟨e₈,all _ _ D.TIz D.TITO D.TIi1 D.TIi2 ha,⟨_,_,up _ _ D.TOz b₅⟩,m₁.at fun o e=>up _ o D.i1z e,m₂.at fun o e=>up _ o D.i2z e,t1.at fun o e=>all _ o D.l1z D.l1TO D.l1i1 D.l1i2 e,t2.at fun o e=>all _ o D.l2z D.l2TO D.l2i1 D.l2i2 e⟩ p₈ all
theorem zipEnd {z a b i1 i2 l1 l2:Addr} {k:Nat} {xs ys:Array Value} {Q:Option Value->Shared->Prop} (hh:A.handled=none) (D:ZipApart z a b i1 i2 l1 l2) (Z:ZipAt s.heap z a b i1 i2 l1 l2 xs ys k .none) (hx:xs[k]?=none)
    (kq:∀ g,(∀ c o,c ≠ z->c ≠ b->c ≠ i1->c ≠ i2->s.heap.get? c=some o->g.get? c=some o)->Q none { s with heap:=g }):wpAny (model prog w) A (pyNext (.ref z)) Q E s:=by
  obtain ⟨hz,ha,⟨u,v,hb⟩,h1,h2,t1,t2⟩:=Z
  have hT:s.TypeIs (.ref z) "zip" := ⟨_,hz,rfl⟩
  unfold pyNext
  refine wpAny_bind (wpAny_attempt (wpAny_callSpecial?_slot (name:=Str.ofString "__next__") hT F.slot_zip_next (wpAny_call_entry F.slot_zip_next hT F.entry_zip_next ?_ (F.args_zip_next_1 _))))
  show wpAny _ _ (field (.ref z) 2 >>= _) _ _ _;refine wpAny_bind (wpAny_field hz rfl (x:=.bool false) rfl ?_);show wpAny _ _ (field (.ref z) 3 >>= _) _ _ _
  refine wpAny_bind (wpAny_field hz rfl (x:=.ref a) rfl ?_);refine wpAny_bind (wpAny_seqItems ha rfl ?_);show wpAny _ _ (Builtin.SmallTypes.ownedTupleIsFree (.ref z) >>= _) _ _ _
  refine wpAny_bind ?_;unfold Builtin.SmallTypes.ownedTupleIsFree;refine wpAny_bind (wpAny_field hz rfl (x:=.none) rfl (wpAny_pure ?_))
  simp only [if_true];refine wpAny_bind (wpAny_rule ?_);refine wpAny_bind (wpAny_field hz rfl (x:=.ref b) rfl ?_)
  refine wpAny_bind (wpAny_setField_rec hz (by simp) fun g₁ e₁ s₁=>?_)
  replace e₁:IsZip g₁ z a b .ellipsis:=e₁
  refine wpAny_bind ?_;simp only [List.zipIdx_cons,List.zipIdx_nil,List.forIn_cons,List.forIn_nil]
  refine wpAny_bind (wpAny_bind (wpAny_onRaise ?_));show wpAny _ _ (Builtin.SmallTypes.nextOf (.ref i1) >>= _) _ _ _
  refine wpAny_bind (tupEnd hh (h1.extBut s₁.extBut D.i1z) (t1.extBut s₁.extBut D.l1z) hx fun g₂ e s₂ he=>?_)
  obtain ⟨oe,he1,he2⟩:=he
  have e₂:IsZip g₂ z a b .ellipsis:=s₂ _ _ D.i1z.symm e₁
  have hez:e ≠ z:=fun x=>by subst x;rw [e₂] at he1;cases he1;simp at he2
  refine wpAny_setField_rec e₂ (by simp) fun g₃ _ s₃=>?_
  refine wpAny_bind (wpAny_isInstance (T := "StopIteration") (b:=true) ⟨oe,s₃.extBut _ _ hez he1,he2⟩ isSubtype_stop ?_)
  exact wpAny_pure (kq _ fun c o c1 _ c3 _ x=>s₃.extBut _ _ c1 (s₂ _ _ c3 (s₁.extBut _ _ c1 x)))
noncomputable abbrev zh (h:Heap) (l:Addr):Heap:=h.push { cls:=.type "tuple_iterator",data:=.fields #[.ref l,.int 0 0] }
theorem zipNewMeets (l1 l2:Addr) (xs ys:Array Value) :
    Meets (Builtin.«zip.__new__» ⟨[.type "zip",.ref l1,.ref l2],[]⟩) (fun _ R s=>s.heap.IsTuple l1 xs/\s.heap.IsTuple l2 ys/\∀ g,g=(((zh (zh s.heap l1) l2).push { cls:=.type "tuple",data:=.seq #[.ref s.heap.objs.size,.ref (zh s.heap l1).objs.size] }).push { cls:=.type "tuple",data:=.seq #[.none,.none] }) ->
      R (.ok (.ret (.ref g.objs.size))) { s with heap:=g.push { cls:=.type "zip",data:=.fields #[.none,.bool false,.bool false,.ref (zh (zh s.heap l1) l2).objs.size,.ref ((zh (zh s.heap l1) l2).push { cls:=.type "tuple",data:=.seq #[.ref s.heap.objs.size,.ref (zh s.heap l1).objs.size] }).objs.size] } }) :=
  .of_wp fun prog w A R s h=>by
    obtain ⟨hp,g,d,tk,os⟩:=s;obtain ⟨q1,q2,h⟩:=h
    have hsub:=sub_zip
    have L1:Heap.IsTuple (Shared.heap ⟨hp,g,d,tk,os⟩) l1 xs:=q1
    have L2:Heap.IsTuple (Shared.heap ⟨zh hp l1,g,d,tk,os⟩) l2 ys:=q2.at fun o e=>Heap.get?_push_of_some _ e
    wp_walk using wpAny_pyIter_tuple L1,wpAny_pyIter_tuple L2
    exact ⟨_,rfl,h _ rfl⟩
theorem callZip {l1 l2:Addr} {xs ys:Array Value} {Q:Value->Shared->Prop} (h1:s.heap.IsTuple l1 xs) (h2:s.heap.IsTuple l2 ys)
    (k:∀ g,ZipAt g (s.heap.objs.size + 4) (s.heap.objs.size + 2) (s.heap.objs.size + 3) s.heap.objs.size (s.heap.objs.size + 1) l1 l2 xs ys 0 .none->(∀ c o,s.heap.get? c=some o->g.get? c=some o)->Q (.ref (s.heap.objs.size + 4)) { s with heap:=g }) :
    wpAny (model prog w) A (call (.type "zip") [.ref l1,.ref l2]) Q E s:=by
  refine callType_new F.called_zip (by decide) (F.typeCall_zip_2 _ _) (F.newCall_zip_2 _ _) (fun obj=>F.args_object_init_3 obj _ _) F.entry_zip_new (zipNewMeets l1 l2 xs ys) ⟨h1,h2,fun g hg=>?_⟩
  generalize e1:zh s.heap l1=a1 at *
  generalize e2:zh a1 l2=a2 at *
  generalize e3:a2.push { cls:=.type "tuple",data:=.seq #[.ref s.heap.objs.size,.ref a1.objs.size] }=a3 at *
  have n1:a1.objs.size=s.heap.objs.size + 1:=by rw [<- e1];exact Heap.size_push ..
  have n2:a2.objs.size=s.heap.objs.size + 2:=by rw [<- e2,Heap.size_push,n1]
  have n3:a3.objs.size=s.heap.objs.size + 3:=by rw [<- e3,Heap.size_push,n2]
  have n4:g.objs.size=s.heap.objs.size + 4:=by rw [hg,Heap.size_push,n3]
  have up1:∀ c o,s.heap.get? c=some o->a1.get? c=some o:=fun c o x=>e1 ▸ Heap.get?_push_of_some _ x
  have up2:∀ c o,a1.get? c=some o->a2.get? c=some o:=fun c o x=>e2 ▸ Heap.get?_push_of_some _ x
  have up3:∀ c o,a2.get? c=some o->a3.get? c=some o:=fun c o x=>e3 ▸ Heap.get?_push_of_some _ x
  have up4:∀ c o,a3.get? c=some o->g.get? c=some o:=fun c o x=>hg ▸ Heap.get?_push_of_some _ x
  have x1:a1.get? s.heap.objs.size=some { cls:=.type "tuple_iterator",data:=.fields #[.ref l1,.int 0 0] }:=e1 ▸ Heap.get?_push_size _ rfl
  have x2:a2.get? (s.heap.objs.size + 1)=some { cls:=.type "tuple_iterator",data:=.fields #[.ref l2,.int 0 0] }:=by rw [<- n1];exact e2 ▸ Heap.get?_push_size _ rfl
  have x3:a3.get? (s.heap.objs.size + 2)=some { cls:=.type "tuple",data:=.seq #[.ref s.heap.objs.size,.ref a1.objs.size] }:=by rw [<- n2];exact e3 ▸ Heap.get?_push_size _ rfl
  have x4:g.get? (s.heap.objs.size + 3)=some { cls:=.type "tuple",data:=.seq #[.none,.none] }:=by rw [<- n3];exact hg ▸ Heap.get?_push_size _ rfl
  have x5:(g.push { cls:=.type "zip",data:=.fields #[.none,.bool false,.bool false,.ref a2.objs.size,.ref a3.objs.size] }).get? (s.heap.objs.size + 4)=some { cls:=.type "zip",data:=.fields #[.none,.bool false,.bool false,.ref a2.objs.size,.ref a3.objs.size] }:=by rw [<- n4];exact Heap.get?_push_size _ rfl
  rw [n2,n3] at x5
  rw [n1] at x3
  show _/\_
  rw [n4,n2,n3]
  have all:∀ c o,s.heap.get? c=some o->(g.push { cls:=.type "zip",data:=.fields #[.none,.bool false,.bool false,.ref (s.heap.objs.size + 2),.ref (s.heap.objs.size + 3)] }).get? c=some o:=fun c o x=>Heap.get?_push_of_some _ (up4 _ _ (up3 _ _ (up2 _ _ (up1 _ _ x))))
  refine ⟨⟨_,x5,rfl⟩,k _ ⟨x5,Heap.get?_push_of_some _ (up4 _ _ x3),⟨_,_,Heap.get?_push_of_some _ x4⟩,⟨_,Heap.get?_push_of_some _ (up4 _ _ (up3 _ _ (up2 _ _ x1))),rfl,rfl⟩,⟨_,Heap.get?_push_of_some _ (up4 _ _ (up3 _ _ x2)),rfl,rfl⟩,h1.at fun o e=>all _ o e,h2.at fun o e=>all _ o e⟩ all⟩
end
end L2
end
section
namespace L2
open PySem PySem.Spec PyProof.Rows
noncomputable def Itz (K:PySem.W.Frag) (l1 l2:Addr):It :=
  ⟨fun i H=>∃ xs ys x y,SqT K H l1 xs/\SqT K H l2 ys/\xs[i]?=some x/\ys[i]?=some y,
   fun i H v H'=>∃ p,H p=none/\v = .ref p/\∀ xs ys x y,SqT K H l1 xs->SqT K H l2 ys->xs[i]?=some x->ys[i]?=some y->H'=upd H p (.tup [x,y]),
   fun i H=>∃ xs,SqT K H l1 xs/\xs.length<=i/\∃ ys,SqT K H l2 ys⟩
noncomputable def znt (z a b i1 i2 l1 l2:Addr) (i:Nat) (h:Heap):Prop:=IsZip h z a b .none/\IsPair h a (.ref i1) (.ref i2)/\(∃ u v,IsPair h b u v)/\h.IsTupleIter i1 l1 i/\h.IsTupleIter i2 l2 i
theorem turn_zip {P : Program} {w : World} {K : PySem.W.Frag} {elts : List Expr} {x1} {pos : Pos} {z a b i1 i2 l1 l2 : Addr} (D : ZipApart z a b i1 i2 l1 l2) : Turn P w K (.Tuple elts x1 pos) (Itz K l1 l2) [z, a, b, i1, i2] z (znt z a b i1 i2 l1 l2) where
  mem:=by simp
  obj:=fun i h st c hc=>by
    obtain ⟨h1,h2,⟨u,v,h3⟩,⟨o4,h4,_,d4⟩,⟨o5,h5,_,d5⟩⟩:=st
    simp only [List.mem_cons,List.mem_nil_iff,or_false] at hc
    rcases hc with rfl | rfl | rfl | rfl | rfl
    . exact ⟨_,h1,fun v z=>by cases z⟩
    . exact ⟨_,h2,fun v z=>by cases z⟩
    . exact ⟨_,h3,fun v z=>by cases z⟩
    . exact ⟨_,h4,fun v z=>by rw [d4] at z;cases z⟩
    . exact ⟨_,h5,fun v z=>by rw [d5] at z;cases z⟩
  keep:=fun i h h' st k=>by
    obtain ⟨h1,h2,⟨u,v,h3⟩,h4,h5⟩:=st
    exact ⟨k _ (by simp) _ h1,k _ (by simp) _ h2,⟨u,v,k _ (by simp) _ h3⟩,h4.at fun o e=>k _ (by simp) o e,h5.at fun o e=>k _ (by simp) o e⟩
  item := by
    intro X hP hw hK hc i pins s σ H E I hf st hg
    subst hP hw hK
    obtain ⟨xs,ys,x,y,q1,q2,hx,hy⟩:=hg
    obtain ⟨its,rv,p,hz⟩:=I.tuple q1
    obtain ⟨its',rv',p',hz'⟩:=I.tuple q2
    obtain ⟨u,hu,ru⟩:=rv.get hx
    obtain ⟨u',hu',ru'⟩:=rv'.get hy
    obtain ⟨h1,h2,h3,h4,h5⟩:=id st
    refine zipNext D ⟨h1,h2,h3,h4,h5,p,p'⟩ (x:=u) (y:=u') (by simpa using hu) (by simpa using hu') fun g Z pr all=>⟨_,rfl,?_⟩
    refine wpAny_letOwnedTupleGo_zip (s:={ s with heap:=g }) Z.z fun g2 e2 s2=>?_
    have hn:H s.heap.objs.size=none:=I.hok.fresh (Nat.le_refl _)
    have lt:∀ c ∈ [z,a,b,i1,i2],c < s.heap.objs.size:=fun c hc=>by
      have:=(hf c hc)
      obtain ⟨w1,w2,⟨_,_,w3⟩,⟨_,w4,_⟩,⟨_,w5,_⟩⟩:=st
      simp only [List.mem_cons,List.mem_nil_iff,or_false] at hc
      rcases hc with rfl | rfl | rfl | rfl | rfl
      . exact Heap.lt_size w1
      . exact Heap.lt_size w2
      . exact Heap.lt_size w3
      . exact Heap.lt_size w4
      . exact Heap.lt_size w5
    have kp:∀ c o,c ∉ [z,a,b,i1,i2]->s.heap.get? c=some o->g2.get? c=some o:=fun c o hc e=>by
      simp only [List.mem_cons,List.mem_nil_iff,or_false,not_or] at hc
      exact s2.extBut _ _ hc.1 (all c o hc.1 hc.2.2.1 hc.2.2.2.1 hc.2.2.2.2 e)
    have trk:∀ c u,H c=some u->c ∉ [z,a,b,i1,i2]:=fun c u e hc=>by rw [(hf c hc).1] at e;cases e
    have pr2:g2.get? s.heap.objs.size=some { cls:=.type "tuple",data:=.seq #[u,u'] }:=s2.extBut _ _ (Nat.ne_of_gt (lt z (by simp))) pr
    have I2:Inv X pins σ (upd H s.heap.objs.size (.tup [x,y])) { s with heap:=g2 }:=by
      refine I.step (g':=s.gens) (d':=s.drawn) (t':=s.toks) (ch:=[z,a,b,i1,i2]) (fun c hc=>?_) (fun c o _ _ hc e _=>kp c o hc e) (fun c o _ _ hc e _=>⟨o.slots,kp c o hc e⟩) (fun c o _ e n=>?_)
        (fun c o hc e=>⟨o,kp c o hc e⟩) (fun c vs e=>?_) (fun c o vs e=>?_) (fun c ps e=>⟨#[],?_⟩) (fun m hm=>?_) (fun c v e=>?_) I.bare
      . obtain ⟨f0,f1,f2,f3,f4,f5⟩:=hf c hc
        exact ⟨f3,f1,f4,f5⟩
      . rw [upd_ne (Nat.ne_of_lt (Heap.lt_size e))];exact n
      . rw [upd_ne (ne_of_none e hn)];exact e
      . rw [upd_ne (ne_of_none e hn)];exact e
      . rw [upd_ne (ne_of_none e hn),e];simp
      . obtain ⟨o,es,ep,ho,r⟩:=hm
        exact ⟨o,es,ep,kp _ o (fun hc=>(hf _ hc).2.1 rfl) ho,r⟩
      . by_cases hb:c=s.heap.objs.size
        . subst hb
          rw [upd_same] at e;cases e
          exact ⟨by show 2<=sizeLine;decide,[u,u'],.cons ru (.cons ru' .nil),⟨_,pr2,rfl,_,rfl⟩⟩
        . rw [upd_ne hb] at e
          refine (I.hok c v e).stay (fun d o hd q=>kp d o ?_ q) (fun d q=>by rw [upd_ne (ne_of_none q hn)];exact q) fun d ts q=>by rw [upd_ne (ne_of_none q hn)];exact q
          rcases hd with rfl | hd
          . exact trk _ _ e
          . exact trk _ _ hd
    refine ⟨.ref s.heap.objs.size,_,I2,rfl,⟨_,hn,rfl,fun xs' ys' x' y' a1 a2 a3 a4=>?_⟩,⟨e2,s2.extBut _ _ D.TIz Z.a,?_,Z.i1.extBut s2.extBut D.i1z,Z.i2.extBut s2.extBut D.i2z⟩,fun c hc=>?_⟩
    . rw [I.tuple_inj a1 q1,hx] at a3
      rw [I.tuple_inj a2 q2,hy] at a4
      cases a3;cases a4;rfl
    . obtain ⟨v1,v2,e3⟩:=Z.b
      exact ⟨v1,v2,s2.extBut _ _ D.TOz e3⟩
    . rw [upd_ne (Nat.ne_of_lt (lt c hc))];exact (hf c hc).1
  done:=by
    intro X hP hw hK hc i pins s σ H E I hf st hg
    subst hP hw hK
    obtain ⟨xs,q1,hx,ys,q2⟩:=hg
    obtain ⟨its,rv,p,hz⟩:=I.tuple q1
    obtain ⟨its',rv',p',hz'⟩:=I.tuple q2
    obtain ⟨h1,h2,h3,h4,h5⟩:=id st
    have hl:=rv.length
    refine zipEnd (I.ok.hd hc) D ⟨h1,h2,h3,h4,h5,p,p'⟩ (by simp;omega) fun g all=>⟨rfl,?_⟩
    have kp:∀ c o,c ∉ [z,a,b,i1,i2]->s.heap.get? c=some o->g.get? c=some o:=fun c o hc e=>by
      simp only [List.mem_cons,List.mem_nil_iff,or_false,not_or] at hc
      exact all c o hc.1 hc.2.2.1 hc.2.2.2.1 hc.2.2.2.2 e
    have trk:∀ c u,H c=some u->c ∉ [z,a,b,i1,i2]:=fun c u e hc=>by rw [(hf c hc).1] at e;cases e
    refine I.step (g':=s.gens) (d':=s.drawn) (t':=s.toks) (ch:=[z,a,b,i1,i2]) (fun c hc=>?_) (fun c o _ _ hc e _=>kp c o hc e) (fun c o _ _ hc e _=>⟨o.slots,kp c o hc e⟩) (fun c o _ e n=>n)
        (fun c o hc e=>⟨o,kp c o hc e⟩) (fun c vs e=>e) (fun c o vs e=>e) (fun c ps e=>⟨#[],by rw [e];simp⟩) (fun m hm=>?_) (fun c v e=>?_) I.bare
    . obtain ⟨f0,f1,f2,f3,f4,f5⟩:=hf c hc
      exact ⟨f3,f1,f4,f5⟩
    . obtain ⟨o,es,ep,ho,r⟩:=hm
      exact ⟨o,es,ep,kp _ o (fun hc=>(hf _ hc).2.1 rfl) ho,r⟩
    . refine (I.hok c v e).stay (fun d o hd q=>kp d o ?_ q) (fun d q=>q) fun d ts q=>q
      rcases hd with rfl | hd
      . exact trk _ _ e
      . exact trk _ _ hd
  self:=fun _ _ _ _ _ st h=>wpAny_pyIter_zip st.1 h
section
variable {X:Cx}
noncomputable def iZip (K:PySem.W.Frag) (ta:TA):TI:=fun σ H R=>ta σ H fun vs H1=>∃ l1 l2,vs=[.ref l1,.ref l2]/\(∃ xs,SqT K H1 l1 xs)/\(∃ ys,SqT K H1 l2 ys)/\R (Itz K l1 l2) H1
theorem pi_zip {a b : Expr} {ta : TA} {p pos pt : Pos} {elts : List Expr} {x1} (hg : Gl X "zip") (hm : X.mg "zip" = none) (ha : PA X [a, b] ta) (hs : starEach [a, b] X.env = [(false, eval a X.env), (false, eval b X.env)] := by rfl) (hs2 : starEach [b] X.env = [(false, eval b X.env)] := by rfl) :
    PI X (.Tuple elts x1 pt) (.Call (.Name "zip" p) [a,b] [] pos) (iZip X.K ta):=by
  intro pins s σ H R I h
  refine Call_ (ld_blt I hg hm boot_zip (PyProof.Rows.callWith_type1 (thn (ha pos pins s σ H _ I h) fun us s1 ⟨vs,H1,I1,r1,q1⟩=>?_) (by rw [hs,hs2]) (by rw [hs2];rfl)))
  obtain ⟨l1,l2,e,⟨xs,q1⟩,⟨ys,q2⟩,q⟩:=q1
  subst e
  cases r1 with
  | cons r rr =>
    cases rr with
    | cons r' rr =>
      cases rr
      cases (show _=Value.ref l1 from r)
      cases (show _=Value.ref l2 from r')
      obtain ⟨its,rv,p1,_⟩:=I1.tuple q1
      obtain ⟨its',rv',p2,_⟩:=I1.tuple q2
      have a1:l1 < s1.heap.objs.size:=by obtain ⟨_,e,_⟩:=p1;exact Heap.lt_size e
      have a2:l2 < s1.heap.objs.size:=by obtain ⟨_,e,_⟩:=p2;exact Heap.lt_size e
      refine callZip (show s1.heap.IsTuple l1 its.toArray from p1) (show s1.heap.IsTuple l2 its'.toArray from p2) fun g Z all=>?_
      refine wpAny_pyIter_zip (s:={ s1 with heap:=g }) Z.z ?_
      refine ⟨_,_,_,_,H1,rfl,I1.kept (t':=s1.toks) all,turn_zip (PyProof.Rows.zipApart_new a1 a2),⟨Z.z,Z.a,Z.b,Z.i1,Z.i2⟩,fun b hb=>?_,q⟩
      have ge:s1.heap.objs.size<=b:=by
        simp only [List.mem_cons,List.mem_nil_iff,or_false] at hb
        rcases hb with rfl | rfl | rfl | rfl | rfl
        . exact Nat.le_add_right _ 4
        . exact Nat.le_add_right _ 2
        . exact Nat.le_add_right _ 3
        . exact Nat.le_refl _
        . exact Nat.le_add_right _ 1
      exact I1.fpOk ge (I1.hok.fresh ge)
end
end L2
end
section
namespace L2
open PySem PySem.Spec PyProof.Rows
theorem weight_in:∀ (ns:List Int) (n:Int),n ∈ ns->PySem.W.WData.weight (.int n)<=PySem.W.WData.weightAll (ns.map PySem.W.WData.int)
  | m :: ns, n, h => by
    rw [List.map_cons,PySem.W.WData.weightAll]
    rcases List.mem_cons.mp h with rfl | h
    . omega
    . have:=weight_in ns n h
      omega
theorem walkB {l:PySem.W.OpenLaw} {n k:Nat} {q:Program} {loose:List Str} {XP:(Str->Option Value)->Heap->Prop} {YP:World->Heap->Prop} {d:DefRec} {K:Params->PySem.W.Frag} {sp:PySem.W.Frag->Sp} {x:Str}
    (hn:l.most=some n) (hn2:n<=sizeLine) (hdf:d.params.defaults=[]) (hr:Room k callerA) (hY:∀ (w:World) (h:Heap),YP w h->(K w.params).In h)
    (F:∀ (w:World) (mg:Str->Option Value) (fa:Addr) (h:Heap),(K w.params).In h->h.Ns mainGlobals mg->mg d.name=some (.ref fa) ->
      ∃ fd:FuncData,(∀ (s:Shared) (u:Value),BindsTo s fd ⟨[u],[]⟩ [(x,u)])/\∀ base:Heap,(K w.params).In base->base.Ns mainGlobals mg->FnOk l.prog w (K w.params) mg base CX0 k fa fd [x] (sp (K w.params)))
    (hsp:∀ (K:PySem.W.Frag) (H:Hp) (a:Addr) (ns:List Int),ns.length<=n->(∀ v ∈ ns,Builtin.Int.intBits v<=2 ^ 20)->SqL K H a (ns.map V.int)->sp K [.ref a] H (fun v _=>v = .bl true) fun _ _ _=>False) :
    PySem.W.WalkO q loose XP YP l.row.toRowW d [] (fun f vs=>PySem.call f vs):=by
  intro w s₀ s₁ mg mb G Y fa o pm cd doc dV kV ho hd hcd hD hmg hg args vals as hpre hlay hrd hwl hlo
  obtain rfl:dV = .none:=PySem.W.Dflts.none hD hdf
  obtain rfl:kV = .none:=PySem.W.Dflts.noKw hD
  obtain ⟨a,vs,ns,rfl,rfl,hobj,hints,hlen⟩:=Att.script_of hn hpre hwl
  have bits:∀ v ∈ ns,Builtin.Int.intBits v<=2 ^ 20:=fun v hv=>by
    have h1:PySem.W.WData.layable (.list (ns.map PySem.W.WData.int))=true:=by
      have h2:[PySem.W.WData.list (ns.map PySem.W.WData.int)].all PySem.W.WData.layable=true:=hlay
      simpa only [List.all_cons,List.all_nil,Bool.and_true] using h2
    have h3:=(PySem.W.layableW_iff.mp h1).2.2
    have h4:=weight_in ns v hv
    rw [PySem.W.WData.weight] at h3
    have h5:PySem.W.WData.weight (.int v)=Builtin.Int.intBits v:=by first | rfl | simp only [PySem.W.WData.weight,Builtin.Int.intBits]
    omega
  have KX:=hY w _ Y
  obtain ⟨fd,hb,hF⟩:=F w mg fa _ KX G.T.g hmg
  have call:=law_call KX G.T.g G.T.b G.T.builtins G.T.nolimit hg hobj hints (Nat.le_trans hlen hn2) hr hF hb (fun H hO hS=>hsp (K w.params) H a ns hlen bits hS) fun H e s' z=>z
  refine PySem.W.enter_call (codeAny_mono call fun r s' hq=>?_)
  obtain ⟨rfl,h2,h3,h4⟩:=hq
  exact ⟨.inl ⟨.bool true,.bool true,[],rfl,fun _=>rfl,.bool true,Att.post_true l _,fun _=>⟨List.Pairwise.nil,fun _ hm=>(nomatch hm)⟩⟩,h2,h3,h4⟩
end L2
end
section
namespace L2
open PySem PySem.Spec PyProof.Rows
open PySem.W (Dat kqdP kqdPs kqdOk)
noncomputable def Tm (H H':Hp):Prop:=∀ (K:PySem.W.Frag) (a:Addr) (xs:List V),SqT K H a xs->SqT K H' a xs
theorem Tm.refl (H:Hp):Tm H H:=fun _ _ _ h=>h
theorem Tm.trans {H H1 H2:Hp} (a:Tm H H1) (b:Tm H1 H2):Tm H H2:=fun K c o h=>b K c o (a K c o h)
theorem Same.tm {H H':Hp} (e:Same H H'):Tm H H':=fun _ _ _ h=>e.tup h
theorem Tm.lst {H:Hp} {D:Addr} {ys:List V} (h:H D=some (.lst ys)) (o:HO):Tm H (upd H D o):=fun K a xs q=>by
  rcases q with (q | ⟨ob,q⟩) | q
  . exact .inl (.inl (by rw [upd_ne (ne_of q h (fun z=>by cases z))];exact q))
  . exact .inl (.inr ⟨ob,by rw [upd_ne (ne_of q h (fun z=>by cases z))];exact q⟩)
  . exact .inr q
noncomputable def SB (p:Addr) (H H':Hp):Prop:=∀ b o,b ≠ p->H b=some o->H' b=some o
theorem SB.refl (p:Addr) (H:Hp):SB p H H:=fun _ _ _ h=>h
theorem SB.trans {p:Addr} {H H1 H2:Hp} (a:SB p H H1) (b:SB p H1 H2):SB p H H2:=fun c o n h=>b c o n (a c o n h)
theorem Same.sb {p:Addr} {H H':Hp} (e:Same H H'):SB p H H':=fun b o _ h=>e b o h
theorem SB.upd {p:Addr} {H:Hp} {o:HO}:SB p H (upd H p o):=fun b u n h=>by rw [upd_ne n];exact h
theorem SB.tm {p:Addr} {H H':Hp} {ys:List V} (e:SB p H H') (h:H p=some (.lst ys)):Tm H H':=fun K a xs q=>by
  rcases q with (q | ⟨ob,q⟩) | q
  . exact .inl (.inl (e _ _ (ne_of q h (fun z=>by cases z)) q))
  . exact .inl (.inr ⟨ob,e _ _ (ne_of q h (fun z=>by cases z)) q⟩)
  . exact .inr q
theorem Same.snoc {H H5:Hp} {D:Addr} {o:HO} (h:Same H H5) (hn:H D=Option.none):Same H (upd H5 D o):=fun b u e=>by rw [upd_ne (ne_of_none e hn)];exact h b u e
mutual
inductive Fz (K:PySem.W.Frag) (H:Hp):V->Dat->Prop
  | none:Fz K H .non .none
  | bool (b:Bool):Fz K H (.bl b) (.bool b)
  | int (i:Int):Fz K H (.int i) (.int i)
  | str (x:Str):Fz K H (.str x) (.str x)
  | tup {a:Addr} {xs:List V} {ds:List Dat}:SqT K H a xs->Fzs K H xs ds->Fz K H (.ref a) (.tuple ds)
inductive Fzs (K:PySem.W.Frag) (H:Hp):List V->List Dat->Prop
  | nil:Fzs K H [] []
  | cons {x:V} {d:Dat} {xs:List V} {ds:List Dat}:Fz K H x d->Fzs K H xs ds->Fzs K H (x :: xs) (d :: ds)
end
section
variable {K:PySem.W.Frag} {H H':Hp}
mutual
theorem Fz.tm (e:Tm H H'):∀ {v:V} {d:Dat},Fz K H v d->Fz K H' v d
  | _,_,.none=>.none
  | _,_,.bool b=>.bool b
  | _,_,.int i=>.int i
  | _,_,.str x=>.str x
  | _,_,.tup h r=>.tup (e _ _ _ h) (Fzs.tm e r)
theorem Fzs.tm (e:Tm H H'):∀ {v:List V} {d:List Dat},Fzs K H v d->Fzs K H' v d
  | _,_,.nil=>.nil
  | _,_,.cons h r=>.cons (Fz.tm e h) (Fzs.tm e r)
end
theorem Fzs.length:∀ {v:List V} {d:List Dat},Fzs K H v d->v.length=d.length
  | _,_,.nil=>rfl
  | _,_,.cons _ r=>by rw [List.length_cons,List.length_cons,Fzs.length r]
theorem Fzs.snoc:∀ {v:List V} {d:List Dat} {x:V} {e:Dat},Fzs K H v d->Fz K H x e->Fzs K H (v ++ [x]) (d ++ [e])
  | _,_,_,_,.nil,h=>.cons h .nil
  | _,_,_,_,.cons a r,h=>.cons a (Fzs.snoc r h)
theorem Fzs.ints_inv:∀ {vs:List V} {ns:List Int},Fzs K H vs (ns.map Dat.int)->vs=ns.map V.int
  | _,[],h=>by cases h;rfl
  | _,n :: ns,h=>by
    cases h with
    | cons a r =>
      cases a
      rw [Fzs.ints_inv r];rfl
end
section
variable {K:PySem.W.Frag} {te:TE} {σ:St} {H:Hp} {Q:VK}
theorem comp_by {J:It} {g:TG} {no n:Nat} (ds:List Dat) (hn:ds.length=n) (hz:n<=sizeLine) {Pσ:Nat->St->Prop} (h0:Pσ 0 (List.replicate no none ++ σ))
    (stop:∀ H',Same H H'->J.stop n H') (go:∀ i H',i < n->Same H H'->J.go i H')
    (turn:∀ i σ' H' d,ds[i]?=some d->Same H H'->Pσ i σ'->∀ x H2,J.yld i H' x H2->g x σ' H2 fun σ3 H3=>te σ3 H3 fun v H5=>Pσ (i + 1) σ3/\Same H' H5/\Fz K H5 v d)
    (mono:∀ x σ' H2 Q1 Q2,(∀ σ3 H3,Q1 σ3 H3->Q2 σ3 H3)->g x σ' H2 Q1->g x σ' H2 Q2) (monoE:∀ σ' H2 Q1 Q2,(∀ v H3,Q1 v H3->Q2 v H3)->te σ' H2 Q1->te σ' H2 Q2)
    (fin:∀ D H' ys,Same H H'->H' D=some (.lst ys)->H D=Option.none->Fzs K H' ys ds->Q (.ref D) H') :
    CompW no (J) g tAll te σ H Q:=by
  intro D hD
  refine ⟨fun i m σ' H'=>m=n - i/\i<=n/\Pσ i σ'/\Same H H'/\∃ ys,H' D=some (.lst ys)/\Fzs K H' ys (ds.take i),⟨n,by omega,Nat.zero_le _,h0,Same.new hD _,[],upd_same,.nil⟩,?_⟩
  rintro i m σ' H' ⟨rfl,hi,hp,hs,ys,hy,hf⟩
  by_cases hlt:i < n
  . refine .inr ⟨go i H' hlt hs,fun x H2 hy2=>?_⟩
    obtain ⟨d,hd⟩:∃ d,ds[i]?=some d:=⟨ds[i],by simp⟩
    refine mono _ _ _ _ _ (fun σ3 H3 h3=>?_) (turn i σ' H' d hd hs hp x H2 hy2)
    unfold tAll
    dsimp only
    rw [if_pos rfl]
    refine monoE _ _ _ _ (fun v H5 h5=>?_) h3
    obtain ⟨p5,s5,f5⟩:=h5
    have l:ys.length=i:=by rw [hf.length,List.length_take];omega
    refine ⟨ys,s5 _ _ hy,by omega,n - (i + 1),by omega,rfl,hlt,p5,(hs.trans s5).snoc hD,ys ++ [v],upd_same,?_⟩
    have tm:=Tm.lst (s5 _ _ hy) (.lst (ys ++ [v]))
    rw [List.take_add_one,hd]
    exact ((hf.tm s5.tm).tm tm).snoc (f5.tm tm)
  . have e:i=n:=by omega
    subst e
    refine .inl ⟨stop H' hs,fin D H' ys hs hy hD ?_⟩
    rw [<- hn,List.take_length] at hf
    exact hf
theorem gName_mono {i:Nat}:∀ x σ' H2 Q1 Q2,(∀ σ3 H3,Q1 σ3 H3->Q2 σ3 H3)->gName i x σ' H2 Q1->gName i x σ' H2 Q2:=fun _ _ _ _ _ h q=>h _ _ q
theorem comp_tup {a:Addr} {xs:List V} (ds:List Dat) (hS:SqT K H a xs) (hn:ds.length=xs.length) (hz:xs.length<=sizeLine)
    (turn:∀ (i:Nat) x H' d,xs[i]?=some x->ds[i]?=some d->Same H H'->te (some x :: σ) H' fun v H5=>Same H' H5/\Fz K H5 v d)
    (monoE:∀ σ' H2 Q1 Q2,(∀ v H3,Q1 v H3->Q2 v H3)->te σ' H2 Q1->te σ' H2 Q2)
    (fin:∀ D H' ys,Same H H'->H' D=some (.lst ys)->H D=Option.none->Fzs K H' ys ds->Q (.ref D) H') :
    CompW 1 (Itt K a) (gName 0) tAll te σ H Q:=by
  refine comp_by (J:=Itt K a) (K:=K) ds hn hz (Pσ:=fun _ σ'=>∃ o,σ'=o :: σ) ⟨none,rfl⟩ (fun H' s=>⟨xs,s.tup hS,Nat.le_refl _⟩) (fun i H' hi s=>⟨xs,xs[i],s.tup hS,by simp [hi]⟩) ?_ gName_mono monoE fin
  rintro i σ' H' d hd s ⟨o,rfl⟩ x H2 ⟨rfl,hy⟩
  have hx:=hy xs (s.tup hS)
  refine monoE _ _ _ _ (fun v H3 h=>?_) (turn i x H2 d hx hd s)
  exact ⟨⟨_,rfl⟩,h⟩
noncomputable def gPair (K:PySem.W.Frag):TG:=gTup K 2 (gCons (gName 0) (gCons (gName 1) gNil))
theorem comp_zip {l1 l2:Addr} {xs ys:List V} (ds:List Dat) (h1:SqT K H l1 xs) (h2:SqT K H l2 ys) (hl:ys.length=xs.length) (hn:ds.length=xs.length) (hz:xs.length<=sizeLine)
    (turn:∀ (i:Nat) x y H' d,xs[i]?=some x->ys[i]?=some y->ds[i]?=some d->Same H H'->te (some x :: some y :: σ) H' fun v H5=>Same H' H5/\Fz K H5 v d)
    (monoE:∀ σ' H2 Q1 Q2,(∀ v H3,Q1 v H3->Q2 v H3)->te σ' H2 Q1->te σ' H2 Q2)
    (fin:∀ D H' ys,Same H H'->H' D=some (.lst ys)->H D=Option.none->Fzs K H' ys ds->Q (.ref D) H') :
    CompW 2 (Itz K l1 l2) (gPair K) tAll te σ H Q:=by
  refine comp_by (J:=Itz K l1 l2) (K:=K) ds hn hz (Pσ:=fun _ σ'=>∃ o p,σ'=o :: p :: σ) ⟨none,none,rfl⟩ (fun H' s=>⟨xs,s.tup h1,Nat.le_refl _,ys,s.tup h2⟩) (fun i H' hi s=>⟨xs,ys,xs[i],ys[i],s.tup h1,s.tup h2,by simp [hi],by simp [hl,hi]⟩) ?_ ?_ monoE fin
  . rintro i σ' H' d hd s ⟨o,o',rfl⟩ x H2 ⟨p,hp,rfl,hy⟩
    have hi:i < xs.length:=by
      have:=(List.getElem?_eq_some_iff.mp hd).1
      omega
    have ex:xs[i]?=some xs[i]:=by simp [hi]
    have ey:ys[i]?=some (ys[i]'(by omega)):=by simp [hl,hi]
    have e2:=hy xs ys _ _ (s.tup h1) (s.tup h2) ex ey
    subst e2
    have s2:Same H' (upd H' p (.tup [xs[i],ys[i]'(by omega)])):=Same.new hp _
    refine ⟨p,_,rfl,SqT.of upd_same,rfl,_,_,rfl,_,_,rfl,rfl,?_⟩
    refine monoE _ _ _ _ (fun v H3 h=>?_) (turn i _ _ _ d ex ey hd (s.trans s2))
    exact ⟨⟨_,_,rfl⟩,s2.trans h.1,h.2⟩
  . rintro x σ' H2 Q1 Q2 hq ⟨a,vs,e1,e2,e3,v1,r1,e4,v2,r2,e5,e6,q⟩
    exact ⟨a,vs,e1,e2,e3,v1,r1,e4,v2,r2,e5,e6,hq _ _ q⟩
theorem pg_pair {X:Cx} {own:List Str} {scope:Scope} {C:Addr} {fp:List Addr} {s:Shared} {H:Hp} {x y:Str} {px py pos:Pos} {k:Nat} (hc:X.calm=true) (nd:(cxComp X own scope C fp s H).N.Nodup) (h0:(cxComp X own scope C fp s H).N[0]?=some x) (h1:(cxComp X own scope C fp s H).N[1]?=some y)
    (l0:(cxComp X own scope C fp s H).env.scope.names.lookup x=some .local) (l1:(cxComp X own scope C fp s H).env.scope.names.lookup y=some .local):PG (cxComp X own scope C fp s H) (.Tuple [.Name x px,.Name y py] k pos) (gPair X.K) :=
  pg_tup (X:=cxComp X own scope C fp s H) (n:=2) hc (pgs_cons (pg_name (i:=0) nd h0 (Or.inl l0) (Or.inr l0)) (pgs_cons (pg_name (i:=1) nd h1 (Or.inl l1) (Or.inr l1)) pgs_nil))
end
end L2
end
section
namespace L2
open PySem PySem.Spec PyProof.Rows
section
variable {X:Cx} {es:List Expr} {t:TA} {te:TE}
theorem pa_i {i:Int} {j:Nat} {p:Pos} (hr:PA X es t):PA X (.Constant (.int i) j p :: es) (tCons (tC (.int i)) t):=pa_cons pe_int hr rfl
theorem pa_n {x:Str} {p:Pos} (ha:PE X (.Name x p) te) (hr:PA X es t):PA X (.Name x p :: es) (tCons te t):=pa_cons ha hr rfl
theorem pa_b {a b:Expr} {op:Operator} {p:Pos} (ha:PE X (.BinOp a op b p) te) (hr:PA X es t):PA X (.BinOp a op b p :: es) (tCons te t):=pa_cons ha hr rfl
theorem pa_u {a:Expr} {op:UnaryOp} {p:Pos} (ha:PE X (.UnaryOp op a p) te) (hr:PA X es t):PA X (.UnaryOp op a p :: es) (tCons te t):=pa_cons ha hr rfl
theorem pa_s {a b:Expr} {p:Pos} (ha:PE X (.Subscript a b p) te) (hr:PA X es t):PA X (.Subscript a b p :: es) (tCons te t):=pa_cons ha hr rfl
theorem pa_c {f:Expr} {a:List Expr} {k:List Keyword} {p:Pos} (ha:PE X (.Call f a k p) te) (hr:PA X es t):PA X (.Call f a k p :: es) (tCons te t):=pa_cons ha hr rfl
theorem pa_t {a:List Expr} {p:Pos} {k:Nat} (ha:PE X (.Tuple a k p) te) (hr:PA X es t):PA X (.Tuple a k p :: es) (tCons te t):=pa_cons ha hr rfl
theorem pa_l {a:List Expr} {p:Pos} (ha:PE X (.List a p) te) (hr:PA X es t):PA X (.List a p :: es) (tCons te t):=pa_cons ha hr rfl
theorem pix_call {f:Expr} {a:List Expr} {k:List Keyword} {p:Pos}:PlainIx (.Call f a k p):=fun _ _=>rfl
theorem sw_sub {a b:Expr} {p:Pos} {t:Option Expr} {l:Nat} {env:Env}:swapsWith (.Subscript a b p) t l env=pure false:=rfl
end
end L2
end
section
namespace L2
open PySem PySem.Spec PyProof.Rows
open PySem.W (Dat)
noncomputable def Src (J:It) (H:Hp) (xs:List V):Prop:=∀ H',Same H H'->J.stop xs.length H'/\∀ i x,xs[i]?=some x->J.go i H'/\∀ y H2,J.yld i H' y H2->H'=H2/\x=y
section
variable {K:PySem.W.Frag} {H:Hp} {σ:St} {te:TE} {tt:TT} {Q:VK} {J:It} {xs:List V}
theorem src_lst {a:Addr} (h:SqL K H a xs):Src (Itl K a) H xs:=fun H' s=>⟨⟨xs,s.seq h,Nat.le_refl _⟩,fun i x hx=>⟨⟨xs,x,s.seq h,hx⟩,fun y H2 ⟨e,q⟩=>⟨e.symm,by
  have:=q xs (s.seq h)
  rw [hx] at this;cases this;rfl⟩⟩⟩
theorem comp_src (S : Src J H xs) (kp : V -> Bool) (dv : V -> Dat) (hz : xs.length <= sizeLine)
    (test:∀ x ∈ xs,∀ H',Same H H'->∀ R:Bool->Hp->Prop,(∀ H4,Same H' H4->R (kp x) H4)->tt (some x :: σ) H' R)
    (turn:∀ x ∈ xs,kp x=true->∀ H',Same H H'->∀ R:VK,(∀ v H5,Same H' H5->Fz K H5 v (dv x)->R v H5)->te (some x :: σ) H' R)
    (fin:∀ D H' ys,Same H H'->H' D=some (.lst ys)->H D=none->Fzs K H' ys ((xs.filter kp).map dv)->Q (.ref D) H') :
    CompW 1 J (gName 0) tt te σ H Q:=by
  intro D hD
  refine ⟨fun i m σ' H'=>m=xs.length - i/\i<=xs.length/\(∃ o,σ'=o :: σ)/\Same H H'/\∃ ys,H' D=some (.lst ys)/\Fzs K H' ys (((xs.take i).filter kp).map dv),⟨xs.length,by omega,Nat.zero_le _,⟨_,rfl⟩,Same.new hD _,[],upd_same,.nil⟩,?_⟩
  rintro i m σ' H' ⟨rfl,hi,⟨o,rfl⟩,hs,ys,hy,hf⟩
  obtain ⟨stop,each⟩:=S H' hs
  by_cases hlt:i < xs.length
  . obtain ⟨go,yl⟩:=each i xs[i] (by simp [hlt])
    have hm:xs[i] ∈ xs:=List.getElem_mem hlt
    refine .inr ⟨go,fun y H2 q=>?_⟩
    obtain ⟨rfl,rfl⟩:=yl y H2 q
    show tt (some xs[i] :: σ) H' _
    refine test _ hm H' hs _ fun H4 s4=>?_
    have tk:xs.take (i + 1)=xs.take i ++ [xs[i]]:=by rw [List.take_add_one];simp [hlt]
    by_cases hk:kp xs[i]=true
    . rw [if_pos hk]
      refine turn _ hm hk H4 (hs.trans s4) _ fun v H5 s5 f5=>?_
      have l:ys.length<=i:=by
        rw [hf.length,List.length_map]
        exact Nat.le_trans (List.length_filter_le _ _) (by rw [List.length_take];omega)
      have hy5:=s5 _ _ (s4 _ _ hy)
      refine ⟨ys,hy5,by omega,xs.length - (i + 1),by omega,rfl,hlt,⟨_,rfl⟩,(hs.trans (s4.trans s5)).snoc hD,ys ++ [v],upd_same,?_⟩
      have tm:=Tm.lst hy5 (.lst (ys ++ [v]))
      rw [tk,List.filter_append,List.map_append]
      have:[xs[i]].filter kp=[xs[i]]:=by simp [hk]
      rw [this]
      exact ((hf.tm (s4.trans s5).tm).tm tm).snoc (f5.tm tm)
    . rw [if_neg hk]
      refine ⟨xs.length - (i + 1),by omega,rfl,hlt,⟨_,rfl⟩,hs.trans s4,ys,s4 _ _ hy,?_⟩
      rw [tk,List.filter_append]
      have:[xs[i]].filter kp=[]:=by simp [hk]
      rw [this,List.append_nil]
      exact hf.tm s4.tm
  . have e:i=xs.length:=by omega
    subst e
    refine .inl ⟨stop,fin D H' ys hs hy hD ?_⟩
    rw [List.take_length] at hf
    exact hf
theorem comp_all (S:Src J H xs) (dv:V->Dat) (hz:xs.length<=sizeLine)
    (turn:∀ x ∈ xs,∀ H',Same H H'->∀ R:VK,(∀ v H5,Same H' H5->Fz K H5 v (dv x)->R v H5)->te (some x :: σ) H' R)
    (fin:∀ D H' ys,Same H H'->H' D=some (.lst ys)->H D=none->Fzs K H' ys (xs.map dv)->Q (.ref D) H') :
    CompW 1 J (gName 0) tAll te σ H Q :=
  comp_src S (fun _=>true) dv hz (fun x _ H' _ R q=>q H' (Same.refl _)) (fun x hx _=>turn x hx) fun D H' ys s h n f=>fin D H' ys s h n (by
    have e:xs.filter (fun _=>true)=xs:=List.filter_eq_self.mpr fun _ _=>rfl
    rw [e] at f;exact f)
theorem comp_ints {ns:List Int} (S:Src J H (ns.map V.int)) (fn:Int->Int) (hz:ns.length<=sizeLine)
    (turn:∀ n ∈ ns,∀ H',Same H H'->∀ R:VK,(∀ H5,Same H' H5->R (.int (fn n)) H5)->te (some (.int n) :: σ) H' R)
    (fin:∀ D H',Same H H'->H' D=some (.lst ((ns.map fn).map V.int))->H D=none->Q (.ref D) H') :
    CompW 1 J (gName 0) tAll te σ H Q:=by
  refine comp_all (K:=[]) S (fun v=>match v with | .int n=>.int (fn n) | _=>.none) (by rw [List.length_map];exact hz) (fun x hx H' s R q=>?_) fun D H' ys s h n f=>?_
  . obtain ⟨n,hn,rfl⟩:=List.mem_map.mp hx
    exact turn n hn H' s R fun H5 s5=>q _ _ s5 (.int _)
  . rw [List.map_map] at f
    have e:ys=(ns.map fn).map V.int:=Fzs.ints_inv (by rw [List.map_map];exact f)
    subst e
    exact fin D H' s h n
theorem comp_inv {lo:Int} {n:Nat} (hz:n<=sizeLine) (Iv:Addr->Nat->Hp->List V->Prop) (h0:∀ D,H D=none->Iv D 0 (upd H D (.lst [])) [])
    (turn:∀ D i H' ys,i < n->H D=none->H' D=some (.lst ys)->ys.length=i->Iv D i H' ys->∀ R:VK,(∀ v H5,H5 D=some (.lst ys)->Iv D (i + 1) (upd H5 D (.lst (ys ++ [v]))) (ys ++ [v])->R v H5)->te (some (.int (lo + i)) :: σ) H' R)
    (fin:∀ D H' ys,H D=none->H' D=some (.lst ys)->ys.length=n->Iv D n H' ys->Q (.ref D) H') :
    CompW 1 (Itr lo n) (gName 0) tAll te σ H Q:=by
  intro D hD
  refine ⟨fun i m σ' H'=>m=n - i/\i<=n/\(∃ o,σ'=o :: σ)/\∃ ys,H' D=some (.lst ys)/\ys.length=i/\Iv D i H' ys,⟨n,by omega,Nat.zero_le _,⟨_,rfl⟩,[],upd_same,rfl,h0 D hD⟩,?_⟩
  rintro i m σ' H' ⟨rfl,hi,⟨o,rfl⟩,ys,hy,hl,hv⟩
  by_cases hlt:i < n
  . refine .inr ⟨hlt,fun y H2 ⟨e1,e2⟩=>?_⟩
    subst e1 e2
    unfold gName tAll
    dsimp only
    rw [if_pos rfl]
    show te (some (V.int (lo + i)) :: σ) H2 _
    refine turn D i H2 ys hlt hD hy hl hv _ fun v H5 h5 q=>?_
    exact ⟨ys,h5,by omega,n - (i + 1),by omega,rfl,hlt,⟨_,rfl⟩,ys ++ [v],upd_same,by rw [List.length_append,hl];rfl,q⟩
  . have e:i=n:=by omega
    subst e
    exact .inl ⟨Nat.le_refl _,fin D H' ys hD hy hl hv⟩
end
theorem SB.snoc {p D:Addr} {H H5:Hp} {o:HO} (h:SB p H H5) (hn:H D=Option.none):SB p H (L2.upd H5 D o):=fun b u e q=>by rw [upd_ne (ne_of_none q hn)];exact h b u e q
theorem ixN_at {n i:Nat} (h:i < n):ixN n (0 + (i:Int))=some i:=by
  unfold ixN
  rw [Int.zero_add,if_pos (by omega),if_pos (by omega)]
  rfl
theorem ixN_of {n:Nat} {d:Int} (h0:0<=d) (h1:d < (n:Int)):ixN n d=some d.toNat:=by
  unfold ixN
  rw [if_pos h0,if_pos h1]
theorem tSeq_cut {t r:TS} {D:Ends} {σ:St} {H:Hp} (Mid:St->Hp->Prop) (h1:∀ N:St->Hp->Prop,(∀ σ H,Mid σ H->N σ H)->t { D with nx:=N } σ H) (h2:∀ σ H,Mid σ H->r D σ H):tSeq t r D σ H:=h1 _ h2
theorem kqd_ints (ns:List Int) (n:Nat):(ns.map Dat.int).all (PySem.W.kqdOk n)=true:=by
  rw [List.all_map,List.all_eq_true]
  intro x _
  cases n <;> rfl
theorem kqd_lst {ns:List Int}:PySem.W.kqdOk 9 (.list (ns.map .int))=true:=kqd_ints ns 8
theorem kqd_tup {ns:List Int}:PySem.W.kqdOk 9 (.tuple (ns.map .int))=true:=kqd_ints ns 8
theorem map_int_inj {ns ms:List Int} (h:ns.map Dat.int=ms.map Dat.int):ns=ms:=by
  induction ns generalizing ms with
  | nil=>cases ms with
    | nil=>rfl
    | cons b r=>cases h
  | cons a r ih=>cases ms with
    | nil=>cases h
    | cons b r' =>
      rw [List.map_cons,List.map_cons] at h
      injection h with h1 h2
      injection h1 with h1
      rw [h1,ih h2]
theorem deq_lst {ns ms:List Int}:deq (.list (ns.map .int)) (.list (ms.map .int))=decide (ns=ms):=by
  by_cases h:ns=ms
  . subst h;rw [deq_self,decide_eq_true rfl]
  . rw [decide_eq_false h]
    exact deq_ne fun z=>h (map_int_inj (by injection z))
theorem deq_tup {ns ms:List Int}:deq (.tuple (ns.map .int)) (.tuple (ms.map .int))=decide (ns=ms):=by
  by_cases h:ns=ms
  . subst h;rw [deq_self,decide_eq_true rfl]
  . rw [decide_eq_false h]
    exact deq_ne fun z=>h (map_int_inj (by injection z))
theorem pe_tyn {X:Cx} {x:Str} {T:String} {pos:Pos} (hg:Gl X x) (hm:X.mg x=none) (hv:bootBuiltins x=some (.type T)) (hn:x ≠ "__name__" := by decide) (hd:(x == ("__debug__" : Str))=false:=by decide):PE X (.Name x pos) (tC (.ty T)) :=
  pe_bltn (v:=.ty T) hg hm hv rfl hn hd
end L2
end
section
namespace L2
open PySem PySem.Spec PyProof.Rows
noncomputable def DefAt (K:PySem.W.Frag) (x:Str) (st:Stmt):Prop:=∃ (f:Addr) (oc:Value) (od:Option Addr) (kV dc pm:Value) (an:Option Addr) (cd ct:Value) (sl:Array (Option Value)),
  PySem.W.nsIn K mainGlobals x=some (some (.ref f))/\K.lookup f=some ⟨oc,od,.func (PySem.W.fnOf x x (defArgs st) (defBody st) (defScope st) .none kV dc pm an cd ct),sl⟩/\PySem.W.codeIn K cd x=true/\PySem.W.keepIn K (.ref f)=true
theorem DefAt.mk {K:PySem.W.Frag} {x:Str} {st:Stmt} {f:Addr} {oc:Value} {od:Option Addr} {kV dc pm:Value} {an:Option Addr} {cd ct:Value} {sl:Array (Option Value)} (a:PySem.W.nsIn K mainGlobals x=some (some (.ref f)))
    (l:K.lookup f=some ⟨oc,od,.func (PySem.W.fnOf x x (defArgs st) (defBody st) (defScope st) .none kV dc pm an cd ct),sl⟩) (c:PySem.W.codeIn K cd x=true) (k:PySem.W.keepIn K (.ref f)=true):DefAt K x st:=⟨f,oc,od,kV,dc,pm,an,cd,ct,sl,a,l,c,k⟩
theorem DefAt.get {K:PySem.W.Frag} {x:Str} {st:Stmt} {h:Heap} {mg:Str->Option Value} (d:DefAt K x st) (X:K.In h) (G:h.Ns mainGlobals mg):∃ (f:Addr) (fd:FuncData),Fun K x x st f fd/\mg x=some (.ref f)/\PySem.W.keepIn K (.ref f)=true:=by
  obtain ⟨f,oc,od,kV,dc,pm,an,cd,ct,sl,a,l,c,k⟩:=d
  exact ⟨f,_,fun_mk l c k,PySem.W.mg_of X G a,k⟩
theorem DefAt.law {K:PySem.W.Frag} {x y:Str} {st:Stmt} {h:Heap} {mg:Str->Option Value} {fa:Addr} (d:DefAt K x st) (X:K.In h) (G:h.Ns mainGlobals mg) (hfa:mg x=some (.ref fa))
    (hb:∀ (kV doc pm:Value) (an:Option Addr) (cdv ct:Value) (u:Value),bindArgs (PySem.W.fnOf x x (defArgs st) (defBody st) (defScope st) .none kV doc pm an cdv ct) ⟨[u],[]⟩=pure [(y,u)]):∃ (fd:FuncData),Fun K x x st fa fd/\∀ (s:Shared) (v:Value),BindsTo s fd ⟨[v],[]⟩ [(y,v)]:=by
  obtain ⟨f,oc,od,kV,dc,pm,an,cd,ct,sl,a,l,c,k⟩:=d
  have e:=hfa.symm.trans (PySem.W.mg_of X G a)
  cases e
  exact ⟨_,fun_mk l c k,fun s v=>.of_eq (hb kV dc pm an cd ct v)⟩
end L2
end
section
namespace L2
open PySem PySem.Spec PyProof.Rows
structure ZE (X:Cx) (e:Expr) (t:TE):Prop where out:PE X e t
structure ZT (X:Cx) (e:Expr) (t:TT):Prop where out:PT X e t
structure ZW (X:Cx) (e:Expr) (t:TT):Prop where out:PW X e t
structure ZA (X:Cx) (es:List Expr) (t:TA):Prop where out:PA X es t
structure ZS (X:Cx) (st:Stmt) (t:TS):Prop where out:PS X st t
structure ZSs (X:Cx) (st:List Stmt) (t:TS):Prop where out:PSs X st t
structure ZG (X:Cx) (e:Expr) (t:TG):Prop where out:PG X e t
structure ZI (X:Cx) (tg iter:Expr) (wi:TI):Prop where out:PI X tg iter wi
structure ZTs (X:Cx) (es:List Expr) (t:TT):Prop where out:PTs X es t
structure ZO (X:Cx) (e:Option Expr) (t:TO):Prop where out:PO X e t
section
variable {X:Cx} {a b c e tg:Expr} {es:List Expr} {te ta tb tc:TE} {t:TA} {pos p p2:Pos} {x:Str}
theorem zss_nil:ZSs X [] tNext:=⟨pss_nil⟩
theorem zss_cons {st:Stmt} {rest:List Stmt} {t u:TS} (h1:ZS X st t) (h2:ZSs X rest u):ZSs X (st :: rest) (tSeq t u):=⟨pss_cons h1.out h2.out⟩
theorem zss_one {st:Stmt} {t:TS} (h1:ZS X st t):ZSs X [st] t:=⟨pss_one h1.out⟩
theorem zs_set {i:Nat} {pos':Pos} (hN:X.N.Nodup) (hi:X.N[i]?=some x) (hx:Loc X.env.scope x) (he:ZE X e te) (hs:swapsWith e (some (.Name x pos')) pos.line X.env=pure false:=by rfl) (hf:X.fn x=true\/X.env.scope.names.lookup x=some .local:=by first | exact .inl rfl | exact .inr rfl | assumption) :
    ZS X (.Assign [.Name x pos'] e pos) (tAsg te (gName i)):=⟨ps_set hN hi hx he.out hs hf⟩
theorem zs_for {iter:Expr} {body:List Stmt} {wi:TI} {g:TG} {tb:TS} (hp:PassesOwn (model X.prog X.w) X.A X.env X.xe) (hc:X.calm=true) (hi:ZI X tg iter wi) (hg:ZG X tg g) (hb:ZSs X body tb)
    (hs:∀ x,foldedSetIterable iter X.env x=pure x:=by intro _;rfl):ZS X (.For tg iter body [] pos) (tFor wi g tb):=⟨ps_for hp hc hi.out hg.out hb.out hs⟩
theorem zs_while {body:List Stmt} {tc:TT} {tb:TS} (hp:PassesOwn (model X.prog X.w) X.A X.env X.xe) (hc:ZT X c tc) (hb:ZSs X body tb):ZS X (.While c body [] pos) (tWhile tc tb):=⟨ps_while hp hc.out hb.out⟩
theorem zs_if {l m:List Stmt} {tc:TT} {t u:TS} (hc:ZT X c tc) (ha:ZSs X l t) (hb:ZSs X m u):ZS X (.If c l m pos) (tIfS tc t u):=⟨ps_if hc.out ha.out hb.out⟩
theorem zs_ret (he:ZE X e te):ZS X (.Return (some e) pos) (tRet te):=⟨ps_ret he.out⟩
theorem zs_expr (he:ZE X e te) (hs:swapsWith e none pos.line X.env=pure false:=by rfl):ZS X (.Expr e pos) (tDrop te):=⟨ps_expr he.out hs⟩
theorem zs_asg {g:TG} (he:ZE X e te) (hg:ZG X tg g) (hs:swapsWithSole [tg] e pos.line X.env=pure false:=by rfl) (hw:swappedStores [tg] e X.env=pure none:=by rfl)
    (h1:(assignEach [tg] X.env).map (·.2)=[assign tg X.env]:=by rfl):ZS X (.Assign [tg] e pos) (tAsg te g):=⟨ps_asg he.out hg.out hs hw h1⟩
theorem ze_int {i j}:ZE X (.Constant (.int i) j pos) (tC (.int i)):=⟨pe_int⟩
theorem ze_bl {b j}:ZE X (.Constant (.bool b) j pos) (tC (.bl b)):=⟨pe_bl⟩
theorem ze_non {j}:ZE X (.Constant .none j pos) (tC .non):=⟨pe_non⟩
theorem ze_str {x:Str} {j}:ZE X (.Constant (.str x) j pos) (tC (.str x)):=⟨pe_str⟩
theorem zv (i:Nat) (hN:X.N[i]?=some x:=by rfl) (hv:Vis X.env.scope x:=by first | exact Or.inl rfl | exact Or.inr (Or.inl rfl) | exact Or.inr (Or.inr rfl)) (hd:(x == ("__debug__" : Str))=false:=by decide)
    (hcd:(x == ("__classdict__" : Str))=false:=by decide):ZE X (.Name x pos) (tVar i):=⟨pe_var hN hv hd hcd⟩
theorem ze_glob {v:V} {u:Value} (hg:Gl X x) (hm:X.mg x=some u) (r:RelV v u) (hd:(x == ("__debug__" : Str))=false:=by decide):ZE X (.Name x pos) (tC v):=⟨pe_glob hg hm r hd⟩
theorem ze_tyn {T:String} (hg:Gl X x) (hm:X.mg x=none) (hv:bootBuiltins x=some (.type T)) (hn:x ≠ "__name__" := by decide) (hd:(x == ("__debug__" : Str))=false:=by decide):ZE X (.Name x pos) (tC (.ty T)):=⟨pe_tyn hg hm hv hn hd⟩
theorem ze_op {op:Operator} {r:R2} (ho:OpR X (binaryOp op) r) (ha:ZE X a ta) (hb:ZE X b tb):ZE X (.BinOp a op b pos) (tOp r ta tb):=⟨pe_op ho ha.out hb.out⟩
theorem ze_un {op:UnaryOp} {r:V->Hp->VK->Prop} (ho:UnR X (unaryOp op) r) (ha:ZE X a ta):ZE X (.UnaryOp op a pos) (tUn r ta):=⟨pe_un ho ha.out⟩
theorem ze_cmpR {op:CmpOp} {r:R2} (ho:OpR X (compareOp op) r) (ha:ZE X a ta) (hb:ZE X b tb) (hm:behindInMarks op b=false):ZE X (.Compare a [op] [b] pos) (tOp r ta tb):=⟨pe_cmpR ho ha.out hb.out hm⟩
theorem zt_cmpR {op:CmpOp} {r:R2} (ho:OpR X (compareOp op) r) (ha:ZE X a ta) (hb:ZE X b tb) (hm:behindInMarks op b=false):ZT X (.Compare a [op] [b] pos) (tTest (tOp r ta tb)):=⟨pt_cmpR ho ha.out hb.out hm⟩
theorem zt_val {t:TE} (h:ZE X e t) (he:∀ whole,isTrue e X.env whole=(do let v <- whole;standAt e.pos;holding [v] (truthy v)):=by intro _;rfl):ZT X e (tB t):=⟨pt_val h.out he⟩
theorem zt_not {tA:TT} (ha:ZT X a tA):ZT X (.UnaryOp .Not a pos) (tNot tA):=⟨pt_not ha.out⟩
theorem ZW.pt {t:TT} (h:ZW X e t):ZT X e t:=⟨h.out.pt⟩
theorem zw_and1 {tA:TT} (ha:ZT X a tA):ZW X (.BoolOp .And [a] pos) tA:=⟨pw_and1 ha.out⟩
theorem zw_or1 {tA:TT} (ha:ZT X a tA):ZW X (.BoolOp .Or [a] pos) tA:=⟨pw_or1 ha.out⟩
theorem zw_and {tA tB':TT} (ha:ZT X a tA) (hb:ZW X (.BoolOp .And (b :: es) pos) tB'):ZW X (.BoolOp .And (a :: b :: es) pos) (tAnd tA tB'):=⟨pw_and ha.out hb.out⟩
theorem zw_or {tA tB':TT} (ha:ZT X a tA) (hb:ZW X (.BoolOp .Or (b :: es) pos) tB'):ZW X (.BoolOp .Or (a :: b :: es) pos) (tOr tA tB'):=⟨pw_or ha.out hb.out⟩
theorem ze_one {op} (h:ZE X a ta):ZE X (.BoolOp op [a] pos) ta:=⟨pe_one h.out⟩
theorem ze_and (ha:ZE X a ta) (hb:ZE X (.BoolOp .And (b :: es) pos) tb):ZE X (.BoolOp .And (a :: b :: es) pos) (tAndV ta tb):=⟨pe_and ha.out hb.out⟩
theorem ze_ix {r:R2} (hr:IxR X r) (ha:ZE X a ta) (hb:ZE X b tb) (hs:PlainIx b):ZE X (.Subscript a b pos) (tOp r ta tb):=⟨pe_ix hr ha.out hb.out hs⟩
theorem ze_slice {lo hi:Option Expr} {tl th:TO} {r:V->Option Int->Option Int->Hp->VK->Prop} (hr:SlR X r) (he:ZE X e te) (hl:ZO X lo tl) (hu:ZO X hi th):ZE X (.Subscript e (.Slice lo hi none p2) pos) (tSl r te tl th):=⟨pe_slice hr he.out hl.out hu.out⟩
theorem zo_none:ZO X none tNoPart:=⟨po_none⟩
theorem zo_some (h:ZE X e te):ZO X (some e) (tPart te):=⟨po_some h.out⟩
theorem ze_lst (h:ZA X es t):ZE X (.List es pos) (tLst t):=⟨pe_lst h.out⟩
theorem ze_tup {x1} (h:ZA X es t):ZE X (.Tuple es x1 pos) (tTup t):=⟨pe_tup h.out⟩
theorem ze_call {CX:CXT} {k:Nat} {f:Addr} {fd:FuncData} {ps:List Str} {sp:Sp} {ds:List Value} {dvs:List V} {E:XK} (F:FnOk X.prog X.w X.K X.mg X.base CX k f fd ps sp) (hr:Room k X.A) (hg:Gl X x) (hm:X.mg x=some (.ref f)) (hk:PySem.W.keepIn X.K (.ref f)=true) (hb:Binds X.K fd ps ds) (hd:Vals dvs ds) (hx:Passes CX X E)
    (ha:ZA X (e :: es) t) (hdb:(x == ("__debug__" : Str))=false:=by decide) (he:starEach (e :: es) X.env=(false,eval e X.env) :: starEach es X.env:=by rfl) (hpl:(backTo pos (starEach es X.env)).any (·.1)=false:=by rfl) :
    ZE X (.Call (.Name x p) (e :: es) [] pos) (tCall sp dvs E t):=⟨pe_call F hr hg hm hk hb hd hx ha.out hdb he hpl⟩
theorem ze_callB {id:String} {r:List V->Hp->VK->Prop} (hc:CallR X (.builtin id) r) (hg:Gl X x) (hm:X.mg x=none) (hv:bootBuiltins x=some (.builtin id)) (ha:ZA X (e :: es) t) (hn:x ≠ "__name__" := by decide) (hdb:(x == ("__debug__" : Str))=false:=by decide)
    (he:starEach (e :: es) X.env=(false,eval e X.env) :: starEach es X.env:=by rfl) (hpl:(backTo pos (starEach es X.env)).any (·.1)=false:=by rfl):ZE X (.Call (.Name x p) (e :: es) [] pos) (tCB r t):=⟨pe_callB hc hg hm hv ha.out hn hdb he hpl⟩
theorem ze_callTy {T:String} {r:List V->Hp->VK->Prop} (hc:CallR X (.type T) r) (hg:Gl X x) (hm:X.mg x=none) (hv:bootBuiltins x=some (.type T)) (ha:ZA X (e :: es) t) (hn:x ≠ "__name__" := by decide) (hdb:(x == ("__debug__" : Str))=false:=by decide)
    (he:starEach (e :: es) X.env=(false,eval e X.env) :: starEach es X.env:=by rfl) (hpl:(backTo pos (starEach es X.env)).any (·.1)=false:=by rfl):ZE X (.Call (.Name x p) (e :: es) [] pos) (tCB r t):=⟨pe_callTy hc hg hm hv ha.out hn hdb he hpl⟩
theorem za_nil:ZA X [] tNil:=⟨pa_nil⟩
theorem za_cons (ha:ZE X e te) (hr:ZA X es t) (hs:starEach (e :: es) X.env=(false,eval e X.env) :: starEach es X.env:=by rfl):ZA X (e :: es) (tCons te t):=⟨pa_cons ha.out hr.out hs⟩
theorem za_i {i:Int} {j:Nat} (hr:ZA X es t):ZA X (.Constant (.int i) j p :: es) (tCons (tC (.int i)) t):=⟨pa_i hr.out⟩
theorem za_n (ha:ZE X (.Name x p) te) (hr:ZA X es t):ZA X (.Name x p :: es) (tCons te t):=⟨pa_n ha.out hr.out⟩
theorem za_b {op:Operator} (ha:ZE X (.BinOp a op b p) te) (hr:ZA X es t):ZA X (.BinOp a op b p :: es) (tCons te t):=⟨pa_b ha.out hr.out⟩
theorem za_u {op:UnaryOp} (ha:ZE X (.UnaryOp op a p) te) (hr:ZA X es t):ZA X (.UnaryOp op a p :: es) (tCons te t):=⟨pa_u ha.out hr.out⟩
theorem za_s (ha:ZE X (.Subscript a b p) te) (hr:ZA X es t):ZA X (.Subscript a b p :: es) (tCons te t):=⟨pa_s ha.out hr.out⟩
theorem za_c {f:Expr} {l:List Expr} {k:List Keyword} (ha:ZE X (.Call f l k p) te) (hr:ZA X es t):ZA X (.Call f l k p :: es) (tCons te t):=⟨pa_c ha.out hr.out⟩
theorem za_t {l:List Expr} {k:Nat} (ha:ZE X (.Tuple l k p) te) (hr:ZA X es t):ZA X (.Tuple l k p :: es) (tCons te t):=⟨pa_t ha.out hr.out⟩
theorem za_l {l:List Expr} (ha:ZE X (.List l p) te) (hr:ZA X es t):ZA X (.List l p :: es) (tCons te t):=⟨pa_l ha.out hr.out⟩
theorem zg_name {i:Nat} (hN:X.N.Nodup) (hi:X.N[i]?=some x) (hx:Loc X.env.scope x) (hf:X.fn x=true\/X.env.scope.names.lookup x=some .local:=by first | exact .inl rfl | exact .inr rfl | assumption):ZG X (.Name x pos) (gName i):=⟨pg_name hN hi hx hf⟩
theorem zg_sub {o i:Expr} {to ti:TE} {t:TSet} (ho:ZE X o to) (hi:ZE X i ti) (hs:PSet X t) (ha:∀ v,assign (.Subscript o i pos) X.env v=(do
      let ov <- holding [v] (eval o X.env)
      let iv <- holding [v,ov] (eval i X.env)
      standAt pos
      holding [v,ov,iv] (setItem ov iv v)
      release [v,ov,iv] []):=by intro _;rfl):ZG X (.Subscript o i pos) (gSub to ti t):=⟨pg_sub ho.out hi.out hs ha⟩
theorem zi_list (hl:ZE X e te):ZI X tg e (iList X.K te):=⟨pi_list hl.out⟩
theorem zi_tup (hl:ZE X e te):ZI X tg e (iTup X.K te):=⟨pi_tup hl.out⟩
theorem zi_range1 {ta:TA} (hg:Gl X "range") (hm:X.mg "range" = none) (ha:ZA X [a] ta) (hs:starEach [a] X.env=[(false,eval a X.env)]:=by rfl):ZI X tg (.Call (.Name "range" p) [a] [] pos) (iRng1 ta):=⟨pi_range1 hg hm ha.out hs⟩
theorem zts_nil:ZTs X [] tAll:=⟨pts_nil⟩
theorem zts_one {t:TT} (h:ZT X c t):ZTs X [c] t:=⟨pts_one h.out⟩
theorem ze_comp {own:List Str} {scope sc:Scope} {iter elt:Expr} {ifs:List Expr} {wi:TI} {g:TG} {tt:TT} {N0 P0:List Str} (S0:FnScope N0 P0 sc) (hc:X.calm=true) (S1:CompScope own N0 sc scope) (hi:ZI X tg iter wi)
    (hg:∀ C fp s H,(maskN own N0).Nodup->ZG (cxComp X own scope C fp s H) tg g) (ht:∀ C fp s H,ZTs (cxComp X own scope C fp s H) ifs tt) (he:∀ C fp s H,ZE (cxComp X own scope C fp s H) elt te)
    (hs:∀ x,foldedSetIterable iter X.env x=pure x:=by intro _;rfl) (hN0:X.N=N0:=by rfl) (hsc:X.env.scope=sc:=by rfl):ZE X (.ListComp elt [⟨tg,iter,ifs,0⟩] scope pos) (tCompB own.length wi g tt te) :=
  ⟨pe_comp S0 hc S1 hi.out (fun C fp s H n=>(hg C fp s H n).out) (fun C fp s H=>(ht C fp s H).out) (fun C fp s H=>(he C fp s H).out) hs hN0 hsc⟩
theorem zs_comp {own:List Str} {scope sc:Scope} {iter elt:Expr} {ifs:List Expr} {wi:TI} {g:TG} {tt:TT} {i:Nat} {pos' spos:Pos} {N0 P0:List Str} (S0:FnScope N0 P0 sc) (hc:X.calm=true) (S1:CompScope own N0 sc scope) (hi:ZI X tg iter wi)
    (hg:∀ C fp s H,(maskN own N0).Nodup->ZG (cxComp X own scope C fp s H) tg g) (ht:∀ C fp s H,ZTs (cxComp X own scope C fp s H) ifs tt) (he:∀ C fp s H,ZE (cxComp X own scope C fp s H) elt te)
    (hN:X.N.Nodup) (hiN:X.N[i]?=some x) (hx:Loc X.env.scope x)
    (hsw:swapsWith (.ListComp elt [⟨tg,iter,ifs,0⟩] scope pos) (some (.Name x pos')) spos.line X.env=pure true)
    (hs:∀ x,foldedSetIterable iter X.env x=pure x:=by intro _;rfl) (hf:X.fn x=true\/X.env.scope.names.lookup x=some .local:=by first | exact .inl rfl | exact .inr rfl | assumption) (hN0:X.N=N0:=by rfl) (hsc:X.env.scope=sc:=by rfl) :
    ZS X (.Assign [.Name x pos'] (.ListComp elt [⟨tg,iter,ifs,0⟩] scope pos) spos) (tAsg (tCompB own.length wi g tt te) (gName i)) :=
  ⟨ps_comp S0 hc S1 hi.out (fun C fp s H n=>(hg C fp s H n).out) (fun C fp s H=>(ht C fp s H).out) (fun C fp s H=>(he C fp s H).out) hN hiN hx hsw hs hf hN0 hsc⟩
theorem zi_zip {ta:TA} {pt:Pos} {elts:List Expr} {x1} (hg:Gl X "zip") (hm:X.mg "zip" = none) (ha:ZA X [a,b] ta) (hs:starEach [a,b] X.env=[(false,eval a X.env),(false,eval b X.env)]:=by rfl) (hs2:starEach [b] X.env=[(false,eval b X.env)]:=by rfl) :
    ZI X (.Tuple elts x1 pt) (.Call (.Name "zip" p) [a,b] [] pos) (iZip X.K ta):=⟨pi_zip hg hm ha.out hs hs2⟩
theorem zg_pair {own:List Str} {scope:Scope} {C:Addr} {fp:List Addr} {s:Shared} {H:Hp} {x y:Str} {px py:Pos} {k:Nat} (hc:X.calm=true) (nd:(cxComp X own scope C fp s H).N.Nodup) (h0:(cxComp X own scope C fp s H).N[0]?=some x) (h1:(cxComp X own scope C fp s H).N[1]?=some y)
    (l0:(cxComp X own scope C fp s H).env.scope.names.lookup x=some .local) (l1:(cxComp X own scope C fp s H).env.scope.names.lookup y=some .local):ZG (cxComp X own scope C fp s H) (.Tuple [.Name x px,.Name y py] k pos) (gPair X.K):=⟨pg_pair hc nd h0 h1 l0 l1⟩
end
section
variable {P:Program} {w:World} {K:PySem.W.Frag} {mg:Str->Option Value} {base:Heap}
theorem Fun.okZ {x qual:Str} {st:Stmt} {f:Addr} {fd:FuncData} {N ps:List Str} {k:Nat} {sp:Sp} (F:Fun K x qual st f fd) (S:FnScope N ps (defScope st)) (len:∀ vs H Q E,sp vs H Q E->vs.length=ps.length)
    (hbody:∀ (cdv:Value) (A:Around) (outer:List Env) (s:Shared) (H:Hp) (vs:List V) (Q:VK) (E:XK),Room k (A.deeper (envOfC qual (defScope st) s.heap.objs.size f cdv))->sp vs H Q E ->
      ∃ t,ZSs (cxOf CX0 P w K mg base N qual (defScope st) f cdv A outer s H E).nox (defBody st) t/\t { nx:=fun _ H'=>Q .non H',rt:=Q } (start N vs) H):FnOk P w K mg base CX0 (k + 1) f fd ps sp :=
  F.ok S len fun cdv A outer s H vs Q E hr h=>let ⟨t,b,q⟩:=hbody cdv A outer s H vs Q E hr h;⟨t,b.out,q⟩
end
end L2
end
section
namespace L2
open PySem PySem.Spec PyProof.Rows
open PySem.W (Dat)
section
theorem get3 {α:Type} {x1 x2 x3 x:α} {i:Nat} (h:[x1,x2,x3][i]?=some x):(i=0/\x1=x)\/(i=1/\x2=x)\/(i=2/\x3=x):=by
  match i,h with
  | 0,h=>exact .inl ⟨rfl,by simpa using h⟩
  | 1,h=>exact .inr (.inl ⟨rfl,by simpa using h⟩)
  | 2,h=>exact .inr (.inr ⟨rfl,by simpa using h⟩)
end
section
end
section
end
section
end
end L2
end
section
namespace Num
noncomputable def gcdN (ns:List Int):Nat:=ns.foldl (fun d n=>Nat.gcd d n.natAbs) 0
theorem gcdN_snoc (ns:List Int) (n:Int):gcdN (ns ++ [n])=Nat.gcd (gcdN ns) n.natAbs:=by
  unfold gcdN;rw [List.foldl_append];rfl
theorem foldl_gcd (ns:List Int):∀ d:Nat,ns.foldl (fun d n=>Nat.gcd d n.natAbs) d=Nat.gcd d (gcdN ns):=by
  induction ns with
  | nil=>intro d;simp [gcdN]
  | cons n ns ih =>
    intro d
    unfold gcdN
    rw [List.foldl_cons,List.foldl_cons,ih,ih,Nat.gcd_assoc,Nat.gcd_zero_left]
theorem gcdN_cons (n:Int) (ns:List Int):gcdN (n :: ns)=Nat.gcd n.natAbs (gcdN ns):=by
  show List.foldl _ _ _=_
  rw [List.foldl_cons,foldl_gcd,Nat.gcd_zero_left]
theorem gcdN_dvd:∀ {ns:List Int} {n:Int},n ∈ ns->(gcdN ns:Int) ∣ n
  | m :: ns,n,h=>by
    rw [gcdN_cons]
    rcases List.mem_cons.mp h with rfl | h
    . exact Int.ofNat_dvd_left.mpr (Nat.gcd_dvd_left _ _)
    . exact Int.dvd_trans (Int.natCast_dvd_natCast.mpr (Nat.gcd_dvd_right _ _)) (gcdN_dvd h)
theorem gcdN_zero:∀ {ns:List Int},gcdN ns=0->∀ n ∈ ns,n=0
  | m :: ns,h,n,hn=>by
    rw [gcdN_cons] at h
    obtain ⟨h1,h2⟩:=Nat.gcd_eq_zero_iff.mp h
    rcases List.mem_cons.mp hn with rfl | hn
    . omega
    . exact gcdN_zero h2 n hn
theorem gcdN_pos {ns:List Int} (h:∃ n ∈ ns,n ≠ 0):0 < gcdN ns:=by
  obtain ⟨n,hn,h0⟩:=h
  rcases Nat.eq_zero_or_pos (gcdN ns) with z | z
  . exact absurd (gcdN_zero z n hn) h0
  . exact z
theorem gcdN_mul (c:Int) (ns:List Int):gcdN (ns.map (c * ·))=c.natAbs * gcdN ns:=by
  induction ns with
  | nil=>simp [gcdN]
  | cons n ns ih=>rw [List.map_cons,gcdN_cons,gcdN_cons,ih,Int.natAbs_mul,Nat.gcd_mul_left]
theorem gcdN_le {ns:List Int} {n:Int} (h:n ∈ ns) (h0:n ≠ 0):gcdN ns<=n.natAbs:=Nat.le_of_dvd (by omega) (Int.ofNat_dvd_left.mp (gcdN_dvd h))
noncomputable def fst0:List Int->Int
  | []=>0
  | x :: r=>if x=0 then fst0 r else x
theorem fst0_mul (c:Int):∀ ns:List Int,fst0 (ns.map (c * ·))=c * fst0 ns
  | []=>by simp [fst0]
  | x :: r => by
    rw [List.map_cons,fst0,fst0,fst0_mul c r]
    by_cases hc:c=0
    . subst hc;simp
    . by_cases hx:x=0
      . simp [hx]
      . rw [if_neg (Int.mul_ne_zero hc hx),if_neg hx]
theorem fst0_ne:∀ {ns:List Int},(∃ n ∈ ns,n ≠ 0)->fst0 ns ≠ 0
  | x :: r, ⟨n, hn, h0⟩ => by
    rw [fst0]
    split
    . rename_i hx
      rcases List.mem_cons.mp hn with rfl | hn
      . exact absurd hx h0
      . exact fst0_ne ⟨n,hn,h0⟩
    . assumption
noncomputable def unit (ns:List Int):Int:=if fst0 ns < 0 then -(gcdN ns:Int) else gcdN ns
noncomputable def pl (ns:List Int):List Int:=ns.map fun n=>n / unit ns
theorem unit_ne {ns:List Int} (h:∃ n ∈ ns,n ≠ 0):unit ns ≠ 0:=by
  have:=gcdN_pos h
  unfold unit;split <;> omega
theorem unit_dvd {ns:List Int} {n:Int} (h:n ∈ ns):unit ns ∣ n:=by
  unfold unit;split
  . exact Int.neg_dvd.mpr (gcdN_dvd h)
  . exact gcdN_dvd h
theorem pl_mul {ns:List Int}:(pl ns).map (unit ns * ·)=ns:=by
  unfold pl
  rw [List.map_map]
  conv=>rhs;rw [<- List.map_id ns]
  refine List.map_congr_left fun n hn=>?_
  show unit ns * (n / unit ns)=n
  exact Int.mul_ediv_cancel' (unit_dvd hn)
theorem unit_natAbs (ns:List Int):(unit ns).natAbs=gcdN ns:=by
  unfold unit;split <;> omega
theorem gcd_pl {ns:List Int} (h:∃ n ∈ ns,n ≠ 0):gcdN (pl ns)=1:=by
  have e:=gcdN_mul (unit ns) (pl ns)
  rw [pl_mul,unit_natAbs] at e
  have p:=gcdN_pos h
  exact Nat.eq_of_mul_eq_mul_left p (by omega)
theorem fst_pl {ns:List Int} (h:∃ n ∈ ns,n ≠ 0):0 < fst0 (pl ns):=by
  have e:=fst0_mul (unit ns) (pl ns)
  rw [pl_mul] at e
  have p:=gcdN_pos h
  have f:=fst0_ne h
  by_cases hn:fst0 ns < 0
  . have u:unit ns = -(gcdN ns:Int):=if_pos hn
    rw [u] at e
    refine Int.not_le.mp fun z=>?_
    have:0 <= -(gcdN ns:Int) * fst0 (pl ns):=Int.mul_nonneg_of_nonpos_of_nonpos (by omega) z
    omega
  . have u:unit ns=(gcdN ns:Int):=if_neg hn
    rw [u] at e
    refine Int.not_le.mp fun z=>?_
    have:(gcdN ns:Int) * fst0 (pl ns)<=0:=Int.mul_nonpos_of_nonneg_of_nonpos (by omega) z
    omega
theorem nz_pl {ns:List Int} (h:∃ n ∈ ns,n ≠ 0):∃ n ∈ pl ns,n ≠ 0:=by
  obtain ⟨n,hn,h0⟩:=h
  refine ⟨n / unit ns,List.mem_map.mpr ⟨n,hn,rfl⟩,fun z=>h0 ?_⟩
  have:=Int.mul_ediv_cancel' (unit_dvd hn)
  rw [z] at this;omega
theorem pl_of_mul {ms:List Int} {c:Int} (hc:c ≠ 0) (hg:gcdN ms=1) (hf:0 < fst0 ms):pl (ms.map (c * ·))=ms:=by
  have u:unit (ms.map (c * ·))=c:=by
    unfold unit
    rw [gcdN_mul,hg,fst0_mul]
    by_cases h:c < 0
    . rw [if_pos (Int.mul_neg_of_neg_of_pos h hf)];omega
    . rw [if_neg (by have:=Int.mul_pos (show 0 < c by omega) hf;omega)];omega
  unfold pl
  rw [u,List.map_map]
  conv=>rhs;rw [<- List.map_id ms]
  refine List.map_congr_left fun n hn=>?_
  show c * n / c=n
  exact Int.mul_ediv_cancel_left n hc
theorem pl_scale {ns:List Int} {c:Int} (hc:c ≠ 0) (h:∃ n ∈ ns,n ≠ 0):pl (ns.map (c * ·))=pl ns:=by
  have e:ns.map (c * ·)=(pl ns).map ((c * unit ns) * ·):=by
    conv=>lhs;rw [<- pl_mul (ns:=ns)]
    rw [List.map_map]
    refine List.map_congr_left fun n _=>?_
    show c * (unit ns * n)=c * unit ns * n
    rw [Int.mul_assoc]
  rw [e]
  exact pl_of_mul (Int.mul_ne_zero hc (unit_ne h)) (gcd_pl h) (fst_pl h)
theorem pl_length (ns:List Int):(pl ns).length=ns.length:=List.length_map _
theorem pl_le {ns:List Int} (h:∃ n ∈ ns,n ≠ 0) {m:Int} (hm:m ∈ pl ns):∃ n ∈ ns,m.natAbs<=n.natAbs:=by
  obtain ⟨n,hn,rfl⟩:=List.mem_map.mp hm
  refine ⟨n,hn,?_⟩
  have e:=Int.mul_ediv_cancel' (unit_dvd hn)
  have e2:=congrArg Int.natAbs e
  rw [Int.natAbs_mul,unit_natAbs] at e2
  have p:=gcdN_pos h
  calc (n / unit ns).natAbs=1 * (n / unit ns).natAbs:=by omega
    _<=gcdN ns * (n / unit ns).natAbs:=Nat.mul_le_mul_right _ p
    _=n.natAbs:=e2
end Num
end
section
namespace Num
noncomputable def qm:List Int->List Int->List Int
  | [a,b,c,d],[e,f,g,h]=>[a * e - b * f - c * g - d * h,a * f + b * e + c * h - d * g,a * g - b * h + c * e + d * f,a * h + b * g - c * f + d * e]
  | _,_=>[]
noncomputable def cj:List Int->List Int
  | [a,b,c,d]=>[a, -b, -c, -d]
  | _=>[]
noncomputable def nrm:List Int->Int
  | [a,b,c,d]=>a * a + b * b + c * c + d * d
  | _=>0
theorem four_of {ns:List Int} (h:ns.length=4):∃ a b c d,ns=[a,b,c,d]:=by
  match ns,h with
  | [a,b,c,d],_=>exact ⟨a,b,c,d,rfl⟩
theorem euler (a b c d e f g h:Int):(a * e - b * f - c * g - d * h) * (a * e - b * f - c * g - d * h) + (a * f + b * e + c * h - d * g) * (a * f + b * e + c * h - d * g) + (a * g - b * h + c * e + d * f) * (a * g - b * h + c * e + d * f) + (a * h + b * g - c * f + d * e) * (a * h + b * g - c * f + d * e)=(a * a + b * b + c * c + d * d) * (e * e + f * f + g * g + h * h):=by
  grind
theorem qm_len {ns ms:List Int} (h:ns.length=4) (h2:ms.length=4):(qm ns ms).length=4:=by
  obtain ⟨a,b,c,d,rfl⟩:=four_of h
  obtain ⟨e,f,g,i,rfl⟩:=four_of h2
  rfl
theorem nrm_qm {ns ms:List Int} (h:ns.length=4) (h2:ms.length=4):nrm (qm ns ms)=nrm ns * nrm ms:=by
  obtain ⟨a,b,c,d,rfl⟩:=four_of h
  obtain ⟨e,f,g,i,rfl⟩:=four_of h2
  exact euler a b c d e f g i
theorem sq_nn (a:Int):0<=a * a:=by
  rcases Int.le_total 0 a with h | h
  . exact Int.mul_nonneg h h
  . exact Int.mul_nonneg_of_nonpos_of_nonpos h h
theorem sq_pos {a:Int} (h:a ≠ 0):0 < a * a:=by
  have:=sq_nn a
  have:a * a ≠ 0:=Int.mul_ne_zero h h
  omega
theorem nrm_pos {ns:List Int} (h:ns.length=4) (hz:∃ n ∈ ns,n ≠ 0):0 < nrm ns:=by
  obtain ⟨a,b,c,d,rfl⟩:=four_of h
  obtain ⟨n,hn,h0⟩:=hz
  have ha:=sq_nn a
  have hb:=sq_nn b
  have hc:=sq_nn c
  have hd:=sq_nn d
  have hp:=sq_pos h0
  show 0 < a * a + b * b + c * c + d * d
  simp only [List.mem_cons,List.mem_nil_iff,or_false] at hn
  rcases hn with rfl | rfl | rfl | rfl <;> omega
theorem nz_nrm {ns : List Int} (h : ns.length = 4) (hz : 0 < nrm ns) : ∃ n ∈ ns, n ≠ 0 := by
  obtain ⟨a,b,c,d,rfl⟩:=four_of h
  by_cases ha:a=0
  . by_cases hb:b=0
    . by_cases hc:c=0
      . by_cases hd:d=0
        . subst ha hb hc hd;exact absurd hz (by decide)
        . exact ⟨d,by simp,hd⟩
      . exact ⟨c,by simp,hc⟩
    . exact ⟨b,by simp,hb⟩
  . exact ⟨a,by simp,ha⟩
theorem nz_qm {ns ms:List Int} (h:ns.length=4) (h2:ms.length=4) (hz:∃ n ∈ ns,n ≠ 0) (hz2:∃ n ∈ ms,n ≠ 0):∃ n ∈ qm ns ms,n ≠ 0:=by
  refine nz_nrm (qm_len h h2) ?_
  rw [nrm_qm h h2]
  exact Int.mul_pos (nrm_pos h hz) (nrm_pos h2 hz2)
theorem qm_mulL {ns ms:List Int} {k:Int} (h:ns.length=4) (h2:ms.length=4):qm (ns.map (k * ·)) ms=(qm ns ms).map (k * ·):=by
  obtain ⟨a,b,c,d,rfl⟩:=four_of h
  obtain ⟨e,f,g,i,rfl⟩:=four_of h2
  simp only [List.map_cons,List.map_nil,qm]
  congr 1
  . grind
  congr 1
  . grind
  congr 1
  . grind
  congr 1
  . grind
theorem qm_mulR {ns ms:List Int} {k:Int} (h:ns.length=4) (h2:ms.length=4):qm ns (ms.map (k * ·))=(qm ns ms).map (k * ·):=by
  obtain ⟨a,b,c,d,rfl⟩:=four_of h
  obtain ⟨e,f,g,i,rfl⟩:=four_of h2
  simp only [List.map_cons,List.map_nil,qm]
  congr 1
  . grind
  congr 1
  . grind
  congr 1
  . grind
  congr 1
  . grind
theorem pl_qmL {ns ms:List Int} (h:ns.length=4) (h2:ms.length=4) (hz:∃ n ∈ ns,n ≠ 0) (hz2:∃ n ∈ ms,n ≠ 0):pl (qm (pl ns) ms)=pl (qm ns ms):=by
  have hp:(pl ns).length=4:=by rw [pl_length];exact h
  have e:qm ns ms=(qm (pl ns) ms).map (unit ns * ·):=by
    rw [<- qm_mulL hp h2,pl_mul]
  rw [e,pl_scale (unit_ne hz) (nz_qm hp h2 (nz_pl hz) hz2)]
theorem pl_qmR {ns ms:List Int} (h:ns.length=4) (h2:ms.length=4) (hz:∃ n ∈ ns,n ≠ 0) (hz2:∃ n ∈ ms,n ≠ 0):pl (qm ns (pl ms))=pl (qm ns ms):=by
  have hp:(pl ms).length=4:=by rw [pl_length];exact h2
  have e:qm ns ms=(qm ns (pl ms)).map (unit ms * ·):=by
    rw [<- qm_mulR h hp,pl_mul]
  rw [e,pl_scale (unit_ne hz2) (nz_qm h hp hz (nz_pl hz2))]
noncomputable def Bd (b:Nat) (ns:List Int):Prop:=∀ n ∈ ns,n.natAbs<=b
theorem bd_qm {ns ms:List Int} {x y:Nat} (h:ns.length=4) (h2:ms.length=4) (hx:Bd x ns) (hy:Bd y ms):Bd (4 * (x * y)) (qm ns ms):=by
  obtain ⟨a,b,c,d,rfl⟩:=four_of h
  obtain ⟨e,f,g,i,rfl⟩:=four_of h2
  have q:∀ {p r:Int},p ∈ [a,b,c,d]->r ∈ [e,f,g,i]->(p * r).natAbs<=x * y:=fun {p r} hp hr=>by
    rw [Int.natAbs_mul];exact Nat.mul_le_mul (hx p hp) (hy r hr)
  have ad:∀ {u v:Int} {m n:Nat},u.natAbs<=m->v.natAbs<=n->(u + v).natAbs<=m + n:=fun hu hv=>Nat.le_trans (Int.natAbs_add_le _ _) (Nat.add_le_add hu hv)
  have sb:∀ {u v:Int} {m n:Nat},u.natAbs<=m->v.natAbs<=n->(u - v).natAbs<=m + n:=fun hu hv=>Nat.le_trans (Int.natAbs_sub_le _ _) (Nat.add_le_add hu hv)
  have e4:4 * (x * y)=x * y + x * y + x * y + x * y:=by
    rw [show 4=1 + 1 + 1 + 1 from rfl,Nat.add_mul,Nat.add_mul,Nat.add_mul,Nat.one_mul]
  have m1:a ∈ [a,b,c,d]:=.head _
  have m2:b ∈ [a,b,c,d]:=.tail _ (.head _)
  have m3:c ∈ [a,b,c,d]:=.tail _ (.tail _ (.head _))
  have m4:d ∈ [a,b,c,d]:=.tail _ (.tail _ (.tail _ (.head _)))
  have k1:e ∈ [e,f,g,i]:=.head _
  have k2:f ∈ [e,f,g,i]:=.tail _ (.head _)
  have k3:g ∈ [e,f,g,i]:=.tail _ (.tail _ (.head _))
  have k4:i ∈ [e,f,g,i]:=.tail _ (.tail _ (.tail _ (.head _)))
  intro n hn
  rw [e4]
  simp only [qm,List.mem_cons,List.mem_nil_iff,or_false] at hn
  rcases hn with rfl | rfl | rfl | rfl
  . exact sb (sb (sb (q m1 k1) (q m2 k2)) (q m3 k3)) (q m4 k4)
  . exact sb (ad (ad (q m1 k2) (q m2 k1)) (q m3 k4)) (q m4 k3)
  . exact ad (ad (sb (q m1 k3) (q m2 k4)) (q m3 k1)) (q m4 k2)
  . exact ad (sb (ad (q m1 k4) (q m2 k3)) (q m3 k2)) (q m4 k1)
theorem bd_pl {ns:List Int} {x:Nat} (hz:∃ n ∈ ns,n ≠ 0) (hx:Bd x ns):Bd x (pl ns):=fun m hm=>let ⟨n,hn,hle⟩:=pl_le hz hm;Nat.le_trans hle (hx n hn)
end Num
end
section
namespace K0
open PySem L2 Num
section
variable {K:PySem.W.Frag}
noncomputable def spCD (K:PySem.W.Frag):Sp:=fun vs H Q _=>∃ (a:Addr) (ns:List Int),vs=[.ref a]/\SqT K H a (ns.map V.int)/\Q (.int (gcdN ns)) H
theorem gcd_step {a b:Int} (ha:0<=a) (hb:0 < b):Nat.gcd b.toNat (a % b).toNat=Nat.gcd a.toNat b.toNat:=by
  have h1:(a % b).toNat=a.toNat % b.toNat:=by
    have e:=Int.toNat_emod ha (Int.le_of_lt hb)
    exact e
  rw [h1,Nat.gcd_comm, <- Nat.gcd_rec,Nat.gcd_comm]
noncomputable def Sm (ns:List Int):Prop:=∀ n ∈ ns,n.natAbs < 2 ^ 9000
noncomputable def spT (K:PySem.W.Frag) (pre:List Int->Prop) (fn:List Int->List Int):Sp:=fun vs H Q _=>∃ (a:Addr) (ns:List Int),vs=[.ref a]/\SqT K H a (ns.map V.int)/\ns.length<=1000/\pre ns /\
  ∀ (r:Addr) (H':Hp),Same H H'->H' r=some (.tup ((fn ns).map V.int))->Q (.ref r) H'
noncomputable def red (ns:List Int):List Int:=ns.map fun n=>n / (gcdN ns:Int)
theorem gcd_small {ns:List Int} (h:∃ n ∈ ns,n ≠ 0) (hs:Sm ns):((gcdN ns:Nat):Int).natAbs.log2 < 9000:=by
  obtain ⟨n,hn,h0⟩:=h
  have h1:=gcdN_le hn h0
  have h2:=hs n hn
  have h3:((gcdN ns:Nat):Int).natAbs < 2 ^ 9000:=by
    rw [Int.natAbs_natCast]
    exact Nat.lt_of_le_of_lt h1 h2
  exact (Nat.log2_lt (by have:=gcdN_pos ⟨n,hn,h0⟩;omega)).mpr h3
noncomputable def sop (ns ms:List Int):Int:=(List.zipWith (· * ·) ns ms).sum
theorem mulOk_of {i j : Int} (hi : i.natAbs < 2 ^ 100000) (hj : j.natAbs < 2 ^ 100000) : IntMulOk i j := by
  have b:∀ k:Int,k.natAbs < 2 ^ 100000->Builtin.Int.intBits k<=2 ^ 20:=fun k hk=>by
    unfold Builtin.Int.intBits
    split
    . exact Nat.zero_le _
    . rename_i h0
      have hne:k.natAbs ≠ 0:=by
        intro z
        apply h0
        have:k=0:=by omega
        simp [this]
      have:=(Nat.log2_lt hne).mpr hk
      omega
  exact IntMulOk.of_bits (b i hi) (b j hj)
theorem pow_lift {n:Nat} (h:n < 2 ^ 9000):n < 2 ^ 100000:=Nat.lt_of_lt_of_le h (Nat.pow_le_pow_right (by decide) (by decide))
noncomputable def spSop (K:PySem.W.Frag):Sp:=fun vs H Q _=>∃ (a b:Addr) (ns ms:List Int),vs=[.ref a,.ref b]/\SqT K H a (ns.map V.int)/\SqT K H b (ms.map V.int)/\ns.length<=1000/\ms.length=ns.length/\Sm ns/\Sm ms /\
  ∀ (H':Hp),Same H H'->Q (.int (sop ns ms)) H'
theorem lex_fst0:∀ {l:List Int} {n:Nat},l.length=n->HT.lexLt l (List.replicate n 0)=decide (fst0 l < 0)
  | [],n,h=>by subst h;rfl
  | x :: r,n,h=>by
    subst h
    rw [List.length_cons,List.replicate_succ,HT.lexLt_cons,fst0,lex_fst0 rfl]
    by_cases hx:x=0
    . rw [if_pos hx,if_pos hx]
    . rw [if_neg hx,if_neg hx]
theorem red_mul (ns:List Int):(red ns).map ((gcdN ns:Int) * ·)=ns:=by
  unfold red
  rw [List.map_map]
  conv=>rhs;rw [<- List.map_id ns]
  refine List.map_congr_left fun n hn=>?_
  exact Int.mul_ediv_cancel' (gcdN_dvd hn)
theorem plain_eq {ns:List Int} (h:∃ n ∈ ns,n ≠ 0):(if fst0 (red ns) < 0 then (red ns).map (fun n => -n) else red ns)=pl ns:=by
  have e:=fst0_mul (gcdN ns) (red ns)
  rw [red_mul] at e
  have p:=gcdN_pos h
  by_cases hn:fst0 (red ns) < 0
  . rw [if_pos hn]
    have u:unit ns = -(gcdN ns:Int):=if_pos (by rw [e];exact Int.mul_neg_of_pos_of_neg (by omega) hn)
    unfold pl red
    rw [u,List.map_map]
    refine List.map_congr_left fun n _=>?_
    show -(n / (gcdN ns:Int))=n / -(gcdN ns:Int)
    rw [Int.ediv_neg]
  . rw [if_neg hn]
    have u:unit ns=(gcdN ns:Int):=if_neg (by rw [e];have:=Int.mul_nonneg (show (0:Int)<=gcdN ns by omega) (show 0<=fst0 (red ns) by omega);omega)
    unfold pl red
    rw [u]
noncomputable def PlainPre (ns:List Int):Prop:=ns.length=4/\(∃ n ∈ ns,n ≠ 0)/\Sm ns
noncomputable def spMixed:Sp:=fun vs H Q _=>∃ (c k:Int),vs=[.int c,.int k]/\Builtin.Int.intBits c<=2 ^ 20/\0<=k/\k<=64/\∀ d,0<=d->d < 2147483587->Q (.int d) H
noncomputable def Pu (H:Hp) (p:Addr):Prop:=∃ a b:Int,H p=some (.lst [.int a,.int b])
noncomputable def spDraw:Sp:=fun vs H Q _=>∃ (p:Addr) (m:Int),vs=[.ref p,.int m]/\Pu H p/\0 < m/\m < 2 ^ 200/\∀ (d:Int) (H':Hp),0<=d->d < m->SB p H H'->Pu H' p->Q (.int d) H'
noncomputable def spPurse (K:PySem.W.Frag):Sp:=fun vs H Q _=>∃ (a:Addr) (ns:List Int),vs=[.ref a]/\SqL K H a (ns.map V.int)/\ns.length<=63/\(∀ v ∈ ns,Builtin.Int.intBits v<=2 ^ 20)/\∀ (p:Addr) (H':Hp),H p=none->Same H H'->Pu H' p->Q (.ref p) H'
theorem cut63 {ns:List Int} (h:ns.length<=63):cutV (ns.map V.int) none (some 63)=ns.map V.int:=by
  have h2:HT.sIx (ns.map V.int).length (ns.map V.int).length (some 63)=(ns.map V.int).length:=by
    rw [List.length_map]
    unfold HT.sIx
    dsimp only
    rw [if_neg (by decide)]
    omega
  unfold cutV
  rw [h2]
  show List.take ((ns.map V.int).length - 0) (List.drop 0 (ns.map V.int))=_
  rw [List.drop_zero,Nat.sub_zero,List.take_length]
theorem at_draw {ms:List Int} {d:Int} (h0:0<=d) (h1:d < (ms.length:Int)):∃ m ∈ ms,atI (ms.map V.int) d=some (.int m):=by
  obtain ⟨j,rfl⟩:=Int.eq_ofNat_of_zero_le h0
  have hj:j < ms.length:=by omega
  refine ⟨ms[j],List.getElem_mem hj,?_⟩
  exact atI_nat (by rw [List.getElem?_map];simp [hj])
noncomputable def spNumber:Sp:=fun vs H Q _=>∃ (p:Addr),vs=[.ref p]/\Pu H p/\∀ (d:Int) (H':Hp),d.natAbs<=10 ^ 28->SB p H H'->Pu H' p->Q (.int d) H'
theorem Pu.ne {H:Hp} {p l:Addr} (h:Pu H p) (hl:H l=none):l ≠ p:=by
  obtain ⟨a,b,e⟩:=h
  intro z;subst z;rw [hl] at e;cases e
theorem Pu.same {H H':Hp} {p:Addr} (h:Pu H p) (s:Same H H'):Pu H' p:=by
  obtain ⟨a,b,e⟩:=h;exact ⟨a,b,s _ _ e⟩
noncomputable def spFour (K:PySem.W.Frag):Sp:=fun vs H Q _=>∃ (p:Addr),vs=[.ref p]/\Pu H p/\∀ (r:Addr) (ns:List Int) (H':Hp),ns.length=4->(∃ n ∈ ns,n ≠ 0)->(∀ n ∈ ns,n.natAbs<=12 * 10 ^ 28)->SB p H H'->Pu H' p->SqT K H' r (ns.map V.int)->Q (.ref r) H'
theorem Pu.off {H:Hp} {p D:Addr} {o:HO} (h:Pu H p) (n:D ≠ p):Pu (upd H D o) p:=by
  obtain ⟨a,b,e⟩:=h
  exact ⟨a,b,by rw [upd_ne (Ne.symm n)];exact e⟩
noncomputable def spLaw (K:PySem.W.Frag):Sp:=fun vs H Q _=>∃ (a:Addr) (ns:List Int),vs=[.ref a]/\SqL K H a (ns.map V.int)/\ns.length<=63/\(∀ v ∈ ns,Builtin.Int.intBits v<=2 ^ 20)/\∀ (H':Hp),Q (.bl true) H'
theorem sm_bd {ns:List Int} {b:Nat} (h:Bd b ns) (hb:b < 2 ^ 9000):Sm ns:=fun n hn=>Nat.lt_of_le_of_lt (h n hn) hb
theorem mulSm {ns ms:List Int} (h:Sm ns) (h2:Sm ms) {a b:Int} (ha:a ∈ ns) (hb:b ∈ ms):IntMulOk a b:=mulOk_of (pow_lift (h a ha)) (pow_lift (h2 b hb))
noncomputable def sp2 (K:PySem.W.Frag) (fn:List Int->List Int->List Int):Sp:=fun vs H Q _=>∃ (x y:Addr) (ns ms:List Int),vs=[.ref x,.ref y]/\SqT K H x (ns.map V.int)/\SqT K H y (ms.map V.int)/\ns.length=4/\ms.length=4/\Sm ns/\Sm ms /\
  ∀ (r:Addr) (H':Hp),Same H H'->H' r=some (.tup ((fn ns ms).map V.int))->Q (.ref r) H'
noncomputable def spThen (K:PySem.W.Frag):Sp:=fun vs H Q _=>∃ (x y:Addr) (ns ms:List Int),vs=[.ref x,.ref y]/\SqT K H x (ns.map V.int)/\SqT K H y (ms.map V.int)/\ns.length=4/\ms.length=4/\(∃ n ∈ ns,n ≠ 0)/\(∃ n ∈ ms,n ≠ 0)/\Bd (2 ^ 4000) ns/\Bd (2 ^ 4000) ms /\
  ∀ (r:Addr) (H':Hp),Same H H'->H' r=some (.tup ((pl (qm ms ns)).map V.int))->Q (.ref r) H'
theorem bd_mono {ns:List Int} {a b:Nat} (h:Bd a ns) (hab:a<=b):Bd b ns:=fun n hn=>Nat.le_trans (h n hn) hab
theorem two4000:(2:Nat) ^ 4000 < 2 ^ 9000:=Nat.pow_lt_pow_right (by decide) (by decide)
theorem two8002:4 * ((2:Nat) ^ 4000 * 2 ^ 4000) < 2 ^ 9000:=by
  have e:4 * ((2:Nat) ^ 4000 * 2 ^ 4000)=2 ^ 8002:=by
    rw [<- Nat.pow_add,show (4:Nat)=2 ^ 2 from rfl, <- Nat.pow_add]
  rw [e]
  exact Nat.pow_lt_pow_right (by decide) (by decide)
theorem sm4000 {ns:List Int} (h:Bd (2 ^ 4000) ns):Sm ns:=sm_bd h two4000
theorem at40 {a b c d:Int}:atI ([a,b,c,d].map V.int) 0=some (.int a):=rfl
theorem at41 {a b c d:Int}:atI ([a,b,c,d].map V.int) 1=some (.int b):=rfl
theorem at42 {a b c d:Int}:atI ([a,b,c,d].map V.int) 2=some (.int c):=rfl
theorem at43 {a b c d:Int}:atI ([a,b,c,d].map V.int) 3=some (.int d):=rfl
theorem at30 {a b c:Int}:atI ([a,b,c].map V.int) 0=some (.int a):=rfl
theorem at31 {a b c:Int}:atI ([a,b,c].map V.int) 1=some (.int b):=rfl
theorem at32 {a b c:Int}:atI ([a,b,c].map V.int) 2=some (.int c):=rfl
theorem at20 {a b:Int}:atI ([a,b].map V.int) 0=some (.int a):=rfl
theorem at21 {a b:Int}:atI ([a,b].map V.int) 1=some (.int b):=rfl
end
end K0
end
section
namespace K0
open PySem L2 Num
noncomputable def fr (t b:Int):List Int:=red [t,b]
structure Pt (H:Hp) (p:Addr) (f1 f2 f3:List Int):Prop where
  ex:∃ p1 p2 p3,H p=some (.tup [.ref p1,.ref p2,.ref p3])/\H p1=some (.tup (f1.map V.int))/\H p2=some (.tup (f2.map V.int))/\H p3=some (.tup (f3.map V.int))
noncomputable def Bt (n:Int) (k:Nat):Prop:=n.natAbs<=2 ^ k
theorem Bt.mul {a b:Int} {x y:Nat} (ha:Bt a x) (hb:Bt b y):Bt (a * b) (x + y):=by
  unfold Bt at *
  rw [Int.natAbs_mul,Nat.pow_add];exact Nat.mul_le_mul ha hb
theorem Bt.add {a b:Int} {x:Nat} (ha:Bt a x) (hb:Bt b x):Bt (a + b) (x + 1):=by
  unfold Bt at *
  rw [Nat.pow_succ,Nat.mul_two]
  exact Nat.le_trans (Int.natAbs_add_le a b) (Nat.add_le_add ha hb)
theorem Bt.sub {a b:Int} {x:Nat} (ha:Bt a x) (hb:Bt b x):Bt (a - b) (x + 1):=by
  unfold Bt at *
  rw [Nat.pow_succ,Nat.mul_two]
  exact Nat.le_trans (Int.natAbs_sub_le a b) (Nat.add_le_add ha hb)
theorem Bt.up {a:Int} {x y:Nat} (h:Bt a x) (hxy:x<=y):Bt a y:=Nat.le_trans h (Nat.pow_le_pow_right (by decide) hxy)
theorem Bt.lt {a:Int} {x:Nat} (h:Bt a x) (hx:x < 9000):a.natAbs < 2 ^ 9000:=Nat.lt_of_le_of_lt h (Nat.pow_lt_pow_right (by decide) hx)
theorem Bt.mulOk {a b:Int} {x y:Nat} (ha:Bt a x) (hb:Bt b y) (hx:x < 9000:=by decide) (hy:y < 9000:=by decide):IntMulOk a b:=mulOk_of (pow_lift (ha.lt hx)) (pow_lift (hb.lt hy))
theorem Bt.log {a:Int} {x:Nat} (h:Bt a x) (h0:a ≠ 0) (hx:x < 9000:=by decide):a.natAbs.log2 < 9000:=(Nat.log2_lt (by omega)).mpr (h.lt hx)
noncomputable def rw1 (a b c d:Int):List Int:=[a * a + b * b - c * c - d * d,2 * (b * c - a * d),2 * (b * d + a * c)]
noncomputable def rw2 (a b c d:Int):List Int:=[2 * (b * c + a * d),a * a - b * b + c * c - d * d,2 * (c * d - a * b)]
noncomputable def rw3 (a b c d:Int):List Int:=[2 * (b * d - a * c),2 * (c * d + a * b),a * a - b * b - c * c + d * d]
noncomputable def tp (rw:List Int) (t1 b1 t2 b2 t3 b3:Int):Int:=sop rw [t1 * (b2 * b3),t2 * (b1 * b3),t3 * (b1 * b2)]
noncomputable def ptD (f1 f2 f3:List Int):PySem.W.Dat:=.tuple [.tuple (f1.map .int),.tuple (f2.map .int),.tuple (f3.map .int)]
end K0
end
section
namespace K0
open PySem L2 Num
noncomputable def qv (t b:Int):Rat:=(t:Rat) / (b:Rat)
noncomputable def R1 (a b c d x y z:Rat):Rat:=(a * a + b * b - c * c - d * d) * x + 2 * (b * c - a * d) * y + 2 * (b * d + a * c) * z
noncomputable def R2 (a b c d x y z:Rat):Rat:=2 * (b * c + a * d) * x + (a * a - b * b + c * c - d * d) * y + 2 * (c * d - a * b) * z
noncomputable def R3 (a b c d x y z:Rat):Rat:=2 * (b * d - a * c) * x + 2 * (c * d + a * b) * y + (a * a - b * b - c * c + d * d) * z
noncomputable def N4 (a b c d:Rat):Rat:=a * a + b * b + c * c + d * d
structure Lo (k:Nat) (t b:Int) (x:Rat):Prop where
  pos:0 < b
  low:Nat.gcd t.natAbs b.natAbs=1
  bt:Bt t k
  bb:Bt b k
  val:qv t b=x
end K0
end
section
namespace K0
open PySem L2 Num
structure PC (H:Hp) (r:Addr) (c:Nat) (x y z:Rat):Prop where
  ex:∃ t1 b1 t2 b2 t3 b3,Pt H r [t1,b1] [t2,b2] [t3,b3]/\Lo c t1 b1 x/\Lo c t2 b2 y/\Lo c t3 b3 z/\∃ C T1 T2 T3:Int,0 < C/\Bt C c/\Bt T1 c/\Bt T2 c/\Bt T3 c/\qv T1 C=x/\qv T2 C=y/\qv T3 C=z
noncomputable def bk (n:List Int):List Int:=pl (cj n)
end K0
end
section
namespace K0
open PySem L2 Num
theorem okL {i j:Int} (h1 : -(2 ^ 64) < i) (h2:i < 2 ^ 64):IntMulOk i j:=CMul.ok (.inl ⟨h1,h2⟩)
end K0
end
section
namespace L2
open PySem PySem.Spec PyProof.Rows
end L2
namespace K0
open PySem L2 Num
open PySem.W (Dat)
noncomputable def rs (ns:List Int):List Int:=match ns with | [a,_,_,_]=>fr (a * a) (nrm ns) | _=>[]
noncomputable def spAbout (K:PySem.W.Frag):Sp:=fun vs H Q _=>∃ (x y:Addr) (p t u k l:Int),vs=[.ref x,.ref y]/\SqT K H x ([p,t,u].map V.int)/\SqT K H y ([k,l].map V.int)/\(∃ n ∈ [l,k * p,k * t,k * u],n ≠ 0)/\Bd (2 ^ 1000) [p,t,u]/\Bd (2 ^ 1000) [k,l] /\
  ∀ (r:Addr) (H':Hp),Same H H'->H' r=some (.tup ((pl [l,k * p,k * t,k * u]).map V.int))->Q (.ref r) H'
noncomputable def ps (k l:Int):List Int:=[k / unit [l,k],l / unit [l,k]]
theorem gcd2 (k l:Int):Nat.gcd k.natAbs l.natAbs=gcdN [l,k]:=by
  show _=Nat.gcd (Nat.gcd 0 l.natAbs) k.natAbs
  rw [Nat.gcd_zero_left,Nat.gcd_comm]
theorem unit2 (k l:Int):unit [l,k]=if l < 0\/(l=0/\k < 0) then -(gcdN [l,k]:Int) else gcdN [l,k]:=by
  unfold unit
  have e:fst0 [l,k] < 0 ↔ l < 0\/(l=0/\k < 0):=by
    simp only [fst0]
    split
    . split <;> omega
    . omega
  by_cases h:fst0 [l,k] < 0
  . rw [if_pos h,if_pos (e.mp h)]
  . rw [if_neg h,if_neg (fun y=>h (e.mpr y))]
theorem ps_red {k l:Int} (h:∃ n ∈ [l,k],n ≠ 0):(l / (gcdN [k,l]:Int) < 0\/(k / (gcdN [k,l]:Int) = -1/\l / (gcdN [k,l]:Int)=0)) ↔ (l < 0\/(l=0/\k < 0)):=by
  have h':∃ n ∈ [k,l],n ≠ 0:=by
    obtain ⟨n,hn,h0⟩:=h
    exact ⟨n,by simp at hn ⊢;omega,h0⟩
  have gp:=gcdN_pos h'
  have e:Nat.gcd l.natAbs k.natAbs=gcdN [k,l]:=gcd2 l k
  obtain ⟨a,ha⟩:=gcdN_dvd (ns:=[k,l]) (n:=k) (by simp)
  obtain ⟨b,hb⟩:=gcdN_dvd (ns:=[k,l]) (n:=l) (by simp)
  generalize gcdN [k,l]=g at *
  have gp':(0:Int) < g:=by omega
  have ka:k / (g:Int)=a:=by rw [ha];exact Int.mul_ediv_cancel_left _ (by omega)
  have lb:l / (g:Int)=b:=by rw [hb];exact Int.mul_ediv_cancel_left _ (by omega)
  rw [ka,lb]
  have n1:b < 0 ↔ l < 0:=by
    rw [hb]
    constructor
    . intro y;exact Int.mul_neg_of_pos_of_neg gp' y
    . intro y
      apply Decidable.byContradiction
      intro z
      have:=Int.mul_nonneg (Int.le_of_lt gp') (show 0<=b by omega)
      omega
  have n2:b=0 ↔ l=0:=by
    rw [hb]
    constructor
    . intro y;rw [y,Int.mul_zero]
    . intro y
      rcases Int.mul_eq_zero.mp y with y | y
      . omega
      . exact y
  have n3:l=0->(a = -1 ↔ k < 0):=fun l0=>by
    rw [l0] at e
    have e2:k.natAbs=g:=by rw [<- e];simp
    constructor
    . intro y;rw [y] at ha;omega
    . intro y
      have:k = -(g:Int):=by omega
      rw [this] at ha
      have z:(g:Int) * (a + 1)=0:=by rw [Int.mul_add, <- ha];omega
      rcases Int.mul_eq_zero.mp z with y | y <;> omega
  constructor
  . rintro (y | ⟨y,z⟩)
    . exact .inl (n1.mp y)
    . exact .inr ⟨n2.mp z,(n3 (n2.mp z)).mp y⟩
  . rintro (y | ⟨y,z⟩)
    . exact .inl (n1.mpr y)
    . exact .inr ⟨(n3 y).mpr z,n2.mpr y⟩
theorem gcd_swap (k l:Int):gcdN [k,l]=gcdN [l,k]:=by rw [<- gcd2 l k,Nat.gcd_comm,gcd2]
theorem ps_pos {k l:Int} (h:l < 0\/(l=0/\k < 0)):(red [k,l]).map (fun n => -n)=ps k l:=by
  show [-(k / (gcdN [k,l]:Int)), -(l / (gcdN [k,l]:Int))]=[_,_]
  rw [unit2,if_pos h,gcd_swap,Int.ediv_neg,Int.ediv_neg]
theorem ps_neg {k l:Int} (h:¬ (l < 0\/(l=0/\k < 0))):red [k,l]=ps k l:=by
  show [(k / (gcdN [k,l]:Int)),(l / (gcdN [k,l]:Int))]=[_,_]
  rw [unit2,if_neg h,gcd_swap]
noncomputable def spPS2 (K:PySem.W.Frag):Sp:=fun vs H Q _=>∃ (x:Addr) (k l:Int),vs=[.ref x]/\SqT K H x ([k,l].map V.int)/\(∃ n ∈ [l,k],n ≠ 0)/\Sm [l,k]/\∀ (r:Addr) (H':Hp),Same H H'->H' r=some (.tup ((ps k l).map V.int))->Q (.ref r) H'
end K0
end
section
namespace D
open PySem L2 K0
open PySem.W (Dat)
noncomputable def SqN (N:Addr->Prop) (K:PySem.W.Frag) (H:Hp) (a:Addr) (xs:List V):Prop:=(N a/\Rd H a (.lst xs))\/SqL K (fun _=>none) a xs
theorem SqN.sq {N:Addr->Prop} {K:PySem.W.Frag} {H:Hp} {a:Addr} {xs:List V} (h:SqN N K H a xs):SqL K H a xs:=by
  rcases h with ⟨_,h⟩ | (h | ⟨o,h⟩) | h
  . exact .inl h
  . cases h
  . cases h
  . exact .inr h
mutual
inductive Dz (N:Addr->Prop) (K:PySem.W.Frag) (H:Hp):V->Dat->Prop
  | none:Dz N K H .non .none
  | bool (b:Bool):Dz N K H (.bl b) (.bool b)
  | int (i:Int):Dz N K H (.int i) (.int i)
  | str (x:Str):Dz N K H (.str x) (.str x)
  | tup {a:Addr} {xs:List V} {ds:List Dat}:SqT K H a xs->Dzs N K H xs ds->Dz N K H (.ref a) (.tuple ds)
  | lst {a:Addr} {xs:List V} {ds:List Dat}:SqN N K H a xs->Dzs N K H xs ds->Dz N K H (.ref a) (.list ds)
  | exc {a:Addr} {c:Array UInt8}:N a->XAt K H a c->Dz N K H (.ref a) (.bytes c)
inductive Dzs (N:Addr->Prop) (K:PySem.W.Frag) (H:Hp):List V->List Dat->Prop
  | nil:Dzs N K H [] []
  | cons {x:V} {d:Dat} {xs:List V} {ds:List Dat}:Dz N K H x d->Dzs N K H xs ds->Dzs N K H (x :: xs) (d :: ds)
end
structure Ev (W:Addr->Prop) (H H':Hp):Prop where
  keep:∀ b o,¬ W b->H b=some o->H' b=some o
  tm:Tm H H'
theorem Ev.refl {W:Addr->Prop} {H:Hp}:Ev W H H:=⟨fun _ _ _ h=>h,Tm.refl _⟩
theorem Ev.trans {W:Addr->Prop} {H H1 H2:Hp} (a:Ev W H H1) (b:Ev W H1 H2):Ev W H H2:=⟨fun c o n h=>b.keep c o n (a.keep c o n h),a.tm.trans b.tm⟩
theorem Ev.of {W:Addr->Prop} {H H':Hp} (s:Same H H'):Ev W H H':=⟨fun c o _ h=>s c o h,s.tm⟩
theorem Ev.mono {W W':Addr->Prop} {H H':Hp} (a:Ev W H H') (m:∀ b,W b->W' b):Ev W' H H':=⟨fun c o n h=>a.keep c o (fun z=>n (m c z)) h,a.tm⟩
structure Own where
  R:(Addr->Prop)->PySem.W.Frag->Hp->Addr->List Addr->Prop
  ev:∀ {N W:Addr->Prop} {K:PySem.W.Frag} {H H':Hp} {a:Addr} {l:List Addr},R N K H a l->Ev W H H'->(∀ a,N a->¬ W a)->(∀ b o,b ∈ l->H b=some o->H' b=some o)->R N K H' a l
  wide:∀ {N N':Addr->Prop} {K:PySem.W.Frag} {H:Hp} {a:Addr} {l:List Addr},R N K H a l->(∀ a o,N a->H a=some o->N' a)->R N' K H a l
  al:∀ {N:Addr->Prop} {K:PySem.W.Frag} {H:Hp} {a:Addr} {l:List Addr},R N K H a l->∀ b,b ∈ l->∃ o,H b=some o
inductive Sl where
  | un | dat (d:Dat) | pu | own (ds:List Dat) | vw (ds:List Dat) | dt (o:Own)
section
variable {N N':Addr->Prop} {K:PySem.W.Frag} {H H':Hp}
mutual
theorem Dz.ev {W:Addr->Prop} (e:Ev W H H') (nw:∀ a,N a->¬ W a):∀ {v:V} {d:Dat},Dz N K H v d->Dz N K H' v d
  | _,_,.none=>.none
  | _,_,.bool b=>.bool b
  | _,_,.int i=>.int i
  | _,_,.str x=>.str x
  | _,_,.tup h r=>.tup (e.tm _ _ _ h) (Dzs.ev e nw r)
  | _,_,.lst h r=>.lst (by
      rcases h with ⟨n,h | ⟨o,h⟩⟩ | h
      . exact .inl ⟨n,.inl (e.keep _ _ (nw _ n) h)⟩
      . exact .inl ⟨n,.inr ⟨o,e.keep _ _ (nw _ n) h⟩⟩
      . exact .inr h) (Dzs.ev e nw r)
  | _,_,.exc n h=>.exc n (let ⟨ob,C,q,z⟩:=h;⟨ob,C,e.keep _ _ (nw _ n) q,z⟩)
theorem Dzs.ev {W:Addr->Prop} (e:Ev W H H') (nw:∀ a,N a->¬ W a):∀ {v:List V} {d:List Dat},Dzs N K H v d->Dzs N K H' v d
  | _,_,.nil=>.nil
  | _,_,.cons h r=>.cons (Dz.ev e nw h) (Dzs.ev e nw r)
end
mutual
theorem Dz.mono (m:∀ a,N a->N' a):∀ {v:V} {d:Dat},Dz N K H v d->Dz N' K H v d
  | _,_,.none=>.none
  | _,_,.bool b=>.bool b
  | _,_,.int i=>.int i
  | _,_,.str x=>.str x
  | _,_,.tup h r=>.tup h (Dzs.mono m r)
  | _,_,.lst h r=>.lst (h.elim (fun z=>.inl ⟨m _ z.1,z.2⟩) .inr) (Dzs.mono m r)
  | _,_,.exc n h=>.exc (m _ n) h
theorem Dzs.mono (m:∀ a,N a->N' a):∀ {v:List V} {d:List Dat},Dzs N K H v d->Dzs N' K H v d
  | _,_,.nil=>.nil
  | _,_,.cons h r=>.cons (Dz.mono m h) (Dzs.mono m r)
end
mutual
theorem Dz.is:∀ {v:V} {d:Dat},Dz N K H v d->Is K H v d
  | _,_,.none=>.none
  | _,_,.bool b=>.bool b
  | _,_,.int i=>.int i
  | _,_,.str x=>.str x
  | _,_,.tup h r=>.tup h (Dzs.is r)
  | _,_,.lst h r=>.lst h.sq (Dzs.is r)
  | _,_,.exc _ h=>.exc h
theorem Dzs.is:∀ {v:List V} {d:List Dat},Dzs N K H v d->Iss K H v d
  | _,_,.nil=>.nil
  | _,_,.cons h r=>.cons (Dz.is h) (Dzs.is r)
end
theorem Dzs.len:∀ {v:List V} {d:List Dat},Dzs N K H v d->v.length=d.length
  | _,_,.nil=>rfl
  | _,_,.cons _ r=>by rw [List.length_cons,List.length_cons,Dzs.len r]
theorem Dzs.app:∀ {v v':List V} {d d':List Dat},Dzs N K H v d->Dzs N K H v' d'->Dzs N K H (v ++ v') (d ++ d')
  | _,_,_,_,.nil,h=>h
  | _,_,_,_,.cons a r,h=>.cons a (Dzs.app r h)
theorem Dzs.get:∀ {v:List V} {d:List Dat} {i:Nat} {e:Dat},Dzs N K H v d->d[i]?=some e->∃ x,v[i]?=some x/\Dz N K H x e
  | _,_,_,_,.nil,h=>by simp at h
  | _,_,0,_,.cons a r,h=>by simp at h;subst h;exact ⟨_,rfl,a⟩
  | _,_,i + 1,e,.cons a r,h=>by
    obtain ⟨x,q,z⟩:=Dzs.get (i:=i) r (by simpa using h)
    exact ⟨x,by simpa using q,z⟩
theorem Dzs.ints (ns:List Int):Dzs N K H (ns.map V.int) (ns.map Dat.int):=by
  induction ns with
  | nil=>exact .nil
  | cons n ns ih=>exact .cons (.int n) ih
theorem Dzs.inv:∀ {vs:List V} {ns:List Int},Dzs N K H vs (ns.map Dat.int)->vs=ns.map V.int
  | _,[],h=>by cases h;rfl
  | _,n :: ns,h=>by
    cases h with
    | cons a r=>cases a;rw [Dzs.inv r];rfl
theorem Dzs.set:∀ {v:List V} {d:List Dat} {x:V} {e:Dat} (i:Nat),Dzs N K H v d->Dz N K H x e->Dzs N K H (v.set i x) (d.set i e)
  | _,_,_,_,_,.nil,_=>.nil
  | _,_,_,_,0,.cons a r,h=>.cons h r
  | _,_,_,_,i + 1,.cons a r,h=>.cons a (Dzs.set i r h)
end
mutual
noncomputable def noL:Dat->Bool
  | .tuple ds=>noLs ds
  | .list _=>false
  | .none=>true
  | .bool _=>true
  | .int _=>true
  | .str _=>true
  | _=>false
noncomputable def noLs:List Dat->Bool
  | []=>true
  | d :: r=>noL d && noLs r
end
section
variable {N N':Addr->Prop} {K:PySem.W.Frag} {H H':Hp}
mutual
theorem Dz.free:∀ {v:V} {d:Dat},Dz N K H v d->noL d=true->Dz N' K H v d
  | _,_,.none,_=>.none
  | _,_,.bool b,_=>.bool b
  | _,_,.int i,_=>.int i
  | _,_,.str x,_=>.str x
  | _,_,.tup h r,z=>.tup h (Dzs.free r (by rw [noL] at z;exact z))
  | _,_,.lst h r,z=>by rw [noL] at z;cases z
  | _,_,.exc _ h,z=>by simp [noL] at z
theorem Dzs.free:∀ {v:List V} {d:List Dat},Dzs N K H v d->noLs d=true->Dzs N' K H v d
  | _,_,.nil,_=>.nil
  | _,_,.cons h r,z=>by
    rw [noLs,Bool.and_eq_true] at z
    exact .cons (Dz.free h z.1) (Dzs.free r z.2)
end
end
theorem noLs_ints (ns:List Int):noLs (ns.map .int)=true:=by
  induction ns with
  | nil=>rw [List.map_nil,noLs]
  | cons n r ih=>rw [List.map_cons,noLs,ih,noL];rfl
section
variable {N N':Addr->Prop} {K:PySem.W.Frag} {H:Hp}
end
structure Ok (p:Option Addr) (W:Addr->Prop) (H:Hp):Prop where
  pu:∀ q,p=some q->Pu H q/\W q
  al:∀ a,W a->∃ ys,H a=some ys
inductive Rs (p:Option Addr) (W:Addr->Prop) (K:PySem.W.Frag) (H:Hp):List Addr->St->List Sl->Prop
  | nil:Rs p W K H [] [] []
  | un {L:List Addr} {σ:St} {τ:List Sl} {o:Option V}:Rs p W K H L σ τ->Rs p W K H L (o :: σ) (.un :: τ)
  | dat {L:List Addr} {σ:St} {τ:List Sl} {v:V} {d:Dat}:Dz (fun a=>¬ W a) K H v d->Rs p W K H L σ τ->Rs p W K H L (some v :: σ) (.dat d :: τ)
  | pu {L:List Addr} {σ:St} {τ:List Sl} {q:Addr}:p=some q->Rs p W K H L σ τ->Rs p W K H L (some (.ref q) :: σ) (.pu :: τ)
  | own {L:List Addr} {σ:St} {τ:List Sl} {a:Addr} {vs:List V} {ds:List Dat}:W a->p ≠ some a->a ∉ L->H a=some (.lst vs)->Dzs (fun a=>¬ W a) K H vs ds->Rs p W K H L σ τ->Rs p W K H (a :: L) (some (.ref a) :: σ) (.own ds :: τ)
  | dt {L l:List Addr} {σ:St} {τ:List Sl} {a:Addr} {o:Own}:(∀ b,b ∈ l->W b)->(∀ b,b ∈ l->p ≠ some b)->(∀ b,b ∈ l->b ∉ L)->o.R (fun a=>¬ W a) K H a l->Rs p W K H L σ τ->Rs p W K H (l ++ L) (some (.ref a) :: σ) (.dt o :: τ)
noncomputable def Rv (p:Option Addr) (W:Addr->Prop) (K:PySem.W.Frag) (H H':Hp) (v:V):Sl->Prop
  | .un=>True
  | .dat d=>Dz (fun a=>¬ W a) K H' v d
  | .pu=>∃ q,p=some q/\v = .ref q
  | .own ds=>∃ a vs,v = .ref a/\H a=none/\H' a=some (.lst vs)/\Dzs (fun a=>¬ W a) K H' vs ds
  | .dt o=>∃ a l,v = .ref a/\(∀ b,b ∈ l->H b=none)/\o.R (fun a=>¬ W a) K H' a l
  | .vw ds=>∃ a vs,v = .ref a/\SqN (fun a=>p ≠ some a) K H' a vs/\Dzs (fun a=>¬ W a) K H' vs ds
inductive Rvs (p:Option Addr) (W:Addr->Prop) (K:PySem.W.Frag) (H H':Hp):List V->List Sl->Prop
  | nil:Rvs p W K H H' [] []
  | cons {v:V} {s:Sl} {vs:List V} {ss:List Sl}:Rv p W K H H' v s->Rvs p W K H H' vs ss->Rvs p W K H H' (v :: vs) (s :: ss)
noncomputable def Pp (p:Option Addr):Addr->Prop:=fun a=>p=some a
section
variable {p:Option Addr} {W:Addr->Prop} {K:PySem.W.Frag} {H H1 H':Hp} {σ:St} {τ:List Sl} {L:List Addr} {v:V} {s:Sl}
theorem Ok.ev (o:Ok p W H) (e:Ev (Pp p) H H') (q:∀ q,p=some q->Pu H' q):Ok p W H':=⟨fun a ha=>⟨q a ha,(o.pu a ha).2⟩,fun a ha=>by
  by_cases z:p=some a
  . obtain ⟨x,y,h⟩:=q a z;exact ⟨_,h⟩
  . obtain ⟨ys,h⟩:=o.al a ha;exact ⟨ys,e.keep _ _ z h⟩⟩
theorem Rs.ev (r:Rs p W K H L σ τ) (e:Ev (Pp p) H H') (pw:∀ q,p=some q->W q):Rs p W K H' L σ τ:=by
  have nw:∀ a,¬ W a->¬ Pp p a:=fun a n z=>n (pw a z)
  induction r with
  | nil=>exact .nil
  | un _ ih=>exact .un ih
  | dat h _ ih=>exact .dat (h.ev e nw) ih
  | pu h _ ih=>exact .pu h ih
  | own h1 h2 h3 h4 h5 _ ih=>exact .own h1 h2 h3 (e.keep _ _ h2 h4) (h5.ev e nw) ih
  | dt h1 h2 h3 h4 _ ih=>exact .dt h1 h2 h3 (Own.ev _ h4 e nw fun b o hb h=>e.keep _ _ (h2 b hb) h) ih
theorem Rs.get_dat (r:Rs p W K H L σ τ):∀ {i:Nat} {d:Dat},τ[i]?=some (.dat d)->∃ v,σ[i]?=some (some v)/\Dz (fun a=>¬ W a) K H v d:=by
  induction r with
  | nil=>intro i d h;simp at h
  | un _ ih =>
    intro i d h
    match i,h with
    | 0,h=>simp at h
    | i + 1,h=>exact ih (i:=i) (by simpa using h)
  | dat z _ ih =>
    intro i d h
    match i,h with
    | 0,h=>simp at h;subst h;exact ⟨_,rfl,z⟩
    | i + 1,h=>exact ih (i:=i) (by simpa using h)
  | pu _ _ ih =>
    intro i d h
    match i,h with
    | 0,h=>simp at h
    | i + 1,h=>exact ih (i:=i) (by simpa using h)
  | own _ _ _ _ _ _ ih =>
    intro i d h
    match i,h with
    | 0,h=>simp at h
    | i + 1,h=>exact ih (i:=i) (by simpa using h)
  | dt _ _ _ _ _ ih =>
    intro i d h
    match i,h with
    | 0,h=>simp at h
    | i + 1,h=>exact ih (i:=i) (by simpa using h)
theorem Rs.get_pu (r:Rs p W K H L σ τ):∀ {i:Nat},τ[i]?=some .pu->∃ q,p=some q/\σ[i]?=some (some (.ref q)):=by
  induction r with
  | nil=>intro i h;simp at h
  | un _ ih =>
    intro i h
    match i,h with
    | 0,h=>simp at h
    | i + 1,h=>exact ih (i:=i) (by simpa using h)
  | dat z _ ih =>
    intro i h
    match i,h with
    | 0,h=>simp at h
    | i + 1,h=>exact ih (i:=i) (by simpa using h)
  | pu z _ ih =>
    intro i h
    match i,h with
    | 0,h=>exact ⟨_,z,rfl⟩
    | i + 1,h=>exact ih (i:=i) (by simpa using h)
  | own _ _ _ _ _ _ ih =>
    intro i h
    match i,h with
    | 0,h=>simp at h
    | i + 1,h=>exact ih (i:=i) (by simpa using h)
  | dt _ _ _ _ _ ih =>
    intro i h
    match i,h with
    | 0,h=>simp at h
    | i + 1,h=>exact ih (i:=i) (by simpa using h)
theorem Rs.get_own (r:Rs p W K H L σ τ):∀ {i:Nat} {ds:List Dat},τ[i]?=some (.own ds)->∃ a vs,σ[i]?=some (some (.ref a))/\W a/\p ≠ some a/\a ∈ L/\H a=some (.lst vs)/\Dzs (fun a=>¬ W a) K H vs ds:=by
  induction r with
  | nil=>intro i ds h;simp at h
  | un _ ih =>
    intro i ds h
    match i,h with
    | 0,h=>simp at h
    | i + 1,h=>exact ih (i:=i) (by simpa using h)
  | dat z _ ih =>
    intro i ds h
    match i,h with
    | 0,h=>simp at h
    | i + 1,h=>exact ih (i:=i) (by simpa using h)
  | pu z _ ih =>
    intro i ds h
    match i,h with
    | 0,h=>simp at h
    | i + 1,h=>exact ih (i:=i) (by simpa using h)
  | own h1 h2 h3 h4 h5 _ ih =>
    intro i ds h
    match i,h with
    | 0,h=>simp at h;subst h;exact ⟨_,_,rfl,h1,h2,List.mem_cons_self,h4,h5⟩
    | i + 1,h =>
      obtain ⟨a,vs,e1,e2,e3,e4,e5⟩:=ih (i:=i) (by simpa using h)
      exact ⟨a,vs,by simpa using e1,e2,e3,List.mem_cons_of_mem _ e4,e5⟩
  | dt h1 h2 h3 h4 _ ih =>
    intro i ds h
    match i,h with
    | 0,h=>simp at h
    | i + 1,h =>
      obtain ⟨a,vs,e1,e2,e3,e4,e5⟩:=ih (i:=i) (by simpa using h)
      exact ⟨a,vs,by simpa using e1,e2,e3,List.mem_append_right _ e4,e5⟩
theorem Rs.set (r:Rs p W K H L σ τ) {v:V} {s:Sl} (hs:(s = .un)\/(∃ d,s = .dat d/\Dz (fun a=>¬ W a) K H v d)\/(s = .pu/\∃ q,p=some q/\v = .ref q)):∀ (i:Nat),∃ L',(∀ a,a ∈ L'->a ∈ L)/\Rs p W K H L' (σ.set i (some v)) (τ.set i s):=by
  induction r with
  | nil=>intro i;exact ⟨[],fun _ h=>h,.nil⟩
  | un r ih =>
    intro i
    match i with
    | 0 =>
      rcases hs with rfl | ⟨d,rfl,z⟩ | ⟨rfl,q,z,rfl⟩
      . exact ⟨_,fun _ h=>h,.un r⟩
      . exact ⟨_,fun _ h=>h,.dat z r⟩
      . exact ⟨_,fun _ h=>h,.pu z r⟩
    | i + 1=>obtain ⟨L',h1,h2⟩:=ih i;exact ⟨L',h1,.un h2⟩
  | dat y r ih =>
    intro i
    match i with
    | 0 =>
      rcases hs with rfl | ⟨d,rfl,z⟩ | ⟨rfl,q,z,rfl⟩
      . exact ⟨_,fun _ h=>h,.un r⟩
      . exact ⟨_,fun _ h=>h,.dat z r⟩
      . exact ⟨_,fun _ h=>h,.pu z r⟩
    | i + 1=>obtain ⟨L',h1,h2⟩:=ih i;exact ⟨L',h1,.dat y h2⟩
  | pu y r ih =>
    intro i
    match i with
    | 0 =>
      rcases hs with rfl | ⟨d,rfl,z⟩ | ⟨rfl,q,z,rfl⟩
      . exact ⟨_,fun _ h=>h,.un r⟩
      . exact ⟨_,fun _ h=>h,.dat z r⟩
      . exact ⟨_,fun _ h=>h,.pu z r⟩
    | i + 1=>obtain ⟨L',h1,h2⟩:=ih i;exact ⟨L',h1,.pu y h2⟩
  | own h1 h2 h3 h4 h5 r ih =>
    intro i
    match i with
    | 0 =>
      rcases hs with rfl | ⟨d,rfl,z⟩ | ⟨rfl,q,z,rfl⟩
      . exact ⟨_,fun _ h=>List.mem_cons_of_mem _ h,.un r⟩
      . exact ⟨_,fun _ h=>List.mem_cons_of_mem _ h,.dat z r⟩
      . exact ⟨_,fun _ h=>List.mem_cons_of_mem _ h,.pu z r⟩
    | i + 1 =>
      obtain ⟨L',g1,g2⟩:=ih i
      refine ⟨_ :: L',fun b hb=>?_,.own h1 h2 (fun z=>h3 (g1 _ z)) h4 h5 g2⟩
      rcases List.mem_cons.mp hb with rfl | hb
      . exact List.mem_cons_self
      . exact List.mem_cons_of_mem _ (g1 b hb)
  | dt h1 h2 h3 h4 r ih =>
    intro i
    match i with
    | 0 =>
      rcases hs with rfl | ⟨d,rfl,z⟩ | ⟨rfl,q,z,rfl⟩
      . exact ⟨_,fun _ h=>List.mem_append_right _ h,.un r⟩
      . exact ⟨_,fun _ h=>List.mem_append_right _ h,.dat z r⟩
      . exact ⟨_,fun _ h=>List.mem_append_right _ h,.pu z r⟩
    | i + 1 =>
      obtain ⟨L',g1,g2⟩:=ih i
      exact ⟨_ ++ L',fun b hb=>(List.mem_append.mp hb).elim (List.mem_append_left _) (fun z=>List.mem_append_right _ (g1 b z)),.dt h1 h2 (fun b hb z=>h3 b hb (g1 _ z)) h4 g2⟩
theorem Rs.wide {W':Addr->Prop} (r:Rs p W K H L σ τ) (m:∀ a,W a->W' a) (n:∀ a,W' a->¬ W a->H a=none):Rs p W' K H L σ τ:=by
  induction r with
  | nil=>exact .nil
  | un _ ih=>exact .un ih
  | dat h _ ih=>exact .dat (wideZ h) ih
  | pu h _ ih=>exact .pu h ih
  | own h1 h2 h3 h4 h5 _ ih=>exact .own (m _ h1) h2 h3 h4 (wideZs h5) ih
  | dt h1 h2 h3 h4 _ ih=>exact .dt (fun b hb=>m _ (h1 b hb)) h2 h3 (Own.wide _ h4 fun a o na ha wa=>by rw [n a wa na] at ha;cases ha) ih
where
  wideZ : ∀ {v : V} {d : Dat}, Dz (fun a => ¬ W a) K H v d -> Dz (fun a => ¬ W' a) K H v d
    | _,_,.none=>.none
    | _,_,.bool b=>.bool b
    | _,_,.int i=>.int i
    | _,_,.str x=>.str x
    | _,_,.tup h r=>.tup h (wideZs r)
    | _,_,.lst h r=>.lst (by
        rcases h with ⟨nn,h⟩ | h
        . refine .inl ⟨fun z=>?_,h⟩
          have e1:=n _ z nn
          rcases h with h | ⟨o,h⟩
          . rw [e1] at h;cases h
          . rw [e1] at h;cases h
        . exact .inr h) (wideZs r)
    | _,_,.exc nn h=>.exc (fun z=>by obtain ⟨_,_,q,_⟩:=h;rw [n _ z nn] at q;cases q) h
  wideZs:∀ {v:List V} {d:List Dat},Dzs (fun a=>¬ W a) K H v d->Dzs (fun a=>¬ W' a) K H v d
    | _,_,.nil=>.nil
    | _,_,.cons h r=>.cons (wideZ h) (wideZs r)
end
end D
end
section
namespace D
open PySem L2 K0
open PySem.W (Dat)
section
variable (p:Option Addr) (K:PySem.W.Frag)
noncomputable def E (te:TE) (τ:List Sl) (C:Sl->Prop):Prop:=∀ (W:Addr->Prop) (L:List Addr) (σ:St) (H:Hp) (Q:VK),Rs p W K H L σ τ->Ok p W H->(∀ v H' s,C s->Ev (Pp p) H H'->Ok p W H'->Rv p W K H H' v s->Q v H')->te σ H Q
noncomputable def E1 (te:TE) (τ:List Sl) (s:Sl):Prop:=E p K te τ (fun x=>s=x)
noncomputable def A (ta:TA) (τ:List Sl) (C:List Sl->Prop):Prop:=∀ (W:Addr->Prop) (L:List Addr) (σ:St) (H:Hp) (Q:List V->Hp->Prop),Rs p W K H L σ τ->Ok p W H->(∀ vs H' ss,C ss->Ev (Pp p) H H'->Ok p W H'->Rvs p W K H H' vs ss->Q vs H')->ta σ H Q
noncomputable def A1 (ta:TA) (τ:List Sl) (ss:List Sl):Prop:=A p K ta τ (fun x=>ss=x)
noncomputable def T (tt:TT) (τ:List Sl) (C:Bool->Prop):Prop:=∀ (W:Addr->Prop) (L:List Addr) (σ:St) (H:Hp) (Q:Bool->Hp->Prop),Rs p W K H L σ τ->Ok p W H->(∀ b H',C b->Ev (Pp p) H H'->Ok p W H'->Q b H')->tt σ H Q
noncomputable def T1 (tt:TT) (τ:List Sl) (b:Bool):Prop:=T p K tt τ (fun x=>b=x)
end
section
variable {p:Option Addr} {K:PySem.W.Frag} {W:Addr->Prop} {L:List Addr} {σ:St} {H H0 H1 H2:Hp} {τ:List Sl} {ta tb te:TE} {tas:TA} {v:V} {s:Sl}
theorem Ok.pw (o:Ok p W H):∀ q,p=some q->W q:=fun q h=>(o.pu q h).2
theorem Ok.nw (o:Ok p W H):∀ a,¬ W a->¬ Pp p a:=fun a n z=>n (o.pw a z)
theorem Ok.same (o:Ok p W H) (s:Same H H1):Ok p W H1:=o.ev (Ev.of s) fun q h=>(o.pu q h).1.same s
theorem Ok.back (o:Ok p W H1) (e:Ev (Pp p) H H1) {a:Addr} (h:H1 a=none):H a=none:=by
  cases q:H a with
  | none=>rfl
  | some u =>
    by_cases z:p=some a
    . obtain ⟨x,y,e2⟩:=(o.pu a z).1;rw [h] at e2;cases e2
    . rw [e.keep _ _ z q] at h;cases h
theorem Ok.fresh (o:Ok p W H) {a:Addr} (h:H a=none):¬ W a:=fun z=>by
  obtain ⟨ys,e⟩:=o.al a z;rw [h] at e;cases e
theorem Ok.np (o:Ok p W H) {a:Addr} (h:H a=none):p ≠ some a:=fun z=>o.fresh h (o.pw a z)
theorem Rv.ev (h:Rv p W K H0 H v s) (e:Ev (Pp p) H H1) (o:Ok p W H) (o0:Ok p W H0):Rv p W K H0 H1 v s:=by
  cases s with
  | un=>trivial
  | dat d=>exact Dz.ev e o.nw h
  | pu=>exact h
  | own ds =>
    obtain ⟨a,vs,rfl,h1,h2,h3⟩:=h
    exact ⟨a,vs,rfl,h1,e.keep _ _ (o0.np h1) h2,h3.ev e o.nw⟩
  | dt ds =>
    obtain ⟨a,l,rfl,h1,h2⟩:=h
    exact ⟨a,l,rfl,h1,Own.ev _ h2 e o.nw fun b u hb h=>e.keep _ _ (o0.np (h1 b hb)) h⟩
  | vw ds =>
    obtain ⟨a,vs,rfl,h2,h3⟩:=h
    refine ⟨a,vs,rfl,?_,h3.ev e o.nw⟩
    rcases h2 with ⟨z,h2 | ⟨u,h2⟩⟩ | h2
    . exact .inl ⟨z,.inl (e.keep _ _ z h2)⟩
    . exact .inl ⟨z,.inr ⟨u,e.keep _ _ z h2⟩⟩
    . exact .inr h2
theorem Rv.base (h:Rv p W K H1 H v s) (e:Ev (Pp p) H0 H1) (o1:Ok p W H1):Rv p W K H0 H v s:=by
  cases s with
  | own ds=>obtain ⟨a,vs,rfl,h1,h2⟩:=h;exact ⟨a,vs,rfl,o1.back e h1,h2⟩
  | dt ds=>obtain ⟨a,vs,rfl,h1,h2⟩:=h;exact ⟨a,vs,rfl,fun b hb=>o1.back e (h1 b hb),h2⟩
  | _=>exact h
theorem Rvs.base {vs:List V} {ss:List Sl} (h:Rvs p W K H1 H vs ss) (e:Ev (Pp p) H0 H1) (o1:Ok p W H1):Rvs p W K H0 H vs ss:=by
  induction h with
  | nil=>exact .nil
  | cons a _ ih=>exact .cons (a.base e o1) ih
theorem E.mono {C C':Sl->Prop} (h:E p K te τ C) (m:∀ s,C s->C' s):E p K te τ C':=fun W L σ H Q r o q=>h W L σ H Q r o fun v H' s c=>q v H' s (m s c)
theorem E1.var {i:Nat} {d:Dat} (h:τ[i]?=some (.dat d)):E1 p K (tVar i) τ (.dat d):=fun W L σ H Q r o q=>by
  obtain ⟨v,e,z⟩:=r.get_dat h
  exact ⟨v,e,q v H _ rfl Ev.refl o z⟩
theorem E1.varP {i:Nat} (h:τ[i]?=some .pu):E1 p K (tVar i) τ .pu:=fun W L σ H Q r o q=>by
  obtain ⟨a,e,z⟩:=r.get_pu h
  exact ⟨_,z,q _ H _ rfl Ev.refl o ⟨a,e,rfl⟩⟩
theorem E1.varO {i:Nat} {ds:List Dat} (h:τ[i]?=some (.own ds)):E1 p K (tVar i) τ (.vw ds):=fun W L σ H Q r o q=>by
  obtain ⟨a,vs,e,w,n,_,h1,z⟩:=r.get_own h
  exact ⟨_,e,q _ H _ rfl Ev.refl o ⟨a,vs,rfl,.inl ⟨n,.inl h1⟩,z⟩⟩
theorem E1.int {i:Int}:E1 p K (tC (.int i)) τ (.dat (.int i)):=fun W L σ H Q r o q=>q _ H _ rfl Ev.refl o (.int i)
theorem E1.bl {i:Bool}:E1 p K (tC (.bl i)) τ (.dat (.bool i)):=fun W L σ H Q r o q=>q _ H _ rfl Ev.refl o (.bool i)
theorem E1.non:E1 p K (tC .non) τ (.dat .none):=fun W L σ H Q r o q=>q _ H _ rfl Ev.refl o .none
theorem E1.str {x:Str}:E1 p K (tC (.str x)) τ (.dat (.str x)):=fun W L σ H Q r o q=>q _ H _ rfl Ev.refl o (.str x)
theorem E1.vwo {ds:List Dat} (h:E1 p K te τ (.own ds)):E1 p K te τ (.vw ds):=fun W L σ H Q r o q=>h W L σ H Q r o fun v H' s e ev o' rv=>by
  subst e
  obtain ⟨a,vs,rfl,h1,h2,h3⟩:=rv
  exact q _ H' _ rfl ev o' ⟨a,vs,rfl,.inl ⟨o.np h1,.inl h2⟩,h3⟩
theorem E.op2 {r:R2} {A B C:Sl->Prop} {B':Sl->Sl->Prop} (ha:E p K ta τ A) (hb:∀ s,A s->E p K tb τ (B' s))
    (hr:∀ s t,A s->B' s t->∀ (W:Addr->Prop) (H0 H:Hp) (x y:V) (Q:VK),Ok p W H0->Ok p W H->Rv p W K H0 H x s->Rv p W K H0 H y t->(∀ v H' u,C u->Ev (Pp p) H H'->Ok p W H'->Rv p W K H0 H' v u->Q v H')->r x y H Q):E p K (tOp r ta tb) τ C :=
  fun W L σ H Q rs o q=>ha W L σ H _ rs o fun x H1 s cs e1 o1 rv1=>hb s cs W L σ H1 _ (rs.ev e1 o.pw) o1 fun y H2 t ct e2 o2 rv2 =>
    hr s t cs ct W H H2 x y _ o o2 (rv1.ev e2 o1 o) (rv2.base e1 o1) fun v H' u cu e3 o3 rv3=>q v H' u cu ((e1.trans e2).trans e3) o3 rv3
theorem E1.op2 {r:R2} {a b c:Sl} (ha:E1 p K ta τ a) (hb:E1 p K tb τ b)
    (hr:∀ (W:Addr->Prop) (H0 H:Hp) (x y:V) (Q:VK),Ok p W H0->Ok p W H->Rv p W K H0 H x a->Rv p W K H0 H y b->(∀ v H',Ev (Pp p) H H'->Ok p W H'->Rv p W K H0 H' v c->Q v H')->r x y H Q):E1 p K (tOp r ta tb) τ c :=
  E.op2 (B:=fun _=>True) (B':=fun _ x=>b=x) ha (fun _ _=>hb) fun s t hs ht W H0 H x y Q o0 o r1 r2 q=>by
    subst hs ht
    exact hr W H0 H x y Q o0 o r1 r2 fun v H'=>q v H' c rfl
theorem Rv.int_inv {i:Int} (h:Rv p W K H0 H v (.dat (.int i))):v = .int i:=by cases h;rfl
theorem Rv.bl_inv {i:Bool} (h:Rv p W K H0 H v (.dat (.bool i))):v = .bl i:=by cases h;rfl
theorem Rv.non_inv (h:Rv p W K H0 H v (.dat .none)):v = .non:=by cases h;rfl
theorem E1.opI0 {g:Int->Int->V} {i j:Int} {d:Dat} (ha:E1 p K ta τ (.dat (.int i))) (hb:E1 p K tb τ (.dat (.int j))) (hd:∀ (N:Addr->Prop) (K:PySem.W.Frag) (H:Hp),Dz N K H (g i j) d):E1 p K (tOp (rI0 g) ta tb) τ (.dat d) :=
  E1.op2 ha hb fun W H0 H x y Q o0 o r1 r2 q=>⟨i,j,r1.int_inv,r2.int_inv,q _ H Ev.refl o (hd _ K H)⟩
theorem E1.opI {g:Int->Int->V} {Cn:Int->Int->Prop} {i j:Int} {d:Dat} (ha:E1 p K ta τ (.dat (.int i))) (hb:E1 p K tb τ (.dat (.int j))) (hc:Cn i j) (hd:∀ (N:Addr->Prop) (K:PySem.W.Frag) (H:Hp),Dz N K H (g i j) d):E1 p K (tOp (rI Cn g) ta tb) τ (.dat d) :=
  E1.op2 ha hb fun W H0 H x y Q o0 o r1 r2 q=>⟨i,j,r1.int_inv,r2.int_inv,hc,q _ H Ev.refl o (hd _ K H)⟩
section
variable {i j:Int} (ha:E1 p K ta τ (.dat (.int i))) (hb:E1 p K tb τ (.dat (.int j)))
include ha hb
theorem E1.add:E1 p K (tOp (rI0 fun i j=>.int (i + j)) ta tb) τ (.dat (.int (i + j))):=E1.opI0 ha hb fun _ _ _=>.int _
theorem E1.sub:E1 p K (tOp (rI0 fun i j=>.int (i - j)) ta tb) τ (.dat (.int (i - j))):=E1.opI0 ha hb fun _ _ _=>.int _
theorem E1.mul (hc:IntMulOk i j):E1 p K (tOp (rI IntMulOk fun i j=>.int (i * j)) ta tb) τ (.dat (.int (i * j))):=E1.opI ha hb hc fun _ _ _=>.int _
theorem E1.fdiv (hc:CDivB i j):E1 p K (tOp (rI CDivB fun i j=>.int (i.fdiv j)) ta tb) τ (.dat (.int (i.fdiv j))):=E1.opI ha hb hc fun _ _ _=>.int _
theorem E1.pow (hc:CPow i j):E1 p K (tOp (rI CPow fun i j=>.int (i ^ j.toNat)) ta tb) τ (.dat (.int (i ^ j.toNat))):=E1.opI ha hb hc fun _ _ _=>.int _
theorem E1.lt:E1 p K (tOp (rI0 fun i j=>.bl (decide (i < j))) ta tb) τ (.dat (.bool (decide (i < j)))):=E1.opI0 ha hb fun _ _ _=>.bool _
theorem E1.eq:E1 p K (tOp rEq ta tb) τ (.dat (.bool (decide (i=j)))):=E1.op2 ha hb fun W H0 H x y Q o0 o r1 r2 q=>by
  cases r1.int_inv;cases r2.int_inv
  refine ⟨rfl,q _ H Ev.refl o ?_⟩
  have e:decide (V.int i=V.int j)=decide (i=j):=by rw [decide_eq_decide];exact ⟨fun h=>by injection h,fun h=>by rw [h]⟩
  rw [e];exact .bool _
theorem E1.ne:E1 p K (tOp rNe ta tb) τ (.dat (.bool (!decide (i=j)))):=E1.op2 ha hb fun W H0 H x y Q o0 o r1 r2 q=>by
  cases r1.int_inv;cases r2.int_inv
  refine ⟨rfl,q _ H Ev.refl o ?_⟩
  have e:decide (V.int i=V.int j)=decide (i=j):=by rw [decide_eq_decide];exact ⟨fun h=>by injection h,fun h=>by rw [h]⟩
  rw [e];exact .bool _
end
theorem E1.neg {i:Int} (ha:E1 p K ta τ (.dat (.int i))):E1 p K (tUn (rU fun i=>.int (-i)) ta) τ (.dat (.int (-i))):=fun W L σ H Q rs o q=>ha W L σ H _ rs o fun x H1 s e e1 o1 rv=>by
  subst e;cases rv.int_inv
  exact ⟨i,rfl,q _ H1 _ rfl e1 o1 (.int _)⟩
noncomputable def datOf:Sl->Option Dat
  | .dat d=>some d
  | .vw ds=>some (.list ds)
  | .own ds=>some (.list ds)
  | _=>none
theorem Rv.isD {d:Dat} (h:Rv p W K H0 H v s) (e:datOf s=some d):Is K H v d:=by
  cases s with
  | un=>cases e
  | pu=>cases e
  | dat d'=>cases e;exact Dz.is h
  | own ds=>cases e;obtain ⟨a,vs,rfl,_,h2,h3⟩:=h;exact .lst (SqL.of h2) h3.is
  | dt ds=>cases e
  | vw ds=>cases e;obtain ⟨a,vs,rfl,h2,h3⟩:=h;exact .lst h2.sq h3.is
theorem E1.eqD {a b:Sl} {d e:Dat} (ha:E1 p K ta τ a) (hb:E1 p K tb τ b) (ea:datOf a=some d) (eb:datOf b=some e) (k1:PySem.W.kqdOk 9 d=true) (k2:PySem.W.kqdOk 9 e=true):E1 p K (tOp (rEqD K false) ta tb) τ (.dat (.bool (deq d e))) :=
  E1.op2 ha hb fun W H0 H x y Q o0 o r1 r2 q=>⟨d,e,r1.isD ea,r2.isD eb,k1,k2,q _ H Ev.refl o (.bool _)⟩
theorem atI_dz {N:Addr->Prop} {xs:List V} {ds:List Dat} {i:Int} {d:Dat} (h:Dzs N K H xs ds) (e:atI ds i=some d):∃ x,atI xs i=some x/\Dz N K H x d:=by
  unfold atI at e ⊢
  rw [h.len]
  cases q:ixN ds.length i with
  | none=>rw [q] at e;cases e
  | some j =>
    rw [q] at e
    obtain ⟨x,e1,e2⟩:=h.get (i:=j) (by simpa using e)
    exact ⟨x,by simpa using e1,e2⟩
theorem E1.ixT {ds:List Dat} {i:Int} {d:Dat} (ha:E1 p K ta τ (.dat (.tuple ds))) (hb:E1 p K tb τ (.dat (.int i))) (h:atI ds i=some d):E1 p K (tOp (rIxT K) ta tb) τ (.dat d) :=
  E1.op2 ha hb fun W H0 H x y Q o0 o r1 r2 q=>by
    cases r2.int_inv
    cases r1 with
    | tup h1 h2 =>
      obtain ⟨x,e1,e2⟩:=atI_dz h2 h
      exact ⟨_,_,i,x,rfl,rfl,h1,e1,q _ H Ev.refl o e2⟩
theorem E1.ixL {ds:List Dat} {i:Int} {d:Dat} (ha:E1 p K ta τ (.vw ds)) (hb:E1 p K tb τ (.dat (.int i))) (h:atI ds i=some d):E1 p K (tOp (rIxL K) ta tb) τ (.dat d) :=
  E1.op2 ha hb fun W H0 H x y Q o0 o r1 r2 q=>by
    cases r2.int_inv
    obtain ⟨a,vs,rfl,h1,h2⟩:=r1
    obtain ⟨x,e1,e2⟩:=atI_dz h2 h
    exact ⟨_,_,i,x,rfl,rfl,h1.sq,e1,q _ H Ev.refl o e2⟩
theorem E1.isN {d:Dat} (ha:E1 p K ta τ (.dat d)) (hb:E1 p K tb τ (.dat .none)):E1 p K (tOp (fun x y H Q=>y = .non/\Q (.bl (decide (x = .non))) H) ta tb) τ (.dat (.bool (match d with | .none=>true | _=>false))) :=
  E1.op2 ha hb fun W H0 H x y Q o0 o r1 r2 q=>by
    refine ⟨r2.non_inv,q _ H Ev.refl o ?_⟩
    cases r1 <;> exact .bool _
theorem A1.nil:A1 p K tNil τ []:=fun W L σ H Q rs o q=>q [] H _ rfl Ev.refl o .nil
theorem A.cons {C1:Sl->Prop} {C2:Sl->List Sl->Prop} {C:List Sl->Prop} (ha:E p K te τ C1) (hr:∀ s,C1 s->A p K tas τ (C2 s)) (m:∀ s ss,C1 s->C2 s ss->C (s :: ss)):A p K (tCons te tas) τ C:=fun W L σ H Q rs o q =>
  ha W L σ H _ rs o fun x H1 s c1 e1 o1 rv1=>hr s c1 W L σ H1 _ (rs.ev e1 o.pw) o1 fun xs H2 ss c2 e2 o2 rv2=>q _ H2 _ (m s ss c1 c2) (e1.trans e2) o2 (.cons (rv1.ev e2 o1 o) (rv2.base e1 o1))
theorem A1.cons {ss:List Sl} (ha:E1 p K te τ s) (hr:A1 p K tas τ ss):A1 p K (tCons te tas) τ (s :: ss):=A.cons (C2:=fun _ x=>ss=x) ha (fun _ _=>hr) fun s ss h1 h2=>by rw [h1,h2]
theorem Rvs.dats {ds:List Dat} {vs:List V} (h:Rvs p W K H0 H vs (ds.map .dat)):Dzs (fun a=>¬ W a) K H vs ds:=by
  induction ds generalizing vs with
  | nil=>cases h;exact .nil
  | cons d r ih =>
    cases h with
    | cons a t=>exact .cons a (ih t)
theorem Rvs.len {ss:List Sl} {vs:List V} (h:Rvs p W K H0 H vs ss):vs.length=ss.length:=by
  induction h with
  | nil=>rfl
  | cons _ _ ih=>rw [List.length_cons,List.length_cons,ih]
theorem E1.tup {ds:List Dat} (h:A1 p K tas τ (ds.map .dat)) (hz:ds.length<=sizeLine):E1 p K (tTup tas) τ (.dat (.tuple ds)):=fun W L σ H Q rs o q =>
  h W L σ H _ rs o fun vs H1 ss e e1 o1 rv=>by
    subst e
    refine ⟨by rw [rv.len,List.length_map];exact hz,fun a ha=>?_⟩
    have s1:=Same.new ha (.tup vs)
    exact q _ _ _ rfl (e1.trans (Ev.of s1)) (o1.same s1) (.tup (SqT.of upd_same) (rv.dats.ev (W:=Pp p) (Ev.of s1) o1.nw))
theorem E1.lst {ds:List Dat} (h:A1 p K tas τ (ds.map .dat)) (hz:ds.length<=sizeLine):E1 p K (tLst tas) τ (.own ds):=fun W L σ H Q rs o q =>
  h W L σ H _ rs o fun vs H1 ss e e1 o1 rv=>by
    subst e
    refine ⟨by rw [rv.len,List.length_map];exact hz,fun a ha=>?_⟩
    have s1:=Same.new ha (.lst vs)
    exact q _ _ _ rfl (e1.trans (Ev.of s1)) (o1.same s1) ⟨a,vs,rfl,o1.back e1 ha,upd_same,rv.dats.ev (W:=Pp p) (Ev.of s1) o1.nw⟩
theorem E1.to {s':Sl} (h:E1 p K te τ s) (e:s=s'):E1 p K te τ s':=e ▸ h
theorem T1.test {b:Bool} (h:E1 p K te τ (.dat (.bool b))):T1 p K (tTest te) τ b:=fun W L σ H Q rs o q=>h W L σ H _ rs o fun v H' s e e1 o1 rv=>by
  subst e;cases rv.bl_inv;exact ⟨b,rfl,q b H' rfl e1 o1⟩
theorem T1.val {b:Bool} (h:E1 p K te τ (.dat (.bool b))):T1 p K (tB te) τ b:=fun W L σ H Q rs o q=>h W L σ H _ rs o fun v H' s e e1 o1 rv=>by
  subst e;cases rv.bl_inv;exact ⟨b,rfl,q b H' rfl e1 o1⟩
theorem T1.not {tt:TT} {b:Bool} (h:T1 p K tt τ b):T1 p K (tNot tt) τ (!b):=fun W L σ H Q rs o q=>h W L σ H _ rs o fun v H' e e1 o1=>by
  subst e;exact q _ H' rfl e1 o1
theorem T.and {tt tu:TT} {C D:Bool->Prop} (h:T p K tt τ C) (ht:C true->T p K tu τ D) (hf:C false->D false):T p K (tAnd tt tu) τ D:=fun W L σ H Q rs o q=>h W L σ H _ rs o fun v H' c e1 o1=>by
  cases v with
  | true=>rw [if_pos rfl];exact ht c W L σ H' _ (rs.ev e1 o.pw) o1 fun b H2 d e2=>q b H2 d (e1.trans e2)
  | false=>rw [if_neg (by decide)];exact q _ H' (hf c) e1 o1
theorem T.or {tt tu:TT} {C D:Bool->Prop} (h:T p K tt τ C) (ht:C true->D true) (hf:C false->T p K tu τ D):T p K (tOr tt tu) τ D:=fun W L σ H Q rs o q=>h W L σ H _ rs o fun v H' c e1 o1=>by
  cases v with
  | false=>rw [if_neg (by decide)];exact hf c W L σ H' _ (rs.ev e1 o.pw) o1 fun b H2 d e2=>q b H2 d (e1.trans e2)
  | true=>rw [if_pos rfl];exact q _ H' (ht c) e1 o1
theorem T1.orF {tt tu:TT} (h:T1 p K tt τ false) (h2:T1 p K tu τ false):T1 p K (tOr tt tu) τ false:=T.or h (fun z=>by cases z) fun _=>h2
theorem T1.or1 {tt tu:TT} {b c:Bool} (h:T1 p K tt τ b) (h2:T1 p K tu τ c):T1 p K (tOr tt tu) τ (b || c):=T.or h (fun z=>by rw [z];rfl) fun z=>by rw [z];exact h2
theorem T1.and1 {tt tu:TT} {b c:Bool} (h:T1 p K tt τ b) (h2:T1 p K tu τ c):T1 p K (tAnd tt tu) τ (b && c):=T.and h (fun z=>by rw [z];exact h2) fun z=>by rw [z];rfl
theorem E1.andV {b c:Bool} (h:E1 p K ta τ (.dat (.bool b))) (h2:b=true->E1 p K tb τ (.dat (.bool c))) (hc:b=false->c=false):E1 p K (tAndV ta tb) τ (.dat (.bool c)):=fun W L σ H Q rs o q=>h W L σ H _ rs o fun v H' s e e1 o1 rv=>by
  subst e;cases rv.bl_inv
  refine ⟨b,rfl,?_⟩
  cases b with
  | true=>rw [if_pos rfl];exact h2 rfl W L σ H' _ (rs.ev e1 o.pw) o1 fun v H2 s e e2 o2 rv=>q v H2 s e (e1.trans e2) o2 (rv.base e1 o1)
  | false=>rw [if_neg (by decide)];rw [hc rfl] at q;exact q _ H' _ rfl e1 o1 (.bool _)
end
end D
end
section
namespace D
open PySem L2 K0
open PySem.W (Dat)
noncomputable def Rr (p:Option Addr) (W:Addr->Prop) (K:PySem.W.Frag) (L:List Addr) (H H':Hp) (v:V):Sl->Prop
  | .own ds=>∃ a vs,v = .ref a/\(a ∈ L\/H a=none)/\H' a=some (.lst vs)/\Dzs (fun a=>¬ W a) K H' vs ds
  | .dt o=>∃ a l,v = .ref a/\(∀ b,b ∈ l->b ∈ L\/H b=none)/\o.R (fun a=>¬ W a) K H' a l
  | s=>Rv p W K H H' v s
section
variable (p:Option Addr) (K:PySem.W.Frag)
noncomputable def S (ts:TS) (τ:List Sl) (nx:List Sl->Prop) (rt:Sl->Prop):Prop:=∀ (W:Addr->Prop) (L:List Addr) (σ:St) (H:Hp) (D:Ends),Rs p W K H L σ τ->Ok p W H ->
  (∀ (W':Addr->Prop) (L':List Addr) σ' H' τ',nx τ'->Ev W H H'->Ok p W' H'->(∀ a,W a->∃ ys,H' a=some ys)->(∀ a,W' a->W a\/H a=none)->(∀ a,a ∈ L'->a ∈ L\/H a=none)->Rs p W' K H' L' σ' τ'->D.nx σ' H') ->
  (∀ (W':Addr->Prop) H' v s,rt s->Ev W H H'->Ok p W' H'->(∀ a,W a->∃ ys,H' a=some ys)->(∀ a,W' a->W a\/H a=none)->Rr p W' K L H H' v s->D.rt v H')->ts D σ H
end
section
variable {p:Option Addr} {K:PySem.W.Frag} {W:Addr->Prop} {L:List Addr} {σ:St} {H H0 H1 H2:Hp} {τ:List Sl} {te:TE} {v:V} {s:Sl} {nx:List Sl->Prop} {rt:Sl->Prop} {t u:TS}
theorem Rv.rr (h:Rv p W K H0 H v s):Rr p W K L H0 H v s:=by
  cases s with
  | own ds=>obtain ⟨a,vs,e,h1,h2⟩:=h;exact ⟨a,vs,e,.inr h1,h2⟩
  | dt ds=>obtain ⟨a,vs,e,h1,h2⟩:=h;exact ⟨a,vs,e,fun b hb=>.inr (h1 b hb),h2⟩
  | _=>exact h
theorem Rr.base {L':List Addr} (h:Rr p W K L' H1 H v s) (hn:∀ a,H1 a=none->H0 a=none) (hl:∀ a,a ∈ L'->a ∈ L\/H0 a=none):Rr p W K L H0 H v s:=by
  cases s with
  | own ds=>obtain ⟨a,vs,e,h1,h2⟩:=h;exact ⟨a,vs,e,h1.elim (hl a) fun z=>.inr (hn a z),h2⟩
  | dt ds=>obtain ⟨a,vs,e,h1,h2⟩:=h;exact ⟨a,vs,e,fun b hb=>(h1 b hb).elim (hl b) fun z=>.inr (hn b z),h2⟩
  | _=>exact h
theorem Ev.ofP (e:Ev (Pp p) H H1) (o:Ok p W H):Ev W H H1:=e.mono o.pw
theorem Ev.chain {W W':Addr->Prop} (e:Ev W H H1) (e2:Ev W' H1 H2) (n:∀ a,W' a->W a\/H a=none):Ev W H H2:=⟨fun b o nb h=>e2.keep b o (fun z=>by
  rcases n b z with y | y
  . exact nb y
  . rw [h] at y;cases y) (e.keep b o nb h),e.tm.trans e2.tm⟩
theorem Ev.none (e:Ev W H H1) (al:∀ a,W a->∃ ys,H1 a=some ys) {a:Addr} (h:H1 a=none):H a=none:=by
  cases q:H a with
  | none=>rfl
  | some u =>
    by_cases z:W a
    . obtain ⟨ys,e2⟩:=al a z;rw [h] at e2;cases e2
    . rw [e.keep _ _ z q] at h;cases h
theorem al_chain {W W1:Addr->Prop} (w1:∀ a,W a->∃ ys,H1 a=some ys) (w2:∀ a,W1 a->∃ ys,H2 a=some ys) (e2:Ev W1 H1 H2):∀ a,W a->∃ ys,H2 a=some ys:=fun a ha=>by
  by_cases z:W1 a
  . exact w2 a z
  . obtain ⟨ys,h⟩:=w1 a ha;exact ⟨ys,e2.keep _ _ z h⟩
theorem S.seq {M : List Sl -> Prop} (h1 : S p K t τ M rt) (h2 : ∀ τ', M τ' -> S p K u τ' nx rt) : S p K (tSeq t u) τ nx rt := fun W L σ H D r o q1 q2 =>
  h1 W L σ H _ r o (fun W1 L1 σ1 H1 τ1 m e1 o1 w1 n1 l1 r1=>by
    have hn:∀ a,H1 a=none->H a=none:=fun a ha=>e1.none w1 ha
    exact h2 τ1 m W1 L1 σ1 H1 D r1 o1 (fun W2 L2 σ2 H2 τ2 c e2 o2 w2 n2 l2 r2=>q1 W2 L2 σ2 H2 τ2 c (e1.chain e2 n1) o2 (al_chain w1 w2 e2)
        (fun a ha=>(n2 a ha).elim (n1 a) fun z=>.inr (hn a z)) (fun a ha=>(l2 a ha).elim (l1 a) fun z=>.inr (hn a z)) r2)
      fun W2 H2 v s c e2 o2 w2 n2 rv=>q2 W2 H2 v s c (e1.chain e2 n1) o2 (al_chain w1 w2 e2) (fun a ha=>(n2 a ha).elim (n1 a) fun z=>.inr (hn a z)) (rv.base hn l1)) q2
theorem S.next (h:nx τ):S p K tNext τ nx rt:=fun W L σ H D r o q1 q2=>q1 W L σ H τ h Ev.refl o o.al (fun _ h=>.inl h) (fun _ h=>.inl h) r
theorem S.ret {C:Sl->Prop} (h:E p K te τ C) (m:∀ s,C s->rt s):S p K (tRet te) τ nx rt:=fun W L σ H D r o q1 q2=>h W L σ H _ r o fun v H' s c e o' rv=>q2 W H' v s (m s c) (e.ofP o) o' o'.al (fun _ h=>.inl h) rv.rr
theorem S.ret1 (h:E1 p K te τ s) (m:rt s):S p K (tRet te) τ nx rt:=S.ret h fun x e=>e ▸ m
theorem S.iff {tc:TT} {C:Bool->Prop} (h:T p K tc τ C) (ht:C true->S p K t τ nx rt) (hf:C false->S p K u τ nx rt):S p K (tIfS tc t u) τ nx rt:=fun W L σ H D r o q1 q2=>h W L σ H _ r o fun b H1 c e o1=>by
  have e1:=e.ofP o
  have hn:∀ a,H1 a=none->H a=none:=fun a ha=>e1.none (fun a h=>o1.al a h) ha
  have go:∀ {t:TS},S p K t τ nx rt->t D σ H1:=fun h=>h W L σ H1 D (r.ev e o.pw) o1 (fun W2 L2 σ2 H2 τ2 c e2 o2 w2 n2 l2 r2=>q1 W2 L2 σ2 H2 τ2 c (e1.trans e2) o2 (al_chain o1.al w2 e2) (fun a ha=>(n2 a ha).elim .inl fun z=>.inr (hn a z)) (fun a ha=>(l2 a ha).elim .inl fun z=>.inr (hn a z)) r2)
      fun W2 H2 v s c e2 o2 w2 n2 rv=>q2 W2 H2 v s c (e1.trans e2) o2 (al_chain o1.al w2 e2) (fun a ha=>(n2 a ha).elim .inl fun z=>.inr (hn a z)) (rv.base hn fun _ h=>.inl h)
  cases b with
  | true=>rw [if_pos rfl];exact go (ht c)
  | false=>rw [if_neg (by decide)];exact go (hf c)
theorem S.if1 {tc:TT} {b:Bool} (h:T1 p K tc τ b) (ht:b=true->S p K t τ nx rt) (hf:b=false->S p K u τ nx rt):S p K (tIfS tc t u) τ nx rt:=S.iff h ht hf
theorem S.ifF {tc:TT} (h:T1 p K tc τ false) (hf:S p K u τ nx rt):S p K (tIfS tc t u) τ nx rt:=S.iff h (fun z=>by cases z) fun _=>hf
theorem S.ifs {tc:TT} {b:Bool} (h:T1 p K tc τ b) (ht:b=true->S p K t τ (fun τ'=>S p K u τ' nx rt) rt) (hf:b=false->S p K u τ nx rt):S p K (tSeq (tIfS tc t tNext) u) τ nx rt :=
  S.seq (M:=fun τ'=>S p K u τ' nx rt) (S.if1 h ht fun z=>S.next (hf z)) fun _ h=>h
theorem S.ifsF {tc:TT} (h:T1 p K tc τ false) (hf:S p K u τ nx rt):S p K (tSeq (tIfS tc t tNext) u) τ nx rt:=S.ifs h (fun z=>by cases z) fun _=>hf
noncomputable def flat:Sl->Bool
  | .own _=>false
  | .dt _=>false
  | .vw _=>false
  | _=>true
theorem S.asg {C:Sl->Prop} {i:Nat} (h:E p K te τ C) (hf:∀ s,C s->flat s=true) (m:∀ s,C s->nx (τ.set i s)):S p K (tAsg te (gName i)) τ nx rt:=fun W L σ H D r o q1 q2=>h W L σ H _ r o fun v H1 s c e o1 rv=>by
  have z:=hf s c
  obtain ⟨L',l,r'⟩:=(r.ev e o.pw).set (v:=v) (s:=s) (by
    cases s with
    | un=>exact .inl rfl
    | dat d=>exact .inr (.inl ⟨d,rfl,rv⟩)
    | pu=>exact .inr (.inr ⟨rfl,rv⟩)
    | own ds=>cases z
    | dt ds=>cases z
    | vw ds=>cases z) i
  exact q1 W L' _ H1 _ (m s c) (e.ofP o) o1 o1.al (fun _ h=>.inl h) (fun a ha=>.inl (l a ha)) r'
theorem S.letC {C:Sl->Prop} {i:Nat} (h:E p K te τ C) (hf:∀ s,C s->flat s=true) (m:∀ s,C s->S p K u (τ.set i s) nx rt):S p K (tSeq (tAsg te (gName i)) u) τ nx rt :=
  S.seq (M:=fun τ'=>∃ s,C s/\τ'=τ.set i s) (S.asg h hf fun s c=>⟨s,c,rfl⟩) fun τ' ⟨s,c,e⟩=>e ▸ m s c
theorem S.let1 {i:Nat} {τ':List Sl} (h:E1 p K te τ s) (m:S p K u τ' nx rt) (e:τ.set i s=τ':=by rfl) (hf:flat s=true:=by rfl):S p K (tSeq (tAsg te (gName i)) u) τ nx rt :=
  S.letC h (fun x y=>y ▸ hf) fun x y=>by subst y;rw [e];exact m
theorem S.asg1 {i:Nat} {τ':List Sl} (h:E1 p K te τ s) (m:nx τ') (e:τ.set i s=τ':=by rfl) (hf:flat s=true:=by rfl):S p K (tAsg te (gName i)) τ nx rt :=
  S.asg h (fun x y=>y ▸ hf) fun x y=>by subst y;rw [e];exact m
theorem Rs.setO (r : Rs p W K H L σ τ) {a : Addr} {vs : List V} {ds : List Dat} (wa : W a) (np : p ≠ some a) (nl : a ∉ L) (h : H a = some (.lst vs)) (z : Dzs (fun a => ¬ W a) K H vs ds) : ∀ (i : Nat), ∃ L', (∀ b, b ∈ L' -> b = a \/ b ∈ L) /\ Rs p W K H L' (σ.set i (some (.ref a))) (τ.set i (.own ds)) := by
  induction r with
  | nil=>intro i;exact ⟨[],fun _ h=>.inr h,.nil⟩
  | un r ih =>
    intro i
    match i with
    | 0=>exact ⟨_,fun b hb=>by simpa using hb,.own wa np nl h z r⟩
    | i + 1=>obtain ⟨L',h1,h2⟩:=ih nl i;exact ⟨L',h1,.un h2⟩
  | dat y r ih =>
    intro i
    match i with
    | 0=>exact ⟨_,fun b hb=>by simpa using hb,.own wa np nl h z r⟩
    | i + 1=>obtain ⟨L',h1,h2⟩:=ih nl i;exact ⟨L',h1,.dat y h2⟩
  | pu y r ih =>
    intro i
    match i with
    | 0=>exact ⟨_,fun b hb=>by simpa using hb,.own wa np nl h z r⟩
    | i + 1=>obtain ⟨L',h1,h2⟩:=ih nl i;exact ⟨L',h1,.pu y h2⟩
  | own g1 g2 g3 g4 g5 r ih =>
    intro i
    have nl':=fun y=>nl (List.mem_cons_of_mem _ y)
    match i with
    | 0=>exact ⟨_,fun b hb=>(List.mem_cons.mp hb).imp id (List.mem_cons_of_mem _),.own wa np nl' h z r⟩
    | i + 1 =>
      obtain ⟨L',h1,h2⟩:=ih nl' i
      refine ⟨_ :: L',fun b hb=>?_,.own g1 g2 (fun y=>?_) g4 g5 h2⟩
      . rcases List.mem_cons.mp hb with rfl | hb
        . exact .inr List.mem_cons_self
        . exact (h1 b hb).imp id (List.mem_cons_of_mem _)
      . rcases h1 _ y with y | y
        . exact nl (y ▸ List.mem_cons_self)
        . exact g3 y
  | dt g1 g2 g3 g4 r ih =>
    intro i
    have nl':=fun y=>nl (List.mem_append_right _ y)
    match i with
    | 0=>exact ⟨_,fun b hb=>(List.mem_cons.mp hb).imp id (List.mem_append_right _),.own wa np nl' h z r⟩
    | i + 1 =>
      obtain ⟨L',h1,h2⟩:=ih nl' i
      refine ⟨_ ++ L',fun b hb=>?_,.dt g1 g2 (fun b hb y=>?_) g4 h2⟩
      . rcases List.mem_append.mp hb with hb | hb
        . exact .inr (List.mem_append_left _ hb)
        . exact (h1 b hb).imp id (List.mem_append_right _)
      . rcases h1 _ y with y | y
        . exact nl (y ▸ List.mem_append_left _ hb)
        . exact g3 b hb y
theorem Rs.own_in (r:Rs p W K H L σ τ):∀ a,a ∈ L->∃ vs,H a=some vs:=by
  induction r with
  | nil=>intro a h;cases h
  | un _ ih=>exact ih
  | dat _ _ ih=>exact ih
  | pu _ _ ih=>exact ih
  | own _ _ _ h4 _ _ ih => intro a h; rcases List.mem_cons.mp h with rfl | h
                           . exact ⟨_,h4⟩
                           . exact ih a h
  | dt _ _ _ h4 _ ih =>
    intro a h;rcases List.mem_append.mp h with h | h
    . exact Own.al _ h4 a h
    . exact ih a h
theorem Dzs.wide {W W':Addr->Prop} {vs:List V} {ds:List Dat} (h:Dzs (fun a=>¬ W a) K H vs ds) (n:∀ a,W' a->¬ W a->H a=none):Dzs (fun a=>¬ W' a) K H vs ds:=by
  exact go n h
where
  go {W W':Addr->Prop} (n:∀ a,W' a->¬ W a->H a=none):∀ {vs:List V} {ds:List Dat},Dzs (fun a=>¬ W a) K H vs ds->Dzs (fun a=>¬ W' a) K H vs ds
    | _,_,.nil=>.nil
    | _,_,.cons h r=>.cons (go1 n h) (go n r)
  go1 {W W':Addr->Prop} (n:∀ a,W' a->¬ W a->H a=none):∀ {v:V} {d:Dat},Dz (fun a=>¬ W a) K H v d->Dz (fun a=>¬ W' a) K H v d
    | _,_,.none=>.none
    | _,_,.bool b=>.bool b
    | _,_,.int i=>.int i
    | _,_,.str x=>.str x
    | _,_,.tup h r=>.tup h (go n r)
    | _,_,.lst h r=>.lst (by
        rcases h with ⟨nn,h⟩ | h
        . refine .inl ⟨fun z=>?_,h⟩
          have e1:=n _ z nn
          rcases h with h | ⟨o,h⟩
          . rw [e1] at h;cases h
          . rw [e1] at h;cases h
        . exact .inr h) (go n r)
    | _,_,.exc nn h=>.exc (fun z=>by obtain ⟨_,_,q,_⟩:=h;rw [n _ z nn] at q;cases q) h
theorem S.letOC {C:List Dat->Prop} {i:Nat} (h:E p K te τ (fun s=>∃ ds,s = .own ds/\noLs ds=true/\C ds)) (m:∀ ds,C ds->S p K u (τ.set i (.own ds)) nx rt):S p K (tSeq (tAsg te (gName i)) u) τ nx rt:=by
  refine S.seq (M:=fun τ'=>∃ ds,C ds/\τ'=τ.set i (.own ds)) (fun W L σ H D r o q1 q2=>?_) fun τ' ⟨ds,c,e⟩=>e ▸ m ds c
  refine h W L σ H _ r o fun v H1 s c e o1 rv=>?_
  obtain ⟨ds,rfl,nl,cd⟩:=c
  obtain ⟨a,vs,rfl,h1,h2,h3⟩:=rv
  have nw:=o.fresh h1
  have wid:∀ b,(W b\/b=a)->¬ W b->H b=none:=fun b hb nb=>(hb.resolve_left nb) ▸ h1
  have r1:Rs p (fun b=>W b\/b=a) K H1 L σ τ:=(r.wide (fun _ h=>.inl h) wid).ev e fun q hq=>.inl (o.pw q hq)
  have al:a ∉ L:=fun z=>by obtain ⟨_,y⟩:=r.own_in a z;rw [h1] at y;cases y
  obtain ⟨L',l,r2⟩:=r1.setO (.inr rfl) (o.np h1) al h2 (h3.free nl) i
  refine q1 _ L' _ H1 _ ⟨ds,cd,rfl⟩ (e.ofP o) ⟨fun q hq=>⟨(o1.pu q hq).1,.inl (o1.pw q hq)⟩,fun b hb=>?_⟩ o1.al (fun b hb=>hb.imp id fun (z:b=a)=>by rw [z];exact h1) (fun b hb=>?_) r2
  . rcases hb with hb | rfl
    . exact o1.al b hb
    . exact ⟨_,h2⟩
  . rcases l b hb with rfl | hb
    . exact .inr h1
    . exact .inl hb
theorem S.letO {ds:List Dat} {i:Nat} {τ':List Sl} (h:E1 p K te τ (.own ds)) (nl:noLs ds=true) (m:S p K u τ' nx rt) (e:τ.set i (.own ds)=τ':=by rfl):S p K (tSeq (tAsg te (gName i)) u) τ nx rt :=
  S.letOC (C:=fun x=>ds=x) (E.mono h fun s hs=>⟨ds,hs.symm,nl,rfl⟩) fun x hx=>by subst hx;rw [e];exact m
theorem Rs.chg (r:Rs p W K H L σ τ) {a:Addr} {vs0 vs:List V} (ha:W a) (h0:H a=some (.lst vs0)):a ∉ L->Rs p W K (upd H a (.lst vs)) L σ τ:=by
  have ev:Ev (fun b=>b=a) H (upd H a (.lst vs)):=⟨fun b o n h=>by rw [upd_ne n];exact h,Tm.lst h0 _⟩
  have nw:∀ b,¬ W b->¬ b=a:=fun b n z=>n (z ▸ ha)
  induction r with
  | nil=>intro _;exact .nil
  | un _ ih=>intro h;exact .un (ih h)
  | dat h _ ih=>intro n;exact .dat (h.ev ev nw) (ih n)
  | pu h _ ih=>intro n;exact .pu h (ih n)
  | own h1 h2 h3 h4 h5 _ ih =>
    intro n
    refine .own h1 h2 h3 ?_ (h5.ev ev nw) (ih fun z=>n (List.mem_cons_of_mem _ z))
    rw [upd_ne (fun z=>n (by rw [<- z];exact List.mem_cons_self))];exact h4
  | dt h1 h2 h3 h4 _ ih =>
    intro n
    exact .dt h1 h2 h3 (Own.ev _ h4 ev nw fun b o hb h=>by rw [upd_ne (fun (z:b=a)=>n (z ▸ List.mem_append_left _ hb))];exact h) (ih fun z=>n (List.mem_append_right _ z))
theorem Rs.chgO {a:Addr} {vs0 vs:List V} {ds:List Dat} (ha:W a) (h0:H a=some (.lst vs0)) (hz:Dzs (fun a=>¬ W a) K (upd H a (.lst vs)) vs ds):∀ {L:List Addr} {σ:St} {τ:List Sl},Rs p W K H L σ τ->∀ {i:Nat} {ds0:List Dat},τ[i]?=some (.own ds0)->σ[i]?=some (some (.ref a))->Rs p W K (upd H a (.lst vs)) L σ (τ.set i (.own ds)):=by
  have ev:Ev (fun b=>b=a) H (upd H a (.lst vs)):=⟨fun b o n h=>by rw [upd_ne n];exact h,Tm.lst h0 _⟩
  have nw:∀ b,¬ W b->¬ b=a:=fun b n z=>n (z ▸ ha)
  intro L σ τ r
  induction r with
  | nil=>intro i ds0 h;simp at h
  | un r ih =>
    intro i ds0 h e
    match i,h,e with
    | 0,h,_=>simp at h
    | i + 1,h,e=>exact .un (ih (i:=i) (by simpa using h) (by simpa using e))
  | dat y r ih =>
    intro i ds0 h e
    match i,h,e with
    | 0,h,_=>simp at h
    | i + 1,h,e=>exact .dat (y.ev ev nw) (ih (i:=i) (by simpa using h) (by simpa using e))
  | pu y r ih =>
    intro i ds0 h e
    match i,h,e with
    | 0,h,_=>simp at h
    | i + 1,h,e=>exact .pu y (ih (i:=i) (by simpa using h) (by simpa using e))
  | own h1 h2 h3 h4 h5 r ih =>
    intro i ds0 h e
    match i,h,e with
    | 0,h,e =>
      simp at e;subst e
      exact .own h1 h2 h3 upd_same hz (r.chg h1 h4 h3)
    | i + 1,h,e =>
      have e':_:=e
      simp only [List.getElem?_cons_succ] at e'
      obtain ⟨a',vs',g1,g2,g3,g4,g5,g6⟩:=r.get_own (i:=i) (by simpa using h)
      rw [e'] at g1;cases g1
      refine .own h1 h2 h3 ?_ (h5.ev ev nw) (ih (i:=i) (by simpa using h) e')
      rw [upd_ne (fun z=>h3 (by rw [z];exact g4))];exact h4
  | dt h1 h2 h3 h4 r ih =>
    intro i ds0 h e
    match i,h,e with
    | 0,h,e =>
      simp at h
    | i + 1,h,e =>
      have e':_:=e
      simp only [List.getElem?_cons_succ] at e'
      obtain ⟨a',vs',g1,g2,g3,g4,g5,g6⟩:=r.get_own (i:=i) (by simpa using h)
      rw [e'] at g1;cases g1
      exact .dt h1 h2 h3 (Own.ev _ h4 ev nw fun b o hb h=>by rw [upd_ne (fun (z:b=a)=>h3 b hb (z ▸ g4))];exact h) (ih (i:=i) (by simpa using h) e')
end
end D
end
section
namespace D
open PySem L2 K0
open PySem.W (Dat)
noncomputable def Jd (W:Addr->Prop) (K:PySem.W.Frag) (J:It) (H:Hp) (ds:List Dat):Prop:=∀ (W':Addr->Prop) (H':Hp),Ev W H H'->(∀ a,W' a->W a\/H a=none)->J.stop ds.length H'/\∀ i d,ds[i]?=some d->J.go i H'/\∀ y H2,J.yld i H' y H2->Same H' H2/\Dz (fun a=>¬ W' a) K H2 y d
section
variable (p:Option Addr) (K:PySem.W.Frag)
noncomputable def Wk (wi:TI) (τ:List Sl) (ds:List Dat):Prop:=∀ (W:Addr->Prop) (L:List Addr) (σ:St) (H:Hp) (R:It->Hp->Prop),Rs p W K H L σ τ->Ok p W H->(∀ J H1,Ev (Pp p) H H1->Ok p W H1->Jd W K J H1 ds->R J H1)->wi σ H R
noncomputable def Gd (g:TG) (d:Dat) (τ τ':List Sl):Prop:=∀ (W:Addr->Prop) (L:List Addr) (σ:St) (H:Hp) (v:V) (Q:St->Hp->Prop),Rs p W K H L σ τ->Dz (fun a=>¬ W a) K H v d->(∀ L' σ',(∀ a,a ∈ L'->a ∈ L)->Rs p W K H L' σ' τ'->Q σ' H)->g v σ H Q
end
section
variable {p:Option Addr} {K:PySem.W.Frag} {W:Addr->Prop} {L:List Addr} {σ:St} {H H1 H2:Hp} {τ τ':List Sl} {tb:TE} {tas:TA} {v:V} {s:Sl} {nx:List Sl->Prop} {rt:Sl->Prop} {t:TS} {ds:List Dat} {wi:TI}
noncomputable def rangeD (lo:Int) (n:Nat):List Dat:=(List.range n).map fun (i:Nat)=>.int (lo + i)
theorem rangeD_get {lo:Int} {n i:Nat} {d:Dat} (h:(rangeD lo n)[i]?=some d):i < n/\d = .int (lo + i):=by
  unfold rangeD at h
  rw [List.getElem?_map] at h
  cases e:(List.range n)[i]? with
  | none=>rw [e] at h;cases h
  | some j =>
    rw [e] at h;cases h
    have hi:i < n:=by simpa using (List.getElem?_eq_some_iff.mp e).1
    have hj:j=i:=by
      have:=(List.getElem?_eq_some_iff.mp e).2
      simpa using this.symm
    subst hj
    exact ⟨hi,rfl⟩
theorem rangeD_len {lo:Int} {n:Nat}:(rangeD lo n).length=n:=by unfold rangeD;simp
theorem jd_rng {lo:Int} {n:Nat}:Jd W K (Itr lo n) H (rangeD lo n):=fun W' H' ev nn=>⟨by show n<=_;rw [rangeD_len];exact Nat.le_refl _,fun i d hd=>by
  obtain ⟨hi,rfl⟩:=rangeD_get hd
  exact ⟨hi,fun y H2 ⟨e1,e2⟩=>by subst e1 e2;exact ⟨Same.refl _,.int _⟩⟩⟩
theorem Wk.rng {j:Int} {n:Nat} (h:A1 p K tas τ [.dat (.int j)]) (hn:j.toNat=n) (h1 : -(2 ^ 62)<=j:=by decide) (h2:j < 2 ^ 62:=by decide):Wk p K (iRng1 tas) τ (rangeD 0 n):=fun W L σ H R r o q=>h W L σ H _ r o fun vs H1 ss e e1 o1 rv=>by
  subst e hn
  cases rv with
  | cons a t =>
    cases t
    cases a.int_inv
    exact ⟨j,rfl,h1,h2,q _ H1 e1 o1 jd_rng⟩
theorem Gd.name {i:Nat} {d:Dat} (e:τ.set i (.dat d)=τ':=by rfl):Gd p K (gName i) d τ τ':=fun W L σ H v Q r z q=>by
  obtain ⟨L',l,r'⟩:=r.set (v:=v) (s:=.dat d) (.inr (.inl ⟨d,rfl,z⟩)) i
  rw [e] at r'
  exact q L' _ l r'
theorem S.for {g:TG} {tb:TS} (hw:Wk p K wi τ ds) (I:Nat->List Sl->Prop) (h0:I 0 τ) (turn:∀ i d τ1,ds[i]?=some d->I i τ1->∃ τ2,Gd p K g d τ1 τ2/\S p K tb τ2 (I (i + 1)) rt) (done:∀ τ1,I ds.length τ1->nx τ1):S p K (tFor wi g tb) τ nx rt:=fun W L σ H D r o q1 q2=>by
  refine hw W L σ H _ r o fun J H1 e1 o1 jd=>?_
  have ew:=e1.ofP o
  have hn:∀ a,H1 a=none->H a=none:=fun a ha=>ew.none o1.al ha
  refine ⟨fun i m σ' H'=>m=ds.length - i/\i<=ds.length/\∃ (W':Addr->Prop) (L':List Addr) (τ1:List Sl),I i τ1/\Ev W H1 H'/\Ok p W' H'/\(∀ a,W a->∃ ys,H' a=some ys)/\(∀ a,W' a->W a\/H1 a=none)/\(∀ a,a ∈ L'->a ∈ L\/H1 a=none)/\Rs p W' K H' L' σ' τ1,
    ⟨ds.length,by omega,Nat.zero_le _,W,L,τ,h0,Ev.refl,o1,o1.al,fun _ h=>.inl h,fun _ h=>.inl h,r.ev e1 o.pw⟩,?_⟩
  rintro i m σ' H' ⟨rfl,hi,W',L',τ1,hI,ev,ok,al,nn,ll,rs⟩
  obtain ⟨stop,each⟩:=jd W' H' ev nn
  by_cases hlt:i < ds.length
  . have hd:ds[i]?=some ds[i]:=by simp [hlt]
    obtain ⟨go,yl⟩:=each i _ hd
    obtain ⟨τ2,hg,hb⟩:=turn i _ τ1 hd hI
    refine .inr ⟨go,fun σ'' H''=>ds.length - (i + 1)=ds.length - (i + 1)/\i + 1<=ds.length/\∃ (W':Addr->Prop) (L':List Addr) (τ1:List Sl),I (i + 1) τ1/\Ev W H1 H''/\Ok p W' H''/\(∀ a,W a->∃ ys,H'' a=some ys)/\(∀ a,W' a->W a\/H1 a=none)/\(∀ a,a ∈ L'->a ∈ L\/H1 a=none)/\Rs p W' K H'' L' σ'' τ1,fun σ'' H'' h=>⟨_,by omega,h⟩,fun x H2 y=>?_⟩
    obtain ⟨s2,z2⟩:=yl x H2 y
    have e2:Ev (Pp p) H' H2:=Ev.of s2
    have o2:=ok.same s2
    have ev2:Ev W H1 H2:=ev.trans (Ev.of s2)
    have al2:∀ a,W a->∃ ys,H2 a=some ys:=fun a ha=>let ⟨ys,h⟩:=al a ha;⟨ys,s2 _ _ h⟩
    have hn2:∀ a,H2 a=none->H1 a=none:=fun a ha=>ev2.none al2 ha
    refine hg W' L' σ' H2 x _ (rs.ev e2 ok.pw) z2 fun L3 σ3 l3 rs3=>?_
    refine hb W' L3 σ3 H2 _ rs3 o2 (fun W4 L4 σ4 H4 τ4 c e4 o4 w4 n4 l4 r4=>?_) (fun W4 H4 v s c e4 o4 w4 n4 rv=>?_)
    . exact ⟨rfl,hlt,W4,L4,τ4,c,ev2.chain e4 nn,o4,al_chain al2 w4 e4,fun a ha=>(n4 a ha).elim (nn a) fun z=>.inr (hn2 a z),fun a ha=>(l4 a ha).elim (fun z=>ll a (l3 a z)) fun z=>.inr (hn2 a z),r4⟩
    . have nn':∀ a,W' a->W a\/H a=none:=fun a ha=>(nn a ha).imp id (hn a)
      refine q2 W4 H4 v s c ((ew.trans ev2).chain e4 nn') o4 (al_chain al2 w4 e4) (fun a ha=>(n4 a ha).elim (nn' a) fun z=>.inr (hn a (hn2 a z))) (rv.base (fun a z=>hn a (hn2 a z)) fun a ha=>?_)
      exact (ll a (l3 a ha)).imp id (hn a)
  . have e:i=ds.length:=by omega
    subst e
    exact .inl ⟨stop,q1 W' L' σ' H' τ1 (done τ1 hI) (ew.trans ev) ok al (fun a ha=>(nn a ha).imp id (hn a)) (fun a ha=>(ll a ha).imp id (hn a)) rs⟩
theorem S.while {tc:TT} {tb:TS} (I:Nat->List Sl->Prop) {m0:Nat} (h0:I m0 τ) (turn:∀ m τ1,I m τ1->∃ C:Bool->Prop,T p K tc τ1 C/\(C true->S p K tb τ1 (fun τ2=>∃ m',m' < m/\I m' τ2) rt)/\(C false->nx τ1)):S p K (tWhile tc tb) τ nx rt:=fun W L σ H D r o q1 q2=>by
  refine ⟨fun m σ' H'=>∃ (W':Addr->Prop) (L':List Addr) (τ1:List Sl),I m τ1/\Ev W H H'/\Ok p W' H'/\(∀ a,W a->∃ ys,H' a=some ys)/\(∀ a,W' a->W a\/H a=none)/\(∀ a,a ∈ L'->a ∈ L\/H a=none)/\Rs p W' K H' L' σ' τ1,
    ⟨m0,W,L,τ,h0,Ev.refl,o,o.al,fun _ h=>.inl h,fun _ h=>.inl h,r⟩,?_⟩
  rintro m σ' H' ⟨W',L',τ1,hI,ev,ok,al,nn,ll,rs⟩
  obtain ⟨C,ht,hb,hx⟩:=turn m τ1 hI
  refine ht W' L' σ' H' _ rs ok fun b H2 c e2 o2=>?_
  have e2w:=e2.ofP ok
  have hn0:∀ a,H2 a=none->H' a=none:=fun a ha=>e2w.none o2.al ha
  have ev2:Ev W H H2:=ev.chain e2w nn
  have al2:∀ a,W a->∃ ys,H2 a=some ys:=al_chain al o2.al e2w
  have hn2:∀ a,H2 a=none->H a=none:=fun a ha=>ev2.none al2 ha
  have rs2:=rs.ev e2 ok.pw
  cases b with
  | false=>rw [if_neg (by decide)];exact q1 W' L' σ' H2 τ1 (hx c) ev2 o2 al2 nn ll rs2
  | true =>
    rw [if_pos rfl]
    refine ⟨fun σ4 H4=>∃ m',m' < m/\∃ (W':Addr->Prop) (L':List Addr) (τ1:List Sl),I m' τ1/\Ev W H H4/\Ok p W' H4/\(∀ a,W a->∃ ys,H4 a=some ys)/\(∀ a,W' a->W a\/H a=none)/\(∀ a,a ∈ L'->a ∈ L\/H a=none)/\Rs p W' K H4 L' σ4 τ1,fun σ4 H4 h=>h,?_⟩
    refine hb c W' L' σ' H2 _ rs2 o2 (fun W4 L4 σ4 H4 τ4 c e4 o4 w4 n4 l4 r4=>?_) (fun W4 H4 v s c e4 o4 w4 n4 rv=>?_)
    . obtain ⟨m',hm,hI'⟩:=c
      exact ⟨m',hm,W4,L4,τ4,hI',ev2.chain e4 nn,o4,al_chain al2 w4 e4,fun a ha=>(n4 a ha).elim (nn a) fun z=>.inr (hn2 a z),fun a ha=>(l4 a ha).elim (ll a) fun z=>.inr (hn2 a z),r4⟩
    . exact q2 W4 H4 v s c (ev2.chain e4 nn) o4 (al_chain al2 w4 e4) (fun a ha=>(n4 a ha).elim (nn a) fun z=>.inr (hn2 a z)) (rv.base hn2 ll)
end
end D
end
section
namespace D
open PySem L2 K0
open PySem.W (Dat)
section
variable {p:Option Addr} {K:PySem.W.Frag} {W:Addr->Prop} {L:List Addr} {σ:St} {H H1 H2:Hp} {τ:List Sl} {te:TE} {v:V} {s:Sl} {nx:List Sl->Prop} {u:TS} {ds:List Dat} {wi:TI} {tt:TT}
noncomputable def Gc (p:Option Addr) (K:PySem.W.Frag) (no:Nat) (g:TG) (d:Dat) (own:List Sl):Prop:=∀ (W:Addr->Prop) (L:List Addr) (ρ σ:St) (τ:List Sl) (H:Hp) (v:V) (Q:St->Hp->Prop),ρ.length=no->Rs p W K H L σ τ->Dz (fun a=>¬ W a) K H v d->(∀ ρ',ρ'.length=no->Rs p W K H L (ρ' ++ σ) (own ++ τ)->Q (ρ' ++ σ) H)->g v (ρ ++ σ) H Q
theorem Gc.name {d:Dat}:Gc p K 1 (gName 0) d [.dat d]:=fun W L ρ σ τ H v Q l r z q=>by
  match ρ,l with
  | [o],_=>exact q [some v] rfl (.dat z r)
theorem Rs.evx {X:Addr->Prop} {H':Hp} (r:Rs p W K H L σ τ) (e:Ev X H H') (nx:∀ a,¬ W a->¬ X a) (no:∀ a o,H a=some o->p ≠ some a->¬ X a):Rs p W K H' L σ τ:=by
  induction r with
  | nil=>exact .nil
  | un _ ih=>exact .un ih
  | dat h _ ih=>exact .dat (h.ev e nx) ih
  | pu h _ ih=>exact .pu h ih
  | own h1 h2 h3 h4 h5 _ ih=>exact .own h1 h2 h3 (e.keep _ _ (no _ _ h4 h2) h4) (h5.ev e nx) ih
  | dt h1 h2 h3 h4 _ ih=>exact .dt h1 h2 h3 (Own.ev _ h4 e nx fun b o hb h=>e.keep _ _ (no _ _ h (h2 b hb)) h) ih
theorem E.comp {no : Nat} {g : TG} (hw : Wk p K wi τ ds) (own : Dat -> List Sl) (hg : ∀ d, d ∈ ds -> Gc p K no g d (own d)) (kp : Dat -> Bool) (Cd : Dat -> Dat -> Prop) (ht : ∀ d, d ∈ ds -> T1 p K tt (own d ++ τ) (kp d))
    (turn:∀ d,d ∈ ds->kp d=true->E p K te (own d ++ τ) (fun s=>∃ e,s = .dat e/\Cd d e)) (hz:ds.length<=sizeLine) :
    E p K (tCompB no wi g tt te) τ (fun s=>∃ es,s = .own es/\es.length=(ds.filter kp).length/\∀ (i:Nat) (e:Dat),es[i]?=some e->∃ d,(ds.filter kp)[i]?=some d/\Cd d e):=fun W L σ H Q r o q=>by
  refine hw W L σ H _ r o fun J H1 e1 o1 jd=>?_
  intro D hD
  have nD:=o1.fresh hD
  have pD:=o1.np hD
  have r1:=r.ev e1 o.pw
  have r1':Rs p (fun b=>W b\/b=D) K H1 L σ τ:=r1.wide (fun _ h=>.inl h) fun b hb nb=>(hb.resolve_left nb) ▸ hD
  refine ⟨fun i m σ' H'=>m=ds.length - i/\i<=ds.length/\(∃ ρ,ρ.length=no/\σ'=ρ ++ σ)/\Ev (fun a=>Pp p a\/a=D) H1 H'/\(∀ q,p=some q->Pu H' q)/\∃ (vs:List V) (es:List Dat),H' D=some (.lst vs)/\Dzs (fun b=>¬ (W b\/b=D)) K H' vs es/\es.length=((ds.take i).filter kp).length/\∀ (j:Nat) (e:Dat),es[j]?=some e->∃ d,((ds.take i).filter kp)[j]?=some d/\Cd d e,
    ⟨ds.length,by omega,Nat.zero_le _,⟨List.replicate no none,by simp,rfl⟩,⟨fun b u nb h=>by rw [upd_ne (fun z=>nb (.inr z))];exact h,(Same.new hD _).tm⟩,fun q hq=>(o1.pu q hq).1.same (Same.new hD _),[],[],upd_same,.nil,by simp,fun j e h=>by simp at h⟩,?_⟩
  rintro i m σ' H' ⟨rfl,hi,⟨ρ,lρ,rfl⟩,ev,pu,vs,es,hv,zv,le,hes⟩
  have evW:Ev W H1 H':=⟨fun b u nb h=>ev.keep b u (fun z=>z.elim (fun y=>nb (o1.pw b y)) fun y=>by rw [y] at h;rw [hD] at h;cases h) h,ev.tm⟩
  have ok':Ok p (fun b=>W b\/b=D) H':=⟨fun q hq=>⟨pu q hq,.inl (o1.pw q hq)⟩,fun b hb=>by
    by_cases z:b=D
    . subst z;exact ⟨_,hv⟩
    . by_cases y:p=some b
      . obtain ⟨x1,x2,h⟩:=pu b y;exact ⟨_,h⟩
      . obtain ⟨ys,h⟩:=o1.al b (hb.resolve_right z)
        exact ⟨ys,ev.keep _ _ (fun w=>w.elim y z) h⟩⟩
  have evD:Ev (fun b=>W b\/b=D) H1 H':=evW.mono fun _ h=>.inl h
  have rs':Rs p (fun b=>W b\/b=D) K H' L σ τ:=by
    refine Rs.evx r1' ev (fun a ha z=>?_) fun a u ha np z=>?_
    . rcases z with z | z
      . exact ha (.inl (o1.pw a z))
      . exact ha (.inr z)
    . rcases z with z | z
      . exact np z
      . rw [z,hD] at ha;cases ha
  obtain ⟨stop,each⟩:=jd (fun b=>W b\/b=D) H' evW fun a ha=>ha.imp id fun z=>by rw [z];exact hD
  have o1f:H D=none:=o1.back e1 hD
  by_cases hlt:i < ds.length
  . have hd : ds[i]? = some ds[i] := by simp [hlt]
    have hm:ds[i] ∈ ds:=List.getElem_mem hlt
    obtain ⟨go,yl⟩:=each i _ hd
    have tk:ds.take (i + 1)=ds.take i ++ [ds[i]]:=by rw [List.take_add_one];simp [hlt]
    refine .inr ⟨go,fun x H2 y=>?_⟩
    obtain ⟨s2,z2⟩:=yl x H2 y
    have ok2:=ok'.same s2
    refine hg _ hm _ L ρ σ τ H2 x _ lρ (rs'.ev (Ev.of s2) ok'.pw) z2 fun ρ' lρ' rs2=>?_
    refine ht _ hm _ L _ H2 _ rs2 ok2 fun b H4 eb e4 o4=>?_
    have pvH:Ev (fun a=>Pp p a\/a=D) H' H4:=(Ev.of s2).trans (e4.mono fun _ h=>.inl h)
    have hv4:H4 D=some (.lst vs):=e4.keep _ _ pD (s2 _ _ hv)
    have zv4:Dzs (fun b=>¬ (W b\/b=D)) K H4 vs es:=(zv.ev (W:=fun _=>False) (Ev.of s2) fun _ _ h=>h).ev e4 fun a ha z=>ha (.inl (o1.pw a z))
    subst eb
    by_cases hk:kp ds[i]=true
    . rw [if_pos hk]
      refine turn _ hm hk _ L _ H4 _ (rs2.ev e4 ok2.pw) o4 fun v H5 s c e5 o5 rv=>?_
      obtain ⟨e,rfl,ce⟩:=c
      have hv5:H5 D=some (.lst vs):=e5.keep _ _ pD hv4
      have zv5:=zv4.ev e5 fun a ha z=>ha (.inl (o1.pw a z))
      have ll:vs.length<=i:=by rw [zv.len,le];exact Nat.le_trans (List.length_filter_le _ _) (by rw [List.length_take];omega)
      have evu:Ev (fun b=>b=D) H5 (upd H5 D (.lst (vs ++ [v]))):=⟨fun b o n h=>by rw [upd_ne n];exact h,Tm.lst hv5 _⟩
      refine ⟨vs,hv5,by omega,ds.length - (i + 1),by omega,rfl,hlt,⟨ρ',lρ',rfl⟩,(ev.trans (pvH.trans (e5.mono fun _ h=>.inl h))).trans (evu.mono fun _ h=>.inr h),fun q hq=>?_,vs ++ [v],es ++ [e],upd_same,(zv5.app (.cons rv .nil)).ev evu fun b hb z=>hb (.inr z),?_,fun j f hj=>?_⟩
      . obtain ⟨x1,x2,h⟩:=(o5.pu q hq).1
        exact ⟨x1,x2,by rw [upd_ne (fun z=>pD (by rw [<- z];exact hq))];exact h⟩
      . rw [tk,List.filter_append,List.length_append,List.length_append,le];simp [hk]
      . rw [tk,List.filter_append]
        have h1:[ds[i]].filter kp=[ds[i]]:=by simp [hk]
        rw [h1]
        by_cases hj2:j < es.length
        . rw [List.getElem?_append_left hj2] at hj
          rw [List.getElem?_append_left (by rw [<- le];exact hj2)]
          exact hes j f hj
        . rw [List.getElem?_append_right (by omega)] at hj
          have ej:j - es.length=0:=by
            have:=(List.getElem?_eq_some_iff.mp hj).1
            simp at this;omega
          rw [ej] at hj
          cases hj
          rw [List.getElem?_append_right (by omega), <- le,ej]
          exact ⟨_,rfl,ce⟩
    . rw [if_neg hk]
      refine ⟨ds.length - (i + 1),by omega,rfl,hlt,⟨ρ',lρ',rfl⟩,ev.trans pvH,fun q hq=>(o4.pu q hq).1,vs,es,hv4,zv4,?_,fun j f hj=>?_⟩
      . rw [tk,List.filter_append,List.length_append,le];simp [hk]
      . obtain ⟨d,h1,h2⟩:=hes j f hj
        rw [tk,List.filter_append]
        have h3:[ds[i]].filter kp=[]:=by simp [hk]
        rw [h3,List.append_nil]
        exact ⟨d,h1,h2⟩
  . have e:i=ds.length:=by omega
    subst e
    rw [List.take_length] at le hes
    have evP:Ev (Pp p) H1 H':=⟨fun b u nb h=>ev.keep b u (fun z=>z.elim nb fun y=>by rw [y] at h;rw [hD] at h;cases h) h,ev.tm⟩
    refine .inl ⟨stop,q _ H' _ ⟨es,rfl,le,hes⟩ (e1.trans evP) (o1.ev evP pu) ⟨D,vs,rfl,o1f,hv,zv.mono fun a ha z=>ha (.inl z)⟩⟩
end
end D
end
section
namespace D
open PySem L2 K0
open PySem.W (Dat)
section
variable {p:Option Addr} {K:PySem.W.Frag} {W:Addr->Prop} {L:List Addr} {σ:St} {H H0 H1:Hp} {τ τ':List Sl} {te:TE} {tas:TA} {v:V} {s:Sl} {t:TS} {ds:List Dat} {wi:TI} {tt:TT}
theorem T1.all:T1 p K tAll τ true:=fun W L σ H Q r o q=>q true H rfl Ev.refl o
theorem filter_true (ds:List Dat):ds.filter (fun _=>true)=ds:=List.filter_eq_self.mpr fun _ _=>rfl
theorem E.compC {Cd:Dat->Dat->Prop} (hw:Wk p K wi τ ds) (turn:∀ d,d ∈ ds->E p K te (.dat d :: τ) (fun s=>∃ e,s = .dat e/\Cd d e)) (hz:ds.length<=sizeLine) :
    E p K (tCompB 1 wi (gName 0) tAll te) τ (fun s=>∃ es,s = .own es/\es.length=ds.length/\∀ (i:Nat) (e:Dat),es[i]?=some e->∃ d,ds[i]?=some d/\Cd d e):=by
  have h:=E.comp (tt:=tAll) hw (fun d=>[.dat d]) (fun d _=>Gc.name) (fun _=>true) Cd (fun _ _=>T1.all) (fun d hd _=>turn d hd) hz
  rw [filter_true] at h
  exact h
theorem map_of {f:Dat->Dat} {es:List Dat} (l:es.length=ds.length) (h:∀ (i:Nat) (e:Dat),es[i]?=some e->∃ d,ds[i]?=some d/\f d=e):es=ds.map f:=by
  apply List.ext_getElem?
  intro i
  rw [List.getElem?_map]
  cases q:es[i]? with
  | none =>
    have:=List.getElem?_eq_none_iff.mp q
    rw [List.getElem?_eq_none (by omega)];rfl
  | some e=>obtain ⟨d,h1,h2⟩:=h i e q;rw [h1, <- h2];rfl
theorem E1.compF {f:Dat->Dat} {kp:Dat->Bool} (hw:Wk p K wi τ ds) (ht:∀ d,d ∈ ds->T1 p K tt (.dat d :: τ) (kp d)) (turn:∀ d,d ∈ ds->kp d=true->E1 p K te (.dat d :: τ) (.dat (f d))) (hz:ds.length<=sizeLine):E1 p K (tCompB 1 wi (gName 0) tt te) τ (.own ((ds.filter kp).map f)):=by
  refine E.mono (E.comp hw (fun d=>[.dat d]) (fun d _=>Gc.name) kp (fun d e=>f d=e) ht (fun d hd hk=>E.mono (turn d hd hk) fun s hs=>⟨_,hs.symm,rfl⟩) hz) fun s hs=>?_
  obtain ⟨es,rfl,l,h⟩:=hs
  rw [map_of l h]
noncomputable def p1:Dat->Dat
  | .tuple [x,_]=>x
  | d=>d
noncomputable def p2:Dat->Dat
  | .tuple [_,y]=>y
  | d=>d
theorem E1.cb1 {r:List V->Hp->VK->Prop} {a c:Sl} (ha:A1 p K tas τ [a]) (hr:∀ (W:Addr->Prop) (H0 H:Hp) (x:V) (Q:VK),Ok p W H0->Ok p W H->Ev (Pp p) H0 H->Rv p W K H0 H x a->(∀ v H',Ev (Pp p) H H'->Ok p W H'->Rv p W K H0 H' v c->Q v H')->r [x] H Q):E1 p K (tCB r tas) τ c:=fun W L σ H Q rs o q =>
  ha W L σ H _ rs o fun vs H1 ss e e1 o1 rv=>by
    subst e
    cases rv with
    | cons a t =>
      cases t
      exact hr W H H1 _ _ o o1 e1 a fun v H' e2 o2 rv=>q v H' _ rfl (e1.trans e2) o2 rv
theorem E1.tupleL {ds:List Dat} (ha:A1 p K tas τ [.vw ds]):E1 p K (tCB (fun xs H Q=>∃ p ys,xs=[.ref p]/\((SqL K H p ys/\∀ l,H l=none->Q (.ref l) (upd H l (.tup ys)))\/(SqT K H p ys/\Q (.ref p) H))) tas) τ (.dat (.tuple ds)) :=
  E1.cb1 ha fun W H0 H x Q o0 o _ r q=>by
    obtain ⟨a,vs,rfl,h1,h2⟩:=r
    refine ⟨a,vs,rfl,.inl ⟨h1.sq,fun l hl=>?_⟩⟩
    have s:=Same.new hl (.tup vs)
    exact q _ _ (Ev.of s) (o.same s) (.tup (SqT.of upd_same) (h2.ev (W:=Pp p) (Ev.of s) o.nw))
theorem E1.lenL {ds:List Dat} (ha:A1 p K tas τ [.vw ds]):E1 p K (tCB (fun xs H Q=>∃ p ys,xs=[.ref p]/\(SqL K H p ys\/SqT K H p ys)/\Q (.int ys.length) H) tas) τ (.dat (.int ds.length)) :=
  E1.cb1 ha fun W H0 H x Q o0 o _ r q=>by
    obtain ⟨a,vs,rfl,h1,h2⟩:=r
    refine ⟨a,vs,rfl,.inl h1.sq,?_⟩
    rw [h2.len]
    exact q _ H Ev.refl o (.int _)
noncomputable def O1 (p:Option Addr) (K:PySem.W.Frag) (to:TO) (τ:List Sl) (i:Option Int):Prop:=∀ (W:Addr->Prop) (L:List Addr) (σ:St) (H:Hp) (Q:Option Int->Hp->Prop),Rs p W K H L σ τ->Ok p W H->(∀ H',Ev (Pp p) H H'->Ok p W H'->Q i H')->to σ H Q
theorem O1.none:O1 p K tNoPart τ Option.none:=fun W L σ H Q r o q=>q H Ev.refl o
theorem O1.some {i:Int} (h:E1 p K te τ (.dat (.int i))):O1 p K (tPart te) τ (Option.some i):=fun W L σ H Q r o q=>h W L σ H _ r o fun v H1 s e e1 o1 rv=>by
  subst e;cases rv.int_inv;exact ⟨i,rfl,q H1 e1 o1⟩
end
noncomputable def spP (K:PySem.W.Frag) (R:List Dat->Dat->Prop):Sp:=fun vs H Q _=>∃ ds d,Dzs (fun _=>True) K H vs ds/\R ds d/\∀ v H',Same H H'->Dz (fun a=>H a=none) K H' v d->Q v H'
noncomputable def spU (K:PySem.W.Frag) (R:List Dat->(Dat->Prop)->Prop):Sp:=fun vs H Q _=>∃ q us ds C,vs = .ref q :: us/\Dzs (fun a=>a ≠ q) K H us ds/\Pu H q/\R ds C/\∀ v H' d,C d->Ev (fun a=>a=q) H H'->Pu H' q->Dz (fun a=>H a=none) K H' v d->Q v H'
section
variable {p:Option Addr} {K:PySem.W.Frag} {W:Addr->Prop} {L:List Addr} {σ:St} {H H0 H1:Hp} {τ τ':List Sl} {te:TE} {tas:TA} {v:V} {s:Sl} {t:TS} {ds:List Dat} {E':XK}
noncomputable def datsOf:List Sl->Option (List Dat)
  | []=>some []
  | s :: r=>match datOf s,datsOf r with
    | some d,some ds=>some (d :: ds)
    | _,_=>none
theorem Rvs.dz {ss : List Sl} {vs : List V} (h : Rvs p W K H0 H vs ss) : ∀ {ds : List Dat}, datsOf ss = some ds -> Dzs (fun _ => True) K H vs ds := by
  induction h with
  | nil=>intro ds e;cases e;exact .nil
  | cons a t ih =>
    rename_i v s vs ss
    intro ds e
    unfold datsOf at e
    cases e1:datOf s with
    | none=>rw [e1] at e;simp at e
    | some d =>
      cases e2:datsOf ss with
      | none=>rw [e1,e2] at e;simp at e
      | some r =>
        rw [e1,e2] at e;cases e
        refine .cons ?_ (ih e2)
        cases s with
        | un=>cases e1
        | pu=>cases e1
        | dat d'=>cases e1;exact Dz.mono (fun _ _=>trivial) a
        | own ds=>cases e1;obtain ⟨a,vs,rfl,_,h2,h3⟩:=a;exact .lst (.inl ⟨trivial,.inl h2⟩) (h3.mono fun _ _=>trivial)
        | dt ds=>cases e1
        | vw ds=>cases e1;obtain ⟨a,vs,rfl,h2,h3⟩:=a;exact .lst (h2.elim (fun z=>.inl ⟨trivial,z.2⟩) .inr) (h3.mono fun _ _=>trivial)
theorem E1.call {R:List Dat->Dat->Prop} {ss:List Sl} {ds:List Dat} {d:Dat} (ha:A1 p K tas τ ss) (hr:R ds d) (hd:datsOf ss=some ds:=by rfl):E1 p K (tCall (spP K R) [] E' tas) τ (.dat d):=fun W L σ H Q rs o q=>ha W L σ H _ rs o fun vs H1 ss e e1 o1 rv=>by
  subst e
  rw [List.append_nil]
  exact ⟨ds,d,rv.dz hd,hr,fun v H' s z=>q v H' _ rfl (e1.trans (Ev.of s)) (o1.same s) (z.mono fun a ha=>o1.fresh ha)⟩
theorem Rvs.dzp {q:Addr} {vs:List V} {ds:List Dat} (h:Rvs (some q) W K H0 H vs (ds.map .dat)) (w:W q):Dzs (fun a=>a ≠ q) K H vs ds:=h.dats.mono fun a n z=>n (by rw [z];exact w)
theorem E.callU {R:List Dat->(Dat->Prop)->Prop} {ds:List Dat} {C:Dat->Prop} (ha:A1 p K tas τ (.pu :: ds.map .dat)) (hr:R ds C):E p K (tCall (spU K R) [] E' tas) τ (fun s=>∃ d,s = .dat d/\C d):=fun W L σ H Q rs o q=>ha W L σ H _ rs o fun vs H1 ss e e1 o1 rv=>by
  subst e
  rw [List.append_nil]
  cases rv with
  | cons a t =>
    obtain ⟨q0,rfl,rfl⟩:=a
    have w:=o1.pw q0 rfl
    refine ⟨q0,_,ds,C,rfl,Rvs.dzp t w,(o1.pu q0 rfl).1,hr,fun v H' d c ev pu z=>?_⟩
    have e2:Ev (Pp (some q0)) H1 H':=ev.mono fun a h=>by rw [h];rfl
    exact q v H' _ ⟨d,rfl,c⟩ (e1.trans e2) (o1.ev e2 fun q hq=>by cases hq;exact pu) (z.mono fun a ha=>o1.fresh ha)
noncomputable def Gives (d:Dat):Sl->Prop
  | .dat e=>d=e/\noL d=true
  | .own ds=>d = .list ds/\noLs ds=true
  | _=>False
theorem rs_start {N:Addr->Prop}:∀ {vs:List V} {ds:List Dat} (n:Nat),Dzs N K H vs ds->(∀ a,N a->¬ W a)->Rs p W K H [] (vs.map some ++ List.replicate n none) (ds.map .dat ++ List.replicate n .un)
  | _,_,0,.nil,_=>.nil
  | _,_,n + 1,.nil,h=>by
    have:=rs_start n (Dzs.nil (N:=N) (K:=K) (H:=H)) h
    rw [List.replicate_succ,List.replicate_succ]
    exact .un this
  | _,_,n,.cons a r,h=>.dat (a.mono h) (rs_start n r h)
variable {P:Program} {w:World} {mg:Str->Option Value} {base:Heap}
theorem okP {x qual : Str} {st : Stmt} {f : Addr} {fd : FuncData} {N ps : List Str} {k : Nat} {R : List Dat -> Dat -> Prop} (F : Fun K x qual st f fd) (S0 : FnScope N ps (defScope st)) (len : ∀ ds d, R ds d -> ds.length = ps.length)
    (body:∀ (cdv:Value) (A:Around) (outer:List Env) (s:Shared) (H:Hp) (E:XK),Room k (A.deeper (PyProof.Rows.envOfC qual (defScope st) s.heap.objs.size f cdv)) ->
      ∃ t,ZSs (cxOf CX0 P w K mg base N qual (defScope st) f cdv A outer s H E).nox (defBody st) t/\∀ ds d,R ds d->S none K t (ds.map .dat ++ List.replicate (N.length - ps.length) .un) (fun _=>d = .none) (Gives d)):FnOk P w K mg base CX0 (k + 1) f fd ps (spP K R):=by
  refine F.okZ S0 (fun vs H Q E h=>?_) (fun cdv A outer s H vs Q E hr h=>?_)
  . obtain ⟨ds,d,z,r,_⟩:=h;rw [z.len];exact len ds d r
  . obtain ⟨ds,d,z,r,q⟩:=h
    obtain ⟨t,hz,hs⟩:=body cdv A outer s H E hr
    refine ⟨t,hz,?_⟩
    have l:vs.length=ps.length:=by rw [z.len];exact len ds d r
    have r0:Rs none (fun _=>False) K H [] (L2.start N vs) (ds.map .dat ++ List.replicate (N.length - ps.length) .un):=by
      unfold L2.start
      rw [l]
      exact rs_start _ z fun a _ h=>h
    have same:∀ {H':Hp},Ev (fun _=>False) H H'->Same H H':=fun e b o h=>e.keep b o (fun z=>z) h
    refine hs ds d r (fun _=>False) [] _ H _ r0 ⟨fun q h=>(by cases h),fun a h=>False.elim h⟩ (fun W' L' σ' H' τ' e ev o' al n l r'=>?_) (fun W' H' v s e ev o' al n rv=>?_)
    . subst e;exact q .non H' (same ev) .none
    . cases s with
      | dat d' =>
        obtain ⟨rfl,nl⟩:=e
        exact q v H' (same ev) (Dz.free rv nl)
      | own es =>
        obtain ⟨rfl,nl⟩:=e
        obtain ⟨a,vs,rfl,h1,h2,h3⟩:=rv
        exact q _ H' (same ev) (.lst (.inl ⟨h1.resolve_left (fun z=>by cases z),.inl h2⟩) (h3.free nl))
      | dt es=>cases e
      | un=>cases e
      | pu=>cases e
      | vw ds=>cases e
theorem okU {x qual:Str} {st:Stmt} {f:Addr} {fd:FuncData} {N ps:List Str} {k:Nat} {R:List Dat->(Dat->Prop)->Prop} (F:Fun K x qual st f fd) (S0:FnScope N ps (defScope st)) (len:∀ ds C,R ds C->ds.length + 1=ps.length)
    (body:∀ (cdv:Value) (A:Around) (outer:List Env) (s:Shared) (H:Hp) (E:XK),Room k (A.deeper (PyProof.Rows.envOfC qual (defScope st) s.heap.objs.size f cdv)) ->
      ∃ t,ZSs (cxOf CX0 P w K mg base N qual (defScope st) f cdv A outer s H E).nox (defBody st) t/\∀ (q:Addr) ds C,R ds C->S (some q) K t (.pu :: ds.map .dat ++ List.replicate (N.length - ps.length) .un) (fun _=>False) (fun s=>∃ d,C d/\Gives d s)):FnOk P w K mg base CX0 (k + 1) f fd ps (spU K R):=by
  refine F.okZ S0 (fun vs H Q E h=>?_) (fun cdv A outer s H vs Q E hr h=>?_)
  . obtain ⟨q,us,ds,C,rfl,z,_,r,_⟩:=h;rw [List.length_cons,z.len];exact len ds C r
  . obtain ⟨q0,us,ds,C,rfl,z,pu,r,q⟩:=h
    obtain ⟨t,hz,hs⟩:=body cdv A outer s H E hr
    refine ⟨t,hz,?_⟩
    have l:(V.ref q0 :: us).length=ps.length:=by rw [List.length_cons,z.len];exact len ds C r
    have r0:Rs (some q0) (fun a=>a=q0) K H [] (L2.start N (.ref q0 :: us)) (.pu :: ds.map .dat ++ List.replicate (N.length - ps.length) .un):=by
      unfold L2.start
      rw [l]
      exact .pu rfl (rs_start _ z fun a h=>h)
    have o0:Ok (some q0) (fun a=>a=q0) H:=⟨fun q h=>(by cases h;exact ⟨pu,rfl⟩),fun a h=>by obtain ⟨x,y,e⟩:=pu;exact ⟨_,by rw [h];exact e⟩⟩
    refine hs q0 ds C r (fun a=>a=q0) [] _ H _ r0 o0 (fun W' L' σ' H' τ' e ev o' al n l r'=>e.elim) (fun W' H' v s e ev o' al n rv=>?_)
    obtain ⟨d,c,e⟩:=e
    cases s with
    | dat d' =>
      obtain ⟨rfl,nl⟩:=e
      exact q v H' _ c ev (o'.pu q0 rfl).1 (Dz.free rv nl)
    | own es =>
      obtain ⟨rfl,nl⟩:=e
      obtain ⟨a,vs,rfl,h1,h2,h3⟩:=rv
      exact q _ H' _ c ev (o'.pu q0 rfl).1 (.lst (.inl ⟨h1.resolve_left (fun z=>by cases z),.inl h2⟩) (h3.free nl))
    | dt es=>cases e
    | un=>cases e
    | pu=>cases e
    | vw ds=>cases e
end
end D
end
section
namespace L2
open PySem PySem.Spec PyProof.Rows
open PySem.W (Dat)
end L2
namespace D
open PySem L2 K0 Num
open PySem.W (Dat)
noncomputable abbrev tI (ns:List Int):Dat:=.tuple (ns.map .int)
section
variable {p:Option Addr} {K:PySem.W.Frag} {W:Addr->Prop} {L:List Addr} {σ:St} {H H0 H1:Hp} {τ:List Sl} {ta tb te:TE} {tas:TA} {v:V} {s:Sl} {t:TS} {ds:List Dat} {E':XK}
noncomputable def dOf:List Sl->Option (List Dat)
  | []=>some []
  | .dat d :: r=>match dOf r with
    | some ds=>some (d :: ds)
    | none=>none
  | _=>none
theorem dOf_eq:∀ {ss:List Sl} {ds:List Dat},dOf ss=some ds->ss=ds.map .dat
  | [],ds,h=>by cases h;rfl
  | .dat d :: r,ds,h=>by
    unfold dOf at h
    cases e:dOf r with
    | none=>rw [e] at h;cases h
    | some es=>rw [e] at h;cases h;rw [dOf_eq e];rfl
  | .un :: _,_,h=>by cases h
  | .pu :: _,_,h=>by cases h
  | .own _ :: _,_,h=>by cases h
  | .dt _ :: _,_,h=>by cases h
  | .vw _ :: _,_,h=>by cases h
theorem E1.tu {ss:List Sl} {ds:List Dat} (h:A1 p K tas τ ss) (e:dOf ss=some ds) (hz:ds.length<=sizeLine):E1 p K (tTup tas) τ (.dat (.tuple ds)):=E1.tup (dOf_eq e ▸ h) hz
theorem E1.li {ss:List Sl} {ds:List Dat} (h:A1 p K tas τ ss) (e:dOf ss=some ds) (hz:ds.length<=sizeLine):E1 p K (tLst tas) τ (.own ds):=E1.lst (dOf_eq e ▸ h) hz
theorem tup_inv {N:Addr->Prop} {ns:List Int} {v:V} (h:Dz N K H v (tI ns)):∃ a,v = .ref a/\SqT K H a (ns.map V.int):=by
  cases h with
  | tup h1 h2=>have e:=h2.inv;subst e;exact ⟨_,rfl,h1⟩
theorem told {N:Addr->Prop} {ns:List Int} {r:Addr} (h:H r=some (.tup (ns.map V.int))):Dz N K H (.ref r) (tI ns):=.tup (SqT.of h) (Dzs.ints _)
theorem E.c1 {sp:Sp} {ns:List Int} {C:Sl->Prop} (ha:A1 p K tas τ [.dat (tI ns)]) (h:∀ (W:Addr->Prop) (H:Hp) (a:Addr) (Q:VK),SqT K H a (ns.map V.int)->(∀ v H' s,C s->Same H H'->(∀ W,Rv p W K H H' v s)->Q v H')->sp [.ref a] H Q E'):E p K (tCall sp [] E' tas) τ C:=fun W L σ H Q rs o q=>ha W L σ H _ rs o fun vs H1 ss e e1 o1 rv=>by
  subst e
  cases rv with
  | cons a t =>
    cases t
    obtain ⟨r,rfl,z⟩:=tup_inv a
    exact h W H1 r _ z fun v H' s c sm z=>q v H' s c (e1.trans (Ev.of sm)) (o1.same sm) ((z W).base e1 o1)
theorem E.c2 {sp:Sp} {ns ms:List Int} {C:Sl->Prop} (ha:A1 p K tas τ [.dat (tI ns),.dat (tI ms)]) (h:∀ (W:Addr->Prop) (H:Hp) (a b:Addr) (Q:VK),SqT K H a (ns.map V.int)->SqT K H b (ms.map V.int)->(∀ v H' s,C s->Same H H'->(∀ W,Rv p W K H H' v s)->Q v H')->sp [.ref a,.ref b] H Q E'):E p K (tCall sp [] E' tas) τ C:=fun W L σ H Q rs o q=>ha W L σ H _ rs o fun vs H1 ss e e1 o1 rv=>by
  subst e
  cases rv with
  | cons a t =>
    cases t with
    | cons b t =>
      cases t
      obtain ⟨r,rfl,z⟩:=tup_inv a
      obtain ⟨r2,rfl,z2⟩:=tup_inv b
      exact h W H1 r r2 _ z z2 fun v H' s c sm z=>q v H' s c (e1.trans (Ev.of sm)) (o1.same sm) ((z W).base e1 o1)
theorem E1.cT {pre:List Int->Prop} {fn:List Int->List Int} {ns:List Int} (ha:A1 p K tas τ [.dat (tI ns)]) (hl:ns.length<=1000) (hp:pre ns):E1 p K (tCall (spT K pre fn) [] E' tas) τ (.dat (tI (fn ns))) :=
  E.c1 ha fun W H a Q z q=>⟨a,ns,rfl,z,hl,hp,fun r H' s h=>q _ H' _ rfl s fun W=>told h⟩
theorem E1.cPS {k l:Int} (ha:A1 p K tas τ [.dat (tI [k,l])]) (nz:∃ n ∈ [l,k],n ≠ 0) (sm:Sm [l,k]):E1 p K (tCall (spPS2 K) [] E' tas) τ (.dat (tI (ps k l))) :=
  E.c1 ha fun W H a Q z q=>⟨a,k,l,rfl,z,nz,sm,fun r H' s h=>q _ H' _ rfl s fun W=>told h⟩
theorem E1.c22 {fn:List Int->List Int->List Int} {ns ms:List Int} (ha:A1 p K tas τ [.dat (tI ns),.dat (tI ms)]) (l1:ns.length=4) (l2:ms.length=4) (s1:Sm ns) (s2:Sm ms):E1 p K (tCall (sp2 K fn) [] E' tas) τ (.dat (tI (fn ns ms))) :=
  E.c2 ha fun W H a b Q z z2 q=>⟨a,b,ns,ms,rfl,z,z2,l1,l2,s1,s2,fun r H' s h=>q _ H' _ rfl s fun W=>told h⟩
theorem E1.cThen {ns ms:List Int} (ha:A1 p K tas τ [.dat (tI ns),.dat (tI ms)]) (l1:ns.length=4) (l2:ms.length=4) (n1:∃ n ∈ ns,n ≠ 0) (n2:∃ n ∈ ms,n ≠ 0) (s1:Bd (2 ^ 4000) ns) (s2:Bd (2 ^ 4000) ms):E1 p K (tCall (spThen K) [] E' tas) τ (.dat (tI (pl (qm ms ns)))) :=
  E.c2 ha fun W H a b Q z z2 q=>⟨a,b,ns,ms,rfl,z,z2,l1,l2,n1,n2,s1,s2,fun r H' s h=>q _ H' _ rfl s fun W=>told h⟩
theorem E1.cSop {ns ms:List Int} (ha:A1 p K tas τ [.dat (tI ns),.dat (tI ms)]) (l1:ns.length<=1000) (l2:ms.length=ns.length) (s1:Sm ns) (s2:Sm ms):E1 p K (tCall (spSop K) [] E' tas) τ (.dat (.int (sop ns ms))) :=
  E.c2 ha fun W H a b Q z z2 q=>⟨a,b,ns,ms,rfl,z,z2,l1,l2,s1,s2,fun H' s=>q _ H' _ rfl s fun W=>.int _⟩
theorem E1.cAbout {x y z k l:Int} (ha:A1 p K tas τ [.dat (tI [x,y,z]),.dat (tI [k,l])]) (nz:∃ n ∈ [l,k * x,k * y,k * z],n ≠ 0) (b1:Bd (2 ^ 1000) [x,y,z]) (b2:Bd (2 ^ 1000) [k,l]):E1 p K (tCall (spAbout K) [] E' tas) τ (.dat (tI (pl [l,k * x,k * y,k * z]))) :=
  E.c2 ha fun W H a b Q z1 z2 q=>⟨a,b,x,y,z,k,l,rfl,z1,z2,nz,b1,b2,fun r H' s h=>q _ H' _ rfl s fun W=>told h⟩
theorem sb_ev {q:Addr} {H H':Hp} (s:SB q H H') (pu:Pu H q):Ev (Pp (some q)) H H':=⟨fun b o n h=>s b o (fun z=>n (by rw [z];rfl)) h,by obtain ⟨x,y,e⟩:=pu;exact s.tm e⟩
noncomputable def EI (p:Option Addr) (K:PySem.W.Frag) (te:TE) (τ:List Sl) (P:Int->Prop):Prop:=E p K te τ (fun s=>∃ i,s = .dat (.int i)/\P i)
theorem EI.of {i:Int} {P:Int->Prop} (h:E1 p K te τ (.dat (.int i))) (hp:P i):EI p K te τ P:=E.mono h fun s e=>⟨i,e.symm,hp⟩
theorem EI.mono {P P':Int->Prop} (h:EI p K te τ P) (m:∀ i,P i->P' i):EI p K te τ P':=E.mono h fun s ⟨i,e,hp⟩=>⟨i,e,m i hp⟩
theorem EI.op {g:Int->Int->Int} {P Q:Int->Prop} (ha:EI p K ta τ P) (hb:EI p K tb τ Q):EI p K (tOp (rI0 fun i j=>.int (g i j)) ta tb) τ (fun k=>∃ i j,P i/\Q j/\k=g i j) :=
  E.op2 (B:=fun _=>True) ha (fun _ _=>hb) fun s t ⟨i,e1,h1⟩ ⟨j,e2,h2⟩ W H0 H x y R o0 o r1 r2 q=>by
    subst e1 e2
    exact ⟨i,j,r1.int_inv,r2.int_inv,q _ H _ ⟨_,rfl,i,j,h1,h2,rfl⟩ Ev.refl o (.int _)⟩
theorem EI.opC {g:Int->Int->Int} {Cn:Int->Int->Prop} {P Q:Int->Prop} (ha:EI p K ta τ P) (hb:EI p K tb τ Q) (hc:∀ i j,P i->Q j->Cn i j):EI p K (tOp (rI Cn fun i j=>.int (g i j)) ta tb) τ (fun k=>∃ i j,P i/\Q j/\k=g i j) :=
  E.op2 (B:=fun _=>True) ha (fun _ _=>hb) fun s t ⟨i,e1,h1⟩ ⟨j,e2,h2⟩ W H0 H x y R o0 o r1 r2 q=>by
    subst e1 e2
    exact ⟨i,j,r1.int_inv,r2.int_inv,hc i j h1 h2,q _ H _ ⟨_,rfl,i,j,h1,h2,rfl⟩ Ev.refl o (.int _)⟩
theorem EI.draw {m:Int} (ha:A1 p K tas τ [.pu,.dat (.int m)]) (h0:0 < m) (h1:m < 2 ^ 200):EI p K (tCall spDraw [] E' tas) τ (fun d=>0<=d/\d < m):=fun W L σ H Q rs o q=>ha W L σ H _ rs o fun vs H1 ss e e1 o1 rv=>by
  subst e
  cases rv with
  | cons a t =>
    cases t with
    | cons b t =>
      cases t
      obtain ⟨q0,rfl,rfl⟩:=a
      cases b.int_inv
      have pu:=(o1.pu q0 rfl).1
      refine ⟨q0,m,rfl,pu,h0,h1,fun d H' d0 d1 sb pu'=>?_⟩
      have ev:=sb_ev sb pu
      exact q _ H' _ ⟨d,rfl,d0,d1⟩ (e1.trans ev) (o1.ev ev fun q hq=>by cases hq;exact pu') (.int _)
noncomputable def ER (p:Option Addr) (K:PySem.W.Frag) (te:TE) (τ:List Sl) (P:List Int->Prop):Prop:=E p K te τ (fun s=>∃ ns,s = .dat (tI ns)/\P ns)
theorem ER.four (ha:A1 p K tas τ [.pu]):ER p K (tCall (spFour K) [] E' tas) τ (fun ns=>ns.length=4/\(∃ n ∈ ns,n ≠ 0)/\Bd (12 * 10 ^ 28) ns):=fun W L σ H Q rs o q=>ha W L σ H _ rs o fun vs H1 ss e e1 o1 rv=>by
  subst e
  cases rv with
  | cons a t =>
    cases t
    obtain ⟨q0,rfl,rfl⟩:=a
    have pu:=(o1.pu q0 rfl).1
    refine ⟨q0,rfl,pu,fun r ns H' l nz bd sb pu' h=>?_⟩
    have ev:=sb_ev sb pu
    exact q _ H' _ ⟨ns,rfl,l,nz,bd⟩ (e1.trans ev) (o1.ev ev fun q hq=>by cases hq;exact pu') (.tup h (Dzs.ints _))
end
theorem bt2:Bt 2 1:=by unfold Bt;decide
section
variable {p:Option Addr} {K:PySem.W.Frag} {τ:List Sl} {te:TE} {ds:List Dat}
theorem lsz {α:Type} {l:List α} {n:Nat} (h:l.length=n) (hn:n<=sizeLine):l.length<=sizeLine:=h ▸ hn
theorem z2:2<=sizeLine:=by decide
theorem z3:3<=sizeLine:=by decide
theorem z4:4<=sizeLine:=by decide
end
end D
end
namespace D
open PySem L2 K0 Num
open PySem.W (Dat)
section
theorem sm_bd' {k:Nat} {ns:List Int} (h:Bd (2 ^ k) ns) (hk:k < 9000:=by decide):Sm ns:=sm_bd h (Nat.pow_lt_pow_right (by decide) hk)
theorem bd_up {k l:Nat} {ns:List Int} (h:Bd (2 ^ k) ns) (hk:k<=l:=by decide):Bd (2 ^ l) ns:=bd_mono h (Nat.pow_le_pow_right (by decide) hk)
theorem map_set' {ns:List Int} {k:Nat} {m:Int}:(ns.map Dat.int).set k (.int m)=(ns.set k m).map Dat.int:=by rw [List.map_set]
theorem cpow10 {k:Int} (h0:0<=k) (h1:k<=1000000):CPow 10 k:=⟨h0,h1,by decide⟩
section
variable {p:Option Addr} {K:PySem.W.Frag} {τ:List Sl} {ta tb:TE}
theorem E1.neS {x y:Str} (ha:E1 p K ta τ (.dat (.str x))) (hb:E1 p K tb τ (.dat (.str y))):E1 p K (tOp rNe ta tb) τ (.dat (.bool (!decide (x=y)))):=E1.op2 ha hb fun W H0 H u v Q o0 o r1 r2 q=>by
  cases r1;cases r2
  refine ⟨rfl,q _ H Ev.refl o ?_⟩
  have e:decide (V.str x=V.str y)=decide (x=y):=by rw [decide_eq_decide];exact ⟨fun h=>by injection h,fun h=>by rw [h]⟩
  rw [e];exact .bool _
theorem E1.eqS {x y:Str} (ha:E1 p K ta τ (.dat (.str x))) (hb:E1 p K tb τ (.dat (.str y))):E1 p K (tOp rEq ta tb) τ (.dat (.bool (decide (x=y)))):=E1.op2 ha hb fun W H0 H u v Q o0 o r1 r2 q=>by
  cases r1;cases r2
  refine ⟨rfl,q _ H Ev.refl o ?_⟩
  have e:decide (V.str x=V.str y)=decide (x=y):=by rw [decide_eq_decide];exact ⟨fun h=>by injection h,fun h=>by rw [h]⟩
  rw [e];exact .bool _
end
theorem T1.eqn {p:Option Addr} {K:PySem.W.Frag} {τ:List Sl} {tt:TT} {b c:Bool} (h:T1 p K tt τ b) (e:b=c):T1 p K tt τ c:=e ▸ h
section
variable {p:Option Addr} {K:PySem.W.Frag} {τ:List Sl} {tt:TT}
theorem T1.notT (h:T1 p K tt τ true):T1 p K (tNot tt) τ false:=T1.not h
theorem T1.notF (h:T1 p K tt τ false):T1 p K (tNot tt) τ true:=T1.not h
end
end
section
section
variable {p:Option Addr} {K:PySem.W.Frag} {W:Addr->Prop} {L:List Addr} {σ:St} {H H0 H1 H2:Hp} {τ τ':List Sl} {ta tb te ti:TE} {tas:TA} {v:V} {s:Sl} {nx:List Sl->Prop} {rt:Sl->Prop} {t u:TS} {ds:List Dat} {E':XK}
theorem T.cmpI {g:Int->Int->Bool} {P Q:Int->Prop} (ha:EI p K ta τ P) (hb:EI p K tb τ Q):T p K (tTest (tOp (rI0 fun i j=>.bl (g i j)) ta tb)) τ (fun b=>∃ i j,P i/\Q j/\b=g i j):=fun W L σ H R rs o q =>
  ha W L σ H _ rs o fun x H1 s ⟨i,e,h1⟩ e1 o1 rv1=>hb W L σ H1 _ (rs.ev e1 o.pw) o1 fun y H2 t ⟨j,e',h2⟩ e2 o2 rv2=>by
    subst e e'
    cases rv1.int_inv;cases rv2.int_inv
    exact ⟨i,j,rfl,rfl,_,rfl,q _ H2 ⟨i,j,h1,h2,rfl⟩ (e1.trans e2) o2⟩
theorem EI.lit {i:Int}:EI p K (tC (.int i)) τ (fun k=>k=i):=EI.of E1.int rfl
theorem EI.pick {ms:List Int} {P:Int->Prop} (hl:E1 p K ta τ (.vw (ms.map .int))) (hd:EI p K tb τ P) (hp:∀ d,P d->0<=d/\d < (ms.length:Int)):EI p K (tOp (rIxL K) ta tb) τ (fun m=>m ∈ ms) :=
  E.op2 (B:=fun _=>True) (A:=fun x=>(Sl.vw (ms.map .int))=x) hl (fun _ _=>hd) fun s t e ⟨d,e2,h2⟩ W H0 H x y R o0 o r1 r2 q=>by
    subst e e2
    cases r2.int_inv
    obtain ⟨a,vs,rfl,h1,hz⟩:=r1
    have e:=hz.inv
    subst e
    obtain ⟨d0,d1⟩:=hp d h2
    obtain ⟨m,hm,e⟩:=at_draw d0 d1
    exact ⟨a,_,d,_,rfl,rfl,h1.sq,e,q _ H _ ⟨m,rfl,hm⟩ Ev.refl o (.int _)⟩
theorem E.pick {ms:List Dat} {P:Int->Prop} (hl:E1 p K ta τ (.vw ms)) (hd:EI p K tb τ P) (hp:∀ d,P d->0<=d/\d < (ms.length:Int)):E p K (tOp (rIxL K) ta tb) τ (fun s=>∃ d,s = .dat d/\d ∈ ms) :=
  E.op2 (B:=fun _=>True) (A:=fun x=>(Sl.vw ms)=x) hl (fun _ _=>hd) fun s t e ⟨d,e2,h2⟩ W H0 H x y R o0 o r1 r2 q=>by
    subst e e2
    cases r2.int_inv
    obtain ⟨a,vs,rfl,h1,hz⟩:=r1
    obtain ⟨d0,d1⟩:=hp d h2
    obtain ⟨j,rfl⟩:=Int.eq_ofNat_of_zero_le d0
    have hj:j < ms.length:=by omega
    obtain ⟨x,e1,e2⟩:=hz.get (i:=j) (e:=ms[j]) (by simp [hj])
    exact ⟨a,_,j,_,rfl,rfl,h1.sq,atI_nat e1,q _ H _ ⟨ms[j],rfl,List.getElem_mem hj⟩ Ev.refl o e2⟩
theorem S.setit {i:Nat} {C:Dat->Prop} {P:Int->Prop} (h:τ[i]?=some (.own ds)) (he:E p K te τ (fun s=>∃ d,s = .dat d/\noL d=true/\C d)) (hi:EI p K ti τ P) (hP:∀ k,P k->0<=k/\k < (ds.length:Int)) (m:∀ d (k:Int),C d->P k->nx (τ.set i (.own (ds.set k.toNat d)))):S p K (tAsg te (gSub (tVar i) ti rSetL)) τ nx rt:=fun W L σ H D r o q1 q2 =>
  he W L σ H _ r o fun v H1 s ⟨d,e0,nl,cd⟩ e1 o1 rv=>by
    subst e0
    have r1:=r.ev e1 o.pw
    obtain ⟨a,vs,e,w,n,l,h1,z⟩:=r1.get_own h
    refine ⟨_,e,hi W L σ H1 _ r1 o1 fun y H2 t ⟨k,e3,hk⟩ e2 o2 rv2=>?_⟩
    subst e3
    cases rv2.int_inv
    have r2:=r1.ev e2 o1.pw
    obtain ⟨a',vs',e',w',n',l',h1',z'⟩:=r2.get_own h
    rw [e] at e';cases e'
    obtain ⟨k0,k1⟩:=hP k hk
    have rv':Dz (fun a=>¬ W a) K H2 v d:=Dz.ev e2 o1.nw rv
    have ev:Ev (fun b=>b=a) H2 (upd H2 a (.lst (vs'.set k.toNat v))):=⟨fun b o n h=>by rw [upd_ne n];exact h,Tm.lst h1' _⟩
    have nw:∀ b,¬ W b->¬ b=a:=fun b n z=>n (z ▸ w)
    refine ⟨a,vs',k,k.toNat,rfl,rfl,h1',ixN_of k0 (by rw [z'.len];exact k1),?_⟩
    have alw:∀ b,W b->∃ ys,upd H2 a (.lst (vs'.set k.toNat v)) b=some ys:=fun b hb=>by
      by_cases zz:b=a
      . subst zz;exact ⟨_,upd_same⟩
      . rw [upd_ne zz];exact o2.al b hb
    refine q1 W L σ _ _ (m d k cd hk) (((e1.trans e2).ofP o).trans (ev.mono fun b hb=>hb ▸ w)) ⟨fun q hq=>⟨?_,o2.pw q hq⟩,alw⟩ alw (fun _ h=>.inl h) (fun _ h=>.inl h) (Rs.chgO w h1' ((z'.set k.toNat rv').ev ev nw) r2 h e)
    obtain ⟨x,y,u⟩:=(o2.pu q hq).1
    exact ⟨x,y,by rw [upd_ne (fun z=>n' (by rw [<- z];exact hq))];exact u⟩
noncomputable def forget:Sl->Sl
  | .pu=>.un
  | s=>s
theorem Rs.forget {q:Addr} (r:Rs (some q) W K H L σ τ):Rs none W K H L σ (τ.map forget):=by
  induction r with
  | nil=>exact .nil
  | un _ ih=>exact .un ih
  | dat h _ ih=>exact .dat h ih
  | pu h _ ih=>exact .un ih
  | own h1 h2 h3 h4 h5 _ ih=>exact .own h1 (fun z=>by cases z) h3 h4 h5 ih
  | dt h1 h2 h3 h4 _ ih=>exact .dt h1 (fun b hb z=>by cases z) h3 h4 ih
theorem Rs.learn {q:Addr} {i:Nat} (r:Rs none W K H L σ τ) (nq:H q=none) (hw:∀ a,W a->∃ ys,H a=some ys):Rs (some q) (fun a=>W a\/a=q) K H L σ τ:=by
  have n:∀ a,(W a\/a=q)->¬ W a->H a=Option.none:=fun a h z=>(h.resolve_left z) ▸ nq
  induction r with
  | nil=>exact .nil
  | un _ ih=>exact .un ih
  | dat h _ ih =>
    refine .dat ?_ ih
    cases Dzs.wide (W':=fun a=>W a\/a=q) (.cons h .nil) n with
    | cons a _=>exact a
  | pu h _ ih=>cases h
  | own h1 h2 h3 h4 h5 _ ih=>exact .own (.inl h1) (fun z=>by cases z;rw [nq] at h4;cases h4) h3 h4 (Dzs.wide h5 n) ih
  | dt h1 h2 h3 h4 _ ih=>exact .dt (fun b hb=>.inl (h1 b hb)) (fun b hb z=>by cases z;obtain ⟨o,ho⟩:=Own.al _ h4 _ hb;rw [nq] at ho;cases ho) h3 (Own.wide _ h4 fun a o na ha wa=>by rw [n a wa na] at ha;cases ha) ih
theorem S.withPurse {sp:Sp} {ss:List Sl} {i:Nat} (ha:A1 none K tas τ ss) (hs:∀ (W:Addr->Prop) (H0 H:Hp) (vs:List V) (Q:VK),Rvs none W K H0 H vs ss->(∀ (q:Addr) (H':Hp),H q=none->Same H H'->Pu H' q->Q (.ref q) H')->sp (vs ++ []) H Q E')
    (m:∀ q,S (some q) K u (τ.set i .pu) (fun τ'=>nx (τ'.map forget)) rt) (hrt:∀ s,rt s->∃ d,s = .dat d):S none K (tSeq (tAsg (tCall sp [] E' tas) (gName i)) u) τ nx rt:=fun W L σ H D r o q1 q2 =>
  ha W L σ H _ r o fun vs H1 ss e e1 o1 rv=>by
    subst e
    refine hs W H H1 vs _ rv fun q H2 hq s2 pu=>?_
    have r1:=r.ev e1 o.pw
    have e2:Ev (Pp (some q)) H1 H2:=Ev.of s2
    have hq0:H q=none:=o1.back e1 hq
    have r2:Rs (some q) (fun a=>W a\/a=q) K H2 L σ τ:=(Rs.learn (i:=0) r1 hq o1.al).ev e2 fun a ha=>by cases ha;exact .inr rfl
    obtain ⟨L',l,r3⟩:=r2.set (v:=.ref q) (s:=.pu) (.inr (.inr ⟨rfl,q,rfl,rfl⟩)) i
    have o2:Ok (some q) (fun a=>W a\/a=q) H2:=⟨fun a ha=>by cases ha;exact ⟨pu,.inr rfl⟩,fun a ha=>by
      rcases ha with ha | rfl
      . obtain ⟨ys,h⟩:=o1.al a ha;exact ⟨ys,s2 _ _ h⟩
      . obtain ⟨x,y,h⟩:=pu;exact ⟨_,h⟩⟩
    have e02:Ev W H H2:=(e1.ofP o).trans (Ev.of s2)
    have n1:∀ a,(W a\/a=q)->W a\/H a=none:=fun a ha=>ha.imp id fun z=>by rw [z];exact hq0
    have al2:∀ a,W a->∃ ys,H2 a=some ys:=fun a ha=>let ⟨ys,h⟩:=o1.al a ha;⟨ys,s2 _ _ h⟩
    have hn:∀ a,H2 a=none->H a=none:=fun a ha=>e02.none al2 ha
    refine m q _ L' _ H2 _ r3 o2 (fun W4 L4 σ4 H4 τ4 c e4 o4 w4 n4 l4 r4=>?_) (fun W4 H4 v s c e4 o4 w4 n4 rv=>?_)
    . exact q1 W4 L4 σ4 H4 _ c (e02.chain e4 n1) ⟨fun q h=>(by cases h),o4.al⟩ (fun a ha=>w4 a (.inl ha)) (fun a ha=>(n4 a ha).elim (n1 a) fun z=>.inr (hn a z)) (fun a ha=>(l4 a ha).elim (fun z=>.inl (l a z)) fun z=>.inr (hn a z)) r4.forget
    . obtain ⟨d,rfl⟩:=hrt s c
      exact q2 W4 H4 v _ c (e02.chain e4 n1) ⟨fun q h=>(by cases h),o4.al⟩ (fun a ha=>w4 a (.inl ha)) (fun a ha=>(n4 a ha).elim (n1 a) fun z=>.inr (hn a z)) rv
theorem S.purse1 {i : Nat} {ns : List Int} (ha : A1 none K tas τ [.dat (.list (ns.map .int))]) (hl : ns.length <= 63) (hb : ∀ v ∈ ns, Builtin.Int.intBits v <= 2 ^ 20) (m : ∀ q, S (some q) K u (τ.set i .pu) (fun τ' => nx (τ'.map forget)) rt) (hrt : ∀ s, rt s -> ∃ d, s = .dat d) : S none K (tSeq (tAsg (tCall (spPurse K) [] E' tas) (gName i)) u) τ nx rt :=
  S.withPurse ha (fun W H0 H vs Q rv q=>by
    cases rv with
    | cons a t =>
      cases t
      cases a with
      | lst h1 h2 =>
        have e:=h2.inv
        subst e
        exact ⟨_,ns,rfl,h1.sq,hl,hb,q⟩) m hrt
variable {P:Program} {w:World} {mg:Str->Option Value} {base:Heap}
theorem okL {x qual:Str} {st:Stmt} {f:Addr} {fd:FuncData} {N ps:List Str} {k:Nat} (F:Fun K x qual st f fd) (S0:FnScope N ps (defScope st)) (len:ps.length=1)
    (body:∀ (cdv:Value) (A:Around) (outer:List Env) (s:Shared) (H:Hp) (E:XK),Room k (A.deeper (PyProof.Rows.envOfC qual (defScope st) s.heap.objs.size f cdv)) ->
      ∃ t,ZSs (cxOf CX0 P w K mg base N qual (defScope st) f cdv A outer s H E).nox (defBody st) t/\∀ ns:List Int,ns.length<=63->(∀ v ∈ ns,Builtin.Int.intBits v<=2 ^ 20)->S none K t (.dat (.list (ns.map .int)) :: List.replicate (N.length - 1) .un) (fun _=>False) (fun s=>s = .dat (.bool true))):FnOk P w K mg base CX0 (k + 1) f fd ps (spLaw K):=by
  refine F.okZ S0 (fun vs H Q E h=>?_) (fun cdv A outer s H vs Q E hr h=>?_)
  . obtain ⟨a,ns,rfl,_⟩:=h;rw [len];rfl
  . obtain ⟨a,ns,rfl,hS,hl,hb,q⟩:=h
    obtain ⟨t,hz,hs⟩:=body cdv A outer s H E hr
    refine ⟨t,hz,?_⟩
    have z:Dzs (fun _=>True) K H [.ref a] [.list (ns.map .int)]:=.cons (.lst (by
      rcases hS with h | h
      . exact .inl ⟨trivial,h⟩
      . exact .inr (.inr h)) (Dzs.ints _)) .nil
    have r0:Rs none (fun _=>False) K H [] (L2.start N [.ref a]) (.dat (.list (ns.map .int)) :: List.replicate (N.length - 1) .un):=by
      unfold L2.start
      exact rs_start _ z fun a _ h=>h
    refine hs ns hl hb (fun _=>False) [] _ H _ r0 ⟨fun q h=>(by cases h),fun a h=>False.elim h⟩ (fun W' L' σ' H' τ' e ev o' al n l r'=>e.elim) (fun W' H' v s e ev o' al n rv=>?_)
    subst e
    cases (Rv.bl_inv (p:=none) (H0:=H) rv)
    exact q H'
end
end
end D
section
namespace D
open PySem L2 K0
open PySem.W (Dat)
section
variable {p:Option Addr} {K:PySem.W.Frag} {W:Addr->Prop} {L:List Addr} {σ:St} {H H1 H2:Hp} {τ:List Sl} {te:TE} {tas:TA} {v:V} {s:Sl} {u:TS} {ds:List Dat} {wi:TI}
theorem E.compX {no : Nat} {g : TG} (hw : Wk p K wi τ ds) (own : Dat -> List Sl) (hg : ∀ d, d ∈ ds -> Gc p K no g d (own d)) (Cd : Nat -> Dat -> Prop)
    (turn:∀ (i:Nat) d,ds[i]?=some d->E p K te (own d ++ τ) (fun s=>∃ e,s = .dat e/\Cd i e)) (hz:ds.length<=sizeLine) :
    E p K (tCompB no wi g tAll te) τ (fun s=>∃ es,s = .own es/\es.length=ds.length/\∀ (i:Nat) (e:Dat),es[i]?=some e->Cd i e):=fun W L σ H Q r o q=>by
  refine hw W L σ H _ r o fun J H1 e1 o1 jd=>?_
  intro D hD
  have nD:=o1.fresh hD
  have pD:=o1.np hD
  have r1:=r.ev e1 o.pw
  have r1':Rs p (fun b=>W b\/b=D) K H1 L σ τ:=r1.wide (fun _ h=>.inl h) fun b hb nb=>(hb.resolve_left nb) ▸ hD
  refine ⟨fun i m σ' H'=>m=ds.length - i/\i<=ds.length/\(∃ ρ,ρ.length=no/\σ'=ρ ++ σ)/\Ev (fun a=>Pp p a\/a=D) H1 H'/\(∀ q,p=some q->Pu H' q)/\∃ (vs:List V) (es:List Dat),H' D=some (.lst vs)/\Dzs (fun b=>¬ (W b\/b=D)) K H' vs es/\es.length=i/\∀ (j:Nat) (e:Dat),es[j]?=some e->Cd j e,
    ⟨ds.length,by omega,Nat.zero_le _,⟨List.replicate no none,by simp,rfl⟩,⟨fun b u nb h=>by rw [upd_ne (fun z=>nb (.inr z))];exact h,(Same.new hD _).tm⟩,fun q hq=>(o1.pu q hq).1.same (Same.new hD _),[],[],upd_same,.nil,rfl,fun j e h=>by simp at h⟩,?_⟩
  rintro i m σ' H' ⟨rfl,hi,⟨ρ,lρ,rfl⟩,ev,pu,vs,es,hv,zv,le,hes⟩
  have evW:Ev W H1 H':=⟨fun b u nb h=>ev.keep b u (fun z=>z.elim (fun y=>nb (o1.pw b y)) fun y=>by rw [y] at h;rw [hD] at h;cases h) h,ev.tm⟩
  have ok':Ok p (fun b=>W b\/b=D) H':=⟨fun q hq=>⟨pu q hq,.inl (o1.pw q hq)⟩,fun b hb=>by
    by_cases z:b=D
    . subst z;exact ⟨_,hv⟩
    . by_cases y:p=some b
      . obtain ⟨x1,x2,h⟩:=pu b y;exact ⟨_,h⟩
      . obtain ⟨ys,h⟩:=o1.al b (hb.resolve_right z)
        exact ⟨ys,ev.keep _ _ (fun w=>w.elim y z) h⟩⟩
  have evD:Ev (fun b=>W b\/b=D) H1 H':=evW.mono fun _ h=>.inl h
  have rs':Rs p (fun b=>W b\/b=D) K H' L σ τ:=by
    refine Rs.evx r1' ev (fun a ha z=>?_) fun a u ha np z=>?_
    . rcases z with z | z
      . exact ha (.inl (o1.pw a z))
      . exact ha (.inr z)
    . rcases z with z | z
      . exact np z
      . rw [z,hD] at ha;cases ha
  obtain ⟨stop,each⟩:=jd (fun b=>W b\/b=D) H' evW fun a ha=>ha.imp id fun z=>by rw [z];exact hD
  have o1f:H D=none:=o1.back e1 hD
  by_cases hlt:i < ds.length
  . have hd:ds[i]?=some ds[i]:=by simp [hlt]
    have hm:ds[i] ∈ ds:=List.getElem_mem hlt
    obtain ⟨go,yl⟩:=each i _ hd
    refine .inr ⟨go,fun x H2 y=>?_⟩
    obtain ⟨s2,z2⟩:=yl x H2 y
    have ok2:=ok'.same s2
    refine hg _ hm _ L ρ σ τ H2 x _ lρ (rs'.ev (Ev.of s2) ok'.pw) z2 fun ρ' lρ' rs2=>?_
    have hv4:H2 D=some (.lst vs):=s2 _ _ hv
    have zv4:Dzs (fun b=>¬ (W b\/b=D)) K H2 vs es:=zv.ev (W:=fun _=>False) (Ev.of s2) fun _ _ h=>h
    show tAll _ _ _
    unfold tAll
    dsimp only
    rw [if_pos rfl]
    refine turn i _ hd _ L _ H2 _ rs2 ok2 fun v H5 s c e5 o5 rv=>?_
    obtain ⟨e,rfl,ce⟩:=c
    have hv5:H5 D=some (.lst vs):=e5.keep _ _ pD hv4
    have zv5:=zv4.ev e5 fun a ha z=>ha (.inl (o1.pw a z))
    have ll:vs.length<=i:=by rw [zv.len,le];exact Nat.le_refl _
    have evu:Ev (fun b=>b=D) H5 (upd H5 D (.lst (vs ++ [v]))):=⟨fun b o n h=>by rw [upd_ne n];exact h,Tm.lst hv5 _⟩
    have pvH:Ev (fun a=>Pp p a\/a=D) H' H2:=Ev.of s2
    refine ⟨vs,hv5,by omega,ds.length - (i + 1),by omega,rfl,hlt,⟨ρ',lρ',rfl⟩,(ev.trans (pvH.trans (e5.mono fun _ h=>.inl h))).trans (evu.mono fun _ h=>.inr h),fun q hq=>?_,vs ++ [v],es ++ [e],upd_same,(zv5.app (.cons rv .nil)).ev evu fun b hb z=>hb (.inr z),?_,fun j f hj=>?_⟩
    . obtain ⟨x1,x2,h⟩:=(o5.pu q hq).1
      exact ⟨x1,x2,by rw [upd_ne (fun z=>pD (by rw [<- z];exact hq))];exact h⟩
    . rw [List.length_append,le];rfl
    . by_cases hj2:j < es.length
      . rw [List.getElem?_append_left hj2] at hj
        exact hes j f hj
      . rw [List.getElem?_append_right (by omega)] at hj
        have ej:j - es.length=0:=by
          have:=(List.getElem?_eq_some_iff.mp hj).1
          simp at this;omega
        rw [ej] at hj
        cases hj
        have:j=i:=by omega
        rw [this];exact ce
  . have e:i=ds.length:=by omega
    subst e
    have evP:Ev (Pp p) H1 H':=⟨fun b u nb h=>ev.keep b u (fun z=>z.elim nb fun y=>by rw [y] at h;rw [hD] at h;cases h) h,ev.tm⟩
    refine .inl ⟨stop,q _ H' _ ⟨es,rfl,le,hes⟩ (e1.trans evP) (o1.ev evP pu) ⟨D,vs,rfl,o1f,hv,zv.mono fun a ha z=>ha (.inl z)⟩⟩
theorem ext_of {es fs:List Dat} (l:es.length=fs.length) (h:∀ (i:Nat) (e:Dat),es[i]?=some e->fs[i]?=some e):es=fs:=by
  apply List.ext_getElem?
  intro i
  cases q:es[i]? with
  | none =>
    have:=List.getElem?_eq_none_iff.mp q
    rw [List.getElem?_eq_none (by omega)]
  | some e=>rw [h i e q]
theorem E1.compX {no:Nat} {g:TG} (fs:List Dat) (hw:Wk p K wi τ ds) (own:Dat->List Sl) (hg:∀ d,d ∈ ds->Gc p K no g d (own d)) (hl:fs.length=ds.length) (turn:∀ (i:Nat) d f,ds[i]?=some d->fs[i]?=some f->E1 p K te (own d ++ τ) (.dat f)) (hz:ds.length<=sizeLine):E1 p K (tCompB no wi g tAll te) τ (.own fs):=by
  refine E.mono (E.compX hw own hg (fun i e=>fs[i]?=some e) (fun i d hd=>?_) hz) fun s ⟨es,e,l,h⟩=>?_
  . have hi:i < fs.length:=by rw [hl];exact (List.getElem?_eq_some_iff.mp hd).1
    have hf:fs[i]?=some fs[i]:=by simp [hi]
    exact E.mono (turn i d _ hd hf) fun s hs=>⟨_,hs.symm,hf⟩
  . rw [e,ext_of (by rw [l,hl]) h]
theorem E1.comp3 {d1 d2 d3 e1 e2 e3:Dat} (hw:Wk p K wi τ [d1,d2,d3]) (h1:E1 p K te (.dat d1 :: τ) (.dat e1)) (h2:E1 p K te (.dat d2 :: τ) (.dat e2)) (h3:E1 p K te (.dat d3 :: τ) (.dat e3)):E1 p K (tCompB 1 wi (gName 0) tAll te) τ (.own [e1,e2,e3]) :=
  E1.compX [e1,e2,e3] hw (fun d=>[.dat d]) (fun d _=>Gc.name) rfl (fun i d f hd hf=>by
    rcases get3 hd with ⟨rfl,rfl⟩ | ⟨rfl,rfl⟩ | ⟨rfl,rfl⟩
    . cases hf;exact h1
    . cases hf;exact h2
    . cases hf;exact h3) (by show 3<=sizeLine;decide)
theorem rangeD_3:rangeD 0 3=[.int 0,.int 1,.int 2]:=rfl
theorem Wk.r3 (h:A1 p K tas τ [.dat (.int 3)]):Wk p K (iRng1 tas) τ [.int 0,.int 1,.int 2]:=rangeD_3 ▸ Wk.rng h rfl
end
end D
end
namespace D
open PySem L2 K0 Num
open PySem.W (Dat)
section
section
variable {p:Option Addr} {K:PySem.W.Frag} {τ:List Sl} {ta tb te:TE} {v:V} {s:Sl} {t:TS} {ds:List Dat}
theorem E.cmpB {g:Int->Int->Bool} {P Q:Int->Prop} (ha:EI p K ta τ P) (hb:EI p K tb τ Q):E p K (tOp (rI0 fun i j=>.bl (g i j)) ta tb) τ (fun s=>∃ b,s = .dat (.bool b)) :=
  E.op2 (B:=fun _=>True) ha (fun _ _=>hb) fun s t ⟨i,e1,h1⟩ ⟨j,e2,h2⟩ W H0 H x y R o0 o r1 r2 q=>by
    subst e1 e2
    exact ⟨i,j,r1.int_inv,r2.int_inv,q _ H _ ⟨_,rfl⟩ Ev.refl o (.bool _)⟩
theorem EI.boolInt (h:E p K te τ (fun s=>∃ b,s = .dat (.bool b))):EI p K (tCB (fun xs H Q=>(∃ i,xs=[.int i]/\Q (.int i) H)\/∃ k,xs=[.bl k]/\Q (.int (if k then 1 else 0)) H) (tCons te tNil)) τ (fun i=>i=0\/i=1):=fun W L σ H Q rs o q =>
  h W L σ H _ rs o fun v H1 s ⟨b,e⟩ e1 o1 rv=>by
    subst e
    cases rv.bl_inv
    exact .inr ⟨b,rfl,q _ H1 _ ⟨_,rfl,by cases b <;> simp⟩ e1 o1 (.int _)⟩
end
noncomputable def RInt (b:Nat):List Dat->(Dat->Prop)->Prop:=fun ds C=>ds=[]/\C=fun d=>∃ n:Int,d = .int n/\n.natAbs<=b
noncomputable def RSet:List Dat->(Dat->Prop)->Prop:=fun ds C=>ds=[]/\C=fun d=>∃ k l:Int,d=tI [k,l]/\(k ≠ 0\/l ≠ 0)/\Bd (10 ^ 12) [k,l]
end
section
noncomputable def qf (x:Rat):List Int:=[x.num,(x.den:Int)]
noncomputable def ptQ (x y z:Rat):Dat:=ptD (qf x) (qf y) (qf z)
section
variable {W:Addr->Prop}
end
end
section
noncomputable def isNo:Dat->Bool
  | .none=>true
  | _=>false
section
variable {p:Option Addr} {K:PySem.W.Frag} {τ:List Sl} {ta tb:TE}
theorem E1.isNo {d:Dat} (ha:E1 p K ta τ (.dat d)) (hb:E1 p K tb τ (.dat .none)):E1 p K (tOp (fun x y H Q=>y = .non/\Q (.bl (decide (x = .non))) H) ta tb) τ (.dat (.bool (D.isNo d))) :=
  E1.op2 ha hb fun W H0 H x y Q o0 o r1 r2 q=>by
    refine ⟨r2.non_inv,q _ H Ev.refl o ?_⟩
    cases r1 <;> exact .bool _
end
end
section
noncomputable abbrev Q1 (a b d e:Int) (x y z:Rat):Rat:=K0.R1 a b d e x y z / N4 a b d e
noncomputable abbrev Q2 (a b d e:Int) (x y z:Rat):Rat:=K0.R2 a b d e x y z / N4 a b d e
noncomputable abbrev Q3 (a b d e:Int) (x y z:Rat):Rat:=K0.R3 a b d e x y z / N4 a b d e
section
variable {W:Addr->Prop}
end
end
noncomputable def MM (p q r x y z w v:Rat):Rat:=v - 2 * (p * x + q * y + r * z) / (p * p + q * q + r * r) * w
noncomputable abbrev M1 (p q r:Int) (x y z:Rat):Rat:=MM p q r x y z p x
noncomputable def ftR (k l N v D w c:Rat):Rat:=(k * (N * v - D * w) + l * c) / (2 * k * N)
noncomputable abbrev F1 (p q r k l:Int) (x y z:Rat):Rat:=ftR k l ((p:Rat) * p + q * q + r * r) x (p * x + q * y + r * z) p (q * z - r * y)
noncomputable abbrev F2 (p q r k l:Int) (x y z:Rat):Rat:=ftR k l ((p:Rat) * p + q * q + r * r) y (p * x + q * y + r * z) q (r * x - p * z)
noncomputable abbrev F3 (p q r k l:Int) (x y z:Rat):Rat:=ftR k l ((p:Rat) * p + q * q + r * r) z (p * x + q * y + r * z) r (p * y - q * x)
noncomputable abbrev sl (p q r:Int) (x y z:Rat):Rat:=((p:Rat) * x + q * y + r * z) / ((p:Rat) * p + q * q + r * r)
end D
section
namespace L2
open PySem PySem.Spec PyProof.Rows
noncomputable def SX (b:Bool) (K:PySem.W.Frag) (H:Hp) (a:Addr) (xs:List V):Prop:=match b with | true=>SqL K H a xs | false=>SqT K H a xs
section
end
end L2
end
namespace D
open PySem L2 K0 Num
open PySem.W (Dat)
section
section
variable {p:Option Addr} {K:PySem.W.Frag} {W:Addr->Prop} {H:Hp} {τ:List Sl} {te:TE}
theorem E.tupC {C:List Dat->Prop} (h:E p K te τ (fun s=>∃ es,s = .own es/\C es)):E p K (tCB (fun xs H Q=>∃ p ys,xs=[.ref p]/\((SqL K H p ys/\∀ l,H l=none->Q (.ref l) (upd H l (.tup ys)))\/(SqT K H p ys/\Q (.ref p) H))) (tCons te tNil)) τ (fun s=>∃ es,s = .dat (.tuple es)/\C es):=fun W L σ H Q rs o q =>
  h W L σ H _ rs o fun v H1 s ⟨es,e,c⟩ e1 o1 rv=>by
    subst e
    obtain ⟨a,vs,rfl,h0,h1,h2⟩:=rv
    refine ⟨a,_,rfl,.inl ⟨SqL.of h1,fun r hr=>?_⟩⟩
    have s:=Same.new hr (.tup vs)
    refine q _ _ _ ⟨es,rfl,c⟩ (e1.trans (Ev.of s)) (o1.same s) ?_
    exact .tup (SqT.of upd_same) (h2.ev (W:=fun _=>False) (Ev.of s) fun _ _ z=>z)
end
structure Row3 where
  x:Rat
  y:Rat
  z:Rat
noncomputable def Row3.d (r:Row3):Dat:=ptQ r.x r.y r.z
noncomputable def Row3.dot (r s:Row3):Rat:=r.x * s.x + r.y * s.y + r.z * s.z
end
end D
section
namespace L2
open PySem PySem.Spec PyProof.Rows
noncomputable def rBitLen:V->List V->Hp->VK->Prop:=fun x vs H Q=>∃ i,x = .int i/\vs=[]/\Q (.int (Builtin.Int.intBits i:Nat)) H
section
variable {X:Cx} {a b c e o:Expr} {to te ta tb:TE} {tA:TT} {apos cpos pos:Pos}
theorem mt_bitlen:MtR X "int.bit_length" rBitLen:=by
  intro pins s σ H x vs v us Q I rx rv h
  obtain ⟨i,rfl,rfl,q⟩:=h
  obtain ⟨t,rfl⟩:=rx
  cases rv
  exact call_int_bit_length ⟨.int _,H,I.tok _,⟨_,rfl⟩,q⟩
theorem ze_bitlen (ho:ZE X o to) (hbase:attributeBase o "bit_length" X.env (eval o X.env)=eval o X.env:=by rfl) (hline:(apos.endLine == cpos.line)=true:=by rfl) :
    ZE X (.Call (.Attribute o "bit_length" apos) [] [] cpos) (tBM0 X.K "int" rBitLen to) :=
  ⟨pe_bm0 PySem.F.plainAttrs_int PyProof.Rows.slot_int_bit_length (by rfl) mt_bitlen ho.out hbase hline⟩
theorem ze_ifx (hc:ZT X c tA) (ha:ZE X a ta) (hb:ZE X b tb):ZE X (.IfExp c a b pos) (tIf tA ta tb):=⟨pe_ifExp hc.out ha.out hb.out⟩
end
end L2
namespace D
open PySem L2 K0 Num
open PySem.W (Dat)
section
variable {p:Option Addr} {K:PySem.W.Frag} {W:Addr->Prop} {H:Hp} {τ:List Sl} {te ta tb:TE} {tt:TT}
theorem E1.bitlen {i:Int} (h:E1 p K te τ (.dat (.int i))):E1 p K (tBM0 K "int" rBitLen te) τ (.dat (.int (Builtin.Int.intBits i:Nat))):=fun W L σ H Q rs o q =>
  h W L σ H _ rs o fun v H1 s e e1 o1 rv=>by
    subst e
    cases rv.int_inv
    exact ⟨rfl,i,rfl,rfl,q _ H1 _ rfl e1 o1 (.int _)⟩
theorem E1.shl {i j:Int} (ha:E1 p K ta τ (.dat (.int i))) (hb:E1 p K tb τ (.dat (.int j))) (hc:CPow i j):E1 p K (tOp (rI CPow fun i j=>.int (i * 2 ^ j.toNat)) ta tb) τ (.dat (.int (i * 2 ^ j.toNat))):=E1.opI ha hb hc fun _ _ _=>.int _
theorem E.ifx {C:Bool->Prop} {D:Sl->Prop} (h:T p K tt τ C) (ht:C true->E p K ta τ D) (hf:C false->E p K tb τ D):E p K (tIf tt ta tb) τ D:=fun W L σ H Q rs o q=>h W L σ H _ rs o fun b H1 c e1 o1=>by
  have rs1:=rs.ev e1 o.pw
  cases b with
  | true=>exact ht c W L σ H1 Q rs1 o1 fun v H' s d e2 o2 rv=>q v H' s d (e1.trans e2) o2 (rv.base e1 o1)
  | false=>exact hf c W L σ H1 Q rs1 o1 fun v H' s d e2 o2 rv=>q v H' s d (e1.trans e2) o2 (rv.base e1 o1)
theorem E1.ifT {s:Sl} (h:T1 p K tt τ true) (ha:E1 p K ta τ s):E1 p K (tIf tt ta tb) τ s:=E.ifx h (fun _=>ha) (fun z=>by cases z)
theorem E1.ifF {s:Sl} (h:T1 p K tt τ false) (ha:E1 p K tb τ s):E1 p K (tIf tt ta tb) τ s:=E.ifx h (fun z=>by cases z) (fun _=>ha)
end
noncomputable def IsRt (n r:Int):Prop:=0<=r/\r * r<=n/\n < (r + 1) * (r + 1)
noncomputable def RRoot:List Dat->Dat->Prop:=fun ds d=>∃ n r:Int,ds=[.int n]/\0<=n/\Bt n 4000/\IsRt n r/\d = .int r
theorem rt_mono {a b:Int} (ha:0<=a) (h:a<=b):a * a<=b * b:=Int.mul_le_mul h h ha (Int.le_trans ha h)
theorem isRt_one {n r s:Int} (h:IsRt n r) (g:IsRt n s):r=s:=by
  obtain ⟨h0,h1,h2⟩:=h
  obtain ⟨g0,g1,g2⟩:=g
  rcases Int.lt_trichotomy r s with z | z | z
  . have:=rt_mono (show 0<=r + 1 by omega) (show r + 1<=s by omega)
    omega
  . exact z
  . have:=rt_mono (show 0<=s + 1 by omega) (show s + 1<=r by omega)
    omega
theorem isRt_ex (n : Int) (h : 0 <= n) : ∃ r, IsRt n r := by
  have:∀ m:Nat,∃ r:Nat,r * r<=m/\m < (r + 1) * (r + 1):=by
    intro m
    induction m with
    | zero=>exact ⟨0,by decide,by decide⟩
    | succ m ih =>
      obtain ⟨r,h1,h2⟩:=ih
      by_cases h3:m + 1 < (r + 1) * (r + 1)
      . exact ⟨r,by omega,h3⟩
      . refine ⟨r + 1,by omega,?_⟩
        have:(r + 1 + 1) * (r + 1 + 1)=(r + 1) * (r + 1) + 2 * (r + 1) + 1:=by grind
        omega
  obtain ⟨r,h1,h2⟩:=this n.toNat
  refine ⟨r,by omega,?_,?_⟩
  . have:((r * r:Nat):Int)<=(n.toNat:Int):=by exact_mod_cast h1
    rw [Int.toNat_of_nonneg h] at this
    push_cast at this;exact this
  . have:(n.toNat:Int) < (((r + 1) * (r + 1):Nat):Int):=by exact_mod_cast h2
    rw [Int.toNat_of_nonneg h] at this
    push_cast at this;exact this
theorem bits_lt {n:Int} (h:0 < n):n < 2 ^ (Builtin.Int.intBits n):=by
  unfold Builtin.Int.intBits
  rw [if_neg (by simp;omega)]
  have h1:n.natAbs < 2 ^ (n.natAbs.log2 + 1):=Nat.lt_log2_self
  have h2:(n.natAbs:Int) < ((2 ^ (n.natAbs.log2 + 1):Nat):Int):=by exact_mod_cast h1
  rw [Int.natAbs_of_nonneg (by omega)] at h2
  push_cast at h2
  exact h2
theorem bits_le {n:Int} {k:Nat} (h0:0 < n) (h:Bt n k):Builtin.Int.intBits n<=k + 1:=by
  unfold Builtin.Int.intBits
  rw [if_neg (by simp;omega)]
  have h1:n.natAbs.log2<=k:=by
    have h2:2 ^ n.natAbs.log2<=2 ^ k:=Nat.le_trans (Nat.log2_self_le (by omega)) h
    exact (Nat.pow_le_pow_iff_right (by decide)).mp h2
  omega
theorem pow_sq (k:Nat):(2:Int) ^ k * 2 ^ k=2 ^ (2 * k):=by rw [Nat.two_mul,Int.pow_add]
theorem pow2_pos (k:Nat):(0:Int) < 2 ^ k:=Int.pow_pos (by decide)
theorem pow2_le {k l:Nat} (h:k<=l):(2:Int) ^ k<=2 ^ l:=by
  have:=Nat.pow_le_pow_right (n:=2) (by decide) h
  exact_mod_cast this
theorem newton {n g q s:Int} (hg:0 < g) (hq:q=n / g) (hs:s=(g + q) / 2) (hn:0<=n):n < (s + 1) * (s + 1):=by
  have h1:n < g * (q + 1):=by
    have:=Int.lt_mul_ediv_self_add (x:=n) hg
    rw [hq]
    have e:g * (n / g + 1)=g * (n / g) + g:=by grind
    omega
  have h2:g + q + 1<=2 * (s + 1):=by omega
  have q0:0<=q:=by rw [hq];exact Int.ediv_nonneg hn (by omega)
  have h3:=rt_mono (show 0<=g + q + 1 by omega) h2
  have h4:4 * (g * (q + 1))<=(g + q + 1) * (g + q + 1):=by
    have:=sq_nn (g - (q + 1))
    have e:(g + q + 1) * (g + q + 1)=4 * (g * (q + 1)) + (g - (q + 1)) * (g - (q + 1)):=by grind
    omega
  have e:2 * (s + 1) * (2 * (s + 1))=4 * ((s + 1) * (s + 1)):=by grind
  omega
theorem newton_stop {n g:Int} (hg:0 < g) (h:g<=(g + n / g) / 2):g * g<=n:=by
  have h1:g<=n / g:=by omega
  have h2:=Int.mul_le_mul_of_nonneg_left h1 (show 0<=g by omega)
  have h3:=Int.mul_ediv_self_le (x:=n) (k:=g) (by omega)
  omega
noncomputable def RExact:List Dat->Dat->Prop:=fun ds d=>∃ n:Int,ds=[.int n]/\0<=n/\Bt n 4000/\((∃ r,0<=r/\r * r=n/\d = .int r)\/((∀ r:Int,r * r ≠ n)/\d = .none))
theorem rt_sq {r:Int} (h:0<=r):IsRt (r * r) r:=by
  refine ⟨h,Int.le_refl _,?_⟩
  have:(r + 1) * (r + 1)=r * r + 2 * r + 1:=by grind
  omega
theorem rt_bt {n r:Int} {k:Nat} (h:IsRt n r) (hb:Bt n k):Bt r k:=by
  obtain ⟨h0,h1,_⟩:=h
  unfold Bt at *
  have:r<=r * r:=by
    rcases Int.lt_or_eq_of_le h0 with z | z
    . have:=Int.mul_le_mul_of_nonneg_left (show 1<=r by omega) h0
      omega
    . rw [<- z];decide
  omega
end D
namespace D
open PySem L2 K0 Num
open PySem.W (Dat)
end D
namespace D
open PySem L2 K0 Num
open PySem.W (Dat)
section
variable {p:Option Addr} {K:PySem.W.Frag} {W:Addr->Prop} {H:Hp} {L:List Addr} {σ:St} {τ:List Sl} {t:TS}
end
end D
end
namespace D
open PySem L2 K0 Num
open PySem.W (Dat)
section
section
variable {W:Addr->Prop}
end
noncomputable def F4 (b:Nat) (f:List Int):Prop:=f.length=4/\(∃ n ∈ f,n ≠ 0)/\Bd (2 ^ b) f
noncomputable def rb (ns ms:List Int):List Int:=fr (sop ns ms * sop ns ms) (nrm ns * nrm ms)
end
end D
section
namespace L2
open PySem PySem.Spec PyProof.Rows
section
variable {o:Expr} {ta tb:TE}
end
end L2
namespace D
open PySem L2 K0 Num
open PySem.W (Dat)
section
variable {p:Option Addr} {K:PySem.W.Frag} {W:Addr->Prop} {H H0:Hp} {τ:List Sl} {ta tb:TE}
theorem Rv.str_inv {x:Str} {v:V} (h:Rv p W K H0 H v (.dat (.str x))):v = .str x:=by cases h;rfl
theorem E1.addS {x y:Str} (ha:E1 p K ta τ (.dat (.str x))) (hb:E1 p K tb τ (.dat (.str y))) (h:x.length + y.length<=sizeLine):E1 p K (tOp (fun x y H Q=>∃ i j,x = .str i/\y = .str j/\i.length + j.length<=sizeLine/\Q (.str (i ++ j)) H) ta tb) τ (.dat (.str (x ++ y))) :=
  E1.op2 ha hb fun W H0 H u v Q o0 o r1 r2 q=>by
    cases r1.str_inv
    cases r2.str_inv
    exact ⟨x,y,rfl,rfl,h,q _ H Ev.refl o (.str _)⟩
end
section
variable {p:Option Addr} {K:PySem.W.Frag} {W:Addr->Prop} {H H0:Hp} {τ:List Sl} {ta tb:TE} {v:V} {u:TS}
end
end D
end
namespace D
open PySem L2 K0 Num
open PySem.W (Dat)
noncomputable def nd (kind:Int):Nat:=if kind=0 then 1 else if kind=4 then 3 else 2
noncomputable def pw (ns:List Int):Nat->List Int
  | 0=>ns
  | k + 1=>qm ns (pw ns k)
section
end
noncomputable def tn (ns:List Int):Nat->List Int
  | 0=>[1,0,0,0]
  | k + 1=>pl (pw ns k)
end D
section
namespace L2
open PySem PySem.Spec PyProof.Rows
inductive EntS (K:PySem.W.Frag):List DictEntry->List (Str × List Int)->Prop
  | nil:EntS K [] []
  | cons {g:Int} {x:Str} {t:Tok} {a:Addr} {o:Obj} {its:Array Value} {n:Nat} {ks:List Int} {es:List DictEntry} {D:List (Str × List Int)}:K.lookup a=some o->o.cls = .type "tuple" -> o.data = .seq its n->its.size<=sizeLine->Vals (ks.map V.int) its.toList->EntS K es D->EntS K (⟨g,.str x t,.ref a⟩ :: es) ((x,ks) :: D)
noncomputable def TabS (K:PySem.W.Frag) (d:Addr) (D:List (Str × List Int)):Prop:=∃ o es ep,K.lookup d=some o/\o.ExactDict/\o.data = .dict es ep/\EntS K es.toList D/\(d == sysModules)=false
noncomputable def AtT (K:PySem.W.Frag) (ks:List Int) (v:Value):Prop:=∃ a o its n,v = .ref a/\K.lookup a=some o/\o.cls = .type "tuple" /\ o.data = .seq its n/\its.size<=sizeLine/\Vals (ks.map V.int) its.toList
theorem EntS.rows {K:PySem.W.Frag} {es:List DictEntry} {D:List (Str × List Int)} (h:EntS K es D):KTD.Rows (AtT K) es D:=by
  induction h with
  | nil=>exact .nil
  | cons h1 h2 h3 h4 h5 h6 ih=>exact .cons rfl ⟨_,_,_,_,rfl,h1,h2,h3,h4,h5⟩ ih
theorem TabS.of {X:Cx} {pins:List (Addr × Obj)} {σ:List (Option V)} {H:Hp} {s:Shared} (I:Inv X pins σ H s) {d:Addr} {D:List (Str × List Int)} (h:TabS X.K d D):KTD.TabOf (AtT X.K) s.heap d D:=by
  obtain ⟨o,es,ep,h1,h2,h3,h4,h5⟩:=h
  exact ⟨h5,o,es,ep,I.kIn d o h1,h2,h3,h4.rows⟩
theorem flats_of:∀ {ks:List Int} {vs:List Value},Vals (ks.map V.int) vs->KTD.Flats vs (ks.map PyData.int)
  | [],_,h=>by cases h;exact .nil
  | k :: r, _, h => by
    cases h with
    | cons h1 h2 =>
      obtain ⟨t,rfl⟩:=h1
      exact .cons (.int _ _) (flats_of h2)
theorem TabS.text {X:Cx} {pins:List (Addr × Obj)} {σ:List (Option V)} {H:Hp} {s:Shared} (I:Inv X pins σ H s) {d:Addr} {D:List (Str × List Int)} (h:TabS X.K d D):KTD.TextTab s.heap d (D.map fun p=>(p.1,KTD.Dat.tup (p.2.map PyData.int))):=by
  obtain ⟨h5,o,es,ep,h1,h2,h3,h4⟩:=h.of I
  refine ⟨h5,o,es,ep,h1,h2,h3,h4.mono (f:=fun ks:List Int=>KTD.Dat.tup (ks.map PyData.int)) fun ks v ⟨a,o,its,n,e,g1,g2,g3,g4,g5⟩=>?_⟩
  exact ⟨a,its.toList,e,⟨o,I.kIn a o g1,g2,n,by simpa using g3⟩,flats_of g5⟩
theorem rows_get {prog:Program} {w:World} {A:Around} {E:Value->Shared->Prop} {s:Shared} {a:Addr} {K:PySem.W.Frag} {D:List (Str × List Int)} {k:Str} {tk:Tok} {ks:List Int} {Q:Option Value->Shared->Prop}
    (T:KTD.TabOf (AtT K) s.heap a D) (hk:KTD.datumAt k D=some ks) (h:∀ v,AtT K ks v->Q (some v) { s with toks:=s.toks + 1 }):wpAny (model prog w) A (dictGet a (.str k tk)) Q E s:=by
  obtain ⟨_,o,es,ep,ho,hc,hd,hr⟩:=T
  obtain ⟨v,hv,hfl⟩:=hr.find_some hk
  have hq:=h v hfl
  unfold dictGet
  try with_reducible refine wpAny_holding ?_
  refine wpAny_bind (wpAny_pyHash_str (wpAny_bind (KTD.kt_dictFind_strs (s:={ s with toks:=s.toks + 1 }) ho hd (by obtain ⟨l⟩:=es;simpa using hr.exact) ?_)))
  have hf:findBy (fun k v=>v.isStr k) es k=some v:=by
    rw [<- hv]
    obtain ⟨l⟩:=es
    simp [findBy]
  rw [findBy_of_findIdx?] at hf
  cases hi:es.findIdx? fun e=>e.key.isStr k with
  | none=>rw [hi] at hf;cases hf
  | some i =>
    rw [hi] at hf
    refine wpAny_bind (wpAny_dictEntries (s:={ s with toks:=s.toks + 1 }) ho hd (wpAny_pure ?_))
    rw [show some v=_ from hf.symm] at hq
    exact hq
noncomputable def rTix (K:PySem.W.Frag):R2:=fun x y H Q=>∃ d k D ks,x = .ref d/\y = .str k/\TabS K d D/\KTD.datumAt k D=some ks/\∀ a,SqT K H a (ks.map V.int)->Q (.ref a) H
noncomputable def rTin (K:PySem.W.Frag):R2:=fun x y H Q=>∃ d k D,y = .ref d/\x = .str k/\TabS K d D/\Q (.bl (KTD.inKeys k D)) H
section
variable {X:Cx} {b:Expr} {ta tb:TE} {pos ps:Pos} {x:Str}
theorem op_tin:OpR X (compareOp .In) (rTin X.K):=by
  intro pins s σ H x y v u Q I rx ry h
  obtain ⟨d,k,D,rfl,rfl,t,q⟩:=h
  obtain ⟨tk,rfl⟩:=rx
  cases ry
  refine KTD.in_text (h₀:=s.heap) ⟨t.text I,fun _ _ h=>h⟩ ?_
  have e:KTD.inKeys k (D.map fun p=>(p.1,KTD.Dat.tup (p.2.map PyData.int)))=KTD.inKeys k D:=by
    clear q t
    induction D with
    | nil=>rfl
    | cons p D ih=>show (decide (k=p.1) || _)=(decide (k=p.1) || _);rw [ih]
  rw [e]
  exact ⟨.bl _,H,I.tok _,rfl,q⟩
theorem ze_tix (ha:ZE X (.Name x ps) ta) (hb:ZE X b tb) (hs:PlainIx b):ZE X (.Subscript (.Name x ps) b pos) (tOp (rTix X.K) ta tb):=by
  refine ⟨?_⟩
  intro pins s σ H Q I h
  refine Subscript_ (binT ha.out hb.out I h fun v u s2 x y H2 I2 rx ry q=>?_)
  obtain ⟨d,k,D,ks,rfl,rfl,t,hk,q⟩:=q
  obtain ⟨tk,rfl⟩:=ry
  cases rx
  have T:=t.of I2
  have hT:s2.TypeIs (.ref d) "dict" := let ⟨_,o,_,_,ho,hc,_⟩:=T;⟨o,ho,hc.1⟩
  refine subscriptTail_builtin hT slot_dict_getitem.lookup ?_ (hs _ _) (by intro _;with_unfolding_all rfl)
  unfold getItem
  try with_reducible refine wpAny_holding ?_
  refine wpAny_bind (wpAny_sequenceKey hT (by decide) ?_)
  refine wpAny_bind (wpAny_callSpecial?_slot (name:=Str.ofString "__getitem__") hT slot_dict_getitem
    (wpAny_call_entry slot_dict_getitem hT entry_dict_getitem ?_ (args_dict_getitem _ _)))
  show wpAny _ _ (dictGet d (.str k tk) >>= _) _ _ s2
  refine wpAny_bind (rows_get T hk fun v hv=>wpAny_pure ⟨v,rfl,wpAny_pure ?_⟩)
  obtain ⟨a,o,its,n,rfl,g1,g2,g3,g4,g5⟩:=hv
  exact ⟨.ref a,H2,I2.tok _,rfl,q a (.inr ⟨o,its,n,g1,g2,g3,g4,g5⟩)⟩
theorem zs_never {st:Stmt}:ZS X st tNever:=⟨ps_never⟩
end
end L2
end
section
namespace L2
open PySem PySem.Spec PyProof.Rows
noncomputable def Its (x:Str):It:=⟨fun i _=>i < x.cps.size,fun i H v H'=>H'=H/\∃ c,x.cps[i]?=some c/\v = .str ⟨#[c]⟩,fun i _=>x.cps.size<=i⟩
theorem turn_str {P:Program} {w:World} {K:PySem.W.Frag} {tg:Expr} (it:Addr) (x:Str) (t:Tok):Turn P w K tg (Its x) [it] it (fun i h=>h.IsStrIter it "str_ascii_iterator" x t i) where
  mem:=by simp
  obj:=fun i h st b hb=>by
    have e:b=it:=by simpa using hb
    subst e
    obtain ⟨o,e,c,d⟩:=st
    exact ⟨o,e,fun v z=>by rw [d] at z;cases z⟩
  keep:=fun i h h' st k=>by
    obtain ⟨o,e,c,d⟩:=st
    exact ⟨o,k it (by simp) o e,c,d⟩
  item:=by
    intro X hP hw hK hc i pins s σ H E I hf st hg
    subst hP hw hK
    obtain ⟨f0,f1,f2,f3,f4,f5⟩:=hf it (by simp)
    have W:=Walks.strAscii (prog:=X.prog) (w:=X.w) (I.ok.hd hc) it x t
    refine W.item i s _ _ hg st fun v h' tk hv st' kk=>?_
    obtain ⟨c,u,hc',rfl⟩:=hv
    have I1:Inv X pins σ H { s with heap:=h',toks:=tk }:=I.turned (fun b o hb e=>kk b o (by simpa using hb) e) f0 f1 f3 f4 f5
    obtain ⟨o,e,ec,ed⟩:=id st'
    exact ⟨_,rfl,go_of (s:={ s with heap:=h',toks:=tk }) e ec ed (by decide) ⟨.str ⟨#[c]⟩,H,I1,⟨u,rfl⟩,⟨rfl,c,hc',rfl⟩,st',fun b hb=>(hf b hb).1⟩⟩
  done:=by
    intro X hP hw hK hc i pins s σ H E I hf st hg
    subst hP hw hK
    obtain ⟨f0,f1,f2,f3,f4,f5⟩:=hf it (by simp)
    exact wpAny_pyNext_ascii_end (I.ok.hd hc) st (by have:x.cps.size<=i:=hg;simpa using this) fun h' eb=>⟨rfl,I.turned (t':=s.toks) (fun b o hb e=>eb b o hb e) f0 f1 f3 f4 f5⟩
  self:=fun _ _ _ _ _ st h=>wpAny_pyIter_striter_ascii st h
noncomputable def iStr (tl:TE):TI:=fun σ H R=>tl σ H fun x H1=>∃ z,x = .str z/\z.cps.all (· < 128)=true/\R (Its z) H1
section
variable {X:Cx} {tg l:Expr} {tl:TE}
theorem zi_str (hl:ZE X l tl):ZI X tg l (iStr tl):=by
  refine ⟨?_⟩
  intro pins s σ H R I h
  refine thn (hl.out pins s σ H _ I h) fun v s1 ⟨x,H1,I1,r1,q1⟩=>?_
  obtain ⟨z,e,ha,q⟩:=q1
  subst e
  obtain ⟨t,rfl⟩:=r1
  refine wpAny_pyIter_ascii ha ?_
  refine ⟨s1.heap.objs.size,[s1.heap.objs.size],_,_,H1,rfl,I1.kept (t':=s1.toks) fun b o e=>Heap.get?_push_of_some _ e,turn_str _ z t,⟨_,Heap.get?_push_size _ rfl,rfl,rfl⟩,fun b hb=>?_,q⟩
  have e:b=s1.heap.objs.size:=by simpa using hb
  subst e
  exact I1.fpOk (Nat.le_refl _) (I1.hok.fresh (Nat.le_refl _))
end
end L2
namespace D
open PySem L2 K0 Num
open PySem.W (Dat)
section
variable {p:Option Addr} {K:PySem.W.Frag} {W:Addr->Prop} {H:Hp} {τ:List Sl} {te ta tb:TE}
noncomputable def lets (z:Str):List Dat:=z.cps.toList.map fun c=>.str ⟨#[c]⟩
theorem Wk.str {z:Str} (h:E1 p K te τ (.dat (.str z))) (ha:z.cps.all (· < 128)=true):Wk p K (iStr te) τ (lets z):=fun W L σ H R r o q=>h W L σ H _ r o fun v H1 s e e1 o1 rv=>by
  subst e
  cases rv.str_inv
  refine ⟨z,rfl,ha,q _ H1 e1 o1 fun W' H' ev n=>⟨?_,fun i d hd=>?_⟩⟩
  . show z.cps.size<=(lets z).length
    unfold lets
    rw [List.length_map,Array.length_toList]
    exact Nat.le_refl _
  . unfold lets at hd
    rw [List.getElem?_map,Array.getElem?_toList] at hd
    cases hc:z.cps[i]? with
    | none=>rw [hc] at hd;cases hd
    | some c =>
      rw [hc] at hd
      cases hd
      refine ⟨(Array.getElem?_eq_some_iff.mp hc).1,fun y H2 ⟨e1,c',e2,e3⟩=>?_⟩
      subst e1 e3
      rw [hc] at e2;cases e2
      exact ⟨Same.refl _,.str _⟩
theorem E1.ixS {z:Str} {i:Int} {c:Nat} (ha:E1 p K ta τ (.dat (.str z))) (hb:E1 p K tb τ (.dat (.int i))) (hz:z.length<=sizeLine) (h:atI z.cps.toList i=some c):E1 p K (tOp rIxS ta tb) τ (.dat (.str ⟨#[c]⟩)) :=
  E1.op2 ha hb fun W H0 H x y Q o0 o r1 r2 q=>by
    cases r1.str_inv
    cases r2.int_inv
    exact ⟨z,i,c,rfl,rfl,hz,h,q _ H Ev.refl o (.str _)⟩
theorem E1.lenS {z:Str} {tas:TA} (ha:A1 p K tas τ [.dat (.str z)]) (hz:z.length<=sizeLine):E1 p K (tCB (fun xs H Q=>∃ z,xs=[.str z]/\z.length<=sizeLine/\Q (.int z.length) H) tas) τ (.dat (.int z.length)) :=
  E1.cb1 ha fun W H0 H x Q o0 o _ r q=>by cases r.str_inv;exact ⟨z,rfl,hz,q _ H Ev.refl o (.int _)⟩
theorem E1.tin {k:Str} {d:Addr} {Dl:List (Str × List Int)} (t:TabS K d Dl) (ha:E1 p K ta τ (.dat (.str k))):E1 p K (tOp (rTin K) ta (tC (.ref d))) τ (.dat (.bool (PyProof.Rows.KTD.inKeys k Dl))):=fun W L σ H Q rs o q=>ha W L σ H _ rs o fun v H1 s e e1 o1 rv=>by
  subst e
  cases rv.str_inv
  exact ⟨d,k,Dl,rfl,rfl,t,q _ H1 _ rfl e1 o1 (.bool _)⟩
theorem E1.tix {k:Str} {d:Addr} {Dl:List (Str × List Int)} {ks:List Int} (t:TabS K d Dl) (hb:E1 p K tb τ (.dat (.str k))) (hk:PyProof.Rows.KTD.datumAt k Dl=some ks):E1 p K (tOp (rTix K) (tC (.ref d)) tb) τ (.dat (tI ks)):=fun W L σ H Q rs o q=>hb W L σ H _ rs o fun v H1 s e e1 o1 rv=>by
  subst e
  cases rv.str_inv
  exact ⟨d,k,Dl,ks,rfl,rfl,t,hk,fun a ha=>q _ H1 _ rfl e1 o1 (.tup ha (Dzs.ints _))⟩
theorem S.drop {nx:List Sl->Prop} {rt:Sl->Prop} {s:Sl} (h:E1 p K te τ s) (m:nx τ):S p K (tDrop te) τ nx rt:=fun W L σ H Dn r o q1 q2=>h W L σ H _ r o fun v H' s c e o' rv=>q1 W L σ H' τ m (e.ofP o) o' o'.al (fun _ h=>.inl h) (fun _ h=>.inl h) (r.ev e o.pw)
theorem S.dropS {nx:List Sl->Prop} {rt:Sl->Prop} {s:Sl} {u:TS} (h:E1 p K te τ s) (m:S p K u τ nx rt):S p K (tSeq (tDrop te) u) τ nx rt:=S.seq (M:=fun τ'=>τ'=τ) (S.drop h rfl) fun τ' e=>by subst e;exact m
end
end D
end
section
namespace L2
open PySem PySem.Spec PyProof.Rows
noncomputable def rAll (K:PySem.W.Frag):List V->Hp->VK->Prop:=fun xs H Q=>∃ (a:Addr) (bs:List Bool),xs=[.ref a]/\SqL K H a (bs.map V.bl)/\Q (.bl (bs.all id)) H
theorem range_all':∀ (bs:List Bool),((List.range bs.length).all fun i=>(bs[i]?).getD true)=bs.all id:=by
  intro bs
  rw [Bool.eq_iff_iff]
  simp only [List.all_eq_true,List.mem_range,id]
  constructor
  . intro h b hb
    obtain ⟨i,hi,rfl⟩:=List.getElem_of_mem hb
    have:=h i hi
    rwa [List.getElem?_eq_getElem hi] at this
  . intro h i hi
    rw [List.getElem?_eq_getElem hi]
    exact h _ (List.getElem_mem hi)
section
variable {X:Cx} {o e:Expr}
theorem call_allL (hc : X.calm = true) : CallR X (.builtin "all") (rAll X.K) := by
  intro pins s σ H xs us Q I r h
  obtain ⟨a,bs,rfl,hl,q⟩:=h
  cases r with
  | cons r1 r2 =>
    cases r2
    cases (show _=Value.ref a from r1)
    obtain ⟨its,rv,pl,_⟩:=I.list hl
    have hi:=pl.isList
    have hlt:a < s.heap.objs.size:=by obtain ⟨_,e,_⟩:=hi;exact Heap.lt_size e
    have hlen:its.length=bs.length:=by have:=rv.length;simpa using this.symm
    refine call_all_walk (wpAny_pyIter_list hi ?_)
    refine ⟨s.heap.objs.size,[s.heap.objs.size,a],[s.heap.objs.size],its.toArray.size,_,_,fun i=>(bs[i]?).getD true,rfl,Walks.list (A:=X.A.in1) (I.ok.hd hc) _ a (Nat.ne_of_lt hlt) its.toArray,
      ⟨⟨_,Heap.get?_push_size _ rfl,rfl,rfl⟩,hi.push _⟩,fun i v s' Q' E' hP hQ=>?_,fun h' tk hk=>?_⟩
    . have hP:its[i]?=some v:=by simpa using hP
      have hb:i < bs.length:=by have:=(List.getElem?_eq_some_iff.mp hP).1;omega
      obtain ⟨u,hu,ru⟩:=rv.get (x:=.bl bs[i]) (i:=i) (by rw [List.getElem?_map,List.getElem?_eq_getElem hb];rfl)
      rw [hP] at hu
      cases hu
      cases (show v=Value.bool bs[i] from ru)
      simp only [List.getElem?_eq_getElem hb,Option.getD_some] at hQ
      exact wpAny_truthy_bool hQ
    . have e:((List.range its.toArray.size).all fun i=>(bs[i]?).getD true)=bs.all id:=by
        rw [List.size_toArray,hlen];exact range_all' bs
      rw [e]
      exact ⟨.bl _,H,I.kept (t':=tk) fun b x e=>hk b x (fun hm=>by rw [List.mem_singleton.mp hm] at e;exact Nat.lt_irrefl _ (Heap.lt_size e)) (Heap.get?_push_of_some _ e),rfl,q⟩
end
end L2
namespace D
open PySem L2 K0 Num
open PySem.W (Dat)
section
variable {p:Option Addr} {K:PySem.W.Frag} {τ:List Sl} {ta:TE}
theorem Dzs.bls {H:Hp}:∀ {N:Addr->Prop} {vs:List V} {bs:List Bool},Dzs N K H vs (bs.map Dat.bool)->vs=bs.map V.bl
  | _,_,[],h=>by cases h;rfl
  | _,_,y :: r,h=>by
    cases h with
    | cons h1 h2=>cases h1;rw [Dzs.bls h2];rfl
theorem E1.allL {bs:List Bool} (ha:E1 p K ta τ (.own (bs.map .bool))):E1 p K (tCB (rAll K) (tCons ta tNil)) τ (.dat (.bool (bs.all id))):=fun W L σ H Q rs o q =>
  ha W L σ H _ rs o fun v H1 s e e1 o1 rv=>by
    subst e
    obtain ⟨a,vs,rfl,h0,h1,h2⟩:=rv
    have ev:=h2.bls
    subst ev
    exact ⟨a,bs,rfl,SqL.of h1,q _ H1 _ rfl e1 o1 (.bool _)⟩
end
end D
end
section
namespace L2
open PySem PySem.Spec PyProof.Rows
section
noncomputable abbrev zs (h:Heap) (sx:Str) (t:Tok):Heap:=h.push { cls:=.type "str_ascii_iterator",data:=.fields #[.str sx t,.int 0 0] }
end
section
end
end L2
end
section
namespace L2
open PySem PySem.Spec PyProof.Rows
section
variable {X:Cx} {own:List Str} {scope:Scope} {C:Addr} {fp:List Addr} {s:Shared} {H:Hp}
theorem op_tinC:OpR (cxComp X own scope C fp s H) (compareOp .In) (rTin X.K):=op_tin
end
noncomputable def TabSAt (K:PySem.W.Frag) (x:Str) (D:List (Str × List Int)):Prop:=∃ d,PySem.W.nsIn K mainGlobals x=some (some (.ref d))/\TabS K d D
theorem TabSAt.get {K:PySem.W.Frag} {x:Str} {D:List (Str × List Int)} {h:Heap} {mg:Str->Option Value} (t:TabSAt K x D) (Y:K.In h) (G:h.Ns mainGlobals mg):∃ d,mg x=some (.ref d)/\TabS K d D:=by
  obtain ⟨d,a,t⟩:=t
  exact ⟨d,PySem.W.mg_of Y G a,t⟩
theorem EntS.three {K:PySem.W.Frag} {g:Int} {x:Str} {t:Tok} {a:Addr} {o:Obj} {p q r:Int} {t1 t2 t3:_} {n:Nat} {es:List DictEntry} {D:List (Str × List Int)} (l:K.lookup a=some o) (c:o.cls = .type "tuple") (d:o.data = .seq #[.int p t1,.int q t2,.int r t3] n) (e:EntS K es D):EntS K (⟨g,.str x t,.ref a⟩ :: es) ((x,[p,q,r]) :: D) :=
  .cons l c d (show 3<=sizeLine by decide) (.cons ⟨_,rfl⟩ (.cons ⟨_,rfl⟩ (.cons ⟨_,rfl⟩ .nil))) e
theorem TabSAt.mk {K:PySem.W.Frag} {x:Str} {D:List (Str × List Int)} {d:Addr} {o:Obj} {es:List DictEntry} {ep:Nat} (a:PySem.W.nsIn K mainGlobals x=some (some (.ref d))) (l:K.lookup d=some o) (c:o.ExactDict) (e:o.data = .dict es.toArray ep) (n:EntS K es D) (m:(d == sysModules)=false):TabSAt K x D :=
  ⟨d,a,o,_,ep,l,c,e,n,m⟩
end L2
namespace D
open PySem L2 K0 Num
open PySem.W (Dat)
section
variable {p:Option Addr} {K:PySem.W.Frag}
end
noncomputable def lt1 (i:Nat):Str:=⟨#[120 + i]⟩
noncomputable def hg (i j k:Nat):Str:=⟨#[120 + i,120 + j,120 + k]⟩
noncomputable def w1 (i:Nat):Int:=if i=0 then 1 else 0
noncomputable def w2 (i:Nat):Int:=if i=1 then 1 else 0
noncomputable def w3 (i:Nat):Int:=if i=2 then 1 else 0
noncomputable def ways:List (Str × List Int):=[("x",[1,0,0]),("y",[0,1,0]),("z",[0,0,1])]
noncomputable def rf (i:Nat) (k l:Int):List Int:=[l,k * w1 i,k * w2 i,k * w3 i]
theorem hg_ascii:∀ i,i < 3->∀ j,j < 3->∀ k,k < 3->(hg i j k).cps.all (· < 128)=true:=by decide +kernel
theorem way_at:∀ i,i < 3->PyProof.Rows.KTD.datumAt (lt1 i) ways=some [w1 i,w2 i,w3 i]:=by decide +kernel
theorem way_in:∀ i,i < 3->PyProof.Rows.KTD.inKeys (lt1 i) ways=true:=by decide +kernel
theorem xyz_at:∀ i:Nat,i < 3->atI (("xyz" : Str)).cps.toList (i:Int)=some (120 + i):=by decide +kernel
theorem lt_ne {i j:Nat} (h:i ≠ j):lt1 i ≠ lt1 j:=fun z=>by
  have:(#[120 + i]:Array Nat) = #[120 + j]:=congrArg Str.cps z
  simp at this
  omega
theorem w_bd:∀ i,i < 3->Bd 1 [w1 i,w2 i,w3 i]:=by unfold Bd;decide
theorem w_is {i:Nat} (h:i < 3):(w1 i=1/\w2 i=0/\w3 i=0)\/(w1 i=0/\w2 i=1/\w3 i=0)\/(w1 i=0/\w2 i=0/\w3 i=1):=by
  match i,h with
  | 0,_=>exact .inl ⟨rfl,rfl,rfl⟩
  | 1,_=>exact .inr (.inl ⟨rfl,rfl,rfl⟩)
  | 2,_=>exact .inr (.inr ⟨rfl,rfl,rfl⟩)
theorem rf_nz {i:Nat} {k l:Int} (h:i < 3) (nz:k ≠ 0\/l ≠ 0):∃ n ∈ rf i k l,n ≠ 0:=by
  unfold rf
  rcases nz with nz | nz
  . rcases w_is h with ⟨e1,e2,e3⟩ | ⟨e1,e2,e3⟩ | ⟨e1,e2,e3⟩ <;> rw [e1,e2,e3]
    . exact ⟨k * 1,by simp,by omega⟩
    . exact ⟨k * 1,by simp,by omega⟩
    . exact ⟨k * 1,by simp,by omega⟩
  . exact ⟨l,by simp,nz⟩
theorem rf_bd {i:Nat} {k l:Int} {m:Nat} (h:i < 3) (b:Bd (2 ^ m) [k,l]):Bd (2 ^ m) (rf i k l):=by
  have bk:=b k (by simp)
  have bl:=b l (by simp)
  intro n hn
  unfold rf at hn
  simp only [List.mem_cons,List.mem_nil_iff,or_false] at hn
  rcases w_is h with ⟨e1,e2,e3⟩ | ⟨e1,e2,e3⟩ | ⟨e1,e2,e3⟩ <;> rw [e1,e2,e3] at hn <;> (rcases hn with rfl | rfl | rfl | rfl <;> first | omega | (simp only [Int.mul_one,Int.mul_zero];first | omega | exact Nat.zero_le _))
theorem rf_set {i:Nat} {k l:Int} (h:i < 3):[l,0,0,0].set (i + 1) k=rf i k l:=by
  unfold rf
  match i,h with
  | 0,_=>show [l,k,0,0]=[l,k * 1,k * 0,k * 0];simp
  | 1,_=>show [l,0,k,0]=[l,k * 0,k * 1,k * 0];simp
  | 2,_=>show [l,0,0,k]=[l,k * 0,k * 0,k * 1];simp
noncomputable def hu (f g h:List Int):List Int:=pl (qm f (qm g h))
section
variable {f g h:List Int}
theorem hu_prog (l1:f.length=4) (l2:g.length=4) (l3:h.length=4) (n1:∃ n ∈ f,n ≠ 0) (n2:∃ n ∈ g,n ≠ 0) (n3:∃ n ∈ h,n ≠ 0):pl (qm (pl f) (pl (qm (pl g) (pl h))))=hu f g h:=by
  unfold hu
  have lg:(pl g).length=4:=by rw [pl_length];exact l2
  have lh:(pl h).length=4:=by rw [pl_length];exact l3
  have lgh:=qm_len l2 l3
  have ngh:=nz_qm l2 l3 n2 n3
  have l':=qm_len lg lh
  have n':=nz_qm lg lh (nz_pl n2) (nz_pl n3)
  rw [pl_qmL l1 (by rw [pl_length];exact l') n1 (nz_pl n'),pl_qmL l2 lh n2 (nz_pl n3),pl_qmR l2 l3 n2 n3,pl_qmR l1 lgh n1 ngh]
end
noncomputable def Hg (i j k:Nat):Prop:=i < 3/\j < 3/\k < 3/\i ≠ j/\j ≠ k
noncomputable def RIsH:List Dat->Dat->Prop:=fun ds d=>∃ i j k:Nat,ds=[.str (hg i j k)]/\Hg i j k/\d = .bool true
noncomputable def RRefH:List Dat->Dat->Prop:=fun ds d=>∃ i j k:Nat,ds=[.str (hg i j k)]/\Hg i j k/\d = .none
noncomputable def RHung:List Dat->Dat->Prop:=fun ds d=>∃ (i j k:Nat) (a b c e f g:Int),ds=[.str (hg i j k),.tuple [tI [a,b],tI [c,e],tI [f,g]]]/\Hg i j k/\(a ≠ 0\/b ≠ 0)/\(c ≠ 0\/e ≠ 0)/\(f ≠ 0\/g ≠ 0)/\Bd (2 ^ 50) [a,b]/\Bd (2 ^ 50) [c,e]/\Bd (2 ^ 50) [f,g]/\d=tI (hu (rf i a b) (rf j c e) (rf k f g))
noncomputable def RHanger:List Dat->(Dat->Prop)->Prop:=fun ds C=>ds=[]/\C=fun d=>∃ i j k:Nat,d = .str (hg i j k)/\Hg i j k
end D
end
section
namespace L2
open PySem PySem.Spec PyProof.Rows
inductive EntI:List DictEntry->List (Str × Int)->Prop
  | nil:EntI [] []
  | cons {g:Int} {x:Str} {t t':Tok} {v:Int} {es:List DictEntry} {D:List (Str × Int)}:EntI es D->EntI (⟨g,.str x t,.int v t'⟩ :: es) ((x,v) :: D)
noncomputable def TabI (K:PySem.W.Frag) (d:Addr) (D:List (Str × Int)):Prop:=∃ o es ep,K.lookup d=some o/\o.ExactDict/\o.data = .dict es ep/\EntI es.toList D/\(d == sysModules)=false
theorem EntI.rows {es:List DictEntry} {D:List (Str × Int)} (h:EntI es D):KTD.Rows (fun (i:Int) v=>∃ t,v=Value.int i t) es D:=by
  induction h with
  | nil=>exact .nil
  | cons h ih=>exact .cons rfl ⟨_,rfl⟩ ih
theorem TabI.of {X:Cx} {pins:List (Addr × Obj)} {σ:List (Option V)} {H:Hp} {s:Shared} (I:Inv X pins σ H s) {d:Addr} {D:List (Str × Int)} (h:TabI X.K d D):KTD.TabOf (fun (i:Int) v=>∃ t,v=Value.int i t) s.heap d D:=by
  obtain ⟨o,es,ep,h1,h2,h3,h4,h5⟩:=h
  exact ⟨h5,o,es,ep,I.kIn d o h1,h2,h3,h4.rows⟩
theorem rowsI_get {prog:Program} {w:World} {A:Around} {E:Value->Shared->Prop} {s:Shared} {a:Addr} {δ:Type} {R:δ->Value->Prop} {D:List (Str × δ)} {k:Str} {tk:Tok} {ks:δ} {Q:Option Value->Shared->Prop}
    (T:KTD.TabOf R s.heap a D) (hk:KTD.datumAt k D=some ks) (h:∀ v,R ks v->Q (some v) { s with toks:=s.toks + 1 }):wpAny (model prog w) A (dictGet a (.str k tk)) Q E s:=by
  obtain ⟨_,o,es,ep,ho,hc,hd,hr⟩:=T
  obtain ⟨v,hv,hfl⟩:=hr.find_some hk
  have hq:=h v hfl
  unfold dictGet
  try with_reducible refine wpAny_holding ?_
  refine wpAny_bind (wpAny_pyHash_str (wpAny_bind (KTD.kt_dictFind_strs (s:={ s with toks:=s.toks + 1 }) ho hd (by obtain ⟨l⟩:=es;simpa using hr.exact) ?_)))
  have hf:findBy (fun k v=>v.isStr k) es k=some v:=by
    rw [<- hv]
    obtain ⟨l⟩:=es
    simp [findBy]
  rw [findBy_of_findIdx?] at hf
  cases hi:es.findIdx? fun e=>e.key.isStr k with
  | none=>rw [hi] at hf;cases hf
  | some i =>
    rw [hi] at hf
    refine wpAny_bind (wpAny_dictEntries (s:={ s with toks:=s.toks + 1 }) ho hd (wpAny_pure ?_))
    rw [show some v=_ from hf.symm] at hq
    exact hq
noncomputable def rTiI (K:PySem.W.Frag):R2:=fun x y H Q=>∃ d k D i,x = .ref d/\y = .str k/\TabI K d D/\KTD.datumAt k D=some i/\Q (.int i) H
section
variable {X:Cx} {b:Expr} {ta tb:TE} {pos ps:Pos} {x:Str}
theorem ze_tiI (ha:ZE X (.Name x ps) ta) (hb:ZE X b tb) (hs:PlainIx b):ZE X (.Subscript (.Name x ps) b pos) (tOp (rTiI X.K) ta tb):=by
  refine ⟨?_⟩
  intro pins s σ H Q I h
  refine Subscript_ (binT ha.out hb.out I h fun v u s2 x y H2 I2 rx ry q=>?_)
  obtain ⟨d,k,D,i,rfl,rfl,t,hk,q⟩:=q
  obtain ⟨tk,rfl⟩:=ry
  cases rx
  have T:=t.of I2
  have hT:s2.TypeIs (.ref d) "dict" := let ⟨_,o,_,_,ho,hc,_⟩:=T;⟨o,ho,hc.1⟩
  refine subscriptTail_builtin hT slot_dict_getitem.lookup ?_ (hs _ _) (by intro _;with_unfolding_all rfl)
  unfold getItem
  try with_reducible refine wpAny_holding ?_
  refine wpAny_bind (wpAny_sequenceKey hT (by decide) ?_)
  refine wpAny_bind (wpAny_callSpecial?_slot (name:=Str.ofString "__getitem__") hT slot_dict_getitem
    (wpAny_call_entry slot_dict_getitem hT entry_dict_getitem ?_ (args_dict_getitem _ _)))
  show wpAny _ _ (dictGet d (.str k tk) >>= _) _ _ s2
  refine wpAny_bind (rowsI_get T hk fun v hv=>wpAny_pure ⟨v,rfl,wpAny_pure ?_⟩)
  obtain ⟨t',rfl⟩:=hv
  exact ⟨.int i,H2,I2.tok _,⟨_,rfl⟩,q⟩
end
noncomputable def TabIAt (K:PySem.W.Frag) (x:Str) (D:List (Str × Int)):Prop:=∃ d,PySem.W.nsIn K mainGlobals x=some (some (.ref d))/\TabI K d D
theorem TabIAt.get {K:PySem.W.Frag} {x:Str} {D:List (Str × Int)} {h:Heap} {mg:Str->Option Value} (t:TabIAt K x D) (Y:K.In h) (G:h.Ns mainGlobals mg):∃ d,mg x=some (.ref d)/\TabI K d D:=by
  obtain ⟨d,a,t⟩:=t
  exact ⟨d,PySem.W.mg_of Y G a,t⟩
theorem TabIAt.mk {K:PySem.W.Frag} {x:Str} {D:List (Str × Int)} {d:Addr} {o:Obj} {es:List DictEntry} {ep:Nat} (a:PySem.W.nsIn K mainGlobals x=some (some (.ref d))) (l:K.lookup d=some o) (c:o.ExactDict) (e:o.data = .dict es.toArray ep) (n:EntI es D) (m:(d == sysModules)=false):TabIAt K x D :=
  ⟨d,a,o,_,ep,l,c,e,n,m⟩
end L2
namespace D
open PySem L2 K0 Num
open PySem.W (Dat)
section
variable {p:Option Addr} {K:PySem.W.Frag} {τ:List Sl} {ta tb:TE}
theorem E1.tiI {k:Str} {d:Addr} {Dl:List (Str × Int)} {i:Int} (t:TabI K d Dl) (hb:E1 p K tb τ (.dat (.str k))) (hk:PyProof.Rows.KTD.datumAt k Dl=some i):E1 p K (tOp (rTiI K) (tC (.ref d)) tb) τ (.dat (.int i)):=fun W L σ H Q rs o q=>hb W L σ H _ rs o fun v H1 s e e1 o1 rv=>by
  subst e
  cases rv.str_inv
  exact ⟨d,k,Dl,i,rfl,rfl,t,hk,q _ H1 _ rfl e1 o1 (.int _)⟩
theorem E1.inS {x y:Str} (ha:E1 p K ta τ (.dat (.str x))) (hb:E1 p K tb τ (.dat (.str y))):E1 p K (tOp (fun x y H Q=>∃ i j,x = .str i/\y = .str j/\Q (.bl (!(Builtin.Str.occurrences j i 0 j.length 1).isEmpty)) H) ta tb) τ (.dat (.bool (!(Builtin.Str.occurrences y x 0 y.length 1).isEmpty))) :=
  E1.op2 ha hb fun W H0 H u v Q o0 o r1 r2 q=>by
    cases r1.str_inv
    cases r2.str_inv
    exact ⟨x,y,rfl,rfl,q _ H Ev.refl o (.bool _)⟩
end
noncomputable def places:List (Str × Int):=[("x",1),("y",2),("z",3)]
theorem place_at:∀ i:Nat,i < 3->PyProof.Rows.KTD.datumAt (lt1 i) places=some ((i:Int) + 1):=by decide +kernel
noncomputable def th3' (i j:Nat):Nat:=3 - i - j
noncomputable def hd (i j:Nat):Int:=if (i + 1) % 3=j then 1 else -1
noncomputable def le3 (i j k:Nat):Int:=if i=k then 0 else hd i j
theorem th3_lt {i j:Nat} (hi:i < 3) (hj:j < 3) (h:i ≠ j):th3' i j < 3/\th3' i j ≠ i/\th3' i j ≠ j:=by unfold th3';omega
noncomputable def kp3 (i j:Nat):Dat->Bool:=fun d=>match d with | .str z=>(!decide (z=lt1 i)) && (!decide (z=lt1 j)) | _=>false
theorem th3_of {i j:Nat} (hi:i < 3) (hj:j < 3) (h:i ≠ j):((lets ("xyz" : Str)).filter (kp3 i j))=[.str (lt1 (th3' i j))]:=by
  rcases (by omega:i=0\/i=1\/i=2) with rfl | rfl | rfl <;> rcases (by omega:j=0\/j=1\/j=2) with rfl | rfl | rfl <;> first | exact absurd rfl h | rfl
theorem hd_of:∀ i,i < 3->∀ j,j < 3->i ≠ j->(!(Builtin.Str.occurrences ("xyzxy" : Str) (hg i j (th3' i j)) 0 (("xyzxy" : Str)).length 1).isEmpty)=decide (hd i j=1):=by decide +kernel
noncomputable def RTh3:List Dat->Dat->Prop:=fun ds d=>∃ i j k:Nat,ds=[.str (hg i j k)]/\Hg i j k/\d = .str (lt1 (th3' i j))
noncomputable def RHand:List Dat->Dat->Prop:=fun ds d=>∃ i j k:Nat,ds=[.str (hg i j k)]/\Hg i j k/\d = .int (hd i j)
noncomputable def RLean:List Dat->Dat->Prop:=fun ds d=>∃ i j k:Nat,ds=[.str (hg i j k)]/\Hg i j k/\d = .int (le3 i j k)
noncomputable def jo (k l m n:Int):List Int:=[k * n + l * m,l * n - k * m]
noncomputable def RJoin:List Dat->Dat->Prop:=fun ds d=>∃ (x y:Nat) (k l m n:Int),ds=[tI [k,l],tI [m,n]]/\Bt k x/\Bt l x/\Bt m y/\Bt n y/\x < 9000/\y < 9000/\d=tI (jo k l m n)
noncomputable def RTBack:List Dat->Dat->Prop:=fun ds d=>∃ k l:Int,ds=[tI [k,l]]/\d=tI [-k,l]
noncomputable def tpN (j:Nat) (le:Int) (ns:List Int):List Int:=qm (pl ns) (rf j (-le) 1)
noncomputable def RTwo:List Dat->Dat->Prop:=fun ds d=>∃ (i j k:Nat) (ns:List Int),ds=[.str (hg i j k),tI ns]/\Hg i j k/\ns.length=4/\(∃ n ∈ ns,n ≠ 0)/\Bd (2 ^ 1000) ns /\
  d = .tuple [tI [(tpN j (le3 i j k) ns).getD (i + 1) 0,(tpN j (le3 i j k) ns).getD 0 0],tI [hd i j * (tpN j (le3 i j k) ns).getD (th3' i j + 1) 0,(tpN j (le3 i j k) ns).getD (j + 1) 0]]
theorem hd_is (i j:Nat):hd i j=1\/hd i j = -1:=by
  unfold hd
  split
  . exact .inl rfl
  . exact .inr rfl
theorem le_is (i j k:Nat):le3 i j k=0\/le3 i j k=1\/le3 i j k = -1:=by
  unfold le3
  split
  . exact .inl rfl
  . exact .inr (hd_is i j)
theorem four_at {ns:List Int} (l:ns.length=4) {i:Nat} (h:i < 4):atI (ns.map Dat.int) (i:Int)=some (.int (ns.getD i 0)):=by
  refine atI_nat ?_
  rw [List.getElem?_map,List.getElem?_eq_getElem (by omega),List.getD_eq_getElem?_getD,List.getElem?_eq_getElem (by omega)]
  rfl
theorem four_mem {ns:List Int} (l:ns.length=4) {i:Nat} (h:i < 4):ns.getD i 0 ∈ ns:=by
  rw [List.getD_eq_getElem?_getD,List.getElem?_eq_getElem (by omega)]
  exact List.getElem_mem _
end D
end
namespace D
open PySem L2 K0 Num
open PySem.W (Dat)
theorem sq2_zero {a b:Int} (h:a * a + b * b=0):a=0/\b=0:=by
  have h1:=sq_nn a
  have h2:=sq_nn b
  have e1:a * a=0:=by omega
  have e2:b * b=0:=by omega
  exact ⟨by rcases Int.mul_eq_zero.mp e1 with q | q <;> exact q,by rcases Int.mul_eq_zero.mp e2 with q | q <;> exact q⟩
theorem jo_nz {k l m n:Int} (h1:k ≠ 0\/l ≠ 0) (h2:m ≠ 0\/n ≠ 0):k * n + l * m ≠ 0\/l * n - k * m ≠ 0:=by
  by_cases z:k * n + l * m=0/\l * n - k * m=0
  . exfalso
    have e:(k * k + l * l) * (m * m + n * n)=(k * n + l * m) * (k * n + l * m) + (l * n - k * m) * (l * n - k * m):=by grind
    rw [z.1,z.2] at e
    have e':(k * k + l * l) * (m * m + n * n)=0:=by omega
    rcases Int.mul_eq_zero.mp e' with q | q
    . obtain ⟨a,b⟩:=sq2_zero q
      rcases h1 with h | h
      . exact h a
      . exact h b
    . obtain ⟨a,b⟩:=sq2_zero q
      rcases h2 with h | h
      . exact h a
      . exact h b
  . by_cases y:k * n + l * m=0
    . exact .inr fun w=>z ⟨y,w⟩
    . exact .inl y
theorem nz2 {k l:Int} (h:k ≠ 0\/l ≠ 0):∃ n ∈ [l,k],n ≠ 0:=by
  rcases h with h | h
  . exact ⟨k,by simp,h⟩
  . exact ⟨l,by simp,h⟩
theorem sm2 {k l:Int} {x:Nat} (h1:Bt k x) (h2:Bt l x) (hx:x < 9000):Sm [l,k]:=sm_bd' (k:=x) (fun n hn=>by
  simp only [List.mem_cons,List.mem_nil_iff,or_false] at hn
  rcases hn with rfl | rfl
  . exact h2
  . exact h1) hx
noncomputable def lea (i j k:Nat) (m n:Int):List Int:=ps (m * 1 + n * le3 i j k) (n * 1 - m * le3 i j k)
noncomputable def RLea:List Dat->Dat->Prop:=fun ds d=>∃ (x i j k:Nat) (m n:Int),ds=[.str (hg i j k),tI [m,n]]/\Hg i j k/\(m ≠ 0\/n ≠ 0)/\Bt m x/\Bt n x/\x < 8000/\d=tI (lea i j k m n)
noncomputable def lok (i j k:Nat) (p q r s:Int):Dat:=if r=0/\s=0 then .tuple [.str "lock",tI (lea i j k 0 1),.str "with",tI (ps p q)] else .tuple [.str "lock",tI (lea i j k 1 0),.str "against",tI (ps r s)]
noncomputable def RLok:List Dat->Dat->Prop:=fun ds d=>∃ (x i j k:Nat) (p q r s:Int),ds=[.str (hg i j k),.tuple [tI [p,q],tI [r,s]]]/\Hg i j k/\((r=0/\s=0)->p ≠ 0\/q ≠ 0)/\Bt p x/\Bt q x/\Bt r x/\Bt s x/\x < 8000/\d=lok i j k p q r s
noncomputable def fstS (p q r s m n:Int):Int × Int:=if p * m + r * n=0/\q * m + s * n=0 then (p * m * 0 + q * m * 1,q * m * 0 - p * m * 1) else (p * m + r * n,q * m + s * n)
noncomputable def sby (i j k:Nat) (p q r s m n:Int):Dat:=.tuple [tI (ps (fstS p q r s m n).1 (fstS p q r s m n).2),tI (lea i j k m n),tI (ps (p * m * (fstS p q r s m n).2 + q * m * -(fstS p q r s m n).1) (q * m * (fstS p q r s m n).2 - p * m * -(fstS p q r s m n).1))]
noncomputable def RSBy:List Dat->Dat->Prop:=fun ds d=>∃ (i j k:Nat) (p q r s m n:Int),ds=[.str (hg i j k),.tuple [tI [p,q],tI [r,s]],tI [m,n]]/\Hg i j k/\(p ≠ 0\/q ≠ 0)/\m ≠ 0/\Bt p 1000/\Bt q 1000/\Bt r 1000/\Bt s 1000/\Bt m 2010/\Bt n 2010/\d=sby i j k p q r s m n
theorem fstS_nz {p q r s m n:Int} (h:p ≠ 0\/q ≠ 0) (hm:m ≠ 0):(fstS p q r s m n).1 ≠ 0\/(fstS p q r s m n).2 ≠ 0:=by
  unfold fstS
  split
  . show p * m * 0 + q * m * 1 ≠ 0\/q * m * 0 - p * m * 1 ≠ 0
    rcases h with h | h
    . have:=Int.mul_ne_zero h hm
      exact .inr (by omega)
    . have:=Int.mul_ne_zero h hm
      exact .inl (by omega)
  . rename_i z
    show p * m + r * n ≠ 0\/q * m + s * n ≠ 0
    by_cases y:p * m + r * n=0
    . exact .inr fun w=>z ⟨y,w⟩
    . exact .inl y
end D
section
namespace L2
open PySem PySem.Spec PyProof.Rows
open PySem.W (KatLex KatGo KatTups KasT kas_sort kas_ask KasFin UpdF kas_asc)
noncomputable def rlt:List (List Int)->List (List Int)->Bool
  | x :: xs,y :: ys=>if x=y then rlt xs ys else HT.lexLt x y
  | _,_=>false
noncomputable def TupsAt (h:Heap):List Addr->List (List Int)->Prop
  | [],[]=>True
  | a :: as,r :: rows=>(∃ its:Array Value,IsTup h a its/\IntsAre its.toList r)/\TupsAt h as rows
  | _,_=>False
theorem items_ints {P:Program} {w:World}:∀ {ks:List Int} {vs:List Value},IntsAre vs ks->ItemsAre (intKind P w) ks vs
  | _,_,.nil=>.nil
  | _,_,.cons n t h=>.cons (by show Value.isInt n (.int n t)=true;simp [Value.isInt]) (items_ints h)
section
variable {prog:Program} {w:World} {A:Around} {E:Value->Shared->Prop} {s:Shared}
theorem katlex_of (hu:A.units < cLine) {Q:Bool->Shared->Prop}:∀ {as bs:List Addr} {xs ys:List (List Int)} {i:Nat},TupsAt s.heap as xs->TupsAt s.heap bs ys->as.length=bs.length->Q (rlt xs ys) s ->
    KatLex prog w A false false Q ((as.map Value.ref).zip (bs.map Value.ref)) i s
  | [],[],[],[],i,_,_,_,h=>PySem.W.kat_nil h
  | a :: as, b :: bs, x :: xs, y :: ys, i, h1, h2, hl, h => by
    obtain ⟨⟨its,t1,i1⟩,h1⟩:=h1
    obtain ⟨⟨its2,t2,i2⟩,h2⟩:=h2
    obtain ⟨o,ho,hc,n,hd⟩:=id t1
    obtain ⟨o2,ho2,hc2,n2,hd2⟩:=id t2
    refine PySem.W.kat_cons (wpAny_eqBool_tuple (knd:=intKind prog w) (x:=x) (y:=y) hu ⟨o,its,n,ho,hc,hd,items_ints i1⟩ ⟨o2,its2,n2,ho2,hc2,hd2,items_ints i2⟩ ?_)
    refine PySem.W.kat_go (fun e=>PySem.W.kat_yes ?_) (fun e=>PySem.W.kat_no ?_)
    . have e:=of_decide_eq_true e
      refine katlex_of hu h1 h2 (by simpa using hl) ?_
      have:rlt (x :: xs) (y :: ys)=rlt xs ys:=by show (if x=y then _ else _)=_;rw [if_pos e]
      rw [this] at h
      exact h
    . have e:=of_decide_eq_false e
      have:rlt (x :: xs) (y :: ys)=HT.lexLt x y:=by show (if x=y then _ else _)=_;rw [if_neg e]
      rw [this] at h
      exact PySem.W.kat_one _ _ (HT.lt_tupInts t1 t2 i1 i2 hu (show PySem.W.BoolBack Q (.bool (HT.lexLt x y)) s from h))
  | [],_ :: _,_,_,_,_,_,hl,_=>by cases hl
  | _ :: _,[],_,_,_,_,_,hl,_=>by cases hl
  | [],[],_ :: _,_,_,h1,_,_,_=>h1.elim
  | [],[],[],_ :: _,_,_,h2,_,_=>h2.elim
  | _ :: _,_ :: _,[],_,_,h1,_,_,_=>h1.elim
  | _ :: _,_ :: _,_ :: _,[],_,_,h2,_,_=>h2.elim
theorem kas_sort2 {cmp:Nat->Nat->(Bool->Shared->Prop)->Shared->Prop} {Q:Array Nat->Shared->Prop} (h:cmp 1 0 (fun c s'=>if c=true then Q #[1,0] s' else Q #[0,1] s') s):(kas_sort 2).kasWp cmp Q s:=by
  have e:(kas_sort 2).kasWp cmp Q s=cmp 1 0 (fun c s'=>if c=true then Q #[1,0] s' else Q #[0,1] s') s:=by
    show cmp 1 0 _ s=cmp 1 0 _ s
    congr 1
    funext c s'
    cases c
    . rfl
    . rfl
  rw [e];exact h
end
noncomputable def RowT (K:PySem.W.Frag) (H:Hp) (p:Addr) (rows:List (List Int)):Prop:=∃ as:List Addr,SqT K H p (as.map V.ref)/\as.length=rows.length/\∀ (i:Nat) (a:Addr) (r:List Int),as[i]?=some a->rows[i]?=some r->SqT K H a (r.map V.int)
theorem refs_of:∀ {as:List Addr} {vs:List Value},Vals (as.map V.ref) vs->vs=as.map Value.ref
  | [],_,h=>by cases h;rfl
  | a :: as, _, h => by
    cases h with
    | cons h1 h2 =>
      cases (show _=Value.ref a from h1)
      rw [refs_of h2];rfl
theorem tups_at {X:Cx} {pins:List (Addr × Obj)} {σ:List (Option V)} {H:Hp} {s:Shared} (I:Inv X pins σ H s):∀ {as:List Addr} {rows:List (List Int)},as.length=rows.length->(∀ (i:Nat) (a:Addr) (r:List Int),as[i]?=some a->rows[i]?=some r->SqT X.K H a (r.map V.int))->TupsAt s.heap as rows
  | [],[],_,_=>trivial
  | a :: as,r :: rows,l,h=>by
    obtain ⟨its,rv,p,_⟩:=I.tuple (h 0 a r rfl rfl)
    exact ⟨⟨its.toArray,p,by simpa using intsAre_of rv⟩,tups_at I (by simpa using l) fun i b q h1 h2=>h (i + 1) b q h1 h2⟩
  | [],_ :: _,l,_=>by cases l
  | _ :: _,[],l,_=>by cases l
theorem TupsAt.keep {h h':Heap}:∀ {as:List Addr} {rows:List (List Int)},TupsAt h as rows->(∀ a its,IsTup h a its->IsTup h' a its)->TupsAt h' as rows
  | [],[],_,_=>trivial
  | a :: as,r :: rows,⟨⟨its,t,i⟩,q⟩,k=>⟨⟨its,k a its t,i⟩,q.keep k⟩
  | [],_ :: _,x,_=>x.elim
  | _ :: _,[],x,_=>x.elim
noncomputable def rSort2 (K:PySem.W.Frag):List V->Hp->VK->Prop:=fun xs H Q=>∃ l p q x y,xs=[.ref l]/\SqL K H l [.ref p,.ref q]/\RowT K H p x/\RowT K H q y/\0 < x.length/\x.length=y.length/\∀ D,H D=none->Q (.ref D) (upd H D (.lst (if rlt y x then [.ref q,.ref p] else [.ref p,.ref q])))
theorem obj_some {P:Program} {w:World} {H:Hp} {h:Heap} {a:Addr} {o:HO} (x:ObjOk P w H h a o):∃ ob,h.get? a=some ob:=by
  cases o with
  | lst xs=>obtain ⟨_,_,_,_,e⟩:=x;exact ⟨_,e⟩
  | tup xs=>obtain ⟨_,_,_,ob,e,_⟩:=x;exact ⟨_,e⟩
  | dK kvs=>obtain ⟨_,_,_,_,o,_,_,e,_⟩:=x;exact ⟨_,e⟩
  | dT kvs=>obtain ⟨_,_,_,_,o,_,_,e,_⟩:=x;exact ⟨_,e⟩
  | set S n=>obtain ⟨o,_,_,_,e,_⟩:=x;exact ⟨_,e⟩
  | ins C dx fs=>obtain ⟨_,_,_,e,_⟩:=x;exact ⟨_,e⟩
  | own y=>obtain ⟨_,e⟩:=x;exact ⟨_,e⟩
  | xd fs=>obtain ⟨_,⟨_,_,_,e,_⟩,_⟩:=x;exact ⟨_,e⟩
  | rng lo hi=>obtain ⟨_,_,_,e⟩:=x;exact ⟨_,e⟩
  | frz ob u=>obtain ⟨e,_⟩:=x;exact ⟨_,e⟩
  | tbl ps=>exact ⟨_,show h.get? a=some _ from x⟩
  | met f y=>exact ⟨_,show h.get? a=some _ from x⟩
  | ext φ=>obtain ⟨_,⟨_,e⟩,_⟩:=x;exact ⟨_,e⟩
section
variable {X:Cx}
theorem none_of {pins:List (Addr × Obj)} {σ:List (Option V)} {H:Hp} {s:Shared} (I:Inv X pins σ H s) {D:Addr} (hD:s.heap.get? D=none):H D=none:=by
  cases e:H D with
  | none=>rfl
  | some u=>obtain ⟨ob,q⟩:=obj_some (I.hok D u e);rw [hD] at q;cases q
theorem sorted_inv {pins:List (Addr × Obj)} {σ:List (Option V)} {H:Hp} {s:Shared} (I:Inv X pins σ H s) {m:Str->Option Value} {h':Heap} {D c:Nat} {out:List V} {its:List Value} (hl:out.length<=sizeLine) (rv:Vals out its) (hD:s.heap.get? D=none)
    (hn:∀ m,s.heap.Ns X.env.locals m->h'.Ns X.env.locals m) (hk:∀ b o,b ≠ X.env.locals->s.heap.get? b=some o->h'.get? b=some o) (hd:h'.get? D=some { cls:=.type "list",data:=.seq its.toArray c }):Inv X pins σ (upd H D (.lst out)) { s with heap:=h' }:=by
  have hHD:H D=none:=none_of I hD
  have trk:∀ b u,H b=some u->b ≠ X.env.locals:=fun b u e z=>by rw [z,I.free] at e;cases e
  refine I.step (g':=s.gens) (d':=s.drawn) (t':=s.toks) (ch:=[]) (fun b hb=>nomatch hb) (fun b o n _ _ e _=>hk b o n e) (fun b o n _ _ e _=>⟨o.slots,hk b o n e⟩) (fun b o _ e n=>?_) (fun b o _ e=>?_) (fun b xs e=>?_) (fun b o u e=>?_) (fun b ps e=>⟨#[],?_⟩) hn (fun b v e=>?_) I.bare
  . rw [upd_ne (fun z=>by rw [z,hD] at e;cases e)];exact n
  . by_cases z:b=X.env.locals
    . obtain ⟨m,hm,_⟩:=I.loc
      obtain ⟨o',_,_,ho',_⟩:=hn m hm
      exact ⟨o',z ▸ ho'⟩
    . exact ⟨o,hk b o z e⟩
  . rw [upd_ne (ne_of_none e hHD)];exact e
  . rw [upd_ne (ne_of_none e hHD)];exact e
  . rw [upd_ne (ne_of_none e hHD),e];simp
  . by_cases z:b=D
    . subst z
      rw [upd_same] at e;cases e
      exact ⟨hl,its,c,rv,hd⟩
    . rw [upd_ne z] at e
      refine (I.hok b v e).stay (fun d o hd q=>hk d o ?_ q) (fun d q=>by rw [upd_ne (ne_of_none q hHD)];exact q) fun d ts q=>by rw [upd_ne (ne_of_none q hHD)];exact q
      rcases hd with rfl | hd
      . exact trk _ _ e
      . exact trk _ _ hd
theorem call_sorted2 (hu : X.A.units + 64 < cLine) : CallR X (.builtin "sorted") (rSort2 X.K) := by
  intro pins s σ H xs us Q I r h
  obtain ⟨l,p,q,x,y,rfl,hl,⟨as,sp,la,ha⟩,⟨bs,sq,lb,hb⟩,h0,hxy,k⟩:=h
  cases r with
  | cons r1 r2 =>
    cases r2
    cases (show _=Value.ref l from r1)
    obtain ⟨its,rv,pl,_⟩:=I.list hl
    have ei:its=[Value.ref p,Value.ref q]:=refs_of (as:=[p,q]) rv
    subst ei
    obtain ⟨ps,rp,tp,_⟩:=I.tuple sp
    obtain ⟨qs,rq,tq,_⟩:=I.tuple sq
    have ep:=refs_of rp
    have eq:=refs_of rq
    subst ep eq
    obtain ⟨m,hm,_⟩:=I.loc
    have lt:X.env.locals < s.heap.objs.size:=I.lt
    have nt:∀ {a:Addr} {its:Array Value},IsTup s.heap a its->a ≠ X.env.locals:=fun {a its} ⟨o,ho,_,n,hd⟩ z=>by
      obtain ⟨o',es,ep,ho',hd',_⟩:=hm
      rw [<- z,ho] at ho'
      cases ho'
      rw [hd] at hd';cases hd'
    refine PySem.W.kat_sorted (h₀:=Att.noObjs s.heap) (L:=X.env.locals) (m:=m) (news:=Att.ledger s.heap X.env.locals X.env.locals) (vs:=[Value.ref p,Value.ref q]) (Att.fr_all hm) (fun ⟨b,o⟩ hp=>by
      obtain ⟨n1,_,e⟩:=Att.mem_ledger.mp hp
      exact ⟨e,n1,Att.noObjs_get _ _⟩) pl.isList (by show 2<=2;decide) (by show 2 < 64;decide) fun D e1_ h' F' N' lD=>?_
    have kp:∀ b o,b ≠ X.env.locals->s.heap.get? b=some o->h'.get? b=some o:=fun b o n e=>(N' (b,o) (List.mem_cons_of_mem _ (Att.mem_ledger.mpr ⟨n,n,e⟩))).1
    have kt:∀ a its,IsTup s.heap a its->IsTup h' a its:=fun a its t=>by
      have n:=nt t
      obtain ⟨o,ho,r⟩:=t
      exact ⟨o,kp a o n ho,r⟩
    have TA:=(tups_at I la ha).keep kt
    have TB:=(tups_at I lb hb).keep kt
    have tp':=kt _ _ tp
    have tq':=kt _ _ tq
    obtain ⟨op,hop,hcp,np,hdp⟩:=id tp'
    obtain ⟨oq,hoq,hcq,nq,hdq⟩:=id tq'
    have hD:s.heap.get? D=none:=by
      cases e:s.heap.get? D with
      | none=>rfl
      | some o =>
        have n:=(N' (D,_) List.mem_cons_self).2.1
        exact absurd (lD (D,o) (Att.mem_ledger.mpr ⟨n,n,e⟩)) (Nat.lt_irrefl _)
    have hHD:=none_of I hD
    have kk:=k D hHD
    cases as with
    | nil=>simp at la;omega
    | cons a0 as =>
    cases bs with
    | nil=>simp at lb;omega
    | cons b0 bs =>
    cases x with
    | nil=>simp at la
    | cons x0 x =>
    cases y with
    | nil=>simp at lb
    | cons y0 y =>
    have ta0:=TA.1
    have tb0:=TB.1
    have e0:(Value.type "tuple" != Value.type "tuple")=false:=by decide
    refine PySem.W.kat_kind (s:={ s with heap:=h' }) (fs:=[Value.ref a0,Value.ref b0]) (T:=.type "tuple") (PySem.W.KatTups.cons hop hcp hdp rfl (PySem.W.KatTups.cons hoq hcq hdq rfl PySem.W.KatTups.nil)) (by show 0 < 2;decide) (fun v hv=>?_) (by decide) ?_
    . obtain ⟨i1,⟨o1,ho1,hc1,_⟩,_⟩:=ta0
      obtain ⟨i2,⟨o2,ho2,hc2,_⟩,_⟩:=tb0
      simp only [List.mem_cons,List.mem_nil_iff,or_false] at hv
      rcases hv with rfl | rfl
      . exact fun A Q E s2 kp2 hq=>wpAny_typeOf ⟨o1,kp2 _ _ ho1,hc1⟩ hq
      . exact fun A Q E s2 kp2 hq=>wpAny_typeOf ⟨o2,kp2 _ _ ho2,hc2⟩ hq
    rw [e0]
    refine kas_sort2 ?_
    have ln:(b0 :: bs).length=(a0 :: as).length:=by rw [la,lb];exact hxy.symm
    have e1:decide ((List.map Value.ref (b0 :: bs)).toArray.size < (List.map Value.ref (a0 :: as)).toArray.size)=false:=by
      rw [List.size_toArray,List.size_toArray,List.length_map,List.length_map,ln];simp
    refine PySem.W.kat_lt (s:={ s with heap:=h' }) hoq hdq hop hdp ?_
    rw [e1]
    refine katlex_of (show X.A.units + 1 + 1 < cLine by omega) TB TA ln ?_
    have fin:∀ (out:List V) (its:List Value),out.length<=sizeLine->Vals out its->Q (.ref D) (upd H D (.lst out))->KasFin (Att.noObjs s.heap) X.env.locals m D e1_ its (fun s3=>EP X pins σ Q (.ref D) s3) { s with heap:=h' }:=fun out its ho rv hq =>
      PySem.W.KasFin.intro F' N' (UpdF.head fun q hq=>Nat.ne_of_lt (lD q hq)) fun h2 c F2 N2=>⟨.ref D,_,sorted_inv (m:=m) I ho rv hD (fun m' hm'=>by have:=hm'.eq_nsMap.trans hm.eq_nsMap.symm;rw [this];exact F2.ns) (fun b o n e=>(N2 (b,o) (List.mem_cons_of_mem _ (Att.mem_ledger.mpr ⟨n,n,e⟩))).1) (N2 _ List.mem_cons_self).1,rfl,hq⟩
    by_cases z:rlt (y0 :: y) (x0 :: x)=true
    . rw [if_pos z] at kk ⊢
      exact fin [.ref q,.ref p] [.ref q,.ref p] (by show 2<=sizeLine;decide) (.cons (show Value.ref q=Value.ref q from rfl) (.cons (show Value.ref p=Value.ref p from rfl) .nil)) kk
    . rw [if_neg z] at kk ⊢
      exact fin [.ref p,.ref q] [.ref p,.ref q] (by show 2<=sizeLine;decide) (.cons (show Value.ref p=Value.ref p from rfl) (.cons (show Value.ref q=Value.ref q from rfl) .nil)) kk
end
end L2
end
namespace D
open PySem L2 K0 Num
open PySem.W (Dat)
section
noncomputable def rowD (x:List (List Int)):Dat:=.tuple (x.map tI)
section
variable {p:Option Addr} {K:PySem.W.Frag} {τ:List Sl} {ta:TE}
theorem Dzs.ints_inv {N:Addr->Prop} {H:Hp}:∀ {vs:List V} {ns:List Int},Dzs N K H vs (ns.map Dat.int)->vs=ns.map V.int
  | _,[],h=>by cases h;rfl
  | _,n :: r,h=>by
    cases h with
    | cons h1 h2=>cases h1;rw [Dzs.ints_inv h2];rfl
theorem refs_dz {N : Addr -> Prop} {H : Hp} : ∀ {vs : List V} {x : List (List Int)}, Dzs N K H vs (x.map tI) -> ∃ as : List Addr, vs = as.map V.ref /\ as.length = x.length /\ ∀ (i : Nat) (a : Addr) (r : List Int), as[i]? = some a -> x[i]? = some r -> SqT K H a (r.map V.int)
  | _,[],h=>by cases h;exact ⟨[],rfl,rfl,fun i a r h=>by cases h⟩
  | _,r :: x,h=>by
    cases h with
    | cons h1 h2 =>
      obtain ⟨as,e,l,q⟩:=refs_dz h2
      subst e
      cases h1 with
      | tup g1 g2 =>
        rename_i a xs
        have ex:=g2.ints_inv
        subst ex
        refine ⟨a :: as,rfl,by rw [List.length_cons,List.length_cons,l],fun i b r' h3 h4=>?_⟩
        cases i with
        | zero=>cases h3;cases h4;exact g1
        | succ i=>exact q i b r' h3 h4
theorem row_t {N:Addr->Prop} {H:Hp} {v:V} {x:List (List Int)} (h:Dz N K H v (rowD x)):∃ a,v = .ref a/\RowT K H a x:=by
  cases h with
  | tup h1 h2 =>
    obtain ⟨as,e,l,q⟩:=refs_dz h2
    subst e
    exact ⟨_,rfl,as,h1,l,q⟩
theorem E1.sort2 {x y : List (List Int)} (ha : E1 p K ta τ (.own [rowD x, rowD y])) (h0 : 0 < x.length) (hxy : x.length = y.length) : E1 p K (tCB (rSort2 K) (tCons ta tNil)) τ (.own (if rlt y x then [rowD y, rowD x] else [rowD x, rowD y])) := fun W L σ H Q rs o q =>
  ha W L σ H _ rs o fun v H1 s e e1 o1 rv=>by
    subst e
    obtain ⟨a,vs,rfl,h1,h2,h3⟩:=rv
    cases h3 with
    | cons z1 t =>
      cases t with
      | cons z2 t =>
        cases t
        obtain ⟨b,rfl,r1⟩:=row_t z1
        obtain ⟨c,rfl,r2⟩:=row_t z2
        refine ⟨a,b,c,x,y,rfl,SqL.of h2,r1,r2,h0,hxy,fun D hD=>?_⟩
        have sm:=Same.new hD (.lst (if rlt y x then [V.ref c,V.ref b] else [V.ref b,V.ref c]))
        refine q _ _ _ rfl (e1.trans (Ev.of sm)) (o1.same sm) ⟨D,_,rfl,o1.back e1 hD,upd_same,?_⟩
        have ev:Ev (fun _=>False) H1 (upd H1 D (.lst (if rlt y x then [V.ref c,V.ref b] else [V.ref b,V.ref c]))):=Ev.of sm
        have y1:=z1.ev (W:=fun _=>False) ev fun _ _ z=>z
        have y2:=z2.ev (W:=fun _=>False) ev fun _ _ z=>z
        by_cases z:rlt y x=true
        . rw [if_pos z] at y1 y2 ⊢
          rw [if_pos z]
          exact .cons y2 (.cons y1 .nil)
        . rw [if_neg z] at y1 y2 ⊢
          rw [if_neg z]
          exact .cons y1 (.cons y2 .nil)
end
end
noncomputable def sbyR (i j k:Nat) (p q r s m n:Int):List (List Int):=[ps (fstS p q r s m n).1 (fstS p q r s m n).2,lea i j k m n,ps (p * m * (fstS p q r s m n).2 + q * m * -(fstS p q r s m n).1) (q * m * (fstS p q r s m n).2 - p * m * -(fstS p q r s m n).1)]
theorem sby_row {i j k:Nat} {p q r s m n:Int}:sby i j k p q r s m n=rowD (sbyR i j k p q r s m n):=rfl
noncomputable def SofA (i j k:Nat) (p q r s:Int) (d:Dat):Prop :=
  ((p * p + q * q) * (r * r + s * s)=0/\d=lok i j k p q r s) \/
  ((p * p + q * q) * (r * r + s * s) ≠ 0/\(∀ t:Int,t * t ≠ (p * p + q * q) * (r * r + s * s))/\d = .tuple [.str "none",.int ((p * p + q * q) * (r * r + s * s))]) \/
  (∃ t:Int,0 < t/\t * t=(p * p + q * q) * (r * r + s * s)/\d=if rlt (sbyR i j k p q r s (-t) (p * p + q * q)) (sbyR i j k p q r s t (p * p + q * q)) then .tuple [.str "set",sby i j k p q r s (-t) (p * p + q * q),sby i j k p q r s t (p * p + q * q)] else .tuple [.str "set",sby i j k p q r s t (p * p + q * q),sby i j k p q r s (-t) (p * p + q * q)])
noncomputable def RSof:List Dat->Dat->Prop:=fun ds d=>∃ (i j k:Nat) (ns:List Int),ds=[.str (hg i j k),tI ns]/\Hg i j k/\ns.length=4/\(∃ n ∈ ns,n ≠ 0)/\Bd (2 ^ 300) ns /\
  SofA i j k ((tpN j (le3 i j k) ns).getD (i + 1) 0) ((tpN j (le3 i j k) ns).getD 0 0) (hd i j * (tpN j (le3 i j k) ns).getD (th3' i j + 1) 0) ((tpN j (le3 i j k) ns).getD (j + 1) 0) d
theorem sop22 (a b c d:Int):sop [a,b] [c,d]=a * c + b * d:=by simp [sop]
theorem tp_nz {i j k:Nat} {ns:List Int} (h:Hg i j k) (l:ns.length=4) (nz:∃ n ∈ ns,n ≠ 0):¬ ((tpN j (le3 i j k) ns).getD (i + 1) 0=0/\(tpN j (le3 i j k) ns).getD 0 0=0/\hd i j * (tpN j (le3 i j k) ns).getD (th3' i j + 1) 0=0/\(tpN j (le3 i j k) ns).getD (j + 1) 0=0):=by
  obtain ⟨hi,hj,hk,ij,jk⟩:=h
  rintro ⟨h1,h2,h3,h4⟩
  have h3:(tpN j (le3 i j k) ns).getD (th3' i j + 1) 0=0:=by
    rcases Int.mul_eq_zero.mp h3 with z | z
    . rcases hd_is i j with e | e <;> rw [e] at z <;> cases z
    . exact z
  have lp:(pl ns).length=4:=by rw [pl_length];exact l
  have lq:(tpN j (le3 i j k) ns).length=4:=qm_len lp rfl
  obtain ⟨n,hn,h0⟩:=nz_qm (ms:=rf j (-le3 i j k) 1) lp rfl (nz_pl nz) (rf_nz hj (.inr (by decide)))
  obtain ⟨a,b,c,d,e⟩:=four_of lq
  have hn:n ∈ tpN j (le3 i j k) ns:=hn
  rw [e] at h1 h2 h3 h4 hn
  have ha:a=0:=h2
  have key:∀ m,m < 3->[a,b,c,d].getD (m + 1) 0=0:=fun m hm=>by
    have:m=i\/m=j\/m=th3' i j:=by unfold th3';omega
    rcases this with rfl | rfl | rfl
    . exact h1
    . exact h4
    . exact h3
  have hb:b=0:=key 0 (by decide)
  have hc:c=0:=key 1 (by decide)
  have hd':d=0:=key 2 (by decide)
  subst ha hb hc hd'
  simp only [List.mem_cons,List.mem_nil_iff,or_false,or_self] at hn
  exact h0 hn
theorem noL_row (x:List (List Int)):noL (rowD x)=true:=by
  show noLs (x.map tI)=true
  induction x with
  | nil=>rfl
  | cons a r ih =>
    show (noL (tI a) && noLs (r.map tI))=true
    rw [ih]
    have:noL (tI a)=true:=noLs_ints a
    rw [this];rfl
section
section
variable {p:Option Addr}
end
theorem SofA.ex (i j k:Nat) (p q r s:Int):∃ d,SofA i j k p q r s d:=by
  by_cases h:(p * p + q * q) * (r * r + s * s)=0
  . exact ⟨_,.inl ⟨h,rfl⟩⟩
  by_cases g:∃ t:Int,t * t=(p * p + q * q) * (r * r + s * s)
  . obtain ⟨t,ht⟩:=g
    have t0:t ≠ 0:=fun e=>h (by rw [<- ht,e];rfl)
    rcases Int.lt_or_gt_of_ne t0 with l | l
    . exact ⟨_,.inr (.inr ⟨-t,by omega,by rw [Int.neg_mul_neg];exact ht,rfl⟩)⟩
    . exact ⟨_,.inr (.inr ⟨t,l,ht,rfl⟩)⟩
  . exact ⟨_,.inr (.inl ⟨h,fun t ht=>g ⟨t,ht⟩,rfl⟩)⟩
end
section
noncomputable def Pu3 (N:Nat) (H:Hp) (q:Addr):Prop:=∃ x c n:Int,H q=some (.lst [.int x,.int c,.int n])/\0<=n/\n<=N
structure P3 (q:Addr) (ip N:Nat) (W:Addr->Prop) (L:List Addr) (σ:St) (H:Hp):Prop where
  wq:W q
  lq:q ∉ L
  sq:σ[ip]?=some (some (.ref q))
  pu:Pu3 N H q
section
variable (q:Addr) (ip N M:Nat) (K:PySem.W.Frag)
noncomputable def T2 (tt:TT) (τ:List Sl) (C:Bool->Prop):Prop:=∀ (W:Addr->Prop) (L:List Addr) (σ:St) (H:Hp) (Q:Bool->Hp->Prop),Rs none W K H L σ τ->Ok none W H->P3 q ip N W L σ H->(∀ b H',C b->Ev (fun a=>a=q) H H'->Ok none W H'->Pu3 M H' q->Q b H')->tt σ H Q
noncomputable def S2 (ts:TS) (τ:List Sl) (nx:List Sl->Prop) (rt:Sl->Prop):Prop:=∀ (W:Addr->Prop) (L:List Addr) (σ:St) (H:Hp) (D:Ends),Rs none W K H L σ τ->Ok none W H->P3 q ip N W L σ H ->
  (∀ (W':Addr->Prop) (L':List Addr) σ' H' τ',nx τ'->Ev W H H'->Ok none W' H'->(∀ a,W a->∃ ys,H' a=some ys)->(∀ a,W' a->W a\/H a=none)->(∀ a,a ∈ L'->a ∈ L\/H a=none)->Rs none W' K H' L' σ' τ'->P3 q ip M W' L' σ' H'->D.nx σ' H') ->
  (∀ (W':Addr->Prop) H' v s,rt s->Ev W H H'->Ok none W' H'->(∀ a,W a->∃ ys,H' a=some ys)->(∀ a,W' a->W a\/H a=none)->Rr none W' K L H H' v s->Pu3 M H' q->D.rt v H')->ts D σ H
end
section
variable {q:Addr} {ip N M:Nat} {K:PySem.W.Frag} {W:Addr->Prop} {L:List Addr} {σ:St} {H H':Hp} {τ τ':List Sl} {v:V} {s:Sl} {nx:List Sl->Prop} {rt:Sl->Prop} {tt:TT}
end
end
end D
section
namespace L2
open PySem PySem.Spec PyProof.Rows
end L2
namespace D
open PySem L2 K0 Num
open PySem.W (Dat)
section
variable {q:Addr} {ip N M:Nat} {K:PySem.W.Frag} {W:Addr->Prop} {L:List Addr} {σ:St} {H H1:Hp} {τ:List Sl} {ds:List Dat} {wi:TI}
noncomputable def W2 (q:Addr) (ip N M:Nat) (K:PySem.W.Frag) (wi:TI) (τ:List Sl) (P:List Dat->Prop):Prop:=∀ (W:Addr->Prop) (L:List Addr) (σ:St) (H:Hp) (R:It->Hp->Prop),Rs none W K H L σ τ->Ok none W H->P3 q ip N W L σ H->(∀ ds J H1,P ds->Ev (fun a=>a=q) H H1->Ok none W H1->Pu3 M H1 q->Jd W K J H1 ds->R J H1)->wi σ H R
end
end D
end
section
namespace L2
open PySem PySem.Spec PyProof.Rows
open PySem.W (Dat kqdOk kqdP kqdPs)
noncomputable def rInD (K:PySem.W.Frag) (neg:Bool):R2:=fun x y H Q=>∃ d ds r,Is K H x d/\Is K H y (.list ds)/\kqdOk 8 d=true/\(∀ e ∈ ds,kqdOk 8 e=true)/\(r=true ↔ d ∈ ds)/\Q (.bl (if neg then !r else r)) H
section
variable {X:Cx}
theorem any_in {ds:List Dat} {d:Dat} (ha:∀ e ∈ ds,kqdOk 8 e=true) (hd:kqdOk 8 d=true) {b:Bool} (hb:b=true ↔ d ∈ ds):((kqdPs ds).any fun y=>PyData.eqv y (kqdP d))=b:=by
  have k:=PySem.W.kqd_any ds d ha hd
  rw [Bool.eq_iff_iff,k,hb]
theorem op_inD (hu:X.A.units + 64 < cLine):OpR X (compareOp .In) (rInD X.K false):=by
  intro pins s σ H x y v u Q I rx ry h
  obtain ⟨d,ds,r,hd,hs,k1,k2,hr,q⟩:=h
  obtain ⟨as,ra⟩:=hd.reads I 8 k1 rx
  obtain ⟨bs,rb⟩:=hs.reads I 9 (by rw [kqdOk];exact List.all_eq_true.mpr k2) ry
  rw [kqdP] at rb
  have l1:=PySem.W.kqd_layL k2
  have l2:=PySem.W.kqd_lay 8 d k1
  refine SeqAt.in_list_reads rb ra l1.1 l2.1 (by have:=Nat.min_le_right (PyData.depthAll (kqdPs ds)) (kqdP d).depth;have:=l2.2;omega) ?_
  rw [any_in k2 k1 hr]
  exact ⟨.bl _,H,I,rfl,q⟩
end
end L2
namespace D
open PySem L2 K0 Num
open PySem.W (Dat)
section
variable {p:Option Addr} {K:PySem.W.Frag} {τ:List Sl} {ta tb:TE}
theorem E1.inD {a b:Sl} {d:Dat} {ds:List Dat} {r:Bool} (ha:E1 p K ta τ a) (hb:E1 p K tb τ b) (ea:datOf a=some d) (eb:datOf b=some (.list ds)) (k1:PySem.W.kqdOk 8 d=true) (k2:∀ e ∈ ds,PySem.W.kqdOk 8 e=true) (hr:r=true ↔ d ∈ ds):E1 p K (tOp (rInD K false) ta tb) τ (.dat (.bool r)) :=
  E1.op2 ha hb fun W H0 H x y Q o0 o r1 r2 q=>⟨d,ds,r,r1.isD ea,r2.isD eb,k1,k2,hr,q _ H Ev.refl o (.bool _)⟩
end
end D
end
section
namespace L2
open PySem PySem.Spec PyProof.Rows
theorem op_inDC {X:Cx} {own:List Str} {scope:Scope} {C:Addr} {fp:List Addr} {s:Shared} {H:Hp} (hu:(cxComp X own scope C fp s H).A.units + 64 < cLine):OpR (cxComp X own scope C fp s H) (compareOp .In) (rInD X.K false):=op_inD hu
end L2
namespace D
open PySem L2 K0 Num
open PySem.W (Dat)
end D
end
namespace D
open PySem L2 K0 Num
open PySem.W (Dat)
noncomputable def n4 (a b c e:Int):Int:=a * a + b * b + c * c + e * e
section
section
variable {W:Addr->Prop}
end
noncomputable def In (a b c d e f x y z:Int):Prop:=∃ m1 m2 m3:Int,x=m1 * a + m2 * b + m3 * d/\y=m2 * c + m3 * e/\z=m3 * f
structure Hnf (a b c d e f:Int):Prop where
  a0:0 < a
  c0:0 < c
  f0:0 < f
  b0:0<=b
  b1:b < a
  d0:0<=d
  d1:d < a
  e0:0<=e
  e1:e < c
end
end D
section
namespace L2
open PySem PySem.Spec PyProof.Rows
end L2
namespace D
open PySem L2 K0 Num
open PySem.W (Dat)
noncomputable def units:List (List Int):=[[1,0,0],[0,1,0],[0,0,1]]
noncomputable def Kpt (F:List Int) (x y z:Int):Prop:=∀ a b c e:Int,pl F=[a,b,c,e]->(sop (pl F) (pl F) ∣ sop (rw1 a b c e) [x,y,z])/\(sop (pl F) (pl F) ∣ sop (rw2 a b c e) [x,y,z])/\(sop (pl F) (pl F) ∣ sop (rw3 a b c e) [x,y,z])
noncomputable def KptA (fs:List (List Int)) (x y z:Int):Prop:=∀ F ∈ fs,Kpt F x y z
noncomputable def Rows (fs:List (List Int)) (a b c d e f:Int):Prop:=Hnf a b c d e f/\∀ x y z,In a b c d e f x y z ↔ KptA fs x y z
end D
end
namespace D
open PySem L2 K0 Num
open PySem.W (Dat)
section
noncomputable def FB (C:Int) (c:Nat) (x:Rat):Prop:=∃ t:Int,Bt t c/\qv t C=x
noncomputable def RP (P:Rat->Prop) (r:Row3):Prop:=P r.x/\P r.y/\P r.z
noncomputable def TabP (P:Rat->Prop) (a b d:Row3):Prop:=RP P a/\RP P b/\RP P d
noncomputable def TB (c:Nat) (a b d:Row3):Prop:=∃ C:Int,0 < C/\Bt C c/\TabP (FB C c) a b d
section
variable {C:Int} {c:Nat} {x y:Rat}
end
end
noncomputable def Row3.neg (r:Row3):Row3:=⟨-r.x, -r.y, -r.z⟩
section
noncomputable def Row3.sum (r s:Row3) (p q:Rat):Row3:=⟨r.x * p + s.x * q,r.y * p + s.y * q,r.z * p + s.z * q⟩
section
variable {r s:Row3}
end
end
section
noncomputable def Row3.sub (r s:Row3):Row3:=⟨r.x - s.x,r.y - s.y,r.z - s.z⟩
noncomputable def Row3.add (r s:Row3):Row3:=⟨r.x + s.x,r.y + s.y,r.z + s.z⟩
noncomputable def Row3.sm (k:Rat) (r:Row3):Row3:=⟨k * r.x,k * r.y,k * r.z⟩
noncomputable def nq (w:Rat) (v:Row3):Rat:=N4 w v.x v.y v.z
section
variable {w:Rat} {v r s:Row3} {k:Rat}
end
noncomputable def r0:Row3:=⟨0,0,0⟩
section
variable {w:Rat} {v r s:Row3} {k:Rat}
end
end
noncomputable def TnQ (w x y z:Int) (r s:Row3):Prop:=Q1 w x y z r.x r.y r.z=s.x/\Q2 w x y z r.x r.y r.z=s.y/\Q3 w x y z r.x r.y r.z=s.z
noncomputable def d2 (a b:Row3):Rat:=(b.sub a).dot (b.sub a)
structure Only (p0 p1 p2 o0 o1 o2:Row3) (w x y z:Int) (u v t:Rat):Prop where
  nz:∃ n ∈ [w,x,y,z],n ≠ 0
  p:pl [w,x,y,z]=[w,x,y,z]
  b:Bd (2 ^ 1000) [w,x,y,z]
  h1:TnQ w x y z (p1.sub p0) (o1.sub o0)
  h2:TnQ w x y z (p2.sub p0) (o2.sub o0)
  su:u=o0.x + -Q1 w x y z p0.x p0.y p0.z
  sv:v=o0.y + -Q2 w x y z p0.x p0.y p0.z
  st:t=o0.z + -Q3 w x y z p0.x p0.y p0.z
section
section
variable {p:Option Addr} {K:PySem.W.Frag} {W:Addr->Prop} {L:List Addr} {σ:St} {H:Hp} {τ:List Sl} {o:Own}
theorem Rs.setT (r : Rs p W K H L σ τ) {a : Addr} {l : List Addr} (wa : ∀ b, b ∈ l -> W b) (np : ∀ b, b ∈ l -> p ≠ some b) (nl : ∀ b, b ∈ l -> b ∉ L) (z : o.R (fun a => ¬ W a) K H a l) : ∀ (i : Nat), ∃ L', (∀ b, b ∈ L' -> b ∈ l \/ b ∈ L) /\ Rs p W K H L' (σ.set i (some (.ref a))) (τ.set i (.dt o)) := by
  induction r with
  | nil=>intro i;exact ⟨[],fun _ h=>.inr h,.nil⟩
  | un r ih =>
    intro i
    match i with
    | 0=>exact ⟨_,fun b hb=>List.mem_append.mp hb,.dt wa np nl z r⟩
    | i + 1=>obtain ⟨L',h1,h2⟩:=ih nl i;exact ⟨L',h1,.un h2⟩
  | dat y r ih =>
    intro i
    match i with
    | 0=>exact ⟨_,fun b hb=>List.mem_append.mp hb,.dt wa np nl z r⟩
    | i + 1=>obtain ⟨L',h1,h2⟩:=ih nl i;exact ⟨L',h1,.dat y h2⟩
  | pu y r ih =>
    intro i
    match i with
    | 0=>exact ⟨_,fun b hb=>List.mem_append.mp hb,.dt wa np nl z r⟩
    | i + 1=>obtain ⟨L',h1,h2⟩:=ih nl i;exact ⟨L',h1,.pu y h2⟩
  | own g1 g2 g3 g4 g5 r ih =>
    intro i
    have nl':=fun b hb y=>nl b hb (List.mem_cons_of_mem _ y)
    match i with
    | 0=>exact ⟨_,fun b hb=>(List.mem_append.mp hb).imp id (List.mem_cons_of_mem _),.dt wa np nl' z r⟩
    | i + 1 =>
      obtain ⟨L',h1,h2⟩:=ih nl' i
      refine ⟨_ :: L',fun b hb=>?_,.own g1 g2 (fun y=>?_) g4 g5 h2⟩
      . rcases List.mem_cons.mp hb with rfl | hb
        . exact .inr List.mem_cons_self
        . exact (h1 b hb).imp id (List.mem_cons_of_mem _)
      . rcases h1 _ y with y | y
        . exact nl _ y List.mem_cons_self
        . exact g3 y
  | dt g1 g2 g3 g4 r ih =>
    intro i
    have nl':=fun b hb y=>nl b hb (List.mem_append_right _ y)
    match i with
    | 0=>exact ⟨_,fun b hb=>(List.mem_append.mp hb).imp id (List.mem_append_right _),.dt wa np nl' z r⟩
    | i + 1 =>
      obtain ⟨L',h1,h2⟩:=ih nl' i
      refine ⟨_ ++ L',fun b hb=>?_,.dt g1 g2 (fun b hb y=>?_) g4 h2⟩
      . rcases List.mem_append.mp hb with hb | hb
        . exact .inr (List.mem_append_left _ hb)
        . exact (h1 b hb).imp id (List.mem_append_right _)
      . rcases h1 _ y with y | y
        . exact nl _ y (List.mem_append_left _ hb)
        . exact g3 b hb y
theorem Rs.get_t (r:Rs p W K H L σ τ):∀ {i:Nat} {o:Own},τ[i]?=some (.dt o)->∃ a l,σ[i]?=some (some (.ref a))/\(∀ b,b ∈ l->W b)/\(∀ b,b ∈ l->p ≠ some b)/\(∀ b,b ∈ l->b ∈ L)/\o.R (fun a=>¬ W a) K H a l:=by
  induction r with
  | nil=>intro i ds h;simp at h
  | un _ ih =>
    intro i ds h
    match i,h with
    | 0,h=>simp at h
    | i + 1,h=>exact ih (i:=i) (by simpa using h)
  | dat z _ ih =>
    intro i ds h
    match i,h with
    | 0,h=>simp at h
    | i + 1,h=>exact ih (i:=i) (by simpa using h)
  | pu z _ ih =>
    intro i ds h
    match i,h with
    | 0,h=>simp at h
    | i + 1,h=>exact ih (i:=i) (by simpa using h)
  | own h1 h2 h3 h4 h5 _ ih =>
    intro i ds h
    match i,h with
    | 0,h=>simp at h
    | i + 1,h =>
      obtain ⟨a,l,e1,e2,e3,e4,e5⟩:=ih (i:=i) (by simpa using h)
      exact ⟨a,l,by simpa using e1,e2,e3,fun b hb=>List.mem_cons_of_mem _ (e4 b hb),e5⟩
  | dt h1 h2 h3 h4 _ ih =>
    intro i ds h
    match i,h with
    | 0,h=>simp at h;subst h;exact ⟨_,_,rfl,h1,h2,fun b hb=>List.mem_append_left _ hb,h4⟩
    | i + 1,h =>
      obtain ⟨a,l,e1,e2,e3,e4,e5⟩:=ih (i:=i) (by simpa using h)
      exact ⟨a,l,by simpa using e1,e2,e3,fun b hb=>List.mem_append_right _ (e4 b hb),e5⟩
end
end
noncomputable def rq (f g:List Int):Rat:=qv (sop f g * sop f g) (nrm f * nrm g)
section
noncomputable def Own.Reads (o:Own) (d:Dat):Prop:=∀ (N:Addr->Prop) (K:PySem.W.Frag) (H:Hp) (a:Addr) (l:List Addr),o.R N K H a l->Dz (fun _=>True) K H (.ref a) d
section
variable {K:PySem.W.Frag} {W:Addr->Prop} {H:Hp} {o:Own}
end
end
end D
section
namespace L2
open PySem PySem.Spec PyProof.Rows
section
variable {o:Expr}
end
end L2
namespace D
open PySem L2 K0 Num
open PySem.W (Dat)
section
variable {W:Addr->Prop} {K:PySem.W.Frag} {H:Hp}
end
section
variable {p:Option Addr} {K:PySem.W.Frag} {W:Addr->Prop} {L:List Addr} {σ:St} {H:Hp} {τ:List Sl} {nx:List Sl->Prop} {rt:Sl->Prop} {o:Own}
theorem S.retT {i:Nat} (h:τ[i]?=some (.dt o)) (m:rt (.dt o)):S p K (tRet (tVar i)) τ nx rt:=fun W L σ H D r ok q1 q2=>by
  obtain ⟨a,l,g1,g2,g3,g4,g5⟩:=r.get_t h
  exact ⟨_,g1,q2 W H _ _ m Ev.refl ok ok.al (fun _ h=>.inl h) ⟨a,l,rfl,fun b hb=>.inl (g4 b hb),g5⟩⟩
end
end D
end
namespace D
open PySem L2 K0 Num
open PySem.W (Dat)
section
section
variable {W:Addr->Prop}
end
inductive Con (A:Nat->Nat->Prop):Nat->Nat->Prop
  | refl (i:Nat):Con A i i
  | step {i j k:Nat}:Con A i j->A j k->Con A i k
section
variable {A:Nat->Nat->Prop}
noncomputable def conB (A:Nat->Nat->Prop) (i j:Nat):Bool:=@decide (Con A i j) (Classical.propDecidable _)
noncomputable def cls (A:Nat->Nat->Prop) (n i:Nat):List Nat:=(List.range n).filter (conB A i)
end
end
section
section
variable {W:Addr->Prop}
end
noncomputable def SFour (f:List Int):Prop:=f.length=4/\(∃ n ∈ f,n ≠ 0)/\Bd (2 ^ 3) f
instance (f:List Int):Decidable (SFour f):=by unfold SFour Bd;infer_instance
section
end
end
structure Fw where
  t:Int
  b:Int
noncomputable def Fw.q (f:Fw):Rat:=qv f.t f.b
noncomputable def Fw.d (f:Fw):Dat:=tI [f.t,f.b]
noncomputable def tq (f:List Int) (v:Rat × Rat × Rat):Rat × Rat × Rat:=match f with
  | [a,b,d,e]=>(Q1 a b d e v.1 v.2.1 v.2.2,Q2 a b d e v.1 v.2.1 v.2.2,Q3 a b d e v.1 v.2.1 v.2.2)
  | _=>v
noncomputable def pQ (v:Rat × Rat × Rat):Dat:=ptQ v.1 v.2.1 v.2.2
section
end
end D
section
namespace L2
open PySem PySem.Spec PyProof.Rows
namespace RvT
section
variable {t:Addr}
noncomputable def Is (h:Heap) (a t:Addr) (i:Int):Prop:=∃ o,h.get? a=some o/\o.cls = .type "reversed" /\ o.data = .fields #[.ref t,rawInt i]
end
end RvT
section
end
end L2
end
namespace D
open PySem L2 K0 Num
open PySem.W (Dat)
section
end
noncomputable abbrev V3:=Rat × Rat × Rat
structure Jt where
  x:Int
  y:Int
  z:Int
  a:V3
  k:Int
  l:Int
noncomputable def Jt.d (j:Jt):Dat:=.tuple [tI [j.x,j.y,j.z],pQ j.a,tI [j.k,j.l]]
noncomputable def Jt.t (j:Jt):List Int:=pl [j.l,j.k * j.x,j.k * j.y,j.k * j.z]
noncomputable def Jt.w (j:Jt):V3:=(j.x,j.y,j.z)
end D
section
namespace L2
open PySem PySem.Spec PyProof.Rows
noncomputable def rMulS:V->V->Hp->VK->Prop:=fun x y H Q=>∃ z i,x = .str z/\y = .int i/\z.length<=16/\0<=i/\i<=1000/\Q (.str (PySem.Txt.mul z i)) H
theorem op_mulS {X:Cx}:OpR X (binaryOp .Mult) rMulS:=by
  intro pins s σ H x y v u Q I rx ry h
  obtain ⟨z,i,rfl,rfl,hz,h0,h1,q⟩:=h
  obtain ⟨t,rfl⟩:=rx
  obtain ⟨t',rfl⟩:=ry
  exact PySem.W.KXi.mul (n:=z.length) rfl hz (by omega) (by omega) (fun t' k _ _=>⟨.str _,H,I.tok _,⟨_,rfl⟩,q⟩)
end L2
namespace D
open PySem L2 K0 Num
open PySem.W (Dat)
section
end
end D
end
namespace D
open PySem L2 K0 Num
open PySem.W (Dat)
noncomputable def low (c:Nat):Prop:=97<=c/\c<=122
section
end
end D
section
namespace L2
open PySem PySem.Spec PyProof.Rows
noncomputable def Fx (C:Value) (e:Addr) (tb:Option Addr) (h:Heap):Prop :=
  ∃ oe vs,h.get? e=some oe/\(oe.cls=C/\oe.dict=none)/\oe.data = .fields vs/\1 < vs.size/\(match tb with
    | none=>vs[1]?=some .none
    | some T=>vs[1]?=some (.ref T)/\T ≠ e/\∃ oT ts,h.get? T=some oT/\oT.data = .fields ts/\ts[3]?=some .none)
noncomputable def Kp (fs:List Addr) (X:Addr->Prop) (h h':Heap):Prop :=
  ∀ b o,¬ X b->h.get? b=some o->(b ∉ fs->h'.get? b=some o)/\∃ sl,h'.get? b=some { o with slots:=sl }
section
variable {M:Model} {A:Around} {E:Value->Shared->Prop} {s:Shared} {env:Env} {outer:List Env} {L e:Addr} {C:Value} {base:Heap} {Q:Unit->Shared->Prop}
theorem entry_new {ob:Obj} {fs:Array Value} {hd0:Value} {nx:Bool} (f0:A.frames=some (env :: outer)) (f1:s.heap.FunFrames base (env :: outer)) (f2:env.frame=some L)
    (x0:s.heap.get? e=some ob) (x1:ob.data = .fields fs) (x2:1 < fs.size) (x3:ob.cls=C/\ob.dict=none)
    (k:∀ h' T,s.heap.objs.size<=T->Fx C e (some T) h'->Kp (frs (env :: outer)) (fun b=>b=e) s.heap h'->Q () { s with heap:=h' }) :
    wpAny M A (do
      let fo <- frameOf env
      let pl <- entryPlaceOf L nx
      let en <- EntryCells.newEntry hd0 fo .none (rawInt L) .none pl
      setField (.ref e) 1 en) (fun _ s'=>wpAny M A (setFlight (.ref e) none) Q E s') E s:=by
  have out:e ∉ frs (env :: outer):=fun z=>by
    obtain ⟨_,o2,q1,q2⟩:=f1.mem z
    rw [x0] at q1
    cases q1
    exact q2 fs x1
  refine wpAny_bind (wpAny_frameOf_fun f0 f1 f2 fun g so=>wpAny_bind (wpAny_entryPlaceOf fun pl pok=>?_))
  unfold EntryCells.newEntry newFields
  refine wpAny_bind (wpAny_newObj_type ?_ (pok.sizeOk5 _ _ _ _ _))
  have sz:g.objs.size=s.heap.objs.size:=so.1
  have y0:g.get? e=some ob:=by rw [so.2.1 e out];exact x0
  have ne:g.objs.size ≠ e:=Nat.ne_of_gt (Heap.lt_size y0)
  generalize hob:({ cls:=.type "traceback",dict:=none,data:=.fields ([hd0,.ref L,.none,rawInt L,.none] ++ (if pl.isEmpty then List.replicate 6 Value.none else pl)).toArray }:Obj)=nob
  have nd:nob.data = .fields ([hd0,.ref L,.none,rawInt L,.none] ++ (if pl.isEmpty then List.replicate 6 Value.none else pl)).toArray:=by rw [<- hob]
  have nfr:nob.isFreed=false:=Obj.isFreed_of_fields nd
  have y1:(g.push nob).get? e=some ob:=Heap.get?_push_of_some nob y0
  refine wpAny_setField y1 x1 x2 ?_
  generalize hf1:Obj.mapFields (·.setIfInBounds 1 (Value.ref g.objs.size))=m1
  have d1:(m1 ob).data = .fields (fs.setIfInBounds 1 (.ref g.objs.size)):=by rw [<- hf1];exact Obj.data_mapFields x1 _
  have c1:(m1 ob).cls=C/\(m1 ob).dict=none:=⟨by rw [<- hf1,Obj.cls_mapFields];exact x3.1,by rw [<- hf1];obtain ⟨c,d,dt,sl⟩:=ob;cases dt <;> exact x3.2⟩
  have z1:((g.push nob).update e m1).get? e=some (m1 ob):=Heap.get?_update_self m1 y1 (Obj.isFreed_of_fields d1)
  have z2:((g.push nob).update e m1).get? g.objs.size=some nob:=by
    rw [Heap.get?_update_other _ _ (Ne.symm ne)]
    exact Heap.get?_push_size g nfr
  unfold setFlight
  refine wpAny_bind (wpAny_field z1 d1 (x:=.ref g.objs.size) (by simp [x2]) ?_)
  rw [if_pos (by simp)]
  have s3:3 < (([hd0,.ref L,.none,rawInt L,.none] ++ (if pl.isEmpty then List.replicate 6 Value.none else pl)).toArray).size:=by
    simp only [List.size_toArray,List.length_append,List.length_cons,List.length_nil];omega
  refine wpAny_setField z2 nd s3 (k _ g.objs.size (by rw [sz];exact Nat.le_refl _) ?_ ?_)
  . refine ⟨m1 ob,_,?_,c1,d1,by simpa using x2,by simp [x2],ne,_,_,Heap.get?_update_self _ z2 (Obj.isFreed_of_fields (Obj.data_mapFields nd _)),Obj.data_mapFields nd _,?_⟩
    . rw [Heap.get?_update_other _ _ ne];exact z1
    . rw [Array.getElem?_setIfInBounds_self_of_lt s3];rfl
  . intro b o n q
    have lt:=Heap.lt_size q
    have nb:g.objs.size ≠ b:=by rw [sz];exact Nat.ne_of_gt lt
    have up:∀ o',g.get? b=some o'->(((g.push nob).update e m1).update g.objs.size (Obj.mapFields (·.setIfInBounds 3 ((none:Option Addr).elim Value.none fun f=>rawInt f)))).get? b=some o':=fun o' r=>by
      rw [Heap.get?_update_other _ _ nb,Heap.get?_update_other _ _ (Ne.symm n)]
      exact Heap.get?_push_of_some nob r
    obtain ⟨sl,r⟩:=so.2.2 b o q
    exact ⟨fun nf=>up o (by rw [so.2.1 b nf];exact q),sl,up _ r⟩
theorem note_land {tb:Option Addr} (f0:A.frames=some (env :: outer)) (f1:s.heap.FunFrames base (env :: outer)) (f2:env.frame=some L) (hx:Fx C e tb s.heap)
    (k:∀ h' T,s.heap.objs.size<=T->Fx C e (some T) h'->Kp (frs (env :: outer)) (fun b=>b=e\/some b=tb) s.heap h'->Q () { s with heap:=h' }) :
    wpAny M A (noteFrame (.ref e) env) (fun _ s'=>wpAny M A (setFlight (.ref e) none) Q E s') E s:=by
  obtain ⟨ob,fs,x0,x3,x1,x2,x4⟩:=hx
  unfold noteFrame
  simp only [f2]
  cases tb with
  | none =>
    refine wpAny_bind (wpAny_field x0 x1 x4 ?_)
    rw [if_neg (by decide)]
    exact entry_new f0 f1 f2 x0 x1 x2 x3 fun h' T l f q=>k h' T l f fun b o n r=>q b o (fun z=>n (.inl z)) r
  | some T =>
    obtain ⟨x4,ne,oT,ts,y0,y1,y3⟩:=x4
    refine wpAny_bind (wpAny_field x0 x1 x4 ?_)
    rw [if_pos (by simp)]
    refine wpAny_bind (wpAny_field y0 y1 y3 ?_)
    rw [if_neg (by simp [rawInt])]
    refine wpAny_bind (wpAny_setField y0 y1 (Array.getElem?_eq_some_iff.mp y3).1 ?_)
    have ot:∀ b,b ≠ T->(s.heap.update T (Obj.mapFields (·.setIfInBounds 3 Value.none))).get? b=s.heap.get? b:=fun b hb=>Heap.get?_update_other _ _ (Ne.symm hb)
    refine entry_new (s:={ s with heap:=_ }) f0 (f1.of_keeps fun b o q nf=>⟨o,?_,rfl⟩) f2 (ob:=ob) (by rw [ot e (Ne.symm ne)];exact x0) x1 x2 x3 fun h' T' l f q=>k h' T' ?_ f fun b o n r=>?_
    . rw [ot b (fun z=>by rw [z,y0] at q;cases q;exact nf ts y1)];exact q
    . exact Nat.le_trans (Nat.le_of_eq (Heap.size_after_update ..).symm) l
    . exact q b o (fun z=>n (.inl z)) (by rw [ot b (fun z=>n (.inr (by rw [z])))];exact r)
theorem land_again {T:Addr} (hx:Fx C e (some T) s.heap)
    (k:∀ h',Fx C e (some T) h'->Kp [] (fun b=>b=T) s.heap h'->Q () { s with heap:=h' }):wpAny M A (setFlight (.ref e) none) Q E s:=by
  obtain ⟨ob,fs,x0,x3,x1,x2,x4,ne,oT,ts,y0,y1,y3⟩:=hx
  have l3:=(Array.getElem?_eq_some_iff.mp y3).1
  unfold setFlight
  refine wpAny_bind (wpAny_field x0 x1 x4 ?_)
  rw [if_pos (by simp)]
  refine wpAny_setField y0 y1 l3 (k _ ⟨ob,fs,?_,x3,x1,x2,x4,ne,_,_,Heap.get?_update_self _ y0 (Obj.isFreed_of_fields (Obj.data_mapFields y1 _)),Obj.data_mapFields y1 _,by rw [Array.getElem?_setIfInBounds_self_of_lt l3];rfl⟩ fun b o n r=>?_)
  . rw [Heap.get?_update_other _ _ ne];exact x0
  . have q:=(Heap.get?_update_other s.heap (Obj.mapFields (·.setIfInBounds 3 ((none:Option Addr).elim Value.none fun f=>rawInt f))) (Ne.symm n)).trans r
    exact ⟨fun _=>q,o.slots,q⟩
end
noncomputable def Fresh (X:Cx) (pins:List (Addr × Obj)) (H:Hp) (e:Addr) (tb:Option Addr):Prop:=∀ a,(a=e\/some a=tb)->X.s₀.heap.get? a=none/\H a=none/\∀ p ∈ X.pn ++ pins,p.1 ≠ a
section
variable {X:Cx} {pins:List (Addr × Obj)} {σ:St} {H H':Hp} {s s':Shared} {C:Value} {e:Addr} {tb:Option Addr} {ch:Addr->Prop}
theorem Fx.fld {h:Heap} (hx:Fx C e tb h) {a:Addr} (ha:a=e\/some a=tb):∃ o fs,h.get? a=some o/\o.data = .fields fs:=by
  obtain ⟨ob,fs,x0,x3,x1,x2,x4⟩:=hx
  rcases ha with rfl | ha
  . exact ⟨_,_,x0,x1⟩
  . subst ha
    obtain ⟨_,_,oT,ts,y0,y1,_⟩:=x4
    exact ⟨_,_,y0,y1⟩
theorem Inv.kp (I:Inv X pins σ H s) (hch:∀ b,ch b->X.s₀.heap.get? b=none/\b ≠ X.env.locals/\(∀ x c,X.env.cells.lookup x=some c->c ≠ b)/\∀ p ∈ X.pn ++ pins,p.1 ≠ b)
    (kp:Kp (frs X.stack) ch s.heap s'.heap) (free:∀ b o,¬ ch b->s.heap.get? b=some o->H b=none->H' b=none) (tups:∀ b xs,H b=some (.tup xs)->H' b=some (.tup xs))
    (frzs:∀ b o u,H b=some (.frz o u)->H' b=some (.frz o u)) (tbls:∀ b ps,H b=some (.tbl ps)->∃ more,H' b=some (.tbl (ps ++ more))) (hok:HOk X.prog X.w H' s'.heap) (ho:s'.os=s.os) (hg:AllBare s'.gens):Inv X pins σ H' s':=by
  have n0:∀ b o,X.s₀.heap.get? b=some o->¬ ch b:=fun b o q z=>by rw [(hch b z).1] at q;cases q
  have nl:¬ ch X.env.locals:=fun z=>(hch _ z).2.1 rfl
  have out:∀ b,b ≠ X.env.locals->b ∉ X.fs->b ∉ frs X.stack:=fun b n1 n2 z=>(List.mem_cons.mp (I.stkSub b z)).elim n1 n2
  have neL:∀ b o,X.s₀.heap.get? b=some o->b ≠ X.env.locals:=fun b o q z=>absurd (Nat.lt_of_lt_of_le (Heap.lt_size q) I.ok.above) (by rw [z];exact Nat.lt_irrefl _)
  have ce:∀ x c,X.env.cells.lookup x=some c->∀ v,s.heap.IsCell c v->s'.heap.IsCell c v:=fun x c q v ⟨o,q1,q2⟩=>by
    obtain ⟨sl,q3⟩:=(kp c o (fun z=>(hch c z).2.2.1 x c q rfl) q1).2
    exact ⟨_,q3,q2⟩
  constructor
  . exact I.ok
  . exact ho.trans I.os
  . exact hg
  . constructor
    . intro b o q n f x
      exact (kp b o (n0 b o q) (I.base.keep b o q n f x)).1 (out b (neL b o q) f)
    . intro b o q n f x
      obtain ⟨sl,q1⟩:=I.base.slot b o q n f x
      obtain ⟨sl2,q2⟩:=(kp b _ (n0 b o q) q1).2
      exact ⟨sl2,q2⟩
    . intro b o q n x
      obtain ⟨o2,q1⟩:=I.base.there b o q x
      exact free b o2 (n0 b o q) q1 (I.base.free b o q n x)
    . intro b o q x
      obtain ⟨o2,q1⟩:=I.base.there b o q x
      obtain ⟨sl,q2⟩:=(kp b o2 (n0 b o q) q1).2
      exact ⟨_,q2⟩
    . exact fun b xs q=>tups b xs (I.base.tups b xs q)
    . exact fun b o u q=>frzs b o u (I.base.frzs b o u q)
    . intro b ps q
      obtain ⟨m1,q1⟩:=I.base.tbls b ps q
      obtain ⟨m2,q2⟩:=tbls b _ q1
      exact ⟨m1 ++ m2,by rw [q2,Array.append_assoc]⟩
  . obtain ⟨m,⟨o,es,ep,q,r⟩,hl⟩:=I.loc
    obtain ⟨sl,q2⟩:=(kp _ o nl q).2
    refine ⟨m,⟨_,es,ep,q2,r⟩,fun i x v e1 e2 e3=>?_⟩
    obtain ⟨u,r2,l⟩:=hl i x v e1 e2 e3
    exact ⟨u,r2,l.imp id fun ⟨k,c,e4,z⟩=>⟨k,c,e4,ce x c e4 _ z⟩⟩
  . intro x c q
    obtain ⟨v,z⟩:=I.cell x c q
    exact ⟨v,ce x c q v z⟩
  . obtain ⟨m,⟨o,es,ep,q,r⟩,hl⟩:=I.loc
    exact free _ o nl q I.free
  . intro x c q
    obtain ⟨v,o,q1,_⟩:=I.cell x c q
    exact free c o (fun z=>(hch c z).2.2.1 x c q rfl) q1 (I.freeC x c q)
  . intro p hp
    obtain ⟨q,n,ne,nf,d⟩:=I.pin p hp
    have nc:¬ ch p.1:=fun z=>(hch p.1 z).2.2.2 p hp rfl
    exact ⟨(kp p.1 p.2 nc q).1 (out _ ne nf),free p.1 p.2 nc q n,ne,nf,d⟩
  . exact hok
  . exact I.len
theorem Fresh.off (fr:Fresh X pins H e tb) (I:Inv X pins σ H s) (hx:Fx C e tb s.heap) (b:Addr) (hb:b=e\/some b=tb):X.s₀.heap.get? b=none/\b ≠ X.env.locals/\(∀ x c,X.env.cells.lookup x=some c->c ≠ b)/\∀ p ∈ X.pn ++ pins,p.1 ≠ b:=by
  obtain ⟨f1,f2,f3⟩:=fr b hb
  obtain ⟨o,fs,q,d⟩:=hx.fld hb
  refine ⟨f1,fun z=>?_,fun x c hc z=>?_,f3⟩
  . obtain ⟨m,⟨o2,es,ep,q2,d2,_⟩,_⟩:=I.loc
    rw [<- z,q] at q2;cases q2
    rw [d] at d2;cases d2
  . obtain ⟨v,o2,q2,d2⟩:=I.cell x c hc
    subst z
    rw [q] at q2;cases q2
    rw [d] at d2;cases d2
theorem Inv.fly (I:Inv X pins σ H s) (hx:Fx C e tb s.heap) (fr:Fresh X pins H e tb) (kp:Kp (frs X.stack) (fun b=>b=e\/some b=tb) s.heap s'.heap) (ho:s'.os=s.os) (hg:s'.gens=s.gens):Inv X pins σ H s':=by
  refine I.kp (fr.off I hx) kp (fun _ _ _ _ n=>n) (fun _ _ q=>q) (fun _ _ _ q=>q) (fun b ps q=>⟨#[],by rw [q];simp⟩) (fun a o z=>?_) ho (by rw [hg];exact I.bare)
  have nt:∀ b u,H b=some u->¬ (b=e\/some b=tb)/\b ∉ frs X.stack:=fun b u q=>⟨fun z=>(nomatch (fr b z).2.1.symm.trans q),fun z=>(nomatch (I.stkFree b z).symm.trans q)⟩
  refine (I.hok a o z).stay (fun b u hb q=>?_) (fun _ q=>q) fun _ _ q=>q
  rcases hb with rfl | hb
  . exact (kp b u (nt b _ z).1 q).1 (nt b _ z).2
  . exact (kp b u (nt b _ hb).1 q).1 (nt b _ hb).2
theorem Inv.rest {T:Addr} {ob:Obj} {φ:Heap->Prop} (I:Inv X pins σ H s) (hx:Fx C e (some T) s.heap) (fr:Fresh X pins H e (some T)) (q:s.heap.get? e=some ob) (hφ:φ s.heap) (st:∀ h1 h2:Heap,φ h1->(∀ o,h1.get? e=some o->h2.get? e=some o)->φ h2):Inv X pins σ (upd H e (.frz ob (.ext φ))) s:=by
  have he:=(fr e (.inl rfl)).2.1
  have k0:Kp (frs X.stack) (fun b=>b=e\/some b=some T) s.heap s.heap:=fun b o _ q=>⟨fun _=>q,o.slots,q⟩
  have ne:∀ b u,H b=some u->b ≠ e:=fun b u q z=>by rw [z,he] at q;cases q
  refine I.kp (fr.off I hx) k0 (fun b o n q nb=>?_) (fun b xs q=>?_) (fun b o u q=>?_) (fun b ps q=>⟨#[],?_⟩) (fun a o z=>?_) rfl I.bare
  . rw [upd_ne (fun z=>n (.inl z))];exact nb
  . rw [upd_ne (ne b _ q)];exact q
  . rw [upd_ne (ne b _ q)];exact q
  . rw [upd_ne (ne b _ q),q];simp
  . by_cases hb:a=e
    . subst hb;rw [upd_same] at z;cases z;exact ⟨q,hφ,⟨_,q⟩,st⟩
    . rw [upd_ne hb] at z
      exact (I.hok a o z).stay (fun _ _ _ q=>q) (fun b q=>by rw [upd_ne (ne b _ q)];exact q) fun b xs q=>by rw [upd_ne (ne b _ q)];exact q
end
end L2
end
section
namespace L2
open PySem PySem.Spec PyProof.Rows
noncomputable abbrev TX:=St->Hp->(St->Hp->Prop)->Prop
noncomputable def XP (X:Cx) (pins:List (Addr × Obj)) (C:Value) (G:St->Hp->Prop) (v:Value) (s':Shared):Prop :=
  ∃ e tb σ' H',v = .ref e/\Inv X pins σ' H' s'/\G σ' H'/\Fx C e tb s'.heap/\Fresh X pins H' e tb
structure RE (X:Cx) (C:Value) (e:Expr) (t:TX):Prop where
  out:∀ (pins:List (Addr × Obj)) (s:Shared) (σ:St) (H:Hp) (G:St->Hp->Prop),Inv X pins σ H s->t σ H G->wpAny (model X.prog X.w) X.A (eval e X.env) (fun _ _=>False) (XP X pins C G) s
structure RS (X:Cx) (C:Value) (st:Stmt) (t:TX):Prop where
  out:∀ (pins:List (Addr × Obj)) (s:Shared) (σ:St) (H:Hp) (G:St->Hp->Prop),Inv X pins σ H s->t σ H G->wpAny (model X.prog X.w) X.A (exec st X.env) (fun _ _=>False) (XP X pins C G) s
structure RSs (X:Cx) (C:Value) (st:List Stmt) (t:TX):Prop where
  out:∀ (pins:List (Addr × Obj)) (s:Shared) (σ:St) (H:Hp) (G:St->Hp->Prop),Inv X pins σ H s->t σ H G->wpAny (model X.prog X.w) X.A (execs st X.env) (fun _ _=>False) (XP X pins C G) s
noncomputable def xNever:TX:=fun _ _ _=>False
noncomputable def xIf (c:TT) (t u:TX):TX:=fun σ H G=>c σ H fun b H1=>if b=true then t σ H1 G else u σ H1 G
section
variable {X:Cx} {C:Value} {st:Stmt} {rest a b:List Stmt} {t u:TX} {e c:Expr} {tc:TT} {pos:Pos}
theorem noE {α:Type} {m:Sem α} {M:Model} {A:Around} {Q:α->Shared->Prop} {E:Value->Shared->Prop} {s:Shared} (h:wpAny M A m Q (fun _ _=>False) s):wpAny M A m Q E s:=wpAny_mono h (fun _ _ x=>x) fun _ _ z=>z.elim
theorem rss_never:RSs X C rest xNever:=⟨fun _ _ _ _ _ _ h=>h.elim⟩
theorem rss_here (h:RS X C st t):RSs X C (st :: rest) t:=⟨fun pins s σ H G I q=>wpAny_execs_cons (wpAny_mono (h.out pins s σ H G I q) (fun _ _ z=>z.elim) fun _ _ z=>z)⟩
theorem rs_if (hc:ZT X.nox c tc) (ha:RSs X C a t) (hb:RSs X C b u):RS X C (.If c a b pos) (xIf tc t u):=⟨fun pins s σ H G I q=>wpAny_If (thn (noE (hc.out pins s σ H _ (I.wish _) q)) fun d s1 z=>by
  obtain ⟨H1,I1,q1⟩:=z
  cases d with
  | true=>exact ha.out pins s1 σ H1 G I1.unwish q1
  | false=>exact hb.out pins s1 σ H1 G I1.unwish q1)⟩
theorem rs_expr (he:RE X C e t) (hs:swapsWith e none pos.line X.env=pure false:=by rfl):RS X C (.Expr e pos) t:=⟨fun pins s σ H G I q=>wpAny_Expr_any (wpAny_mono (he.out pins s σ H G I q) (fun _ _ z=>z.elim) fun _ _ z=>z) I.quiet hs⟩
end
noncomputable def CXx (P:Program) (w:World) (C:Value):CXT:=fun outer H s _ v s'=>∃ e T H',v = .ref e/\s'.os=s.os/\AllBare s'.gens/\Same H H'/\Un (frs outer) [] H H' s.heap s'.heap/\HOk P w H' s'.heap/\Fx C e (some T) s'.heap /\
  ∀ a,(a=e\/some a=some T)->s.heap.get? a=none/\H' a=none
section
variable {X:Cx} {C:Value} {k:Nat} {f:Addr} {fd:FuncData} {ps:List Str} {sp:Sp} {x:Str} {p pos:Pos} {e:Expr} {es:List Expr} {t:TA}
noncomputable def xCall (sp:Sp) (t:TA):TX:=fun σ H G=>t σ H fun vs H1=>sp vs H1 (fun _ _=>False) E0/\∀ H',Same H1 H'->G σ H'
theorem run_raise {pins : List (Addr × Obj)} {σ : St} {H : Hp} {s : Shared} {G : St -> Hp -> Prop} {us : List Value} {vs : List V} (F : FnOk X.prog X.w X.K X.mg X.base (CXx X.prog X.w C) k f fd ps sp) (hr : Room k X.A) (hb : Binds X.K fd ps [])
    (I:Inv X pins σ H s) (r:Vals vs us) (h:sp vs H (fun _ _=>False) E0) (hG:∀ H',Same H H'->G σ H') (hX:X.ex=[]):wpAny (model X.prog X.w) X.A (call (.ref f) us) (fun _ _=>False) (XP X pins C G) s:=by
  have hl:us.length=ps.length:=by rw [<- r.length];exact F.len _ _ _ _ h
  have bs:=hb s us I.kIn (by rw [List.append_nil];exact hl)
  rw [List.append_nil] at bs
  refine wpAny_call (codeAny_mono (F.run X.A X.stack s H ⟨us,[]⟩ us vs _ E0 hr I.env0 bs r h) fun r s' hq=>?_)
  cases r with
  | ok fl =>
    cases fl with
    | ret u=>obtain ⟨_,_,_,_,_,_,_,z⟩:=hq;exact z.elim
    | next=>exact hq.elim
    | brk=>exact hq.elim
    | cont=>exact hq.elim
  | error v =>
    obtain ⟨e,T,H',rfl,o1,o2,sm,un,hok,fx,fr⟩:=hq
    refine ⟨e,some T,σ,H',rfl,I.call' (ch:=[]) o1 un hok o2 (fun b z=>absurd z (by simp)),hG H' sm,fx,fun a ha=>?_⟩
    obtain ⟨f1,f2⟩:=fr a ha
    refine ⟨?_,f2,fun p hp z=>?_⟩
    . cases q:X.s₀.heap.get? a with
      | none=>rfl
      | some o =>
        obtain ⟨o2,q2⟩:=I.base.there a o q (by rw [hX];simp)
        rw [f1] at q2;cases q2
    . have q:=(I.pin p hp).1
      rw [z,f1] at q;cases q
theorem re_call (F:FnOk X.prog X.w X.K X.mg X.base (CXx X.prog X.w C) k f fd ps sp) (hr:Room k X.A) (hg:Gl X x) (hm:X.mg x=some (.ref f)) (hk:PySem.W.keepIn X.K (.ref f)=true) (hb:Binds X.K fd ps []) (ha:ZA X.nox (e :: es) t) (hX:X.ex=[]:=by rfl)
    (hdb:(x == ("__debug__" : Str))=false:=by decide) (he:starEach (e :: es) X.env=(false,eval e X.env) :: starEach es X.env:=by rfl) (hpl:(backTo pos (starEach es X.env)).any (·.1)=false:=by rfl) :
    RE X C (.Call (.Name x p) (e :: es) [] pos) (xCall sp t):=⟨fun pins s σ H G I h=>by
  refine wpAny_Call_Name_kw (ld_glob I hg hm ?_ hdb)
  refine PySem.W.callWith_K (h₀:=X.base) I.ok.mod.kin hk (thn (noE (ha.out pos pins s σ H _ (I.wish _) h)) fun us s1 ⟨vs,H1,I1,r,q⟩=>⟨I1.kIn,?_⟩) he hpl
  exact run_raise F hr hb I1.unwish r q.1 q.2 hX⟩
end
theorem ObjOk.here {P:Program} {w:World} {H:Hp} {h:Heap} {a:Addr} {o:HO} (x:ObjOk P w H h a o):∃ u,h.get? a=some u:=by
  cases o with
  | lst xs=>obtain ⟨_,_,_,_,q⟩:=x;exact ⟨_,q⟩
  | tup xs=>obtain ⟨_,_,_,u,q,_⟩:=x;exact ⟨u,q⟩
  | dK kvs=>obtain ⟨_,_,_,_,u,_,_,q,_⟩:=x;exact ⟨u,q⟩
  | dT kvs=>obtain ⟨_,_,_,_,u,_,_,q,_⟩:=x;exact ⟨u,q⟩
  | set S n=>obtain ⟨u,_,_,_,q,_⟩:=x;exact ⟨u,q⟩
  | ins C dx fs=>obtain ⟨_,_,_,q,_⟩:=x;exact ⟨_,q⟩
  | own y=>exact x
  | xd fs=>obtain ⟨_,⟨u,_,_,q,_⟩,_⟩:=x;exact ⟨u,q⟩
  | rng lo hi=>obtain ⟨_,_,_,q⟩:=x;exact ⟨_,q⟩
  | frz ob u=>obtain ⟨q,_⟩:=x;exact ⟨_,q⟩
  | tbl ps=>exact ⟨_,x⟩
  | met f y=>exact ⟨_,x⟩
  | ext φ=>exact x.2.1
structure Xc (K:PySem.W.Frag) (x:Str) (C:Addr):Prop where
  ex:PySem.W.excIn K C [.type "ValueError",.type "Exception",.type "BaseException",.type "object"] "ValueError.__new__" = true
  nm:PySem.W.nsIn K mainGlobals x=some (some (.ref C))
theorem exc_obj {K : PySem.W.Frag} {C : Addr} {bmB : List Value} {newId : String} {h : Heap} (X : K.In h) (z : PySem.W.excIn K C bmB newId = true) :
    ∃ bm N nm q bs hdct sn sub ab col dd k0 k1 k2 k3 k5 mN,h.get? C=some (excClassObj nm q C N bs bm hdct sn sub ab col dd k0 k1 k2 k3 k5 newId)/\h.Ns N mN/\mN "__init__" = none/\OwnTail h bmB bm:=by
  unfold PySem.W.excIn at z
  split at z
  . rename_i d1 c1 sl1 lk
    split at z
    . rename_i C2 tl y0 y1 y2 y3 y4 y5 m1 m2
      simp only [Bool.and_eq_true,beq_iff_eq,Bool.not_eq_true'] at z
      obtain ⟨⟨⟨⟨⟨za,zb⟩,zc⟩,zd⟩,ze⟩,zf⟩:=z
      subst za
      subst zb
      obtain ⟨a1,a2,a3,a4,a5,a6,a7,a8,a9,a10,a11⟩:=c1
      dsimp only at m1 zc ze zf
      subst m1
      subst zc
      have e1:sl1 = #[y0,y1,y2,y3,some (.builtin y4),y5]:=by
        cases sl1
        exact congrArg Array.mk m2
      subst e1
      exact ⟨tl,a4,a1,a5,a2,a6,a7,a8,a9,a10,d1,y0,y1,y2,y3,y5,_,X _ _ lk,.of_isNs (PySem.W.isNs_of_in X ze),PySem.W.nsMap_none_of_in X ze zf,PySem.W.tail_of_in X zd⟩
    . cases z
  . cases z
section
variable {X:Cx} {C:Addr} {x txt:Str} {np cpos pos apos:Pos}
noncomputable def xRaise:TX:=fun σ H G=>G σ H
theorem rs_raise (c : Xc X.K x C) (hg : Gl X x) (hm : X.mg x = some (.ref C)) (hX : X.ex = [] := by rfl) (hc : X.calm = true := by rfl) (hdb : (x == ("__debug__" : Str)) = false := by decide)
    (he:∀ y,starEach [.Constant (.str txt) y apos] X.env=[(false,eval (.Constant (.str txt) y apos) X.env)]:=by intro _;rfl) {jj}:RS X (.ref C) (.Raise (some (.Call (.Name x np) [.Constant (.str txt) jj apos] [] cpos)) none pos) xRaise:=⟨fun pins s σ H G I h=>by
  obtain ⟨bm,N,nm,q,bs,hdct,sn,sub,ab,col,dd,k0,k1,k2,k3,k5,mN,o1,o2,o3,o4⟩:=exc_obj I.kIn c.ex
  have FB:=PySem.F.excBase_ValueError
  refine wpAny_Raise_call_subT (C:=C) (nm:=nm) (q:=q) (N:=N) (bs:=bs) (bm:=bm) (hdct:=hdct) (sn:=sn) (sub:=sub) (ab:=ab) (col:=col) (dd:=dd) (k0:=k0) (k1:=k1) (k2:=k2) (k3:=k3) (k5:=k5) FB (mN:=mN) (o4.hasType FB.hasBase) (I.ok.hd hc) (by rw [he];rfl) o3 (ld_glob I hg hm ⟨rfl,?_⟩ hdb)
  rw [he]
  refine Calls.evalArgs_plain (Calls.spliced_cons ?_)
  refine @Calls.Constant_str _ _ _ _ _ txt jj apos _ (Calls.spliced_nil ⟨rfl,by show 1<=sizeLine;decide,o1,o2,o4,fun h' e mk=>?_⟩)
  have I':=I.kept (t':=s.toks + 1) mk.keeps
  obtain ⟨t,t1,_,_⟩:=mk.there
  refine ⟨e,none,σ,H,rfl,I',h,⟨_,_,t1,⟨rfl,rfl⟩,rfl,(by show 1 < 6;decide),rfl⟩,fun a ha=>?_⟩
  rcases ha with rfl | ha
  . have hn:s.heap.get? a=none:=mk.new
    refine ⟨?_,?_,fun p hp z=>?_⟩
    . cases q:X.s₀.heap.get? a with
      | none=>rfl
      | some o =>
        obtain ⟨o2,q2⟩:=I.base.there a o q (by rw [hX];simp)
        rw [hn] at q2;cases q2
    . cases q:H a with
      | none=>rfl
      | some u =>
        obtain ⟨o2,q2⟩:=(I.hok a u q).here
        rw [hn] at q2;cases q2
    . have q:=(I.pin p hp).1
      rw [z,hn] at q;cases q
  . cases ha⟩
end
section
variable {P:Program} {w:World} {K:PySem.W.Frag} {mg:Str->Option Value} {base:Heap}
theorem Fun.raises {x qual:Str} {st:Stmt} {f:Addr} {fd:FuncData} {N ps:List Str} {k:Nat} {sp:Sp} {C:Value} (F:Fun K x qual st f fd) (S:FnScope N ps (defScope st)) (len:∀ vs H Q E,sp vs H Q E->vs.length=ps.length)
    (hbody:∀ (cdv:Value) (A:Around) (outer:List Env) (s:Shared) (H:Hp) (vs:List V) (Q:VK) (E:XK),Room k (A.deeper (envOfC qual (defScope st) s.heap.objs.size f cdv))->sp vs H Q E ->
      ∃ t,RSs (cxOf CX0 P w K mg base N qual (defScope st) f cdv A outer s H E).nox C (defBody st) t/\t (start N vs) H fun _ H'=>Same H H'):FnOk P w K mg base (CXx P w C) (k + 1) f fd ps sp:=by
  obtain ⟨oc,od,kV,doc,pm,an,cdv,ct,osl,rfl,lk,hcd⟩:=F.ex
  refine fn_of lk hcd S len fun A outer s H vs Q E hr hsp=>?_
  obtain ⟨t,h,q⟩:=hbody cdv A outer s H vs Q E hr hsp
  refine ⟨fun _ σ H1=>t σ H1 fun _ H'=>Same H H',?_,q⟩
  intro pins s1 σ H1 D I z
  have I0:Inv (cxOf CX0 P w K mg base N qual (defScope st) f cdv A outer s H E).nox pins σ H1 s1:=⟨⟨I.ok.mod,I.ok.kind,I.ok.glob,I.ok.blt,I.ok.above,I.ok.inj,I.ok.has,I.ok.cab,I.ok.hd,I.ok.frames,I.ok.stk,I.ok.exf,I.ok.bs,I.ok.bsz,I.ok.noex,I.ok.exfs,I.ok.funs,I.ok.frf⟩,I.os,I.bare,I.base,I.loc,I.cell,I.free,I.freeC,I.pin,I.hok,I.len⟩
  refine wpAny_mono (h.out pins s1 σ H1 _ I0 z) (fun _ _ z=>z.elim) fun v s2 xp=>?_
  obtain ⟨e,tb,σ',H',rfl,J,sm,fx,fr⟩:=xp
  show wpAny _ _ (leaving _ _) _ _ _
  unfold leaving
  refine wpAny_bind (note_land (base:=base) (outer:=outer) J.ok.frames J.stack rfl fx fun h' T lt fx' kp=>?_)
  have J2:=J.fly (s':={ s2 with heap:=h' }) fx fr kp rfl rfl
  refine ⟨e,T,H',rfl,J2.os,J2.bare,sm,J2.base,J2.hok,fx',fun a ha=>?_⟩
  rcases ha with rfl | ha
  . exact ⟨(fr a (.inl rfl)).1,(fr a (.inl rfl)).2.1⟩
  . obtain rfl:a=T:=by injection ha
    refine ⟨?_,J.hok.fresh lt⟩
    cases q:s.heap.get? a with
    | none=>rfl
    | some o=>exact absurd (Nat.lt_of_lt_of_le (Heap.lt_size q) (Nat.le_trans J.sz lt)) (Nat.lt_irrefl _)
end
end L2
end
section
namespace L2
open PySem PySem.Spec PyProof.Rows
noncomputable abbrev Cx.caught (X:Cx) (e:Addr):Cx:={ X with A:=X.A.mark (some (.ref e)),calm:=false,xe:=fun _ _=>False }
section
variable {X:Cx} {pins:List (Addr × Obj)} {σ:St} {H:Hp} {s:Shared} {e:Addr}
theorem Inv.caught (I:Inv X pins σ H s) (e:Addr):Inv (X.caught e) pins σ H s :=
  ⟨⟨I.ok.mod,I.ok.kind,I.ok.glob,I.ok.blt,I.ok.above,I.ok.inj,I.ok.has,I.ok.cab,fun z=>(nomatch z),I.ok.frames,I.ok.stk,I.ok.exf,I.ok.bs,I.ok.bsz,I.ok.noex,I.ok.exfs,I.ok.funs,I.ok.frf⟩,I.os,I.bare,I.base,I.loc,I.cell,I.free,I.freeC,I.pin,I.hok,I.len⟩
theorem Inv.uncaught (I:Inv (X.caught e) pins σ H s) (hd:X.calm=true->X.A.handled=none):Inv X pins σ H s :=
  ⟨⟨I.ok.mod,I.ok.kind,I.ok.glob,I.ok.blt,I.ok.above,I.ok.inj,I.ok.has,I.ok.cab,hd,I.ok.frames,I.ok.stk,I.ok.exf,I.ok.bs,I.ok.bsz,I.ok.noex,I.ok.exfs,I.ok.funs,I.ok.frf⟩,I.os,I.bare,I.base,I.loc,I.cell,I.free,I.freeC,I.pin,I.hok,I.len⟩
theorem Inv.goes {M:Model} {A:Around} {E:Value->Shared->Prop} {i:Nat} {n:Str} {pos:Pos} {Q:Unit->Shared->Prop} (I:Inv X pins σ H s) (hN:X.N.Nodup) (hi:X.N[i]?=some n) (hl:X.env.scope.names.lookup n=some .local)
    (h:∀ s',Inv X pins (σ.set i none) H s'->Q () s'):wpAny M A (do bindName X.env n .none;unbindBehindTheSuite X.env n pos) Q E s:=by
  obtain ⟨m,ns,lk⟩:=id I.loc
  refine wpAny_nameGoes_keeps hl ns (by rw [I.ok.kind];rfl) fun h' v ns' sb=>h _ ?_
  have k:∀ b o,b ≠ X.env.locals->s.heap.get? b=some o->h'.get? b=some o:=fun b o nb q=>(sb.2 b nb).trans q
  have neL:∀ b o,X.s₀.heap.get? b=some o->b ≠ X.env.locals:=fun b o q z=>absurd (Nat.lt_of_lt_of_le (Heap.lt_size q) I.ok.above) (by rw [z];exact Nat.lt_irrefl _)
  have ce:∀ x c,X.env.cells.lookup x=some c->∀ v,s.heap.IsCell c v->h'.IsCell c v:=fun x c q v ⟨o,q1,q2⟩=>⟨o,k c o (I.cne x c q) q1,q2⟩
  have th:∀ b o,s.heap.get? b=some o->∃ o',h'.get? b=some o':=fun b o q=>by
    by_cases z:b=X.env.locals
    . obtain ⟨o2,_,_,q2,_⟩:=ns'
      exact ⟨o2,by rw [z];exact q2⟩
    . exact ⟨o,k b o z q⟩
  constructor
  . exact I.ok
  . exact I.os
  . exact I.bare
  . constructor
    . exact fun b o q n f x=>k b o (neL b o q) (I.base.keep b o q n f x)
    . intro b o q n f x
      obtain ⟨sl,q1⟩:=I.base.slot b o q n f x
      exact ⟨sl,k b _ (neL b o q) q1⟩
    . exact I.base.free
    . intro b o q x
      obtain ⟨o2,q1⟩:=I.base.there b o q x
      exact ⟨o2,k b o2 (neL b o q) q1⟩
    . exact I.base.tups
    . exact I.base.frzs
    . exact I.base.tbls
  . refine ⟨_,ns',fun j x v2 e1 e2 e3=>?_⟩
    by_cases z:i=j
    . subst z
      by_cases lt:i < σ.length
      . rw [List.getElem?_set_self lt] at e2;cases e2
      . rw [List.getElem?_eq_none (by rw [List.length_set];omega)] at e2;cases e2
    . rw [List.getElem?_set_ne z] at e2
      obtain ⟨u,r,l⟩:=lk j x v2 e1 e2 e3
      have nx:x ≠ n:=fun q=>z (nodup_ix hN hi (by rw [<- q];exact e1))
      refine ⟨u,r,?_⟩
      rcases l with ⟨l1,l2⟩ | ⟨l1,c,l2,l3⟩
      . exact .inl ⟨l1,(if_neg nx).trans l2⟩
      . exact .inr ⟨l1,c,l2,ce x c l2 _ l3⟩
  . intro x c q
    obtain ⟨v,z⟩:=I.cell x c q
    exact ⟨v,ce x c q v z⟩
  . exact I.free
  . exact I.freeC
  . intro p hp
    obtain ⟨q,n,ne,nf,d⟩:=I.pin p hp
    exact ⟨k _ _ ne q,n,ne,nf,d⟩
  . intro a o z
    have nl:∀ b u,H b=some u->b ≠ X.env.locals:=fun b u q z=>by rw [z,I.free] at q;cases q
    refine (I.hok a o z).stay (fun b u hb q=>?_) (fun _ q=>q) fun _ _ q=>q
    rcases hb with rfl | hb
    . exact k b u (nl b _ z) q
    . exact k b u (nl b _ hb) q
  . rw [List.length_set];exact I.len
end
section
variable {X:Cx} {C:Value} {cT:Addr} {x n:Str} {body suite:List Stmt} {b0:Stmt} {t:TX} {th:TS} {i:Nat} {pos np hp:Pos}
noncomputable def tTryAs (C:Value) (i:Nat) (t:TX) (th:TS):TS:=fun D σ H=>t σ H fun σ1 H1=>∀ e ob,H1 e=none->th { nx:=fun σ2 H2=>D.nx (σ2.set i none) H2,rt:=fun _ _=>False } (σ1.set i (some (.ref e))) (upd H1 e (.frz ob (.ext (IsX C e))))
theorem ps_tryAs (hN : X.N.Nodup) (hi : X.N[i]? = some n) (hl : X.env.scope.names.lookup n = some .local) (hg : Gl X x) (hm : X.mg x = some (.ref cT)) (hx : PySem.W.exmOne X.K C (.ref cT) = some true) (hb : RSs X C body t) (hs : ∀ e, ZSs (X.caught e) (b0 :: suite) th)
    (hst:X.stack=X.env :: X.outer:=by rfl) (hfr:X.env.frame=some X.env.locals:=by rfl) (hd:(x == ("__debug__" : Str))=false:=by decide) :
    PS X (.Try body [.ExceptHandler (some (.Name x np)) (some n) (b0 :: suite) hp] [] [] pos) (tTryAs C i t th):=by
  intro pins s σ H D I h
  refine wpAny_Try_except (wpAny_mono (hb.out pins s σ H _ I h) (fun _ _ z=>z.elim) fun v s1 xp=>?_)
  obtain ⟨e,tb,σ1,H1,rfl,J,g,fx,fr⟩:=xp
  refine note_land (base:=X.base) (outer:=X.outer) (by rw [<- hst];exact J.ok.frames) (by rw [<- hst];exact J.stack) hfr fx fun h' T lt fx' kp=>?_
  rw [<- hst] at kp
  have J2:=J.fly (s':={ s1 with heap:=h' }) fx fr kp rfl rfl
  have fr2:Fresh X pins H1 e (some T):=fun a ha=>by
    rcases ha with rfl | ha
    . exact fr a (.inl rfl)
    . obtain rfl:a=T:=by injection ha
      refine ⟨?_,J.hok.fresh lt,fun p hp z=>?_⟩
      . cases q:X.s₀.heap.get? a with
        | none=>rfl
        | some o=>exact absurd (Nat.lt_of_lt_of_le (Heap.lt_size q) (Nat.le_trans J.sz lt)) (Nat.lt_irrefl _)
      . have q:=Heap.lt_size (J.pin p hp).1
        rw [z] at q;exact absurd (Nat.lt_of_lt_of_le q lt) (Nat.lt_irrefl _)
  have J3:=J2.caught e
  refine wpAny_handleBy_cons (codeAny_handlers_test (ld_glob J3 hg hm ?_ hd)) (by intro q;cases q)
  have ty:PySem.W.Looks (model X.prog X.w) h' (typeOf (.ref e)) C:=by
    obtain ⟨oe,fs,q,⟨rfl,_⟩,_⟩:=fx'
    exact (PySem.W.Looks.ld q).andThen .now
  refine (PySem.W.exm_one (M:=model X.prog X.w) (J2.kIn:X.K.In h') ty hx).here ?_
  show codeAny _ _ _ _ _
  refine codeAny_handlers_suite_as (land_again fx' fun h2 fx2 kp2=>?_)
  have J4:=J2.fly (s':={ s1 with heap:=h2 }) fx' fr2 (fun b o n q=>⟨fun _=>(kp2 b o (fun z=>n (.inr (by rw [z]))) q).1 (by simp),(kp2 b o (fun z=>n (.inr (by rw [z]))) q).2⟩) rfl rfl
  obtain ⟨ob,fs,q,c1,d1,_⟩:=id fx2
  have J5:=J4.rest (φ:=IsX C e) fx2 fr2 q ⟨ob,q,c1.1,c1.2,fs,d1⟩ IsX.st
  refine store_ok J5 hN hi (.inl hl) (v:=.ref e) rfl (fun s4 J6=>?_) (.inr hl)
  refine wpAny_mono ((hs e).out pins s4 _ _ _ (J6.caught e) (g e ob (fr2 e (.inl rfl)).2.1)) (fun f s5 z=>?_) fun _ _ z=>z.elim
  cases f with
  | next =>
    obtain ⟨σ2,H2,J7,q2⟩:=z
    exact (J7.uncaught J.ok.hd).goes hN hi hl fun s6 J8=>⟨_,H2,J8,q2⟩
  | ret v=>obtain ⟨_,_,_,_,_,z⟩:=z;exact z.elim
  | brk=>obtain ⟨_,_,_,z⟩:=z;exact z.elim
  | cont=>obtain ⟨_,_,_,z⟩:=z;exact z.elim
end
section
variable {X:Cx} {body:List Stmt} {hs:List ExceptHandler} {h0:ExceptHandler} {t:TS} {pos:Pos}
theorem ps_tryOk (hb:ZSs X.nox body t):PS X (.Try body (h0 :: hs) [] [] pos) t:=fun pins s σ H D I h =>
  wpAny_Try_except (wpAny_mono (hb.out pins s σ H D (I.wish _) h) (fun f s1 q=>by
    have q':=q.unwish
    cases f with
    | next=>exact wpAny_execs_nil q'
    | ret v=>exact q'
    | brk=>exact q'
    | cont=>exact q') fun _ _ z=>z.elim)
end
end L2
end
section
namespace L2
open PySem PySem.W PySem.Spec PyProof.Rows
section
variable {prog:Program} {w:World} {A:Around} {E:Value->Shared->Prop} {s:Shared} {K:Frag} {x D:Addr} {ox:Obj}
theorem findObj_none {a g:Value} {name:Str} (hc:(clsIn K D).isSome=true) (ha:findIn K (.ref D) name=some (some a)) (hg:specialIn K a "__get__" = some (some g)) (ht:takesIn K a=some true):findObj K D none name=some (.bind g a):=by
  obtain ⟨cd,hc⟩:=Option.isSome_iff_exists.mp hc
  unfold findObj
  rw [hc,Option.bind_some,ha,Option.bind_some]
  simp [hg,ht]
structure XcL (K:Frag) (D:Addr):Prop where
  is:(clsIn K D).isSome=true
  ga:findIn K (.ref D) "__getattribute__" = some (some (.builtin "BaseException.__getattribute__"))
  gt:findIn K (.ref D) "__getattr__" = some none
  cl:findIn K (.ref D) "__class__" = some (some (.builtin "object.__class__"))
  gs:specialIn K (.builtin "object.__class__") "__get__" = some (some (.builtin "getset_descriptor.__get__"))
  tk:takesIn K (.builtin "object.__class__")=some true
  ob:mroIn K D (.type "object")=some true
  be:mroIn K D (.type "BaseException")=some true
theorem exc_class {Q:Option Value->Shared->Prop} (c:XcL K D) (X:K.In s.heap) (I:InstAt s.heap x ox D none) (h:Q (some (.ref D)) { s with toks:=s.toks + 1 }):wpAny (model prog w) A (getAttr? (.ref x) "__class__") Q E s:=by
  obtain ⟨hh,g,d,t,os⟩:=s
  have L0:=I.type (M:=model prog w)
  have L1:=looks_findIn (M:=model prog w) X c.ga
  have L2:=looks_findIn (M:=model prog w) X c.gt
  have L3:=looks_find (M:=model prog w) X I (findObj_none c.is c.cl c.gs c.tk)
  have L4:=looks_mroIn (M:=model prog w) X c.be
  have FB:=PySem.F.attrBase_ValueError
  unfold getAttr? getAttrBy? getAttrBy
  refine wpAny_bind (wpAny_mkText (wpAny_bind (wpAny_attempt (wpAny_holding (wpAny_bind (L0.at (wpAny_bind (L1.at ?_))))))))
  show wpAny _ _ (getAttrByItsOwn _ _ _ _ _ _) _ _ _
  unfold getAttrByItsOwn hookBefore
  rw [if_pos (show onTheHeap (.ref D)=true from rfl)]
  refine wpAny_bind (L2.at (wpAny_bind (wpAny_attempt (wpAny_holding ?_))))
  unfold callGetattribute
  rw [Bool.false_and,if_neg Bool.false_ne_true]
  unfold boundAndCalled
  refine wpAny_bind (wpAny_of_eq (FB.ga.bind (.ref x)) ?_)
  refine wpAny_call (codeAny_call_builtin FB.ga.plain F.entry_bexc_ga ?_)
  have hk:builtinKind "BaseException.__getattribute__" = some .slot:=by decide +kernel
  have hsplit:splitId "BaseException.__getattribute__" = some ("BaseException","__getattribute__"):=by decide +kernel
  have ha:=F.args_bexc_ga (.ref x) (.str "__class__" t)
  simp only [checkBuiltinCall,hk,hsplit]
  refine wpAny_bind ?_
  unfold isInstance
  refine wpAny_bind (L0.at (L4.at ?_))
  simp only [Bool.not_true,Bool.false_eq_true,if_false]
  refine wpAny_mono (Q:=fun _ s'=>s'=⟨hh,g,d,t + 1,os⟩) ?_ ?_ fun _ _ z=>z
  . (repeat (any_goals (first | assumption | wp_step)))
    rfl
  . rintro _ _ rfl
    repeat (any_goals (first | assumption | exact L0.at (by assumption) | (with_reducible refine wpAny_bind (L0.at ?_)) | (with_reducible refine wpAny_bind (L3.at ?_)) | wp_step))
    refine class_get (s:=⟨hh,g,d,t + 1,os⟩) (ox:=ox) (od:=none) X I c.ob ?_
    exact wpAny_pure (handed_on rfl (wpAny_pure h))
theorem kitx_exc (c:XcL K D):KitX K (.ref x) (.ref D) (fun h=>∃ ox,InstAt h x ox D none) where
  ty:=fun _ _ _ ⟨_,I⟩=>I.type
  it:=fun _ _ X _=>by
    have z:=c.is
    unfold clsIn at z
    split at z
    . rename_i lk
      intro A' Q' E' s' k q
      unfold isType loadHead
      exact wpAny_bind (wpAny_loadPart (k _ _ (X _ _ lk)) (wpAny_pure q))
    . cases z
  ne:=fun h tp dd its n sl X htp=>by
    have z:=c.is
    refine Bool.eq_false_iff.mpr fun q=>?_
    obtain rfl:D=tp:=Value.ref.inj (beq_iff_eq.mp q)
    unfold clsIn at z
    split at z
    . rename_i lk
      cases (X _ _ lk).symm.trans htp
    . cases z
  ca:=fun X ⟨_,I⟩ k=>exc_class c X I k
end
section
variable {X:Cx} {pins:List (Addr × Obj)} {σ:St} {H:Hp} {s:Shared}
theorem Inv.xAt (I:Inv X pins σ H s) {a:Addr} {c:Array UInt8} (h:XAt X.K H a c):∃ C,XN X.K c C/\IsX C a s.heap:=by
  obtain ⟨ob,C,q,z⟩:=h
  exact ⟨C,z,(I.hok a _ q).2.1⟩
theorem IsX.inst {D a:Addr} {h:Heap} (x:IsX (.ref D) a h):∃ ox,InstAt h a ox D none:=by
  obtain ⟨o,q,c,d,fs,f⟩:=x
  refine ⟨o,q,c,?_,?_⟩
  . obtain ⟨c1,d1,dt,sl⟩:=o
    cases (show dt=_ from f)
    rfl
  . rw [d];trivial
noncomputable def rIsX (K:Frag):List V->Hp->VK->Prop:=fun xs H Q=>∃ a c D y u b,xs=[.ref a,y]/\XAt K H a c/\XN K c (.ref D)/\XcL K D/\((∃ C,y = .ref C/\u = .ref C)\/∃ T,y = .ty T/\u = .type T)/\kitOne K (.ref D) u=some b/\Q (.bl b) H
noncomputable def rIsXT (K:Frag):List V->Hp->VK->Prop:=fun xs H Q=>∃ a c D tp ys us b,xs=[.ref a,.ref tp]/\XAt K H a c/\XN K c (.ref D)/\XcL K D/\H tp=some (.tup ys)/\(∀ vs,Vals ys vs->vs=us)/\kitAny K (.ref D) us=some b/\Q (.bl b) H
theorem XN.one {K:Frag} {c:Array UInt8} {C C':Value} (a:XN K c C) (b:XN K c C'):C=C':=by
  unfold XN at a b
  rw [a] at b
  exact Option.some.inj (Option.some.inj b)
theorem call_isX : CallR X (.builtin "isinstance") (rIsX X.K) := by
  intro pins s σ H xs us Q I r h
  obtain ⟨a,c,D,y,u,b,rfl,x0,x1,x2,ry,e,q⟩:=h
  obtain ⟨C,z,ix⟩:=I.xAt x0
  obtain rfl:=z.one x1
  cases r with
  | cons r1 r2 =>
    cases r2 with
    | cons r3 r4 =>
      cases r4
      cases (show _=Value.ref a from r1)
      have fin:∀ tk,EP X pins σ Q (.bool b) { s with toks:=tk }:=fun tk=>⟨.bl b,H,I.tok tk,rfl,q⟩
      rcases ry with ⟨C,rfl,rfl⟩ | ⟨T,rfl,rfl⟩
      . cases (show _=Value.ref C from r3)
        exact kia_one (kitx_exc x2) I.kIn ix.inst e (fun z=>nomatch z) fin
      . cases (show _=Value.type T from r3)
        exact kia_one (kitx_exc x2) I.kIn ix.inst e (fun z=>nomatch z) fin
theorem call_isXT:CallR X (.builtin "isinstance") (rIsXT X.K):=by
  intro pins s σ H xs us Q I r h
  obtain ⟨a,c,D,tp,ys,cs,b,rfl,x0,x1,x2,ht,hv,e,q⟩:=h
  obtain ⟨C,z,ix⟩:=I.xAt x0
  obtain rfl:=z.one x1
  cases r with
  | cons r1 r2 =>
    cases r2 with
    | cons r3 r4 =>
      cases r4
      cases (show _=Value.ref a from r1)
      cases (show _=Value.ref tp from r3)
      obtain ⟨_,its,rv,o,q0,c0,n0,d0⟩:=I.hok tp _ ht
      obtain rfl:=hv its rv
      obtain ⟨oc,od,odt,osl⟩:=o
      cases (show oc=_ from c0)
      cases (show odt=_ from d0)
      exact kia_tup (kitx_exc x2) I.kIn ix.inst q0 e (fun z=>nomatch z) fun tk=>⟨.bl b,H,I.tok tk,rfl,q⟩
end
end L2
end
namespace D
open PySem L2 K0 Num
open PySem.W (Dat)
section
noncomputable def excO (c:Array UInt8):Own where
  R:=fun _ K H a l=>l=[a]/\XAt K H a c
  ev:=fun h e nw k=>by
    obtain ⟨rfl,ob,C,q,z⟩:=h
    exact ⟨rfl,ob,C,k _ _ (by simp) q,z⟩
  wide:=fun h _=>h
  al:=fun h b hb=>by
    obtain ⟨rfl,ob,C,q,z⟩:=h
    obtain rfl:b=_:=by simpa using hb
    exact ⟨_,q⟩
section
variable {p:Option Addr} {K:PySem.W.Frag} {W:Addr->Prop} {L:List Addr} {σ:St} {H:Hp} {τ:List Sl}
theorem Rs.forgetN (r:Rs p W K H L σ τ):∀ i:Nat,∃ L',(∀ a,a ∈ L'->a ∈ L)/\Rs p W K H L' (σ.set i none) (τ.set i .un):=by
  induction r with
  | nil=>intro i;exact ⟨[],fun _ h=>h,.nil⟩
  | un r ih =>
    intro i
    match i with
    | 0=>exact ⟨_,fun _ h=>h,.un r⟩
    | i + 1=>obtain ⟨L',h1,h2⟩:=ih i;exact ⟨L',h1,.un h2⟩
  | dat y r ih =>
    intro i
    match i with
    | 0=>exact ⟨_,fun _ h=>h,.un r⟩
    | i + 1=>obtain ⟨L',h1,h2⟩:=ih i;exact ⟨L',h1,.dat y h2⟩
  | pu y r ih =>
    intro i
    match i with
    | 0=>exact ⟨_,fun _ h=>h,.un r⟩
    | i + 1=>obtain ⟨L',h1,h2⟩:=ih i;exact ⟨L',h1,.pu y h2⟩
  | own h1 h2 h3 h4 h5 r ih =>
    intro i
    match i with
    | 0=>exact ⟨_,fun _ h=>List.mem_cons_of_mem _ h,.un r⟩
    | i + 1 =>
      obtain ⟨L',g1,g2⟩:=ih i
      refine ⟨_ :: L',fun b hb=>?_,.own h1 h2 (fun z=>h3 (g1 _ z)) h4 h5 g2⟩
      rcases List.mem_cons.mp hb with rfl | hb
      . exact List.mem_cons_self
      . exact List.mem_cons_of_mem _ (g1 b hb)
  | dt h1 h2 h3 h4 r ih =>
    intro i
    match i with
    | 0=>exact ⟨_,fun _ h=>List.mem_append_right _ h,.un r⟩
    | i + 1 =>
      obtain ⟨L',g1,g2⟩:=ih i
      exact ⟨_ ++ L',fun b hb=>(List.mem_append.mp hb).elim (List.mem_append_left _) (fun z=>List.mem_append_right _ (g1 b z)),.dt h1 h2 (fun b hb z=>h3 b hb (g1 _ z)) h4 g2⟩
end
theorem Rs.len {p:Option Addr} {K:PySem.W.Frag} {W:Addr->Prop} {L:List Addr} {σ:St} {H:Hp} {τ:List Sl} (r:Rs p W K H L σ τ):σ.length=τ.length:=by
  induction r with
  | nil=>rfl
  | un _ ih=>exact congrArg (· + 1) ih
  | dat _ _ ih=>exact congrArg (· + 1) ih
  | pu _ _ ih=>exact congrArg (· + 1) ih
  | own _ _ _ _ _ _ ih=>exact congrArg (· + 1) ih
  | dt _ _ _ _ _ ih=>exact congrArg (· + 1) ih
section
variable (p:Option Addr) (K:PySem.W.Frag)
noncomputable def SX (tx:TX) (τ:List Sl) (nx:List Sl->Prop):Prop:=∀ (W:Addr->Prop) (L:List Addr) (σ:St) (H:Hp) (G:St->Hp->Prop),Rs p W K H L σ τ->Ok p W H ->
  (∀ (W':Addr->Prop) (L':List Addr) σ' H' τ',nx τ'->Ev W H H'->Ok p W' H'->(∀ a,W a->∃ ys,H' a=some ys)->(∀ a,W' a->W a\/H a=none)->(∀ a,a ∈ L'->a ∈ L\/H a=none)->Rs p W' K H' L' σ' τ'->G σ' H')->tx σ H G
end
noncomputable def spB (K:PySem.W.Frag) (B:List Dat->Prop):Sp:=fun vs H _ _=>∃ ds,Dzs (fun _=>True) K H vs ds/\B ds
section
variable {p:Option Addr} {K:PySem.W.Frag} {τ:List Sl} {tc:TT} {t u:TX} {tas:TA} {nx:List Sl->Prop} {rt:Sl->Prop} {ds:List Dat}
theorem SX.raise:SX p K xRaise τ (fun τ'=>τ'=τ):=fun W L σ H G r o q=>q W L σ H τ rfl Ev.refl o o.al (fun _ h=>.inl h) (fun _ h=>.inl h) r
theorem SX.iff {b:Bool} (h:T1 p K tc τ b) (ht:b=true->SX p K t τ nx) (hf:b=false->SX p K u τ nx):SX p K (xIf tc t u) τ nx:=fun W L σ H G r o q=>h W L σ H _ r o fun b' H1 e ev o1=>by
  subst e
  have e1:Ev W H H1:=ev.ofP o
  have hn:∀ a,H1 a=none->H a=none:=fun a ha=>e1.none o1.al ha
  have fin:∀ {t:TX},SX p K t τ nx->t σ H1 G:=fun hs=>hs W L σ H1 G (r.ev ev o.pw) o1 fun W' L' σ' H' τ' m e2 o2 w2 n2 l2 r2=>q W' L' σ' H' τ' m (e1.trans e2) o2 w2 (fun a ha=>(n2 a ha).imp id (hn a)) (fun a ha=>(l2 a ha).imp id (hn a)) r2
  cases b with
  | true=>rw [if_pos rfl];exact fin (ht rfl)
  | false=>rw [if_neg Bool.false_ne_true];exact fin (hf rfl)
theorem SX.ifT (h:T1 p K tc τ true) (hs:SX p K t τ nx):SX p K (xIf tc t u) τ nx:=SX.iff h (fun _=>hs) (fun z=>by cases z)
theorem SX.call {B:List Dat->Prop} {ss:List Sl} (ha:A1 p K tas τ ss) (hr:B ds) (hd:datsOf ss=some ds:=by rfl):SX p K (xCall (spB K B) tas) τ (fun τ'=>τ'=τ):=fun W L σ H G r o q=>ha W L σ H _ r o fun vs H1 ss e e1 o1 rv=>by
  subst e
  refine ⟨⟨ds,rv.dz hd,hr⟩,fun H' sm=>?_⟩
  exact q W L σ H' τ rfl ((e1.ofP o).trans (Ev.of sm)) (o1.same sm) (o1.same sm).al (fun _ h=>.inl h) (fun _ h=>.inl h) ((r.ev e1 o.pw).ev (Ev.of sm) o.pw)
theorem S.tryAs {C : Value} {c : Array UInt8} {i j : Nat} {n1 : List Sl -> Prop} (hx : SX p K t τ n1) (xn : XN K c C) (ij : i ≠ j) (li : ∀ τ', n1 τ' -> i < τ'.length) (m : ∀ τ', n1 τ' -> nx ((τ'.set i .un).set j (.dt (excO c)))) : S p K (tTryAs C i t (tAsg (tVar i) (gName j))) τ nx rt := fun W L σ H D r o q1 q2 =>
  hx W L σ H _ r o fun W1 L1 σ1 H1 τ1 c1 e1 o1 w1 n1 l1 r1=>fun e ob he=>by
    have he0:H e=none:=e1.none w1 he
    have sm:Same H1 (upd H1 e (.frz ob (.ext (IsX C e)))):=Same.new he _
    have r2:Rs p (fun b=>W1 b\/b=e) K H1 L1 σ1 τ1:=r1.wide (fun _ h=>.inl h) fun a ha na=>(ha.resolve_left na) ▸ he
    have r3:=r2.ev (Ev.of sm) fun q hq=>.inl (o1.pw q hq)
    obtain ⟨L3,l3,r4⟩:=r3.forgetN i
    have np:p ≠ some e:=fun z=>by
      obtain ⟨⟨_,_,y⟩,_⟩:=o1.pu e z
      rw [he] at y;cases y
    have one:∀ b,b ∈ [e]->b=e:=fun b hb=>by simpa using hb
    obtain ⟨L5,l5,r5⟩:=r4.setT (o:=excO c) (a:=e) (l:=[e]) (fun b hb=>.inr (one b hb)) (fun b hb=>one b hb ▸ np) (fun b hb z=>by
      obtain rfl:b=e:=by simpa using hb
      obtain ⟨_,y⟩:=r1.own_in b (l3 b z)
      rw [he] at y;cases y) ⟨rfl,ob,C,upd_same,xn⟩ j
    have lt:i < σ1.length:=by rw [r1.len];exact li τ1 c1
    refine ⟨.ref e,by rw [List.getElem?_set_self lt],?_⟩
    show D.nx ((((σ1.set i (some (.ref e))).set j (some (.ref e)))).set i none) _
    rw [List.set_comm _ _ (Ne.symm ij),List.set_set]
    refine q1 (fun b=>W1 b\/b=e) L5 _ _ _ (m τ1 c1) (e1.trans (Ev.of sm)) ⟨fun q hq=>⟨(o1.same sm).pu q hq |>.1,.inl (o1.pw q hq)⟩,fun a ha=>?_⟩ (fun a ha=>?_) (fun a ha=>?_) (fun a ha=>?_) r5
    . rcases ha with ha | rfl
      . obtain ⟨y,q⟩:=o1.al a ha;exact ⟨y,sm _ _ q⟩
      . exact ⟨_,upd_same⟩
    . obtain ⟨y,q⟩:=w1 a ha;exact ⟨y,sm _ _ q⟩
    . rcases ha with ha | rfl
      . exact n1 a ha
      . exact .inr he0
    . rcases l5 a ha with hb | hb
      . obtain rfl:a=e:=by simpa using hb
        exact .inr he0
      . exact l1 a (l3 a hb)
section
variable {P:Program} {w:World} {mg:Str->Option Value} {base:Heap}
theorem okB {x qual:Str} {st:Stmt} {f:Addr} {fd:FuncData} {N ps:List Str} {k:Nat} {B:List Dat->Prop} {C:Value} (F:Fun K x qual st f fd) (S0:FnScope N ps (defScope st)) (len:∀ ds,B ds->ds.length=ps.length)
    (body:∀ (cdv:Value) (A:Around) (outer:List Env) (s:Shared) (H:Hp) (E:XK),Room k (A.deeper (PyProof.Rows.envOfC qual (defScope st) s.heap.objs.size f cdv)) ->
      ∃ t,RSs (cxOf CX0 P w K mg base N qual (defScope st) f cdv A outer s H E).nox C (defBody st) t/\∀ ds,B ds->SX none K t (ds.map .dat ++ List.replicate (N.length - ps.length) .un) (fun _=>True)):FnOk P w K mg base (CXx P w C) (k + 1) f fd ps (spB K B):=by
  refine F.raises S0 (fun vs H Q E h=>?_) (fun cdv A outer s H vs Q E hr h=>?_)
  . obtain ⟨ds,z,b⟩:=h;rw [z.len];exact len ds b
  . obtain ⟨ds,z,b⟩:=h
    obtain ⟨t,hz,hs⟩:=body cdv A outer s H E hr
    have l:vs.length=ps.length:=by rw [z.len];exact len ds b
    have r0:Rs none (fun _=>False) K H [] (L2.start N vs) (ds.map .dat ++ List.replicate (N.length - ps.length) .un):=by
      unfold L2.start
      rw [l]
      exact rs_start _ z fun a _ h=>h
    exact ⟨t,hz,hs ds b (fun _=>False) [] _ H _ r0 ⟨fun q h=>(by cases h),fun a h=>False.elim h⟩ fun W' L' σ' H' τ' _ ev _ _ _ _ _=>fun b o h=>ev.keep b o (fun z=>z) h⟩
theorem okPx {x qual : Str} {st : Stmt} {f : Addr} {fd : FuncData} {N ps : List Str} {k : Nat} {R : List Dat -> Dat -> Prop} (F : Fun K x qual st f fd) (S0 : FnScope N ps (defScope st)) (len : ∀ ds d, R ds d -> ds.length = ps.length)
    (body:∀ (cdv:Value) (A:Around) (outer:List Env) (s:Shared) (H:Hp) (vs:List V) (ds:List Dat) (d:Dat) (E:XK),Room k (A.deeper (PyProof.Rows.envOfC qual (defScope st) s.heap.objs.size f cdv))->R ds d ->
      ∃ t,ZSs (cxOf CX0 P w K mg base N qual (defScope st) f cdv A outer s H E).nox (defBody st) t/\S none K t (ds.map .dat ++ List.replicate (N.length - ps.length) .un) (fun _=>False) (fun s=>Gives d s\/∃ c,d = .bytes c/\s = .dt (excO c))):FnOk P w K mg base CX0 (k + 1) f fd ps (spP K R):=by
  refine F.okZ S0 (fun vs H Q E h=>?_) (fun cdv A outer s H vs Q E hr h=>?_)
  . obtain ⟨ds,d,z,r,_⟩:=h;rw [z.len];exact len ds d r
  . obtain ⟨ds,d,z,r,q⟩:=h
    obtain ⟨t,hz,hs⟩:=body cdv A outer s H vs ds d E hr r
    refine ⟨t,hz,?_⟩
    have l:vs.length=ps.length:=by rw [z.len];exact len ds d r
    have r0:Rs none (fun _=>False) K H [] (L2.start N vs) (ds.map .dat ++ List.replicate (N.length - ps.length) .un):=by
      unfold L2.start
      rw [l]
      exact rs_start _ z fun a _ h=>h
    have same:∀ {H':Hp},Ev (fun _=>False) H H'->Same H H':=fun e b o h=>e.keep b o (fun z=>z) h
    refine hs (fun _=>False) [] _ H _ r0 ⟨fun q h=>(by cases h),fun a h=>False.elim h⟩ (fun W' L' σ' H' τ' e ev o' al n l r'=>e.elim) (fun W' H' v s e ev o' al n rv=>?_)
    rcases e with e | ⟨c,rfl,rfl⟩
    . cases s with
      | dat d' =>
        obtain ⟨rfl,nl⟩:=e
        exact q v H' (same ev) (Dz.free rv nl)
      | own es =>
        obtain ⟨rfl,nl⟩:=e
        obtain ⟨a,vs,rfl,h1,h2,h3⟩:=rv
        exact q _ H' (same ev) (.lst (.inl ⟨h1.resolve_left (fun z=>by cases z),.inl h2⟩) (h3.free nl))
      | dt es=>cases e
      | un=>cases e
      | pu=>cases e
      | vw ds=>cases e
    . obtain ⟨a,l,rfl,h1,rfl,h3⟩:=rv
      exact q _ H' (same ev) (.exc ((h1 a (by simp)).resolve_left (by simp)) h3)
end
end
end
end D
section
namespace L2
open PySem PySem.Spec PyProof.Rows
section
variable {X:Cx}
noncomputable def rSlS:V->Option Int->Option Int->Hp->VK->Prop:=fun x lo hi H Q=>∃ z,x = .str z/\z.length<=sizeLine/\Q (.str (Txt.slice z lo hi)) H
theorem sl_str:SlR X rSlS:=by
  intro pins s σ H x v vl vu lo hi sl Q I rx hs pl pu h
  obtain ⟨z,rfl,hz,q⟩:=h
  obtain ⟨t,rfl⟩:=rx
  obtain ⟨ob,g1,g2,g3⟩:=hs
  refine ⟨"str",_,F.slot_str_getitem.lookup,typeIs_str _ _ _,?_⟩
  have fin:∀ t' k,EP X pins σ Q (.str (Txt.slice z lo hi) t') { s with toks:=k }:=fun t' k=>⟨.str _,H,I.tok k,⟨t',rfl⟩,q⟩
  have le:=Nat.le_trans (Txt.slice_le z lo hi) hz
  cases pl with
  | none =>
    cases pu with
    | none=>exact wpAny_getItem_str_slice (l:=none) (u:=none) (st:=none) ⟨ob,g1,g2,g3⟩ rfl (post_val_or_str ⟨le,fun t' k=>fin t' k⟩)
    | int j tj=>exact wpAny_getItem_str_slice (l:=none) (u:=some (j,tj)) (st:=none) ⟨ob,g1,g2,g3⟩ rfl (post_val_or_str ⟨le,fun t' k=>fin t' k⟩)
  | int i ti =>
    cases pu with
    | none=>exact wpAny_getItem_str_slice (l:=some (i,ti)) (u:=none) (st:=none) ⟨ob,g1,g2,g3⟩ rfl (post_val_or_str ⟨le,fun t' k=>fin t' k⟩)
    | int j tj=>exact wpAny_getItem_str_slice (l:=some (i,ti)) (u:=some (j,tj)) (st:=none) ⟨ob,g1,g2,g3⟩ rfl (post_val_or_str ⟨le,fun t' k=>fin t' k⟩)
end
end L2
namespace D
open PySem L2 K0 Num
open PySem.W (Dat)
section
variable {p:Option Addr} {K:PySem.W.Frag} {τ:List Sl} {te:TE}
theorem E1.slS {z:Str} {lo hi:Option Int} {tl th:TO} (h:E1 p K te τ (.dat (.str z))) (hl:O1 p K tl τ lo) (hh:O1 p K th τ hi) (hz:z.length<=sizeLine):E1 p K (tSl rSlS te tl th) τ (.dat (.str (Txt.slice z lo hi))):=fun W L σ H Q r o q =>
  h W L σ H _ r o fun v H1 s e e1 o1 rv=>by
    subst e
    refine hl W L σ H1 _ (r.ev e1 o.pw) o1 fun H2 e2 o2=>hh W L σ H2 _ ((r.ev e1 o.pw).ev e2 o.pw) o2 fun H3 e3 o3=>?_
    cases rv
    exact ⟨z,rfl,hz,q _ _ _ rfl (e1.trans (e2.trans e3)) o3 (.str _)⟩
end
noncomputable def Asc (n:Nat) (z:Str):Prop:=z.length<=n/\∀ c ∈ z.cps.toList,c < 128
theorem Asc.slice {n:Nat} {z:Str} (h:Asc n z) (l u:Option Int):Asc n (Txt.slice z l u):=by
  refine ⟨Nat.le_trans (Txt.slice_le z l u) h.1,fun c hc=>?_⟩
  unfold Txt.slice at hc
  split at hc
  . exact h.2 c hc
  . obtain ⟨i,_,hi⟩:=List.mem_filterMap.mp hc
    exact h.2 c (Array.mem_toList_iff.mpr (Array.mem_of_getElem? hi))
theorem Asc.app {n m:Nat} {x y:Str} (h:Asc n x) (g:Asc m y):Asc (n + m) (x ++ y):=by
  have e:(x ++ y).cps.toList=x.cps.toList ++ y.cps.toList:=Array.toList_append
  refine ⟨?_,fun c hc=>?_⟩
  . show (x ++ y).cps.size<=_
    rw [<- Array.length_toList,e,List.length_append]
    exact Nat.add_le_add h.1 g.1
  . rw [e] at hc
    exact (List.mem_append.mp hc).elim (h.2 c) (g.2 c)
theorem Asc.mono {n m:Nat} {x:Str} (h:Asc n x) (l:n<=m):Asc m x:=⟨Nat.le_trans h.1 l,h.2⟩
theorem Asc.hg {i j k:Nat} (hi:i < 3) (hj:j < 3) (hk:k < 3):Asc 3 (hg i j k):=⟨Nat.le_refl _,fun c hc=>by
  have:c=120 + i\/c=120 + j\/c=120 + k:=by simpa [D.hg] using hc
  omega⟩
theorem Asc.one {c:Nat} (h:c < 128):Asc 1 ⟨#[c]⟩:=⟨Nat.le_refl _,fun d hd=>by
  obtain rfl:d=c:=by simpa using hd
  exact h⟩
noncomputable def isHg (z:Str):Bool:=match z.cps.toList with
  | [a,b,c]=>(a != b && b != c) && (120<=a && a<=122) && (120<=b && b<=122) && (120<=c && c<=122)
  | _=>false
theorem isHg_hg {i j k:Nat} (h:Hg i j k):isHg (hg i j k)=true:=by
  obtain ⟨hi,hj,hk,ij,jk⟩:=h
  show ((120 + i != 120 + j && 120 + j != 120 + k) && _ && _ && _)=true
  simp only [Bool.and_eq_true,bne_iff_ne,decide_eq_true_eq]
  omega
theorem isHg_ex {z:Str} (h:isHg z=true):∃ i j k,z=hg i j k/\Hg i j k:=by
  obtain ⟨⟨l⟩⟩:=z
  unfold isHg at h
  split at h
  . rename_i a b c e
    have e:l=[a,b,c]:=e
    subst e
    simp only [Bool.and_eq_true,bne_iff_ne,decide_eq_true_eq] at h
    refine ⟨a - 120,b - 120,c - 120,?_,by unfold Hg;omega⟩
    show Str.mk ⟨[a,b,c]⟩=Str.mk #[120 + (a - 120),120 + (b - 120),120 + (c - 120)]
    rw [show 120 + (a - 120)=a by omega,show 120 + (b - 120)=b by omega,show 120 + (c - 120)=c by omega]
  . cases h
end D
end
namespace D
open PySem L2 K0 Num
open PySem.W (Dat)
section
noncomputable def RIsHX:List Dat->Dat->Prop:=fun ds d=>∃ z,ds=[.str z]/\Asc 60 z/\d = .bool (isHg z)
noncomputable def BHg:List Dat->Prop:=fun ds=>∃ z,ds=[.str z]/\Asc 60 z/\isHg z=false
noncomputable def BHg2:List Dat->Prop:=fun ds=>∃ z e,ds=[.str z,e]/\Asc 60 z/\isHg z=false
noncomputable def RText:List Dat->(Dat->Prop)->Prop:=fun ds C=>ds=[]/\C=fun d=>∃ z,d = .str z/\Asc 60 z
noncomputable def cNH:Array UInt8 := #[78,111,72,97,110,103,101,114]
theorem xn_NH {K:PySem.W.Frag} {C:Addr} (h:Xc K "NoHanger" C):XN K cNH (.ref C):=by
  have e:(⟨cNH.map (·.toNat)⟩:Str) = "NoHanger" := by decide +kernel
  unfold XN
  rw [e]
  exact h.nm
theorem way_inA (a:Nat):PyProof.Rows.KTD.inKeys (⟨#[a]⟩:Str) ways=(decide (120<=a) && decide (a<=122)):=by
  have k:∀ (b:Nat) (y:Str),y=⟨#[b]⟩->decide ((⟨#[a]⟩:Str)=y)=decide (a=b):=fun b y e=>by
    subst e
    by_cases h:a=b
    . subst h;rw [decide_eq_true rfl,decide_eq_true rfl]
    . rw [decide_eq_false h,decide_eq_false (fun q=>h (by injection q with q;injection q with q;injection q))]
  show (decide (_=_) || (decide (_=_) || (decide (_=_) || false)))=_
  rw [k 120 _ (by decide +kernel),k 121 _ (by decide +kernel),k 122 _ (by decide +kernel)]
  rw [Bool.eq_iff_iff]
  simp only [Bool.or_eq_true,Bool.and_eq_true,decide_eq_true_eq,Bool.false_eq_true,or_false]
  omega
theorem isHg_three {a b c:Nat}:isHg ⟨#[a,b,c]⟩=((a != b && b != c) && (decide (120<=a) && decide (a<=122)) && (decide (120<=b) && decide (b<=122)) && (decide (120<=c) && decide (c<=122))):=rfl
theorem isHg_len {z:Str} (h:z.length ≠ 3):isHg z=false:=by
  obtain ⟨⟨l⟩⟩:=z
  unfold isHg
  split
  . rename_i a b c e
    have e:l=[a,b,c]:=e
    subst e
    exact absurd rfl h
  . rfl
theorem three_of {z:Str} (h:z.length=3):∃ a b c,z=⟨#[a,b,c]⟩:=by
  obtain ⟨⟨l⟩⟩:=z
  match l,h with
  | [a,b,c],_=>exact ⟨a,b,c,rfl⟩
theorem Asc.all {n:Nat} {z:Str} (h:Asc n z):z.cps.all (· < 128)=true:=by
  rw [Array.all_eq_true']
  exact fun c hc=>decide_eq_true (h.2 c (Array.mem_toList_iff.mpr hc))
theorem one_eq (a b:Nat):decide ((⟨#[a]⟩:Str)=⟨#[b]⟩)=decide (a=b):=by
  by_cases h:a=b
  . subst h;rw [decide_eq_true rfl,decide_eq_true rfl]
  . rw [decide_eq_false h,decide_eq_false (fun q=>h (by injection q with q;injection q with q;injection q))]
theorem Asc.le {z:Str} (h:Asc 60 z):z.length<=sizeLine:=Nat.le_trans h.1 (by decide)
noncomputable def RRight34:List Dat->Dat->Prop:=fun ds d=>d = .bool true/\(ds=[.none,.bool true]\/ds=[.bytes cNH,.bool false])
noncomputable def RFault:List Dat->Dat->Prop:=fun ds d=>∃ (w:Int) (z:Str) (a b c e f g:Int) (ns:List Int),ds=[.int w,.str z,.tuple [tI [a,b],tI [c,e],tI [f,g]],tI ns]/\Asc 60 z /\
  (a ≠ 0\/b ≠ 0)/\(c ≠ 0\/e ≠ 0)/\(f ≠ 0\/g ≠ 0)/\Bd (2 ^ 50) [a,b]/\Bd (2 ^ 50) [c,e]/\Bd (2 ^ 50) [f,g]/\ns.length=4/\(∃ n ∈ ns,n ≠ 0)/\Bd (2 ^ 300) ns/\d=(if isHg z=true then .none else .bytes cNH)
theorem SX.mono {p:Option Addr} {K:PySem.W.Frag} {t:TX} {τ:List Sl} {n1 n2:List Sl->Prop} (h:SX p K t τ n1) (m:∀ τ',n1 τ'->n2 τ'):SX p K t τ n2:=fun W L σ H G r o q=>h W L σ H G r o fun W' L' σ' H' τ' c=>q W' L' σ' H' τ' (m τ' c)
theorem T1.orT {p:Option Addr} {K:PySem.W.Frag} {τ:List Sl} {tt tu:TT} (h:T1 p K tt τ true):T1 p K (tOr tt tu) τ true:=T.or h (fun _=>rfl) fun z=>by cases z
theorem fold_app (x:Array Nat) (P:Nat->Prop) (hx:∀ c ∈ x.toList,P c):∀ (n:Nat) (a:Array Nat),(∀ c ∈ a.toList,P c)->((List.replicate n x).foldl (· ++ ·) a).size=a.size + n * x.size/\∀ c ∈ ((List.replicate n x).foldl (· ++ ·) a).toList,P c
  | 0,a,ha=>⟨by simp,ha⟩
  | n + 1, a, ha => by
    have h:=fold_app x P hx n (a ++ x) (fun c hc=>by
      rw [Array.toList_append] at hc
      exact (List.mem_append.mp hc).elim (ha c) (hx c))
    rw [List.replicate_succ,List.foldl_cons]
    refine ⟨?_,h.2⟩
    rw [h.1,Array.size_append,Nat.succ_mul]
    omega
theorem Asc.mul {z:Str} {n:Int} (h:Asc 3 z) (h0:0<=n) (h1:n<=20):Asc 60 (Txt.mul z n):=by
  unfold Txt.mul
  split
  . exact ⟨Nat.zero_le _,fun c hc=>absurd hc (by simp [Str.empty])⟩
  . split
    . exact h.mono (by decide)
    . have q:=fold_app z.cps (· < 128) h.2 n.toNat #[] (fun c hc=>absurd hc (by simp))
      refine ⟨?_,q.2⟩
      show Array.size _<=60
      rw [q.1]
      have l:z.cps.size<=3:=h.1
      have:n.toNat * z.cps.size<=20 * 3:=Nat.mul_le_mul (by omega) l
      simp only [Array.size_empty]
      omega
noncomputable def inXyz (d:Dat):Bool:=deq d (.str "x") || (deq d (.str "y") || deq d (.str "z"))
theorem inXyz_mem (d:Dat):inXyz d=true ↔ d ∈ [(.str "x" : Dat),.str "y",.str "z"]:=by
  unfold inXyz
  simp only [Bool.or_eq_true,deq_iff,List.mem_cons,List.mem_nil_iff,or_false]
theorem inXyz_one (a:Nat):inXyz (.str ⟨#[a]⟩)=(decide (120<=a) && decide (a<=122)):=by
  have k:∀ (b:Nat) (y:Str),y=⟨#[b]⟩->((.str ⟨#[a]⟩:Dat) = .str y ↔ a=b):=fun b y e=>by
    subst e
    exact ⟨fun q=>by injection q with q;injection q with q;injection q with q;injection q,fun q=>by rw [q]⟩
  rw [Bool.eq_iff_iff,inXyz_mem]
  simp only [List.mem_cons,List.mem_nil_iff,or_false,k 120 "x" (by decide +kernel),k 121 "y" (by decide +kernel),k 122 "z" (by decide +kernel),Bool.and_eq_true,decide_eq_true_eq]
  omega
theorem good_len (A B C:Dat):decide ((((([A,B,C].filter inXyz).map id).length:Nat):Int)=3)=((inXyz A && inXyz B) && inXyz C):=by
  cases h1:inXyz A <;> cases h2:inXyz B <;> cases h3:inXyz C <;> simp [List.filter,h1,h2,h3]
theorem str_ok:∀ a,a < 128->PyData.strOk ⟨#[a]⟩=true:=by decide +kernel
theorem kqd_one {a:Nat} (h:a < 128):PySem.W.kqdOk 8 (.str ⟨#[a]⟩)=true:=by
  unfold PySem.W.kqdOk
  exact str_ok a h
section
variable {p:Option Addr} {K:PySem.W.Frag} {τ:List Sl} {ta tb:TE}
theorem E.ixSA {z:Str} {P:Int->Prop} (ha:E1 p K ta τ (.dat (.str z))) (hb:EI p K tb τ P) (az:Asc 60 z) (hp:∀ i,P i->0<=i/\i < (z.cps.toList.length:Int)):E p K (tOp rIxS ta tb) τ (fun s=>∃ c,s = .dat (.str ⟨#[c]⟩)/\c < 128) :=
  E.op2 (B:=fun _=>True) (B':=fun _ x=>∃ i,x = .dat (.int i)/\P i) ha (fun _ _=>hb) fun s t es ⟨i,et,pi⟩ W H0 H x y Q o0 o r1 r2 q=>by
    subst es et
    cases r1.str_inv
    cases r2.int_inv
    obtain ⟨h0,h1⟩:=hp i pi
    obtain ⟨n,rfl⟩:=Int.eq_ofNat_of_zero_le h0
    have lt:n < z.cps.toList.length:=by omega
    have e:z.cps.toList[n]?=some z.cps.toList[n]:=List.getElem?_eq_getElem lt
    exact ⟨z,n,z.cps.toList[n],rfl,rfl,az.le,atI_nat e,q _ H _ ⟨_,rfl,az.2 _ (List.getElem_mem lt)⟩ Ev.refl o (.str _)⟩
theorem E.mulSA {z:Str} {P:Int->Prop} (ha:E1 p K ta τ (.dat (.str z))) (hb:EI p K tb τ P) (az:Asc 3 z) (hp:∀ i,P i->0<=i/\i<=20):E p K (tOp rMulS ta tb) τ (fun s=>∃ y,s = .dat (.str y)/\Asc 60 y) :=
  E.op2 (B:=fun _=>True) (B':=fun _ x=>∃ i,x = .dat (.int i)/\P i) ha (fun _ _=>hb) fun s t es ⟨i,et,pi⟩ W H0 H x y Q o0 o r1 r2 q=>by
    subst es et
    cases r1.str_inv
    cases r2.int_inv
    obtain ⟨h0,h1⟩:=hp i pi
    exact ⟨_,i,rfl,rfl,Nat.le_trans az.1 (by decide),h0,by omega,q _ H _ ⟨_,rfl,az.mul h0 h1⟩ Ev.refl o (.str _)⟩
end
end
end D
section
namespace L2
open PySem PySem.Spec PyProof.Rows
section
variable {X:Cx} {C:Value} {cT:Addr} {x n:Str} {body suite:List Stmt} {b0:Stmt} {t:TX} {ts th:TS} {i:Nat} {pos np hp:Pos} {h0:ExceptHandler} {hs:List ExceptHandler}
theorem zs_tryOk (hb:ZSs X.nox body ts):ZS X (.Try body (h0 :: hs) [] [] pos) ts:=⟨ps_tryOk hb⟩
theorem zs_tryAs (hN:X.N.Nodup) (hi:X.N[i]?=some n) (hl:X.env.scope.names.lookup n=some .local) (hg:Gl X x) (hm:X.mg x=some (.ref cT)) (hx:PySem.W.exmOne X.K C (.ref cT)=some true) (hb:RSs X C body t) (hs:∀ e,ZSs (X.caught e) (b0 :: suite) th)
    (hst:X.stack=X.env :: X.outer:=by rfl) (hfr:X.env.frame=some X.env.locals:=by rfl) (hd:(x == ("__debug__" : Str))=false:=by decide) :
    ZS X (.Try body [.ExceptHandler (some (.Name x np)) (some n) (b0 :: suite) hp] [] [] pos) (tTryAs C i t th):=⟨ps_tryAs hN hi hl hg hm hx hb hs hst hfr hd⟩
end
noncomputable def tRefs:List Addr->TA
  | []=>tNil
  | c :: r=>tCons (tC (.ref c)) (tRefs r)
theorem tRefs_run:∀ (cs:List Addr) (σ:St) (H:Hp) (Q:List V->Hp->Prop),Q (cs.map V.ref) H->tRefs cs σ H Q
  | [],_,_,_,h=>h
  | c :: r,σ,H,Q,h=>tRefs_run r σ H (fun vs H1=>Q (.ref c :: vs) H1) h
theorem vals_refs:∀ (cs:List Addr) (vs:List Value),Vals (cs.map V.ref) vs->vs=cs.map Value.ref
  | [],_,.nil=>rfl
  | c :: r,_,.cons a b=>by
    cases (show _=Value.ref c from a)
    rw [vals_refs r _ b];rfl
end L2
namespace D
open PySem L2 K0 Num
open PySem.W (Dat)
section
variable {p:Option Addr} {K:PySem.W.Frag} {τ:List Sl} {te:TE} {c:Array UInt8} {D C':Addr} {b:Bool} {T:String}
theorem E1.isX (xn:XN K c (.ref D)) (xl:XcL K D) (hk:PySem.W.kitOne K (.ref D) (.ref C')=some b) (ha:E1 p K te τ (.dat (.bytes c))):E1 p K (tCB (rIsX K) (tCons te (tCons (tC (.ref C')) tNil))) τ (.dat (.bool b)):=fun W L σ H Q rs o q=>ha W L σ H _ rs o fun v H1 s e e1 o1 rv=>by
  subst e
  cases rv with
  | exc n x=>exact ⟨_,c,D,.ref C',.ref C',b,rfl,x,xn,xl,.inl ⟨C',rfl,rfl⟩,hk,q _ H1 _ rfl e1 o1 (.bool b)⟩
theorem E1.isXty (xn:XN K c (.ref D)) (xl:XcL K D) (hk:PySem.W.kitOne K (.ref D) (.type T)=some b) (ha:E1 p K te τ (.dat (.bytes c))):E1 p K (tCB (rIsX K) (tCons te (tCons (tC (.ty T)) tNil))) τ (.dat (.bool b)):=fun W L σ H Q rs o q=>ha W L σ H _ rs o fun v H1 s e e1 o1 rv=>by
  subst e
  cases rv with
  | exc n x=>exact ⟨_,c,D,.ty T,.type T,b,rfl,x,xn,xl,.inr ⟨T,rfl,rfl⟩,hk,q _ H1 _ rfl e1 o1 (.bool b)⟩
theorem E1.isXT {cs:List Addr} (hz:cs.length<=sizeLine) (xn:XN K c (.ref D)) (xl:XcL K D) (hk:PySem.W.kitAny K (.ref D) (cs.map Value.ref)=some b) (ha:E1 p K te τ (.dat (.bytes c))):E1 p K (tCB (rIsXT K) (tCons te (tCons (tTup (tRefs cs)) tNil))) τ (.dat (.bool b)):=fun W L σ H Q rs o q=>ha W L σ H _ rs o fun v H1 s e e1 o1 rv=>by
  subst e
  cases rv with
  | exc n x =>
    refine tRefs_run cs σ H1 _ ⟨by rw [List.length_map];exact hz,fun l hl=>?_⟩
    have sm:Same H1 (upd H1 l (.tup (cs.map V.ref))):=Same.new hl _
    obtain ⟨ob,C,q0,z⟩:=x
    exact ⟨_,c,D,l,cs.map V.ref,cs.map Value.ref,b,rfl,⟨ob,C,sm _ _ q0,z⟩,xn,xl,upd_same,fun vs h=>vals_refs cs vs h,hk,q _ _ _ rfl (e1.trans (Ev.of sm)) (o1.same sm) (.bool b)⟩
end
end D
end
section
namespace K34
open PySem L2 Num K0 D
open PySem.W (Dat)
noncomputable def top (i:Nat):Stmt:=PySem.Challenge.pw_hangrings_k34_no_hangers.main.body.getD i (.Pass ⟨0,0,0,0⟩)
noncomputable abbrev sCD:Stmt:=top 1
noncomputable abbrev sRed:Stmt:=top 2
noncomputable abbrev sNeg:Stmt:=top 3
noncomputable abbrev sWholeRoot:Stmt:=top 5
noncomputable abbrev sExactRoot:Stmt:=top 6
noncomputable abbrev sPlain:Stmt:=top 8
noncomputable abbrev sProd:Stmt:=top 9
noncomputable abbrev sThen:Stmt:=top 10
noncomputable abbrev sPSet:Stmt:=top 12
noncomputable abbrev sAbout:Stmt:=top 13
noncomputable abbrev sIsHgX:Stmt:=top 28
noncomputable abbrev sRefHgB:Stmt:=top 29
noncomputable abbrev sHungB:Stmt:=top 30
noncomputable abbrev sThird:Stmt:=top 31
noncomputable abbrev sJoined:Stmt:=top 32
noncomputable abbrev sTBack:Stmt:=top 33
noncomputable abbrev sHand:Stmt:=top 34
noncomputable abbrev sLean:Stmt:=top 35
noncomputable abbrev sTwoParts:Stmt:=top 36
noncomputable abbrev sLeaning:Stmt:=top 37
noncomputable abbrev sLocked:Stmt:=top 38
noncomputable abbrev sSBy:Stmt:=top 39
noncomputable abbrev sSetOfB:Stmt:=top 40
noncomputable abbrev sMixed:Stmt:=top 42
noncomputable abbrev sPurse:Stmt:=top 43
noncomputable abbrev sDraw:Stmt:=top 44
noncomputable abbrev sNumber:Stmt:=top 45
noncomputable abbrev sFour:Stmt:=top 46
noncomputable abbrev sSmall:Stmt:=top 47
noncomputable abbrev sDSetting:Stmt:=top 48
noncomputable abbrev sLHanger:Stmt:=top 49
noncomputable abbrev sLText:Stmt:=top 50
noncomputable abbrev sLGood:Stmt:=top 51
noncomputable abbrev sLFault:Stmt:=top 52
noncomputable abbrev sLRight34:Stmt:=top 53
noncomputable abbrev sLaw:Stmt:=top 54
noncomputable abbrev sSop:Stmt:=top 4
noncomputable abbrev sIsHg:Stmt:=top 28
noncomputable abbrev sRefHg:Stmt:=top 29
noncomputable abbrev sHung:Stmt:=top 30
noncomputable abbrev sSetOf:Stmt:=top 40
local macro_rules | `(tactic| walk_at "bt") => `(tactic| (repeat' (first | assumption | exact bt2 | apply Bt.mul | apply Bt.add' | apply Bt.sub' | apply Bt.neg' | exact bd_lit (k := 64) (by decide))))
local macro_rules | `(tactic| walk_at "au3") => `(tactic| (repeat' (first | exact E1.var rfl | exact E1.varP rfl | exact E1.int | exact E1.bl | exact E1.non | exact E1.str | exact A1.nil | exact O1.none | exact E1.ty | exact T1.all | exact E1.varO rfl | exact E1.varL rfl | apply A1.cons | apply E1.add | apply E1.sub | apply E1.mul | apply E1.neg | apply E1.pow | apply E1.ixT | apply E1.tu | apply E1.li | apply E1.sl1 | apply O1.some | apply T1.test | apply T1.val | apply T1.not | apply T1.and1 | apply T1.or1 | apply E1.eq | apply E1.ne | apply E1.lt | apply E1.le | apply E1.gt | apply E1.ge | apply E1.cSop | apply E1.tupleL | apply E1.su | apply E1.vwo | apply E1.comp3 | apply Wk.r3 | apply Wk.tup | rfl | exact lsz (n := 2) rfl z2 | exact lsz (n := 3) rfl z3 | exact lsz (n := 4) rfl z4 | exact lsz (n := 1) rfl z1 | exact lsz (n := 0) rfl z0 | exact cpow10 (by decide) (by decide) | exact Bt.mulOk (x := _) (y := _) (by walk_at "bt") (by walk_at "bt") (by decide) (by decide))))
section
variable {P:Program} {w:World} {K:PySem.W.Frag} {mg:Str->Option Value} {base:Heap} {C cTurnError cNoTurn cNoHanger cTooMany cNoJoint cNoReach cNoDeed cNoName cNoMark cNoText:Addr} {dWAYS dPLACES f g g2 g3 g4 g5 g6 g7:Addr} {fd gd gd2 gd3 gd4 gd5 gd6 gd7:FuncData}
theorem scCD:FnScope ["numbers","divisor","number","other","left"] ["numbers"] (defScope sCD):=⟨rfl,rfl,rfl,by decide +kernel,rfl,by decide +kernel,by decide +kernel⟩
theorem ok_cd (F : Fun K "common_divisor" "common_divisor" sCD f fd) (ma : mg "abs" = none) : FnOk P w K mg base CX0 1 f fd ["numbers"] (spCD K) := by
  refine F.okZ scCD (fun vs H Q E h=>?_) (fun cdv A outer s H vs Q E hr h=>?_)
  . obtain ⟨a,ns,rfl,_⟩:=h;rfl
  obtain ⟨a,ns,rfl,hS,q⟩:=h
  refine ⟨_,zss_cons (zs_set (i:=1) scCD.nd rfl (Or.inl rfl) ze_int) (zss_cons (zs_for PassesOwn.never rfl (zi_tup (zv 0)) (zg_name (i:=2) scCD.nd rfl (Or.inl rfl))
      (zss_cons (zs_set (i:=3) scCD.nd rfl (Or.inl rfl) (ze_callB call_abs rfl ma (by rfl) (za_cons (zv 2) za_nil)))
        (zss_one (zs_while PassesOwn.never (zt_cmpR op_ne (zv 3) ze_int (nomark _)) (zss_cons (zs_set (i:=4) scCD.nd rfl (Or.inl rfl) (ze_op op_mod (zv 1) (zv 3)))
          (zss_cons (zs_set (i:=1) scCD.nd rfl (Or.inl rfl) (zv 3)) (zss_one (zs_set (i:=3) scCD.nd rfl (Or.inl rfl) (zv 4)))))))))
      (zss_one (zs_ret (zv 1)))),?_⟩
  refine ⟨_,rfl,a,rfl,⟨_,hS⟩,for_tup (xs:=ns.map V.int) (fun i σ H'=>H=H'/\∃ nn o l,σ=[some (.ref a),some (.int (gcdN (ns.take i))),nn,o,l])
    ⟨rfl,_,_,_,rfl⟩ (fun i σ H' _ h=>h.1 ▸ hS) (fun i x σ H' hx h=>?_) (fun σ H' h=>?_)⟩
  . obtain ⟨rfl,nn,o,l,rfl⟩:=h
    rw [List.getElem?_map] at hx
    cases hn:ns[i]? with
    | none=>rw [hn] at hx;cases hx
    | some n =>
      rw [hn] at hx
      cases hx
      refine ⟨_,rfl,n,rfl,?_⟩
      have tk:ns.take (i + 1)=ns.take i ++ [n]:=by rw [List.take_add_one,hn];rfl
      refine while_by (fun σ H'=>H=H'/\∃ (d o:Int) (l:Option V),0<=d/\0<=o/\Nat.gcd d.toNat o.toNat=gcdN (ns.take (i + 1))/\σ=[some (.ref a),some (.int d),some (.int n),some (.int o),l])
        (fun σ _=>match σ with | [_,_,_,some (.int o),_]=>o.toNat | _=>0) ⟨rfl,_,_,_,by omega,by split <;> omega,?_,rfl⟩ (fun σ H' h=>?_) (fun σ H Q Q' hq h=>?_)
      . rw [tk,gcdN_snoc]
        congr 1
        split <;> omega
      . obtain ⟨rfl,d,o,l,hd,ho,hg,rfl⟩:=h
        refine ⟨_,rfl,rfl,_,rfl,?_⟩
        refine ite2 (fun c=>?_) (fun c=>?_)
        . have hne:o ≠ 0:=by
            intro z;subst z;exact absurd c (by decide)
          refine ⟨_,rfl,_,rfl,_,_,rfl,rfl,by omega,_,rfl,_,rfl,⟨rfl,_,_,_,ho,Int.emod_nonneg _ hne,?_,rfl⟩,?_⟩
          . rw [<- hg];exact gcd_step hd (by omega)
          . show (d % o).toNat < o.toNat
            have:=Int.emod_lt_of_pos d (show 0 < o by omega)
            have:=Int.emod_nonneg d hne
            omega
        . have h0:o=0:=by
            by_cases z:o=0
            . exact z
            . exact absurd (by show (!decide (V.int o=V.int 0))=true;rw [decide_eq_false (fun e=>z (by injection e))];rfl) c
          subst h0
          refine ⟨rfl,some (.int n),some (.int 0),l,?_⟩
          have e:(d.toNat:Int)=d:=by omega
          rw [<- hg]
          simp only [Int.toNat_zero,Nat.gcd_zero_right,e]
      . obtain ⟨v,e1,e2,b,e3,q⟩:=h
        exact ⟨v,e1,e2,b,e3,hq _ _ q⟩
  . obtain ⟨rfl,nn,o,l,rfl⟩:=h
    rw [List.length_map,List.take_length]
    exact ⟨_,rfl,q⟩
theorem scRed:FnScope ["numbers","divisor"] ["numbers"] (defScope sRed):=⟨rfl,rfl,rfl,by decide +kernel,rfl,by decide +kernel,by decide +kernel⟩
theorem ok_red (F:Fun K "reduced" "reduced" sRed f fd) (G:FnOk P w K mg base CX0 1 g gd ["numbers"] (spCD K)) (bG:Binds K gd ["numbers"] []) (kG:PySem.W.keepIn K (.ref g)=true) (mG:mg "common_divisor" = some (.ref g)) (mt:mg "tuple" = none) :
    FnOk P w K mg base CX0 2 f fd ["numbers"] (spT K (fun ns=>(∃ n ∈ ns,n ≠ 0)/\Sm ns) red):=by
  refine F.okZ scRed (fun vs H Q E h=>?_) (fun cdv A outer s H vs Q E hr h=>?_)
  . obtain ⟨a,ns,rfl,_⟩:=h;rfl
  obtain ⟨a,ns,rfl,hS,hl,⟨hnz,hsm⟩,q⟩:=h
  refine ⟨_,zss_cons (zs_set (i:=1) scRed.nd rfl (Or.inr rfl) (ze_call G hr rfl mG kG bG .nil pass0 (za_cons (zv 0) za_nil)))
    (zss_one (zs_ret (ze_callTy call_tuple_of rfl mt (by rfl) (za_cons (ze_comp (own:=["number"]) scRed rfl ⟨by decide +kernel,rfl,by decide +kernel,by decide +kernel,by decide +kernel,by decide +kernel,by decide +kernel,by decide +kernel,by decide +kernel⟩ (zi_tup (zv 0))
      (fun C fp s H nd=>zg_name (i:=0) nd rfl (Or.inl rfl)) (fun C fp s H=>zts_nil) (fun C fp s H=>ze_op op_fdivB (zv 0) (zv 2))) za_nil)))),?_⟩
  refine ⟨_,rfl,a,ns,rfl,hS,?_⟩
  refine ⟨_,rfl,a,rfl,⟨_,hS⟩,?_⟩
  have gp:=gcdN_pos hnz
  refine comp_tup (K:=K) (((red ns).map PySem.W.Dat.int)) hS (by simp [red]) (by rw [List.length_map];exact Nat.le_of_lt (small1000 hl)) (fun i x H' d hx hd hs=>?_) (fun σ' H2 Q1 Q2 hq h=>?_) (fun D H' ys hs hy hD hf=>?_)
  . rw [List.getElem?_map] at hx hd
    unfold red at hd
    rw [List.getElem?_map] at hd
    cases e:ns[i]? with
    | none=>rw [e] at hx;cases hx
    | some n =>
      rw [e] at hx hd
      cases hx;cases hd
      refine ⟨_,rfl,_,rfl,n,_,rfl,rfl,⟨by omega,gcd_small hnz hsm⟩,Same.refl _,?_⟩
      dsimp only
      rw [Int.fdiv_eq_ediv_of_nonneg _ (by omega)]
      exact .int _
  . obtain ⟨v1,e1,v2,e2,i,j,e3,e4,e5,q⟩:=h
    exact ⟨v1,e1,v2,e2,i,j,e3,e4,e5,hq _ _ q⟩
  . refine ⟨D,ys,rfl,.inl ⟨SqL.of hy,fun l hl'=>?_⟩⟩
    refine q l _ (hs.trans (Same.new hl' _)) ?_
    rw [Fzs.ints_inv hf]
    exact upd_same
theorem scNeg:FnScope ["numbers"] ["numbers"] (defScope sNeg):=⟨rfl,rfl,rfl,by decide +kernel,rfl,by decide +kernel,by decide +kernel⟩
theorem ok_neg (F:Fun K "negated" "negated" sNeg f fd) (mt:mg "tuple" = none):FnOk P w K mg base CX0 1 f fd ["numbers"] (spT K (fun _=>True) (fun ns=>ns.map fun n => -n)):=by
  refine F.okZ scNeg (fun vs H Q E h=>?_) (fun cdv A outer s H vs Q E hr h=>?_)
  . obtain ⟨a,ns,rfl,_⟩:=h;rfl
  obtain ⟨a,ns,rfl,hS,hl,_,q⟩:=h
  refine ⟨_,zss_one (zs_ret (ze_callTy call_tuple_of rfl mt (by rfl) (za_cons (ze_comp (own:=["number"]) scNeg rfl ⟨by decide +kernel,rfl,by decide +kernel,by decide +kernel,by decide +kernel,by decide +kernel,by decide +kernel,by decide +kernel,by decide +kernel⟩ (zi_tup (zv 0))
      (fun C fp s H nd=>zg_name (i:=0) nd rfl (Or.inl rfl)) (fun C fp s H=>zts_nil) (fun C fp s H=>ze_un un_neg (zv 0))) za_nil))),?_⟩
  refine ⟨_,rfl,a,rfl,⟨_,hS⟩,?_⟩
  refine comp_tup (K:=K) ((ns.map fun n => -n).map PySem.W.Dat.int) hS (by simp) (by rw [List.length_map];exact Nat.le_of_lt (small1000 hl)) (fun i x H' d hx hd hs=>?_) (fun σ' H2 Q1 Q2 hq h=>?_) (fun D H' ys hs hy hD hf=>?_)
  . rw [List.getElem?_map] at hx hd
    rw [List.getElem?_map] at hd
    cases e:ns[i]? with
    | none=>rw [e] at hx;cases hx
    | some n =>
      rw [e] at hx hd
      cases hx;cases hd
      exact ⟨_,rfl,n,rfl,Same.refl _,.int _⟩
  . obtain ⟨v1,e1,i,e3,q⟩:=h
    exact ⟨v1,e1,i,e3,hq _ _ q⟩
  . refine ⟨D,ys,rfl,.inl ⟨SqL.of hy,fun l hl'=>?_⟩⟩
    refine q l _ (hs.trans (Same.new hl' _)) ?_
    rw [Fzs.ints_inv hf]
    exact upd_same
theorem scWholeRoot:FnScope ["number","guess","better"] ["number"] (defScope sWholeRoot):=⟨rfl,rfl,rfl,by decide +kernel,rfl,by decide +kernel,by decide +kernel⟩
theorem ok_wholeroot (F : Fun K "whole_root" "whole_root" sWholeRoot f fd) :
    FnOk P w K mg base CX0 1 f fd ["number"] (spP K RRoot):=by
  refine okP F scWholeRoot (fun ds d h=>?_) (fun cdv A0 outer s0 H0 E0 hr=>?_)
  . obtain ⟨n,r,rfl,_⟩:=h;rfl
  refine ⟨_,(zss_cons (zs_if (zt_cmpR op_eq (zv 0) ze_int (nomark _)) (zss_one (zs_ret ze_int)) zss_nil)
    (zss_cons (zs_set (i:=1) scWholeRoot.nd rfl (Or.inl rfl) (ze_op op_shl ze_int (ze_op op_fdivB (ze_op op_add (ze_bitlen (zv 0)) ze_int) ze_int)))
    (zss_cons (zs_set (i:=2) scWholeRoot.nd rfl (Or.inl rfl) (ze_op op_fdivB (ze_op op_add (zv 1) (ze_op op_fdivB (zv 0) (zv 1))) ze_int))
    (zss_cons (zs_while PassesOwn.never (zt_cmpR op_lt (zv 2) (zv 1) (nomark _)) (zss_cons (zs_set (i:=1) scWholeRoot.nd rfl (Or.inl rfl) (zv 2))
    (zss_one (zs_set (i:=2) scWholeRoot.nd rfl (Or.inl rfl) (ze_op op_fdivB (ze_op op_add (zv 1) (ze_op op_fdivB (zv 0) (zv 1))) ze_int)))))
    (zss_one (zs_ret (zv 1))))))),fun ds d h=>?_⟩
  obtain ⟨n,r,rfl,h0,hb,hr,rfl⟩:=h
  refine S.ifs (T1.test (E1.eq (E1.var rfl) E1.int)) (fun h=>?_) (fun h=>?_)
  . have h:n=0:=by simpa using h
    subst h
    have e:=isRt_one hr (rt_sq (r:=0) (by decide))
    subst e
    exact S.ret1 (s:=.dat (.int 0)) E1.int ⟨rfl,rfl⟩
  have h:n ≠ 0:=by simpa using h
  have np:0 < n:=by omega
  have hbl:=bits_le np hb
  have hlt:=bits_lt np
  generalize hB:Builtin.Int.intBits n=B at *
  obtain ⟨G,hG⟩:∃ G:Int,G=2 ^ ((B + 1) / 2):=⟨_,rfl⟩
  have Gp:0 < G:=by rw [hG];exact pow2_pos _
  have Gn:n < G * G:=by
    rw [hG,pow_sq]
    exact Int.lt_of_lt_of_le hlt (pow2_le (by omega))
  have Gb:Bt G 2001:=by
    rw [hG];unfold Bt
    rw [Int.natAbs_pow]
    exact Nat.pow_le_pow_right (by decide) (by omega)
  have dv:∀ {g:Int},0 < g->g<=G->CDivB n g:=fun {g} h1 h2=>⟨by omega,Bt.log (x:=2001) (show Bt g 2001 by unfold Bt at *;omega) (by omega)⟩
  have ed:∀ {g:Int},0 < g->(g + n.fdiv g).fdiv 2=(g + n / g) / 2:=fun {g} h1=>by rw [Int.fdiv_eq_ediv_of_nonneg _ (show (0:Int)<=g by omega),Int.fdiv_eq_ediv_of_nonneg _ (by decide)]
  refine S.let1 (s:=.dat (.int G)) (E1.to (E1.shl (i:=1) (j:=((B:Int) + 1).fdiv 2) E1.int (E1.fdiv (i:=(B:Int) + 1) (j:=2) (E1.add (E1.to (E1.bitlen (E1.var rfl)) (by rw [hB])) E1.int) E1.int ⟨by decide,by decide⟩) ⟨?_,?_,by decide⟩) ?_) ?_
  . rw [Int.fdiv_eq_ediv_of_nonneg _ (by decide)];omega
  . rw [Int.fdiv_eq_ediv_of_nonneg _ (by decide)];omega
  . rw [hG,Int.fdiv_eq_ediv_of_nonneg _ (by decide),Int.one_mul,show (((B:Int) + 1) / 2).toNat=(B + 1) / 2 by omega]
  refine S.let1 (s:=.dat (.int ((G + n / G) / 2))) (E1.to (s:=.dat (.int ((G + n.fdiv G).fdiv 2))) (E1.fdiv (E1.add (E1.var rfl) (E1.fdiv (E1.var rfl) (E1.var rfl) (dv Gp (Int.le_refl _)))) E1.int ⟨by decide,by decide⟩) (by rw [ed Gp])) ?_
  refine S.seq (M:=fun τ'=>∃ o:Sl,τ'=[.dat (.int n),.dat (.int r),o]) ?_ fun τ' ⟨o,eτ⟩=>?_
  . refine S.while (fun m τ'=>∃ g:Int,τ'=[.dat (.int n),.dat (.int g),.dat (.int ((g + n / g) / 2))]/\0 < g/\g<=G/\n < (g + 1) * (g + 1)/\g.toNat=m) (m0:=G.toNat) ⟨G,rfl,Gp,Int.le_refl _,?_,rfl⟩ (fun m τ1 ⟨g,e1,g0,g1,g2,gm⟩=>?_)
    . have:(G + 1) * (G + 1)=G * G + 2 * G + 1:=by grind
      omega
    subst e1
    refine ⟨_,T1.test (E1.lt (E1.var rfl) (E1.var rfl)),fun h=>?_,fun h=>?_⟩
    . have h:(g + n / g) / 2 < g:=by simpa using h
      have nw:=newton g0 (rfl:n / g=n / g) rfl h0
      have q0:0<=n / g:=Int.ediv_nonneg h0 (by omega)
      generalize hgg:(g + n / g) / 2=g' at *
      have p':0 < g':=by
        rcases Int.lt_or_eq_of_le (show 0<=g' by omega) with z | z
        . exact z
        . subst z;omega
      refine S.let1 (s:=.dat (.int g')) (E1.var rfl) ?_
      exact S.asg1 (s:=.dat (.int ((g' + n / g') / 2))) (E1.to (s:=.dat (.int ((g' + n.fdiv g').fdiv 2))) (E1.fdiv (E1.add (E1.var rfl) (E1.fdiv (E1.var rfl) (E1.var rfl) (dv p' (by omega)))) E1.int ⟨by decide,by decide⟩) (by rw [ed p'])) ⟨g'.toNat,by omega,g',rfl,p',by omega,nw,rfl⟩
    . have h:g<=(g + n / g) / 2:=by simpa using h
      have e:=isRt_one hr ⟨by omega,newton_stop g0 h,g2⟩
      subst e
      exact ⟨_,rfl⟩
  subst eτ
  exact S.ret1 (s:=.dat (.int r)) (E1.var rfl) ⟨rfl,rfl⟩
theorem scExactRoot:FnScope ["number","root"] ["number"] (defScope sExactRoot):=⟨rfl,rfl,rfl,by decide +kernel,rfl,by decide +kernel,by decide +kernel⟩
theorem ok_exactroot (F:Fun K "exact_root" "exact_root" sExactRoot f fd)
    (G:FnOk P w K mg base CX0 1 g gd ["number"] (spP K RRoot)) (bG:Binds K gd ["number"] []) (kG:PySem.W.keepIn K (.ref g)=true) (mG:mg "whole_root" = some (.ref g)) :
    FnOk P w K mg base CX0 2 f fd ["number"] (spP K RExact):=by
  refine okP F scExactRoot (fun ds d h=>?_) (fun cdv A0 outer s0 H0 E0 hr=>?_)
  . obtain ⟨n,rfl,_⟩:=h;rfl
  have r:=hr.mono (show 1<=1 by decide)
  refine ⟨_,(zss_cons (zs_set (i:=1) scExactRoot.nd rfl (Or.inl rfl) (ze_call G r rfl mG kG bG .nil pass0 (za_n (zv 0) za_nil)))
    (zss_one (zs_ret (ze_ifx (zt_cmpR op_eq (ze_op op_mulB (zv 1) (zv 1)) (zv 0) (nomark _)) (zv 1) ze_non)))),fun ds d h=>?_⟩
  obtain ⟨n,rfl,h0,hb,hd⟩:=h
  obtain ⟨r,hr⟩:=isRt_ex n h0
  have br:=rt_bt hr hb
  refine S.let1 (s:=.dat (.int r)) (E1.call (R:=RRoot) (A1.cons (E1.var rfl) A1.nil) ⟨n,r,rfl,h0,hb,hr,rfl⟩) ?_
  rcases hd with ⟨t,t0,t1,rfl⟩ | ⟨hn,rfl⟩
  . have e:=isRt_one hr (t1 ▸ rt_sq t0)
    subst e
    exact S.ret1 (s:=.dat (.int r)) (E1.ifT ((T1.test (E1.eq (E1.mul (E1.var rfl) (E1.var rfl) (br.mulOk br)) (E1.var rfl))).eqn (by rw [decide_eq_true t1])) (E1.var rfl)) ⟨rfl,rfl⟩
  . exact S.ret1 (s:=.dat .none) (E1.ifF ((T1.test (E1.eq (E1.mul (E1.var rfl) (E1.var rfl) (br.mulOk br)) (E1.var rfl))).eqn (by rw [decide_eq_false (hn r)])) E1.non) ⟨rfl,rfl⟩
theorem scPlain:FnScope ["four","lowest"] ["four"] (defScope sPlain):=⟨rfl,rfl,rfl,by decide +kernel,rfl,by decide +kernel,by decide +kernel⟩
theorem ok_plain (F:Fun K "plain" "plain" sPlain f fd) (G:FnOk P w K mg base CX0 2 g gd ["numbers"] (spT K (fun ns=>(∃ n ∈ ns,n ≠ 0)/\Sm ns) red)) (bG:Binds K gd ["numbers"] []) (kG:PySem.W.keepIn K (.ref g)=true) (mG:mg "reduced" = some (.ref g))
    (G2:FnOk P w K mg base CX0 1 g2 gd2 ["numbers"] (spT K (fun _=>True) (fun ns=>ns.map fun n => -n))) (bG2:Binds K gd2 ["numbers"] []) (kG2:PySem.W.keepIn K (.ref g2)=true) (mG2:mg "negated" = some (.ref g2)) :
    FnOk P w K mg base CX0 3 f fd ["four"] (spT K PlainPre pl):=by
  refine F.okZ scPlain (fun vs H Q E h=>?_) (fun cdv A outer s H vs Q E hr h=>?_)
  . obtain ⟨a,ns,rfl,_⟩:=h;rfl
  obtain ⟨a,ns,rfl,hS,hl,⟨h4,hnz,hsm⟩,q⟩:=h
  refine ⟨_,zss_cons (zs_set (i:=1) scPlain.nd rfl (Or.inl rfl) (ze_call G hr rfl mG kG bG .nil pass0 (za_cons (zv 0) za_nil)))
    (zss_cons (zs_if (zt_cmpR (op_ltT hr.units0) (zv 1) (ze_tup (za_cons ze_int (za_cons ze_int (za_cons ze_int (za_cons ze_int za_nil))))) (nomark _)) (zss_one (zs_ret (ze_call G2 (hr.mono (by decide)) rfl mG2 kG2 bG2 .nil pass0 (za_cons (zv 1) za_nil)))) zss_nil)
    (zss_one (zs_ret (zv 1)))),?_⟩
  refine ⟨_,rfl,a,ns,rfl,hS,hl,⟨hnz,hsm⟩,fun r H1 s1 h1=>?_⟩
  refine ⟨_,rfl,(by show 4<=sizeLine;decide),fun p hp=>?_⟩
  have s2:Same H1 (upd H1 p (.tup [.int 0,.int 0,.int 0,.int 0])):=Same.new hp _
  refine ⟨r,p,red ns,[0,0,0,0],rfl,rfl,SqT.of (s2 _ _ h1),SqT.of upd_same,_,rfl,?_⟩
  have hl4:(red ns).length=4:=by unfold red;rw [List.length_map];exact h4
  have lx:HT.lexLt (red ns) [0,0,0,0]=decide (fst0 (red ns) < 0):=lex_fst0 (n:=4) hl4
  rw [lx]
  have pe:=plain_eq hnz
  refine ite2 (fun c=>?_) (fun c=>?_)
  . rw [if_pos (of_decide_eq_true c)] at pe
    refine ⟨_,rfl,r,red ns,rfl,SqT.of (s2 _ _ h1),by omega,trivial,fun r2 H2 s3 h2=>?_⟩
    exact q r2 H2 (s1.trans (s2.trans s3)) (by rw [<- pe];exact h2)
  . rw [if_neg (fun z=>c (decide_eq_true z))] at pe
    exact ⟨_,rfl,q r _ (s1.trans s2) (by rw [<- pe];exact s2 _ _ h1)⟩
theorem scProd:FnScope ["one","other"] ["one","other"] (defScope sProd):=⟨rfl,rfl,rfl,by decide +kernel,rfl,by decide +kernel,by decide +kernel⟩
theorem ok_prod (F:Fun K "product" "product" sProd f fd) :
    FnOk P w K mg base CX0 1 f fd ["one","other"] (sp2 K qm):=by
  refine F.okZ scProd (fun vs H Q E h=>?_) (fun cdv A outer s H vs Q E hr h=>?_)
  . obtain ⟨x,y,ns,ms,rfl,_⟩:=h;rfl
  obtain ⟨x,y,ns,ms,rfl,hS,hT,l1,l2,s1,s2,q⟩:=h
  obtain ⟨a,b,c,d,rfl⟩:=four_of l1
  obtain ⟨e,f,g,i,rfl⟩:=four_of l2
  refine ⟨_,(zss_one (zs_ret (ze_tup (za_b (ze_op op_sub (ze_op op_sub (ze_op op_sub (ze_op op_mulB (ze_ix ix_tup (zv 0) ze_int (fun _ _=>rfl)) (ze_ix ix_tup (zv 1) ze_int (fun _ _=>rfl))) (ze_op op_mulB (ze_ix ix_tup (zv 0) ze_int (fun _ _=>rfl)) (ze_ix ix_tup (zv 1) ze_int (fun _ _=>rfl)))) (ze_op op_mulB (ze_ix ix_tup (zv 0) ze_int (fun _ _=>rfl)) (ze_ix ix_tup (zv 1) ze_int (fun _ _=>rfl)))) (ze_op op_mulB (ze_ix ix_tup (zv 0) ze_int (fun _ _=>rfl)) (ze_ix ix_tup (zv 1) ze_int (fun _ _=>rfl)))) (za_b (ze_op op_sub (ze_op op_add (ze_op op_add (ze_op op_mulB (ze_ix ix_tup (zv 0) ze_int (fun _ _=>rfl)) (ze_ix ix_tup (zv 1) ze_int (fun _ _=>rfl))) (ze_op op_mulB (ze_ix ix_tup (zv 0) ze_int (fun _ _=>rfl)) (ze_ix ix_tup (zv 1) ze_int (fun _ _=>rfl)))) (ze_op op_mulB (ze_ix ix_tup (zv 0) ze_int (fun _ _=>rfl)) (ze_ix ix_tup (zv 1) ze_int (fun _ _=>rfl)))) (ze_op op_mulB (ze_ix ix_tup (zv 0) ze_int (fun _ _=>rfl)) (ze_ix ix_tup (zv 1) ze_int (fun _ _=>rfl)))) (za_b (ze_op op_add (ze_op op_add (ze_op op_sub (ze_op op_mulB (ze_ix ix_tup (zv 0) ze_int (fun _ _=>rfl)) (ze_ix ix_tup (zv 1) ze_int (fun _ _=>rfl))) (ze_op op_mulB (ze_ix ix_tup (zv 0) ze_int (fun _ _=>rfl)) (ze_ix ix_tup (zv 1) ze_int (fun _ _=>rfl)))) (ze_op op_mulB (ze_ix ix_tup (zv 0) ze_int (fun _ _=>rfl)) (ze_ix ix_tup (zv 1) ze_int (fun _ _=>rfl)))) (ze_op op_mulB (ze_ix ix_tup (zv 0) ze_int (fun _ _=>rfl)) (ze_ix ix_tup (zv 1) ze_int (fun _ _=>rfl)))) (za_b (ze_op op_add (ze_op op_sub (ze_op op_add (ze_op op_mulB (ze_ix ix_tup (zv 0) ze_int (fun _ _=>rfl)) (ze_ix ix_tup (zv 1) ze_int (fun _ _=>rfl))) (ze_op op_mulB (ze_ix ix_tup (zv 0) ze_int (fun _ _=>rfl)) (ze_ix ix_tup (zv 1) ze_int (fun _ _=>rfl)))) (ze_op op_mulB (ze_ix ix_tup (zv 0) ze_int (fun _ _=>rfl)) (ze_ix ix_tup (zv 1) ze_int (fun _ _=>rfl)))) (ze_op op_mulB (ze_ix ix_tup (zv 0) ze_int (fun _ _=>rfl)) (ze_ix ix_tup (zv 1) ze_int (fun _ _=>rfl)))) za_nil))))))),?_⟩
  refine ⟨_,rfl,x,_,_,_,rfl,rfl,hS,at40,_,rfl,y,_,_,_,rfl,rfl,hT,at40,_,_,rfl,rfl,mulSm s1 s2 (by simp) (by simp),_,rfl,x,_,_,_,rfl,rfl,hS,at41,_,rfl,y,_,_,_,rfl,rfl,hT,at41,_,_,rfl,rfl,mulSm s1 s2 (by simp) (by simp),_,_,rfl,rfl,_,rfl,x,_,_,_,rfl,rfl,hS,at42,_,rfl,y,_,_,_,rfl,rfl,hT,at42,_,_,rfl,rfl,mulSm s1 s2 (by simp) (by simp),_,_,rfl,rfl,_,rfl,x,_,_,_,rfl,rfl,hS,at43,_,rfl,y,_,_,_,rfl,rfl,hT,at43,_,_,rfl,rfl,mulSm s1 s2 (by simp) (by simp),_,_,rfl,rfl,?_⟩
  refine ⟨_,rfl,x,_,_,_,rfl,rfl,hS,at40,_,rfl,y,_,_,_,rfl,rfl,hT,at41,_,_,rfl,rfl,mulSm s1 s2 (by simp) (by simp),_,rfl,x,_,_,_,rfl,rfl,hS,at41,_,rfl,y,_,_,_,rfl,rfl,hT,at40,_,_,rfl,rfl,mulSm s1 s2 (by simp) (by simp),_,_,rfl,rfl,_,rfl,x,_,_,_,rfl,rfl,hS,at42,_,rfl,y,_,_,_,rfl,rfl,hT,at43,_,_,rfl,rfl,mulSm s1 s2 (by simp) (by simp),_,_,rfl,rfl,_,rfl,x,_,_,_,rfl,rfl,hS,at43,_,rfl,y,_,_,_,rfl,rfl,hT,at42,_,_,rfl,rfl,mulSm s1 s2 (by simp) (by simp),_,_,rfl,rfl,?_⟩
  refine ⟨_,rfl,x,_,_,_,rfl,rfl,hS,at40,_,rfl,y,_,_,_,rfl,rfl,hT,at42,_,_,rfl,rfl,mulSm s1 s2 (by simp) (by simp),_,rfl,x,_,_,_,rfl,rfl,hS,at41,_,rfl,y,_,_,_,rfl,rfl,hT,at43,_,_,rfl,rfl,mulSm s1 s2 (by simp) (by simp),_,_,rfl,rfl,_,rfl,x,_,_,_,rfl,rfl,hS,at42,_,rfl,y,_,_,_,rfl,rfl,hT,at40,_,_,rfl,rfl,mulSm s1 s2 (by simp) (by simp),_,_,rfl,rfl,_,rfl,x,_,_,_,rfl,rfl,hS,at43,_,rfl,y,_,_,_,rfl,rfl,hT,at41,_,_,rfl,rfl,mulSm s1 s2 (by simp) (by simp),_,_,rfl,rfl,?_⟩
  refine ⟨_,rfl,x,_,_,_,rfl,rfl,hS,at40,_,rfl,y,_,_,_,rfl,rfl,hT,at43,_,_,rfl,rfl,mulSm s1 s2 (by simp) (by simp),_,rfl,x,_,_,_,rfl,rfl,hS,at41,_,rfl,y,_,_,_,rfl,rfl,hT,at42,_,_,rfl,rfl,mulSm s1 s2 (by simp) (by simp),_,_,rfl,rfl,_,rfl,x,_,_,_,rfl,rfl,hS,at42,_,rfl,y,_,_,_,rfl,rfl,hT,at41,_,_,rfl,rfl,mulSm s1 s2 (by simp) (by simp),_,_,rfl,rfl,_,rfl,x,_,_,_,rfl,rfl,hS,at43,_,rfl,y,_,_,_,rfl,rfl,hT,at40,_,_,rfl,rfl,mulSm s1 s2 (by simp) (by simp),_,_,rfl,rfl,?_⟩
  refine ⟨(by show 4<=sizeLine;decide),fun r hr'=>q r _ (Same.new hr' _) upd_same⟩
theorem scThen:FnScope ["one","other"] ["one","other"] (defScope sThen):=⟨rfl,rfl,rfl,by decide +kernel,rfl,by decide +kernel,by decide +kernel⟩
theorem ok_then (F:Fun K "then" "then" sThen f fd)
    (G:FnOk P w K mg base CX0 3 g gd ["four"] (spT K PlainPre pl)) (bG:Binds K gd ["four"] []) (kG:PySem.W.keepIn K (.ref g)=true) (mG:mg "plain" = some (.ref g))
    (G2:FnOk P w K mg base CX0 1 g2 gd2 ["one","other"] (sp2 K qm)) (bG2:Binds K gd2 ["one","other"] []) (kG2:PySem.W.keepIn K (.ref g2)=true) (mG2:mg "product" = some (.ref g2)) :
    FnOk P w K mg base CX0 4 f fd ["one","other"] (spThen K):=by
  refine F.okZ scThen (fun vs H Q E h=>?_) (fun cdv A outer s H vs Q E hr h=>?_)
  . obtain ⟨x,y,ns,ms,rfl,_⟩:=h;rfl
  obtain ⟨x,y,ns,ms,rfl,hS,hT,l1,l2,z1,z2,b1,b2,q⟩:=h
  have r:=hr.mono (show 3<=3 by decide)
  have r2:=hr.mono (show 1<=3 by decide)
  refine ⟨_,(zss_one (zs_ret (ze_call G r rfl mG kG bG .nil pass0 (za_c (ze_call G2 r2 rfl mG2 kG2 bG2 .nil pass0 (za_n (zv 1) (za_n (zv 0) za_nil))) za_nil)))),?_⟩
  refine ⟨_,rfl,_,rfl,y,x,ms,ns,rfl,hT,hS,l2,l1,sm4000 b2,sm4000 b1,fun p H1 t1 h1=>?_⟩
  refine ⟨p,_,rfl,SqT.of h1,by rw [qm_len l2 l1];decide,⟨qm_len l2 l1,nz_qm l2 l1 z2 z1,sm_bd (bd_qm l2 l1 b2 b1) two8002⟩,fun p2 H2 t2 h2=>?_⟩
  exact q p2 H2 (t1.trans t2) h2
theorem scPSet:FnScope ["setting","lowest"] ["setting"] (defScope sPSet):=⟨rfl,rfl,rfl,by decide +kernel,rfl,by decide +kernel,by decide +kernel⟩
theorem ok_pset (F:Fun K "plain_setting" "plain_setting" sPSet f fd)
    (G:FnOk P w K mg base CX0 2 g gd ["numbers"] (spT K (fun ns=>(∃ n ∈ ns,n ≠ 0)/\Sm ns) red)) (bG:Binds K gd ["numbers"] []) (kG:PySem.W.keepIn K (.ref g)=true) (mG:mg "reduced" = some (.ref g))
    (G2:FnOk P w K mg base CX0 1 g2 gd2 ["numbers"] (spT K (fun _=>True) (fun ns=>ns.map fun n => -n))) (bG2:Binds K gd2 ["numbers"] []) (kG2:PySem.W.keepIn K (.ref g2)=true) (mG2:mg "negated" = some (.ref g2)) :
    FnOk P w K mg base CX0 3 f fd ["setting"] (spPS2 K):=by
  refine F.okZ scPSet (fun vs H Q E h=>?_) (fun cdv A outer s H vs Q E hr h=>?_)
  . obtain ⟨x,k,l,rfl,_⟩:=h;rfl
  obtain ⟨x,k,l,rfl,hS,hnz,hsm,q⟩:=h
  have r:=hr.mono (show 2<=2 by decide)
  have r2:=hr.mono (show 1<=2 by decide)
  refine ⟨_,(zss_cons (zs_set (i:=1) scPSet.nd rfl (Or.inl rfl) (ze_call G r rfl mG kG bG .nil pass0 (za_n (zv 0) za_nil)))
    (zss_cons (zs_if (ZW.pt (zw_or (zt_cmpR op_lt (ze_ix ix_tup (zv 1) ze_int (fun _ _=>rfl)) ze_int (nomark _)) (zw_or1 (zt_cmpR (op_eqD hr.units) (zv 1) (ze_tup (za_u (ze_un un_neg ze_int) (za_i za_nil))) (nomark _))))) (zss_one (zs_ret (ze_call G2 r2 rfl mG2 kG2 bG2 .nil pass0 (za_n (zv 1) za_nil)))) zss_nil)
    (zss_one (zs_ret (zv 1))))),?_⟩
  have nz':∃ n ∈ [k,l],n ≠ 0:=by
    obtain ⟨n,hn,h0⟩:=hnz
    exact ⟨n,by simp at hn ⊢;omega,h0⟩
  have sm':Sm [k,l]:=fun n hn=>hsm n (by simp at hn ⊢;omega)
  refine ⟨_,rfl,x,[k,l],rfl,hS,(by show 2<=1000;decide),⟨nz',sm'⟩,fun r1 H1 s1 h1=>?_⟩
  replace h1:H1 r1=some (.tup ([k / ((gcdN [k,l]:Nat):Int),l / ((gcdN [k,l]:Nat):Int)].map V.int)):=h1
  have PR:=ps_red hnz
  dsimp only [gName]
  show tSeq (tIfS _ _ _) _ _ [some (.ref x),some (.ref r1)] H1
  have pos:(l < 0\/(l=0/\k < 0))->∀ (H2:Hp),Same H1 H2->∀ (Z:VK),(∀ (r:Addr) (H':Hp),Same H H'->H' r=some (.tup ((ps k l).map V.int))->Z (.ref r) H')->∃ (a:Addr) (ns:List Int),[V.ref r1]=[.ref a]/\SqT K H2 a (ns.map V.int)/\ns.length<=1000/\True/\∀ (r:Addr) (H':Hp),Same H2 H'->H' r=some (.tup ((ns.map fun n => -n).map V.int))->Z (.ref r) H':=fun y H2 s2 Z z=>by
    refine ⟨r1,red [k,l],rfl,SqT.of (s2 _ _ h1),(by show 2<=1000;decide),trivial,fun r2 H3 s3 h3=>?_⟩
    rw [ps_pos y] at h3
    exact z r2 H3 (s1.trans (s2.trans s3)) h3
  refine ⟨_,rfl,r1,_,_,_,rfl,rfl,SqT.of h1,at21,_,_,rfl,rfl,_,rfl,?_⟩
  refine ite2 (fun z=>?_) (fun z=>?_)
  . have z:l / ((gcdN [k,l]:Nat):Int) < 0:=by simpa using z
    exact ⟨_,rfl,pos (PR.mp (.inl z)) H1 (Same.refl _) _ q⟩
  have z:¬ l / ((gcdN [k,l]:Nat):Int) < 0:=fun y=>z (by simpa using y)
  refine ⟨_,rfl,_,rfl,(by show 2<=sizeLine;decide),fun w1 k1=>?_⟩
  have t1:=Same.new k1 (.tup ([-1,0].map V.int))
  refine ⟨.tuple ([k / ((gcdN [k,l]:Nat):Int),l / ((gcdN [k,l]:Nat):Int)].map .int),.tuple ([-1,0].map .int),.tup (SqT.of (t1 _ _ h1)) (Iss.ints _),.tup (SqT.of upd_same) (Iss.ints [-1,0]),kqd_tup,kqd_tup,_,rfl,?_⟩
  show if deq _ _=true then _ else _
  rw [deq_tup]
  refine ite2 (fun y=>?_) (fun y=>?_)
  . have y:=of_decide_eq_true y
    injection y with y1 y2
    injection y2 with y2 _
    exact ⟨_,rfl,pos (PR.mp (.inr ⟨y1,y2⟩)) _ t1 _ q⟩
  . have n:¬ (l < 0\/(l=0/\k < 0)):=fun u=>by
      rcases PR.mpr u with u | ⟨u,v⟩
      . exact z u
      . exact y (decide_eq_true (by rw [u,v]))
    refine ⟨_,rfl,q r1 _ (s1.trans t1) ?_⟩
    rw [<- ps_neg n]
    exact t1 _ _ h1
theorem scAbout:FnScope ["way","setting"] ["way","setting"] (defScope sAbout):=⟨rfl,rfl,rfl,by decide +kernel,rfl,by decide +kernel,by decide +kernel⟩
theorem ok_about (F:Fun K "about" "about" sAbout f fd)
    (G:FnOk P w K mg base CX0 3 g gd ["four"] (spT K PlainPre pl)) (bG:Binds K gd ["four"] []) (kG:PySem.W.keepIn K (.ref g)=true) (mG:mg "plain" = some (.ref g)) :
    FnOk P w K mg base CX0 4 f fd ["way","setting"] (spAbout K):=by
  refine F.okZ scAbout (fun vs H Q E h=>?_) (fun cdv A outer s H vs Q E hr h=>?_)
  . obtain ⟨x,y,p,t,u,k,l,rfl,_⟩:=h;rfl
  obtain ⟨x,y,p,t,u,k,l,rfl,hS,hT,hz,bw,bs,q⟩:=h
  have r:=hr.mono (show 3<=3 by decide)
  refine ⟨_,(zss_one (zs_ret (ze_call G r rfl mG kG bG .nil pass0 (za_t (ze_tup (za_s (ze_ix ix_tup (zv 1) ze_int (fun _ _=>rfl)) (za_b (ze_op op_mulB (ze_ix ix_tup (zv 1) ze_int (fun _ _=>rfl)) (ze_ix ix_tup (zv 0) ze_int (fun _ _=>rfl))) (za_b (ze_op op_mulB (ze_ix ix_tup (zv 1) ze_int (fun _ _=>rfl)) (ze_ix ix_tup (zv 0) ze_int (fun _ _=>rfl))) (za_b (ze_op op_mulB (ze_ix ix_tup (zv 1) ze_int (fun _ _=>rfl)) (ze_ix ix_tup (zv 0) ze_int (fun _ _=>rfl))) za_nil))))) za_nil)))),?_⟩
  have b1:Bt p 1000:=bw p (by simp)
  have b2:Bt t 1000:=bw t (by simp)
  have b3:Bt u 1000:=bw u (by simp)
  have b4:Bt k 1000:=bs k (by simp)
  have b5:Bt l 1000:=bs l (by simp)
  refine ⟨_,rfl,y,_,_,_,rfl,rfl,hT,at21,_,rfl,y,_,_,_,rfl,rfl,hT,at20,_,rfl,x,_,_,_,rfl,rfl,hS,at30,_,_,rfl,rfl,b4.mulOk b1,?_⟩
  refine ⟨_,rfl,y,_,_,_,rfl,rfl,hT,at20,_,rfl,x,_,_,_,rfl,rfl,hS,at31,_,_,rfl,rfl,b4.mulOk b2,?_⟩
  refine ⟨_,rfl,y,_,_,_,rfl,rfl,hT,at20,_,rfl,x,_,_,_,rfl,rfl,hS,at32,_,_,rfl,rfl,b4.mulOk b3,(by show 4<=sizeLine;decide),fun r0 k0=>?_⟩
  have s1:=Same.new k0 (.tup ([l,k * p,k * t,k * u].map V.int))
  refine ⟨r0,[l,k * p,k * t,k * u],rfl,SqT.of upd_same,(by show 4<=1000;decide),⟨rfl,hz,fun n hn=>?_⟩,fun r H2 s2 h2=>q r H2 (s1.trans s2) h2⟩
  simp only [List.mem_cons,List.mem_nil_iff,or_false] at hn
  rcases hn with rfl | rfl | rfl | rfl
  . exact b5.lt (by decide)
  . exact (b4.mul b1).lt (by decide)
  . exact (b4.mul b2).lt (by decide)
  . exact (b4.mul b3).lt (by decide)
theorem scIsHgX:FnScope ["hanger"] ["hanger"] (defScope sIsHgX):=⟨rfl,rfl,rfl,by decide +kernel,rfl,by decide +kernel,by decide +kernel⟩
theorem ok_ishgx (F : Fun K "is_hanger" "is_hanger" sIsHgX f fd) (m_len : mg "len" = none) (m_all : mg "all" = none) (m_WAYS : mg "WAYS" = some (.ref dWAYS)) (t_WAYS : TabS K dWAYS ways) :
    FnOk P w K mg base CX0 1 f fd ["hanger"] (spP K RIsHX):=by
  refine okP F scIsHgX (fun ds d h=>?_) (fun cdv A0 outer s0 H0 E0 hr=>?_)
  . obtain ⟨z,rfl,_⟩:=h;rfl
  refine ⟨_,(zss_cons (zs_if (ZW.pt (zw_or (zt_cmpR op_ne (ze_callB call_len_str rfl m_len PySem.boot_len (za_n (zv 0) za_nil)) ze_int (nomark _)) (zw_or (zt_cmpR op_eq (ze_ix ix_str (zv 0) ze_int (fun _ _=>rfl)) (ze_ix ix_str (zv 0) ze_int (fun _ _=>rfl)) (nomark _)) (zw_or1 (zt_cmpR op_eq (ze_ix ix_str (zv 0) ze_int (fun _ _=>rfl)) (ze_ix ix_str (zv 0) ze_int (fun _ _=>rfl)) (nomark _)))))) (zss_one (zs_ret ze_bl)) zss_nil)
    (zss_one (zs_ret (ze_callB (call_allL rfl) rfl m_all (by rfl) (za_cons (ze_comp (own:=["letter"]) scIsHgX rfl ⟨by decide +kernel,rfl,by decide +kernel,by decide +kernel,by decide +kernel,by decide +kernel,by decide +kernel,by decide +kernel,by decide +kernel⟩ (zi_str (zv 0)) (fun C fp s H nd=>zg_name (i:=0) nd rfl (Or.inl rfl)) (fun C fp s H=>zts_nil) (fun C fp s H=>(ze_cmpR op_tinC (zv 0) (ze_glob (v:=.ref dWAYS) rfl m_WAYS rfl) (by with_unfolding_all rfl)))) za_nil))))),fun ds d h=>?_⟩
  obtain ⟨z,rfl,az,rfl⟩:=h
  by_cases h3:z.length=3
  . obtain ⟨a,b,c,rfl⟩:=D.three_of h3
    refine S.ifs (T1.or1 (T1.test (E1.ne (E1.lenS (z:=⟨#[a,b,c]⟩) (A1.cons (E1.var rfl) A1.nil) (show 3<=sizeLine from z3)) E1.int)) (T1.or1 (T1.test (E1.eqS (x:=⟨#[a]⟩) (y:=⟨#[b]⟩) (E1.ixS (z:=⟨#[a,b,c]⟩) (E1.var rfl) E1.int (show 3<=sizeLine from z3) rfl) (E1.ixS (z:=⟨#[a,b,c]⟩) (E1.var rfl) E1.int (show 3<=sizeLine from z3) rfl))) (T1.test (E1.eqS (x:=⟨#[b]⟩) (y:=⟨#[c]⟩) (E1.ixS (z:=⟨#[a,b,c]⟩) (E1.var rfl) E1.int (show 3<=sizeLine from z3) rfl) (E1.ixS (z:=⟨#[a,b,c]⟩) (E1.var rfl) E1.int (show 3<=sizeLine from z3) rfl))))) (fun hb=>?_) (fun hb=>?_)
    . refine S.ret1 (s:=.dat (.bool false)) E1.bl ⟨?_,rfl⟩
      rw [one_eq,one_eq] at hb
      rw [isHg_three]
      have q:(a != b && b != c)=false:=by
        rw [Bool.eq_false_iff]
        intro z
        simp only [Bool.and_eq_true,bne_iff_ne] at z
        rw [decide_eq_false z.1,decide_eq_false z.2] at hb
        exact absurd (show (!decide ((3:Int)=3) || (false || false))=true from hb) (by decide)
      rw [q]
      rfl
    . rw [one_eq,one_eq] at hb
      simp only [Bool.or_eq_false_iff,decide_eq_false_iff_not] at hb
      have q:(a != b && b != c)=true:=by
        simp only [Bool.and_eq_true,bne_iff_ne]
        exact ⟨hb.2.1,hb.2.2⟩
      refine S.ret1 (s:=.dat (.bool (isHg ⟨#[a,b,c]⟩))) (E1.to (E1.allL (bs:=[(decide (120<=a) && decide (a<=122)),(decide (120<=b) && decide (b<=122)),(decide (120<=c) && decide (c<=122))]) (E1.comp3 (d1:=.str ⟨#[a]⟩) (d2:=.str ⟨#[b]⟩) (d3:=.str ⟨#[c]⟩) (Wk.str (z:=⟨#[a,b,c]⟩) (E1.var rfl) az.all) (E1.to (E1.tin t_WAYS (E1.var rfl)) (by rw [way_inA])) (E1.to (E1.tin t_WAYS (E1.var rfl)) (by rw [way_inA])) (E1.to (E1.tin t_WAYS (E1.var rfl)) (by rw [way_inA])))) ?_) ⟨rfl,rfl⟩
      rw [isHg_three,q]
      simp only [List.all_cons,List.all_nil,id,Bool.and_true,Bool.true_and,Bool.and_assoc]
  . refine S.ifs (T1.orT ((T1.test (E1.ne (E1.lenS (z:=z) (A1.cons (E1.var rfl) A1.nil) az.le) E1.int)).eqn (by rw [decide_eq_false (fun e=>h3 (by omega))];rfl))) (fun _=>?_) (fun z=>by cases z)
    exact S.ret1 (s:=.dat (.bool false)) E1.bl ⟨by rw [isHg_len h3],rfl⟩
theorem scRefHgB:FnScope ["hanger"] ["hanger"] (defScope sRefHgB):=⟨rfl,rfl,rfl,by decide +kernel,rfl,by decide +kernel,by decide +kernel⟩
theorem ok_refhgb (F:Fun K "refuse_no_hanger" "refuse_no_hanger" sRefHgB f fd) (m_NoHanger:mg "NoHanger" = some (.ref cNoHanger)) (x_NoHanger:Xc K "NoHanger" cNoHanger)
    (G:FnOk P w K mg base CX0 1 g gd ["hanger"] (spP K RIsHX)) (bG:Binds K gd ["hanger"] []) (kG:PySem.W.keepIn K (.ref g)=true) (mG:mg "is_hanger" = some (.ref g)) :
    FnOk P w K mg base (CXx P w (.ref cNoHanger)) 2 f fd ["hanger"] (spB K BHg):=by
  refine okB F scRefHgB (fun ds h=>?_) (fun cdv A0 outer s0 H0 E0 hr=>?_)
  . obtain ⟨z,rfl,_⟩:=h;rfl
  have r:=hr.mono (show 1<=1 by decide)
  refine ⟨_,rss_here (rs_if (zt_not (zt_val (ze_call G r rfl mG kG bG .nil pass0 (za_n (zv 0) za_nil)))) (rss_here (rs_raise x_NoHanger (by rfl) m_NoHanger)) rss_never),fun ds h=>?_⟩
  obtain ⟨z,rfl,az,hz⟩:=h
  exact SX.mono (SX.ifT (T1.notF ((T1.val (E1.call (R:=RIsHX) (A1.cons (E1.var rfl) A1.nil) ⟨z,rfl,az,rfl⟩)).eqn hz)) SX.raise) fun _ _=>trivial
theorem scHungB:FnScope ["hanger","settings","first","middle","last"] ["hanger","settings"] (defScope sHungB):=⟨rfl,rfl,rfl,by decide +kernel,rfl,by decide +kernel,by decide +kernel⟩
theorem ok_hungb (F:Fun K "hung" "hung" sHungB f fd)
    (G:FnOk P w K mg base (CXx P w (.ref cNoHanger)) 2 g gd ["hanger"] (spB K BHg)) (bG:Binds K gd ["hanger"] []) (kG:PySem.W.keepIn K (.ref g)=true) (mG:mg "refuse_no_hanger" = some (.ref g)) :
    FnOk P w K mg base (CXx P w (.ref cNoHanger)) 3 f fd ["hanger","settings"] (spB K BHg2):=by
  refine okB F scHungB (fun ds h=>?_) (fun cdv A0 outer s0 H0 E0 hr=>?_)
  . obtain ⟨z,e,rfl,_⟩:=h;rfl
  have r:=hr.mono (show 2<=2 by decide)
  refine ⟨_,rss_here (rs_expr (re_call G r (by rfl) mG kG bG (za_n (zv 0) za_nil))),fun ds h=>?_⟩
  obtain ⟨z,e,rfl,az,hz⟩:=h
  exact SX.mono (SX.call (B:=BHg) (A1.cons (E1.var rfl) A1.nil) ⟨z,rfl,az,hz⟩) fun _ _=>trivial
theorem scThird:FnScope ["hanger"] ["hanger"] (defScope sThird):=⟨rfl,rfl,rfl,by decide +kernel,rfl,by decide +kernel,by decide +kernel⟩
theorem ok_third (F:Fun K "third_letter" "third_letter" sThird f fd) :
    FnOk P w K mg base CX0 1 f fd ["hanger"] (spP K RTh3):=by
  refine okP F scThird (fun ds d h=>?_) (fun cdv A0 outer s0 H0 E0 hr=>?_)
  . obtain ⟨i,j,k,rfl,_⟩:=h;rfl
  refine ⟨_,(zss_one (zs_ret (ze_ix ix_list (ze_comp (own:=["letter"]) scThird rfl ⟨by decide +kernel,rfl,by decide +kernel,by decide +kernel,by decide +kernel,by decide +kernel,by decide +kernel,by decide +kernel,by decide +kernel⟩ (zi_str ze_str) (fun C fp s H nd=>zg_name (i:=0) nd rfl (Or.inl rfl)) (fun C fp s H=>zts_one (ZW.pt (zw_and (zt_cmpR op_ne (zv 0) (ze_ix ix_str (zv 1) ze_int (fun _ _=>rfl)) (nomark _)) (zw_and1 (zt_cmpR op_ne (zv 0) (ze_ix ix_str (zv 1) ze_int (fun _ _=>rfl)) (nomark _)))))) (fun C fp s H=>(zv 0))) ze_int (fun _ _=>rfl)))),fun ds d h=>?_⟩
  obtain ⟨i,j,k,rfl,⟨hi,hj,hk,ij,jk⟩,rfl⟩:=h
  refine S.ret1 (s:=.dat (.str (lt1 (th3' i j)))) (E1.ixL (ds:=((lets ("xyz" : Str)).filter (kp3 i j)).map id) (i:=0) (E1.vwo (E1.compF (ds:=lets ("xyz" : Str)) (f:=id) (kp:=kp3 i j) (Wk.str (z := "xyz") E1.str (by decide +kernel)) (fun d hd=>?_) (fun d _ _=>(E1.var rfl)) (show 3<=sizeLine from z3))) E1.int (by rw [th3_of hi hj ij];rfl)) ⟨rfl,rfl⟩
  obtain ⟨c,_,rfl⟩:=List.mem_map.mp hd
  exact T1.and1 (T1.test (E1.neS (E1.var rfl) (E1.ixS (z:=hg i j k) (c:=120 + i) (E1.var rfl) E1.int (show 3<=sizeLine from z3) rfl))) (T1.test (E1.neS (E1.var rfl) (E1.ixS (z:=hg i j k) (c:=120 + j) (E1.var rfl) E1.int (show 3<=sizeLine from z3) rfl)))
theorem scJoined:FnScope ["one","other"] ["one","other"] (defScope sJoined):=⟨rfl,rfl,rfl,by decide +kernel,rfl,by decide +kernel,by decide +kernel⟩
theorem ok_joined (F:Fun K "joined" "joined" sJoined f fd) :
    FnOk P w K mg base CX0 1 f fd ["one","other"] (spP K RJoin):=by
  refine okP F scJoined (fun ds d h=>?_) (fun cdv A0 outer s0 H0 E0 hr=>?_)
  . obtain ⟨x,y,k,l,m,n,rfl,_⟩:=h;rfl
  refine ⟨_,(zss_one (zs_ret (ze_tup (za_b (ze_op op_add (ze_op op_mulB (ze_ix ix_tup (zv 0) ze_int (fun _ _=>rfl)) (ze_ix ix_tup (zv 1) ze_int (fun _ _=>rfl))) (ze_op op_mulB (ze_ix ix_tup (zv 0) ze_int (fun _ _=>rfl)) (ze_ix ix_tup (zv 1) ze_int (fun _ _=>rfl)))) (za_b (ze_op op_sub (ze_op op_mulB (ze_ix ix_tup (zv 0) ze_int (fun _ _=>rfl)) (ze_ix ix_tup (zv 1) ze_int (fun _ _=>rfl))) (ze_op op_mulB (ze_ix ix_tup (zv 0) ze_int (fun _ _=>rfl)) (ze_ix ix_tup (zv 1) ze_int (fun _ _=>rfl)))) za_nil))))),fun ds d h=>?_⟩
  obtain ⟨x,y,k,l,m,n,rfl,bk,bl,bm,bn,hx,hy,rfl⟩:=h
  exact S.ret1 (s:=.dat (tI (jo k l m n))) (E1.tu (A1.cons (E1.add (E1.mul (E1.ixT (E1.var rfl) E1.int rfl) (E1.ixT (E1.var rfl) E1.int rfl) (bk.mulOk bn hx hy)) (E1.mul (E1.ixT (E1.var rfl) E1.int rfl) (E1.ixT (E1.var rfl) E1.int rfl) (bl.mulOk bm hx hy))) (A1.cons (E1.sub (E1.mul (E1.ixT (E1.var rfl) E1.int rfl) (E1.ixT (E1.var rfl) E1.int rfl) (bl.mulOk bn hx hy)) (E1.mul (E1.ixT (E1.var rfl) E1.int rfl) (E1.ixT (E1.var rfl) E1.int rfl) (bk.mulOk bm hx hy))) A1.nil)) rfl (lsz (n:=2) rfl z2)) ⟨rfl,rfl⟩
theorem scTBack:FnScope ["setting"] ["setting"] (defScope sTBack):=⟨rfl,rfl,rfl,by decide +kernel,rfl,by decide +kernel,by decide +kernel⟩
theorem ok_tback (F:Fun K "taken_back" "taken_back" sTBack f fd) :
    FnOk P w K mg base CX0 1 f fd ["setting"] (spP K RTBack):=by
  refine okP F scTBack (fun ds d h=>?_) (fun cdv A0 outer s0 H0 E0 hr=>?_)
  . obtain ⟨k,l,rfl,_⟩:=h;rfl
  refine ⟨_,(zss_one (zs_ret (ze_tup (za_u (ze_un un_neg (ze_ix ix_tup (zv 0) ze_int (fun _ _=>rfl))) (za_s (ze_ix ix_tup (zv 0) ze_int (fun _ _=>rfl)) za_nil))))),fun ds d h=>?_⟩
  obtain ⟨k,l,rfl,rfl⟩:=h
  exact S.ret1 (s:=.dat (tI [-k,l])) (E1.tu (A1.cons (E1.neg (E1.ixT (E1.var rfl) E1.int rfl)) (A1.cons (E1.ixT (E1.var rfl) E1.int rfl) A1.nil)) rfl (lsz (n:=2) rfl z2)) ⟨rfl,rfl⟩
theorem scHand:FnScope ["hanger"] ["hanger"] (defScope sHand):=⟨rfl,rfl,rfl,by decide +kernel,rfl,by decide +kernel,by decide +kernel⟩
theorem ok_hand (F:Fun K "hand_of" "hand_of" sHand f fd)
    (G:FnOk P w K mg base CX0 1 g gd ["hanger"] (spP K RTh3)) (bG:Binds K gd ["hanger"] []) (kG:PySem.W.keepIn K (.ref g)=true) (mG:mg "third_letter" = some (.ref g)) :
    FnOk P w K mg base CX0 2 f fd ["hanger"] (spP K RHand):=by
  refine okP F scHand (fun ds d h=>?_) (fun cdv A0 outer s0 H0 E0 hr=>?_)
  . obtain ⟨i,j,k,rfl,_⟩:=h;rfl
  have r:=hr.mono (show 1<=1 by decide)
  refine ⟨_,(zss_one (zs_ret (ze_ifx (zt_cmpR op_in_str (ze_op op_add_str (ze_op op_add_str (ze_ix ix_str (zv 0) ze_int (fun _ _=>rfl)) (ze_ix ix_str (zv 0) ze_int (fun _ _=>rfl))) (ze_call G r rfl mG kG bG .nil pass0 (za_n (zv 0) za_nil))) ze_str (by with_unfolding_all rfl)) ze_int (ze_un un_neg ze_int)))),fun ds d h=>?_⟩
  obtain ⟨i,j,k,rfl,hh,rfl⟩:=h
  obtain ⟨hi,hj,hk,ij,jk⟩:=id hh
  have ho:=hd_of i hi j hj ij
  by_cases h:hd i j=1
  . rw [h]
    exact S.ret1 (s:=.dat (.int 1)) (E1.ifT ((T1.test (E1.inS (x:=hg i j (th3' i j)) (y := "xyzxy") (E1.addS (x:=⟨#[120 + i,120 + j]⟩) (y:=lt1 (th3' i j)) (E1.addS (x:=⟨#[120 + i]⟩) (y:=⟨#[120 + j]⟩) (E1.ixS (z:=hg i j k) (E1.var rfl) E1.int (show 3<=sizeLine from z3) rfl) (E1.ixS (z:=hg i j k) (E1.var rfl) E1.int (show 3<=sizeLine from z3) rfl) (show 1 + 1<=sizeLine from z2)) (E1.call (R:=RTh3) (A1.cons (E1.var rfl) A1.nil) ⟨i,j,k,rfl,hh,rfl⟩) (show 2 + 1<=sizeLine from z3)) E1.str)).eqn (by rw [ho];exact decide_eq_true h)) E1.int) ⟨rfl,rfl⟩
  . have h':=(hd_is i j).resolve_left h
    rw [h']
    exact S.ret1 (s:=.dat (.int (-1))) (E1.ifF ((T1.test (E1.inS (x:=hg i j (th3' i j)) (y := "xyzxy") (E1.addS (x:=⟨#[120 + i,120 + j]⟩) (y:=lt1 (th3' i j)) (E1.addS (x:=⟨#[120 + i]⟩) (y:=⟨#[120 + j]⟩) (E1.ixS (z:=hg i j k) (E1.var rfl) E1.int (show 3<=sizeLine from z3) rfl) (E1.ixS (z:=hg i j k) (E1.var rfl) E1.int (show 3<=sizeLine from z3) rfl) (show 1 + 1<=sizeLine from z2)) (E1.call (R:=RTh3) (A1.cons (E1.var rfl) A1.nil) ⟨i,j,k,rfl,hh,rfl⟩) (show 2 + 1<=sizeLine from z3)) E1.str)).eqn (by rw [ho];exact decide_eq_false h)) (E1.neg E1.int)) ⟨rfl,rfl⟩
theorem scLean:FnScope ["hanger"] ["hanger"] (defScope sLean):=⟨rfl,rfl,rfl,by decide +kernel,rfl,by decide +kernel,by decide +kernel⟩
theorem ok_lean (F:Fun K "lean_of" "lean_of" sLean f fd)
    (G:FnOk P w K mg base CX0 2 g gd ["hanger"] (spP K RHand)) (bG:Binds K gd ["hanger"] []) (kG:PySem.W.keepIn K (.ref g)=true) (mG:mg "hand_of" = some (.ref g)) :
    FnOk P w K mg base CX0 3 f fd ["hanger"] (spP K RLean):=by
  refine okP F scLean (fun ds d h=>?_) (fun cdv A0 outer s0 H0 E0 hr=>?_)
  . obtain ⟨i,j,k,rfl,_⟩:=h;rfl
  have r:=hr.mono (show 2<=2 by decide)
  refine ⟨_,(zss_one (zs_ret (ze_ifx (zt_cmpR op_eq (ze_ix ix_str (zv 0) ze_int (fun _ _=>rfl)) (ze_ix ix_str (zv 0) ze_int (fun _ _=>rfl)) (nomark _)) ze_int (ze_call G r rfl mG kG bG .nil pass0 (za_n (zv 0) za_nil))))),fun ds d h=>?_⟩
  obtain ⟨i,j,k,rfl,hh,rfl⟩:=h
  by_cases h:i=k
  . subst h
    rw [show le3 i j i=0 by unfold le3;rw [if_pos rfl]]
    exact S.ret1 (s:=.dat (.int 0)) (E1.ifT ((T1.test (E1.eqS (x:=lt1 i) (y:=lt1 i) (E1.ixS (z:=hg i j i) (E1.var rfl) E1.int (show 3<=sizeLine from z3) rfl) (E1.ixS (z:=hg i j i) (E1.var rfl) E1.int (show 3<=sizeLine from z3) rfl))).eqn (decide_eq_true rfl)) E1.int) ⟨rfl,rfl⟩
  . rw [show le3 i j k=hd i j by unfold le3;rw [if_neg h]]
    exact S.ret1 (s:=.dat (.int (hd i j))) (E1.ifF ((T1.test (E1.eqS (x:=lt1 i) (y:=lt1 k) (E1.ixS (z:=hg i j k) (E1.var rfl) E1.int (show 3<=sizeLine from z3) rfl) (E1.ixS (z:=hg i j k) (E1.var rfl) E1.int (show 3<=sizeLine from z3) rfl))).eqn (decide_eq_false (lt_ne h))) (E1.call (R:=RHand) (A1.cons (E1.var rfl) A1.nil) ⟨i,j,k,rfl,hh,rfl⟩)) ⟨rfl,rfl⟩
theorem scTwoParts:FnScope ["hanger","four","upright","numbers","with_last","against_last"] ["hanger","four"] (defScope sTwoParts):=⟨rfl,rfl,rfl,by decide +kernel,rfl,by decide +kernel,by decide +kernel⟩
theorem ok_twoparts (F:Fun K "two_parts" "two_parts" sTwoParts f fd)
    (G:FnOk P w K mg base CX0 3 g gd ["hanger"] (spP K RLean)) (bG:Binds K gd ["hanger"] []) (kG:PySem.W.keepIn K (.ref g)=true) (mG:mg "lean_of" = some (.ref g))
    (G2:FnOk P w K mg base CX0 1 g2 gd2 ["one","other"] (sp2 K qm)) (bG2:Binds K gd2 ["one","other"] []) (kG2:PySem.W.keepIn K (.ref g2)=true) (mG2:mg "product" = some (.ref g2))
    (G3:FnOk P w K mg base CX0 3 g3 gd3 ["four"] (spT K PlainPre pl)) (bG3:Binds K gd3 ["four"] []) (kG3:PySem.W.keepIn K (.ref g3)=true) (mG3:mg "plain" = some (.ref g3))
    (G4:FnOk P w K mg base CX0 2 g4 gd4 ["hanger"] (spP K RHand)) (bG4:Binds K gd4 ["hanger"] []) (kG4:PySem.W.keepIn K (.ref g4)=true) (mG4:mg "hand_of" = some (.ref g4))
    (G5:FnOk P w K mg base CX0 1 g5 gd5 ["hanger"] (spP K RTh3)) (bG5:Binds K gd5 ["hanger"] []) (kG5:PySem.W.keepIn K (.ref g5)=true) (mG5:mg "third_letter" = some (.ref g5)) (m_tuple:mg "tuple" = none) (m_PLACES:mg "PLACES" = some (.ref dPLACES)) (t_PLACES:TabI K dPLACES places) :
    FnOk P w K mg base CX0 4 f fd ["hanger","four"] (spP K RTwo):=by
  refine okP F scTwoParts (fun ds d h=>?_) (fun cdv A0 outer s0 H0 E0 hr=>?_)
  . obtain ⟨i,j,k,ns,rfl,_⟩:=h;rfl
  have r:=hr.mono (show 3<=3 by decide)
  have r2:=hr.mono (show 1<=3 by decide)
  have r3:=hr.mono (show 3<=3 by decide)
  have r4:=hr.mono (show 2<=3 by decide)
  have r5:=hr.mono (show 1<=3 by decide)
  refine ⟨_,(zss_cons (zs_set (i:=2) scTwoParts.nd rfl (Or.inl rfl) (ze_lst (za_i (za_i (za_i (za_i za_nil))))))
    (zss_cons (zs_asg (ze_un un_neg (ze_call G r rfl mG kG bG .nil pass0 (za_n (zv 0) za_nil))) (zg_sub (zv 2) (ze_tiI (ze_glob (v:=.ref dPLACES) rfl m_PLACES rfl) (ze_ix ix_str (zv 0) ze_int (fun _ _=>rfl)) (fun _ _=>rfl)) set_list (fun _=>rfl)))
    (zss_cons (zs_set (i:=3) scTwoParts.nd rfl (Or.inl rfl) (ze_call G2 r2 rfl mG2 kG2 bG2 .nil pass0 (za_c (ze_call G3 r3 rfl mG3 kG3 bG3 .nil pass0 (za_n (zv 1) za_nil)) (za_c (ze_callTy call_tuple_of rfl m_tuple (by rfl) (za_n (zv 2) za_nil)) za_nil))))
    (zss_cons (zs_set (i:=4) scTwoParts.nd rfl (Or.inl rfl) (ze_tup (za_s (ze_ix ix_tup (zv 3) (ze_tiI (ze_glob (v:=.ref dPLACES) rfl m_PLACES rfl) (ze_ix ix_str (zv 0) ze_int (fun _ _=>rfl)) (fun _ _=>rfl)) (fun _ _=>rfl)) (za_s (ze_ix ix_tup (zv 3) ze_int (fun _ _=>rfl)) za_nil))))
    (zss_cons (zs_set (i:=5) scTwoParts.nd rfl (Or.inl rfl) (ze_tup (za_b (ze_op op_mulB (ze_call G4 r4 rfl mG4 kG4 bG4 .nil pass0 (za_n (zv 0) za_nil)) (ze_ix ix_tup (zv 3) (ze_tiI (ze_glob (v:=.ref dPLACES) rfl m_PLACES rfl) (ze_call G5 r5 rfl mG5 kG5 bG5 .nil pass0 (za_n (zv 0) za_nil)) (fun _ _=>rfl)) (fun _ _=>rfl))) (za_s (ze_ix ix_tup (zv 3) (ze_tiI (ze_glob (v:=.ref dPLACES) rfl m_PLACES rfl) (ze_ix ix_str (zv 0) ze_int (fun _ _=>rfl)) (fun _ _=>rfl)) (fun _ _=>rfl)) za_nil))))
    (zss_one (zs_ret (ze_tup (za_n (zv 4) (za_n (zv 5) za_nil)))))))))),fun ds d h=>?_⟩
  obtain ⟨i,j,k,ns,rfl,hh,l4,nz,bd,rfl⟩:=h
  obtain ⟨hi,hj,hk,ij,jk⟩:=id hh
  obtain ⟨ht,_,_⟩:=th3_lt hi hj ij
  have le:=le_is i j k
  have b1:Bd (2 ^ 1) [-le3 i j k,1]:=by
    intro n hn
    simp only [List.mem_cons,List.mem_nil_iff,or_false] at hn
    rcases hn with rfl | rfl
    . rw [Int.natAbs_neg];rcases le with e | e | e <;> rw [e] <;> decide
    . decide
  have lp:(pl ns).length=4:=by rw [pl_length];exact l4
  have lq:(tpN j (le3 i j k) ns).length=4:=qm_len lp rfl
  have bq:Bd (2 ^ 1003) (tpN j (le3 i j k) ns):=bd_mono (bd_qm lp rfl (bd_pl nz bd) (rf_bd hj b1)) (by decide)
  refine S.letO (ds:=[1,0,0,0].map .int) (E1.li (by walk_at "au3") rfl (lsz (n:=4) rfl z4)) (noLs_ints _) ?_
  refine S.seq (M:=fun τ'=>τ'=[.dat (.str (hg i j k)),.dat (tI ns),.own ((rf j (-le3 i j k) 1).map .int),.un,.un,.un]) ?_ fun τ' eτ=>?_
  . refine S.setit (i:=2) (ds:=[1,0,0,0].map .int) (C:=fun d=>d = .int (-le3 i j k)) (P:=fun n=>n=((j + 1:Nat):Int)) rfl (E.mono (E1.neg (E1.call (R:=RLean) (A1.cons (E1.var rfl) A1.nil) ⟨i,j,k,rfl,hh,rfl⟩)) fun s e5=>⟨_,e5.symm,rfl,rfl⟩) (EI.of (E1.tiI t_PLACES (E1.ixS (z:=hg i j k) (c:=120 + j) (E1.var rfl) E1.int (show 3<=sizeLine from z3) rfl) (place_at j hj)) (by omega)) (fun n hn=>by subst hn;exact ⟨by omega,by show ((j + 1:Nat):Int) < 4;omega⟩) fun d n hd hn=>?_
    subst hd hn
    rw [Int.toNat_natCast,map_set',rf_set hj];rfl
  subst eτ
  refine S.let1 (s:=.dat (tI (tpN j (le3 i j k) ns))) (E1.c22 (fn:=qm) (ns:=pl ns) (ms:=rf j (-le3 i j k) 1) (A1.cons (E1.cT (ns:=ns) (A1.cons (E1.var rfl) A1.nil) (by rw [l4];decide) ⟨l4,nz,sm_bd' bd⟩) (A1.cons (E1.tupleL (A1.cons (E1.varO rfl) A1.nil)) A1.nil)) lp rfl (sm_bd' (bd_pl nz bd)) (sm_bd' (rf_bd hj b1))) ?_
  refine S.let1 (s:=.dat (tI [(tpN j (le3 i j k) ns).getD (i + 1) 0,(tpN j (le3 i j k) ns).getD 0 0])) (E1.tu (A1.cons (E1.ixT (i:=((i + 1:Nat):Int)) (E1.var rfl) (E1.to (E1.tiI t_PLACES (E1.ixS (z:=hg i j k) (c:=120 + i) (E1.var rfl) E1.int (show 3<=sizeLine from z3) rfl) (place_at i hi)) (by congr 2)) (four_at lq (by omega))) (A1.cons (E1.ixT (i:=((0:Nat):Int)) (E1.var rfl) E1.int (four_at lq (by decide))) A1.nil)) rfl (lsz (n:=2) rfl z2)) ?_
  have bh:Bt (hd i j) 1:=by unfold Bt;rcases hd_is i j with e | e <;> rw [e] <;> decide
  have bt3:Bt ((tpN j (le3 i j k) ns).getD (th3' i j + 1) 0) 1003:=bq _ (four_mem lq (by omega))
  refine S.let1 (s:=.dat (tI [hd i j * (tpN j (le3 i j k) ns).getD (th3' i j + 1) 0,(tpN j (le3 i j k) ns).getD (j + 1) 0])) (E1.tu (A1.cons (E1.mul (E1.call (R:=RHand) (A1.cons (E1.var rfl) A1.nil) ⟨i,j,k,rfl,hh,rfl⟩) (E1.ixT (i:=((th3' i j + 1:Nat):Int)) (E1.var rfl) (E1.to (E1.tiI t_PLACES (E1.call (R:=RTh3) (A1.cons (E1.var rfl) A1.nil) ⟨i,j,k,rfl,hh,rfl⟩) (place_at (th3' i j) ht)) (by congr 2)) (four_at lq (by omega))) (bh.mulOk bt3)) (A1.cons (E1.ixT (i:=((j + 1:Nat):Int)) (E1.var rfl) (E1.to (E1.tiI t_PLACES (E1.ixS (z:=hg i j k) (c:=120 + j) (E1.var rfl) E1.int (show 3<=sizeLine from z3) rfl) (place_at j hj)) (by congr 2)) (four_at lq (by omega))) A1.nil)) rfl (lsz (n:=2) rfl z2)) ?_
  exact S.ret1 (E1.tu (A1.cons (E1.var rfl) (A1.cons (E1.var rfl) A1.nil)) rfl (lsz (n:=2) rfl z2)) ⟨rfl,rfl⟩
theorem scLeaning:FnScope ["hanger","middle"] ["hanger","middle"] (defScope sLeaning):=⟨rfl,rfl,rfl,by decide +kernel,rfl,by decide +kernel,by decide +kernel⟩
theorem ok_leaning (F:Fun K "leaning" "leaning" sLeaning f fd)
    (G:FnOk P w K mg base CX0 3 g gd ["setting"] (spPS2 K)) (bG:Binds K gd ["setting"] []) (kG:PySem.W.keepIn K (.ref g)=true) (mG:mg "plain_setting" = some (.ref g))
    (G2:FnOk P w K mg base CX0 1 g2 gd2 ["one","other"] (spP K RJoin)) (bG2:Binds K gd2 ["one","other"] []) (kG2:PySem.W.keepIn K (.ref g2)=true) (mG2:mg "joined" = some (.ref g2))
    (G3:FnOk P w K mg base CX0 3 g3 gd3 ["hanger"] (spP K RLean)) (bG3:Binds K gd3 ["hanger"] []) (kG3:PySem.W.keepIn K (.ref g3)=true) (mG3:mg "lean_of" = some (.ref g3)) :
    FnOk P w K mg base CX0 4 f fd ["hanger","middle"] (spP K RLea):=by
  refine okP F scLeaning (fun ds d h=>?_) (fun cdv A0 outer s0 H0 E0 hr=>?_)
  . obtain ⟨x,i,j,k,m,n,rfl,_⟩:=h;rfl
  have r:=hr.mono (show 3<=3 by decide)
  have r2:=hr.mono (show 1<=3 by decide)
  have r3:=hr.mono (show 3<=3 by decide)
  refine ⟨_,(zss_one (zs_ret (ze_call G r rfl mG kG bG .nil pass0 (za_c (ze_call G2 r2 rfl mG2 kG2 bG2 .nil pass0 (za_n (zv 1) (za_t (ze_tup (za_c (ze_call G3 r3 rfl mG3 kG3 bG3 .nil pass0 (za_n (zv 0) za_nil)) (za_i za_nil))) za_nil))) za_nil)))),fun ds d h=>?_⟩
  obtain ⟨x,i,j,k,m,n,rfl,hh,nz,bm,bn,hx,rfl⟩:=h
  have bl:Bt (le3 i j k) 1:=by unfold Bt;rcases le_is i j k with e | e | e <;> rw [e] <;> decide
  have b1:Bt (1:Int) 1:=by unfold Bt;decide
  have hn:=jo_nz (k:=m) (l:=n) (m:=le3 i j k) (n:=1) nz (.inr (by decide))
  have s1:Bt (m * 1 + n * le3 i j k) (x + 2):=((bm.mul b1).add (bn.mul bl)).up (by omega)
  have s2:Bt (n * 1 - m * le3 i j k) (x + 2):=((bn.mul b1).sub (bm.mul bl)).up (by omega)
  exact S.ret1 (s:=.dat (tI (lea i j k m n))) (E1.cPS (A1.cons (E1.call (R:=RJoin) (ds:=[tI [m,n],tI [le3 i j k,1]]) (A1.cons (E1.var rfl) (A1.cons (E1.tu (A1.cons (E1.call (R:=RLean) (A1.cons (E1.var rfl) A1.nil) ⟨i,j,k,rfl,hh,rfl⟩) (A1.cons E1.int A1.nil)) rfl (lsz (n:=2) rfl z2)) A1.nil)) ⟨x,1,m,n,_,1,rfl,bm,bn,bl,b1,by omega,by decide,rfl⟩) A1.nil) (nz2 hn) (sm2 s1 s2 (by omega))) ⟨rfl,noLs_ints _⟩
theorem scLocked:FnScope ["hanger","parts"] ["hanger","parts"] (defScope sLocked):=⟨rfl,rfl,rfl,by decide +kernel,rfl,by decide +kernel,by decide +kernel⟩
theorem ok_locked (F:Fun K "locked" "locked" sLocked f fd)
    (G:FnOk P w K mg base CX0 3 g gd ["setting"] (spPS2 K)) (bG:Binds K gd ["setting"] []) (kG:PySem.W.keepIn K (.ref g)=true) (mG:mg "plain_setting" = some (.ref g))
    (G2:FnOk P w K mg base CX0 4 g2 gd2 ["hanger","middle"] (spP K RLea)) (bG2:Binds K gd2 ["hanger","middle"] []) (kG2:PySem.W.keepIn K (.ref g2)=true) (mG2:mg "leaning" = some (.ref g2)) :
    FnOk P w K mg base CX0 5 f fd ["hanger","parts"] (spP K RLok):=by
  refine okP F scLocked (fun ds d h=>?_) (fun cdv A0 outer s0 H0 E0 hr=>?_)
  . obtain ⟨x,i,j,k,p,q,r,s,rfl,_⟩:=h;rfl
  have r:=hr.mono (show 3<=4 by decide)
  have r2:=hr.mono (show 4<=4 by decide)
  refine ⟨_,(zss_cons (zs_if (zt_cmpR (op_eqD hr.units) (ze_ix ix_tup (zv 1) ze_int (fun _ _=>rfl)) (ze_tup (za_i (za_i za_nil))) (nomark _)) (zss_one (zs_ret (ze_tup (za_cons ze_str (za_c (ze_call G2 r2 rfl mG2 kG2 bG2 .nil pass0 (za_n (zv 0) (za_t (ze_tup (za_i (za_i za_nil))) za_nil))) (za_cons ze_str (za_c (ze_call G r rfl mG kG bG .nil pass0 (za_s (ze_ix ix_tup (zv 1) ze_int (fun _ _=>rfl)) za_nil)) za_nil))))))) zss_nil)
    (zss_one (zs_ret (ze_tup (za_cons ze_str (za_c (ze_call G2 r2 rfl mG2 kG2 bG2 .nil pass0 (za_n (zv 0) (za_t (ze_tup (za_i (za_i za_nil))) za_nil))) (za_cons ze_str (za_c (ze_call G r rfl mG kG bG .nil pass0 (za_s (ze_ix ix_tup (zv 1) ze_int (fun _ _=>rfl)) za_nil)) za_nil)))))))),fun ds d h=>?_⟩
  obtain ⟨x,i,j,k,p,q,r,s,rfl,hh,nz,bp,bq,br,bs,hx,rfl⟩:=h
  by_cases h:r=0/\s=0
  . have e:lok i j k p q r s = .tuple [.str "lock",tI (lea i j k 0 1),.str "with",tI (ps p q)]:=by unfold lok;rw [if_pos h]
    rw [e]
    obtain ⟨rfl,rfl⟩:=h
    refine S.ifs (b:=true) ((T1.test (E1.eqD (d:=tI [0,0]) (e:=tI [0,0]) (E1.ixT (E1.var rfl) E1.int rfl) (by (walk_at "au3")) rfl rfl kqd_tup kqd_tup)).eqn (by rw [deq_tup];rfl)) (fun _=>?_) (fun z=>by cases z)
    exact S.ret1 (E1.tu (A1.cons E1.str (A1.cons (E1.call (R:=RLea) (ds:=[.str (hg i j k),tI [0,1]]) (A1.cons (E1.var rfl) (A1.cons (by (walk_at "au3")) A1.nil)) ⟨1,i,j,k,0,1,rfl,hh,by decide,by unfold Bt;decide,by unfold Bt;decide,by decide,rfl⟩) (A1.cons E1.str (A1.cons (E1.cPS (A1.cons (E1.ixT (E1.var rfl) E1.int rfl) A1.nil) (nz2 (nz ⟨rfl,rfl⟩)) (sm2 bp bq (by omega))) A1.nil)))) rfl (lsz (n:=4) rfl z4)) ⟨rfl,rfl⟩
  . have e:lok i j k p q r s = .tuple [.str "lock",tI (lea i j k 1 0),.str "against",tI (ps r s)]:=by unfold lok;rw [if_neg h]
    rw [e]
    have hrs:r ≠ 0\/s ≠ 0:=by omega
    refine S.ifsF ((T1.test (E1.eqD (d:=tI [r,s]) (e:=tI [0,0]) (E1.ixT (E1.var rfl) E1.int rfl) (by (walk_at "au3")) rfl rfl kqd_tup kqd_tup)).eqn (by rw [deq_tup];exact decide_eq_false (fun z=>h (by simpa using z)))) ?_
    exact S.ret1 (E1.tu (A1.cons E1.str (A1.cons (E1.call (R:=RLea) (ds:=[.str (hg i j k),tI [1,0]]) (A1.cons (E1.var rfl) (A1.cons (by (walk_at "au3")) A1.nil)) ⟨1,i,j,k,1,0,rfl,hh,by decide,by unfold Bt;decide,by unfold Bt;decide,by decide,rfl⟩) (A1.cons E1.str (A1.cons (E1.cPS (A1.cons (E1.ixT (E1.var rfl) E1.int rfl) A1.nil) (nz2 hrs) (sm2 br bs (by omega))) A1.nil)))) rfl (lsz (n:=4) rfl z4)) ⟨rfl,rfl⟩
theorem scSBy:FnScope ["hanger","parts","middle","ahead","behind","first","last"] ["hanger","parts","middle"] (defScope sSBy):=⟨rfl,rfl,rfl,by decide +kernel,rfl,by decide +kernel,by decide +kernel⟩
theorem ok_sby (F:Fun K "settings_by" "settings_by" sSBy f fd)
    (G:FnOk P w K mg base CX0 1 g gd ["one","other"] (spP K RJoin)) (bG:Binds K gd ["one","other"] []) (kG:PySem.W.keepIn K (.ref g)=true) (mG:mg "joined" = some (.ref g))
    (G2:FnOk P w K mg base CX0 1 g2 gd2 ["setting"] (spP K RTBack)) (bG2:Binds K gd2 ["setting"] []) (kG2:PySem.W.keepIn K (.ref g2)=true) (mG2:mg "taken_back" = some (.ref g2))
    (G3:FnOk P w K mg base CX0 3 g3 gd3 ["setting"] (spPS2 K)) (bG3:Binds K gd3 ["setting"] []) (kG3:PySem.W.keepIn K (.ref g3)=true) (mG3:mg "plain_setting" = some (.ref g3))
    (G4:FnOk P w K mg base CX0 4 g4 gd4 ["hanger","middle"] (spP K RLea)) (bG4:Binds K gd4 ["hanger","middle"] []) (kG4:PySem.W.keepIn K (.ref g4)=true) (mG4:mg "leaning" = some (.ref g4)) :
    FnOk P w K mg base CX0 5 f fd ["hanger","parts","middle"] (spP K RSBy):=by
  refine okP F scSBy (fun ds d h=>?_) (fun cdv A0 outer s0 H0 E0 hr=>?_)
  . obtain ⟨i,j,k,p,q,r,s,m,n,rfl,_⟩:=h;rfl
  have r:=hr.mono (show 1<=4 by decide)
  have r2:=hr.mono (show 1<=4 by decide)
  have r3:=hr.mono (show 3<=4 by decide)
  have r4:=hr.mono (show 4<=4 by decide)
  refine ⟨_,(zss_cons (zs_set (i:=3) scSBy.nd rfl (Or.inl rfl) (ze_tup (za_b (ze_op op_mulB (ze_ix ix_tup (ze_ix ix_tup (zv 1) ze_int (fun _ _=>rfl)) ze_int (fun _ _=>rfl)) (ze_ix ix_tup (zv 2) ze_int (fun _ _=>rfl))) (za_b (ze_op op_mulB (ze_ix ix_tup (ze_ix ix_tup (zv 1) ze_int (fun _ _=>rfl)) ze_int (fun _ _=>rfl)) (ze_ix ix_tup (zv 2) ze_int (fun _ _=>rfl))) za_nil))))
    (zss_cons (zs_set (i:=4) scSBy.nd rfl (Or.inl rfl) (ze_tup (za_b (ze_op op_mulB (ze_ix ix_tup (ze_ix ix_tup (zv 1) ze_int (fun _ _=>rfl)) ze_int (fun _ _=>rfl)) (ze_ix ix_tup (zv 2) ze_int (fun _ _=>rfl))) (za_b (ze_op op_mulB (ze_ix ix_tup (ze_ix ix_tup (zv 1) ze_int (fun _ _=>rfl)) ze_int (fun _ _=>rfl)) (ze_ix ix_tup (zv 2) ze_int (fun _ _=>rfl))) za_nil))))
    (zss_cons (zs_set (i:=5) scSBy.nd rfl (Or.inl rfl) (ze_tup (za_b (ze_op op_add (ze_ix ix_tup (zv 3) ze_int (fun _ _=>rfl)) (ze_ix ix_tup (zv 4) ze_int (fun _ _=>rfl))) (za_b (ze_op op_add (ze_ix ix_tup (zv 3) ze_int (fun _ _=>rfl)) (ze_ix ix_tup (zv 4) ze_int (fun _ _=>rfl))) za_nil))))
    (zss_cons (zs_if (zt_cmpR (op_eqD hr.units) (zv 5) (ze_tup (za_i (za_i za_nil))) (nomark _)) (zss_one (zs_set (i:=5) scSBy.nd rfl (Or.inl rfl) (ze_call G r rfl mG kG bG .nil pass0 (za_n (zv 3) (za_t (ze_tup (za_i (za_i za_nil))) za_nil))))) zss_nil)
    (zss_cons (zs_set (i:=6) scSBy.nd rfl (Or.inl rfl) (ze_call G r rfl mG kG bG .nil pass0 (za_n (zv 3) (za_c (ze_call G2 r2 rfl mG2 kG2 bG2 .nil pass0 (za_n (zv 5) za_nil)) za_nil))))
    (zss_one (zs_ret (ze_tup (za_c (ze_call G3 r3 rfl mG3 kG3 bG3 .nil pass0 (za_n (zv 5) za_nil)) (za_c (ze_call G4 r4 rfl mG4 kG4 bG4 .nil pass0 (za_n (zv 0) (za_n (zv 2) za_nil))) (za_c (ze_call G3 r3 rfl mG3 kG3 bG3 .nil pass0 (za_n (zv 6) za_nil)) za_nil))))))))))),fun ds d h=>?_⟩
  obtain ⟨i,j,k,p,q,r,s,m,n,rfl,hh,nz,hm,bp,bq,br,bs,bm,bn,rfl⟩:=h
  have ba:Bt (p * m) 3010:=bp.mul bm
  have bb:Bt (q * m) 3010:=bq.mul bm
  have bc:Bt (r * n) 3010:=br.mul bn
  have bd:Bt (s * n) 3010:=bs.mul bn
  have b0:Bt (0:Int) 1:=by unfold Bt;decide
  have b1:Bt (1:Int) 1:=by unfold Bt;decide
  have hf:=fstS_nz (r:=r) (s:=s) (n:=n) nz hm
  have bf:Bt (fstS p q r s m n).1 3013/\Bt (fstS p q r s m n).2 3013:=by
    unfold fstS
    split
    . exact ⟨((ba.mul b0).add (bb.mul b1)).up (by decide),((bb.mul b0).sub (ba.mul b1)).up (by decide)⟩
    . exact ⟨(ba.add bc).up (by decide),(bb.add bd).up (by decide)⟩
  refine S.let1 (s:=.dat (tI [p * m,q * m])) (E1.tu (A1.cons (E1.mul (E1.ixT (E1.ixT (E1.var rfl) E1.int rfl) E1.int rfl) (E1.ixT (E1.var rfl) E1.int rfl) (bp.mulOk bm)) (A1.cons (E1.mul (E1.ixT (E1.ixT (E1.var rfl) E1.int rfl) E1.int rfl) (E1.ixT (E1.var rfl) E1.int rfl) (bq.mulOk bm)) A1.nil)) rfl (lsz (n:=2) rfl z2)) ?_
  refine S.let1 (s:=.dat (tI [r * n,s * n])) (E1.tu (A1.cons (E1.mul (E1.ixT (E1.ixT (E1.var rfl) E1.int rfl) E1.int rfl) (E1.ixT (E1.var rfl) E1.int rfl) (br.mulOk bn)) (A1.cons (E1.mul (E1.ixT (E1.ixT (E1.var rfl) E1.int rfl) E1.int rfl) (E1.ixT (E1.var rfl) E1.int rfl) (bs.mulOk bn)) A1.nil)) rfl (lsz (n:=2) rfl z2)) ?_
  refine S.let1 (s:=.dat (tI [p * m + r * n,q * m + s * n])) (E1.tu (A1.cons (E1.add (E1.ixT (E1.var rfl) E1.int rfl) (E1.ixT (E1.var rfl) E1.int rfl)) (A1.cons (E1.add (E1.ixT (E1.var rfl) E1.int rfl) (E1.ixT (E1.var rfl) E1.int rfl)) A1.nil)) rfl (lsz (n:=2) rfl z2)) ?_
  refine S.seq (M:=fun τ'=>τ'=[.dat (.str (hg i j k)),.dat (.tuple [tI [p,q],tI [r,s]]),.dat (tI [m,n]),.dat (tI [p * m,q * m]),.dat (tI [r * n,s * n]),.dat (tI [(fstS p q r s m n).1,(fstS p q r s m n).2]),.un]) ?_ fun τ' eτ=>?_
  . refine S.if1 ((T1.test (E1.eqD (d:=tI [p * m + r * n,q * m + s * n]) (e:=tI [0,0]) (E1.var rfl) (by (walk_at "au3")) rfl rfl kqd_tup kqd_tup)).eqn deq_tup) (fun h=>?_) (fun h=>?_)
    . have h:p * m + r * n=0/\q * m + s * n=0:=by simpa using h
      have e:fstS p q r s m n=(p * m * 0 + q * m * 1,q * m * 0 - p * m * 1):=by unfold fstS;rw [if_pos h]
      rw [e]
      exact S.asg1 (E1.call (R:=RJoin) (ds:=[tI [p * m,q * m],tI [1,0]]) (A1.cons (E1.var rfl) (A1.cons (by (walk_at "au3")) A1.nil)) ⟨3010,1,_,_,1,0,rfl,ba,bb,b1,b0,by decide,by decide,rfl⟩) rfl
    . have h:¬ (p * m + r * n=0/\q * m + s * n=0):=by simpa using h
      have e:fstS p q r s m n=(p * m + r * n,q * m + s * n):=by unfold fstS;rw [if_neg h]
      rw [e]
      exact S.next rfl
  subst eτ
  unfold sby
  generalize fstS p q r s m n=f at *
  obtain ⟨f0,f1⟩:=f
  obtain ⟨c0,c1⟩:=bf
  have na:p * m ≠ 0\/q * m ≠ 0:=nz.imp (fun z=>Int.mul_ne_zero z hm) (fun z=>Int.mul_ne_zero z hm)
  have nl:=jo_nz (k:=p * m) (l:=q * m) (m := -f0) (n:=f1) na (by rcases hf with z | z;exact .inl (by simpa using z);exact .inr z)
  have cn:Bt (-f0) 3013:=by unfold Bt at *;rw [Int.natAbs_neg];exact c0
  refine S.let1 (s:=.dat (tI [p * m * f1 + q * m * -f0,q * m * f1 - p * m * -f0])) (E1.call (R:=RJoin) (ds:=[tI [p * m,q * m],tI [-f0,f1]]) (A1.cons (E1.var rfl) (A1.cons (E1.call (R:=RTBack) (A1.cons (E1.var rfl) A1.nil) ⟨f0,f1,rfl,rfl⟩) A1.nil)) ⟨3010,3013,_,_,_,_,rfl,ba,bb,cn,c1,by decide,by decide,rfl⟩) ?_
  have s1:Bt (p * m * f1 + q * m * -f0) 6024:=((ba.mul c1).add (bb.mul cn)).up (by decide)
  have s2:Bt (q * m * f1 - p * m * -f0) 6024:=((bb.mul c1).sub (ba.mul cn)).up (by decide)
  exact S.ret1 (E1.tu (A1.cons (E1.cPS (A1.cons (E1.var rfl) A1.nil) (nz2 hf) (sm2 c0 c1 (by decide))) (A1.cons (E1.call (R:=RLea) (ds:=[.str (hg i j k),tI [m,n]]) (A1.cons (E1.var rfl) (A1.cons (E1.var rfl) A1.nil)) ⟨2010,i,j,k,m,n,rfl,hh,.inl hm,bm,bn,by decide,rfl⟩) (A1.cons (E1.cPS (A1.cons (E1.var rfl) A1.nil) (nz2 nl) (sm2 s1 s2 (by decide))) A1.nil))) rfl (lsz (n:=3) rfl z3)) ⟨rfl,rfl⟩
theorem scSetOfB:FnScope ["hanger","four","parts","length","number","root","both"] ["hanger","four"] (defScope sSetOfB):=⟨rfl,rfl,rfl,by decide +kernel,rfl,by decide +kernel,by decide +kernel⟩
theorem ok_setofb (F:Fun K "settings_of" "settings_of" sSetOfB f fd)
    (G:FnOk P w K mg base (CXx P w (.ref cNoHanger)) 2 g gd ["hanger"] (spB K BHg)) (bG:Binds K gd ["hanger"] []) (kG:PySem.W.keepIn K (.ref g)=true) (mG:mg "refuse_no_hanger" = some (.ref g)) :
    FnOk P w K mg base (CXx P w (.ref cNoHanger)) 3 f fd ["hanger","four"] (spB K BHg2):=by
  refine okB F scSetOfB (fun ds h=>?_) (fun cdv A0 outer s0 H0 E0 hr=>?_)
  . obtain ⟨z,e,rfl,_⟩:=h;rfl
  have r:=hr.mono (show 2<=2 by decide)
  refine ⟨_,rss_here (rs_expr (re_call G r (by rfl) mG kG bG (za_n (zv 0) za_nil))),fun ds h=>?_⟩
  obtain ⟨z,e,rfl,az,hz⟩:=h
  exact SX.mono (SX.call (B:=BHg) (A1.cons (E1.var rfl) A1.nil) ⟨z,rfl,az,hz⟩) fun _ _=>trivial
theorem scMixed:FnScope ["_law_cell","_law_k","_law_number_here"] ["_law_cell","_law_k"] (defScope sMixed):=⟨rfl,rfl,rfl,by decide +kernel,rfl,by decide +kernel,by decide +kernel⟩
theorem ok_mixed (F:Fun K "_law_mixed" "_law_mixed" sMixed f fd):FnOk P w K mg base CX0 1 f fd ["_law_cell","_law_k"] spMixed:=by
  refine F.okZ scMixed (fun vs H Q E h=>?_) (fun cdv A outer s H vs Q E hr h=>?_)
  . obtain ⟨c,k,rfl,_⟩:=h;rfl
  obtain ⟨c,k,rfl,hb,k0,k1,q⟩:=h
  refine ⟨_,zss_cons (zs_set (i:=2) scMixed.nd rfl (Or.inl rfl) (ze_op op_mod (ze_op op_mul (ze_op op_add (ze_op op_add (ze_op op_add (ze_op op_mulB (zv 0) (zv 0)) (ze_op op_mul ze_int (zv 0))) (ze_op op_mul ze_int (zv 1))) ze_int) ze_int) ze_int))
    (zss_one (zs_ret (ze_op op_mod (ze_op op_add (ze_op op_mul (zv 2) (zv 2)) ze_int) ze_int))),?_⟩
  refine ⟨_,rfl,_,rfl,c,c,rfl,rfl,IntMulOk.of_bits hb hb,_,rfl,_,_,rfl,rfl,.inl ⟨by decide,by decide⟩,_,_,rfl,rfl,_,rfl,_,_,rfl,rfl,.inl ⟨by decide,by decide⟩,_,_,rfl,rfl,_,_,rfl,rfl,_,_,rfl,rfl,.inr ⟨by decide,by decide⟩,_,_,rfl,rfl,(show (0:Int) < 2147483629 by decide),?_⟩
  have x0:(0:Int)<=((c * c + 3 * c + 7919 * k + 1) * 48271) % 2147483629:=Int.emod_nonneg _ (by decide)
  have x1:((c * c + 3 * c + 7919 * k + 1) * 48271) % 2147483629 < (2147483629:Int):=Int.emod_lt_of_pos _ (by decide)
  refine ⟨_,rfl,_,rfl,_,_,rfl,rfl,.inl ⟨Int.lt_of_lt_of_le (by decide) x0,Int.lt_trans x1 (by decide)⟩,_,_,rfl,rfl,_,_,rfl,rfl,(show (0:Int) < 2147483587 by decide),?_⟩
  exact q _ (Int.emod_nonneg _ (by decide)) (Int.emod_lt_of_pos _ (by decide))
theorem scPurse:FnScope ["_law_script","_law_cells","_law_number_here","_law_k"] ["_law_script"] (defScope sPurse):=⟨rfl,rfl,rfl,by decide +kernel,rfl,by decide +kernel,by decide +kernel⟩
theorem ok_purse (F:Fun K "_law_purse" "_law_purse" sPurse f fd) (G:FnOk P w K mg base CX0 1 g gd ["_law_cell","_law_k"] spMixed) (bG:Binds K gd ["_law_cell","_law_k"] []) (kG:PySem.W.keepIn K (.ref g)=true) (mG:mg "_law_mixed" = some (.ref g))
    (ml:mg "len" = none) (ma:mg "abs" = none) (mr:mg "range" = none):FnOk P w K mg base CX0 2 f fd ["_law_script"] (spPurse K):=by
  refine F.okZ scPurse (fun vs H Q E h=>?_) (fun cdv A outer s H vs Q E hr h=>?_)
  . obtain ⟨a,ns,rfl,_⟩:=h;rfl
  obtain ⟨a,ns,rfl,hS,hl,hb,q⟩:=h
  refine ⟨_,zss_cons (zs_set (i:=1) scPurse.nd rfl (Or.inl rfl) (ze_op op_cat (ze_slice sl_list (zv 0) zo_none (zo_some ze_int)) (ze_lst (za_cons ze_int za_nil))))
    (zss_cons (zs_set (i:=2) scPurse.nd rfl (Or.inl rfl) ze_int)
    (zss_cons (zs_for PassesOwn.never rfl (zi_range1 rfl mr (za_cons ze_int za_nil)) (zg_name (i:=3) scPurse.nd rfl (Or.inl rfl)) (zss_one (zs_set (i:=2) scPurse.nd rfl (Or.inl rfl)
      (ze_op op_add (ze_op op_mul (zv 2) ze_int) (ze_call G hr rfl mG kG bG .nil pass0 (za_cons (ze_ix ix_list (zv 1) (ze_op op_mod (zv 3) (ze_callB call_len_seq rfl ml PySem.boot_len (za_cons (zv 1) za_nil))) (fun _ _=>rfl)) (za_cons (zv 3) za_nil)))))))
    (zss_cons (zs_if (zt_cmpR op_ge (ze_callB call_abs rfl ma (by rfl) (za_cons (ze_ix ix_list (zv 1) ze_int (fun _ _=>rfl)) za_nil)) (ze_op op_pow ze_int ze_int) (nomark _))
      (zss_one (zs_ret (ze_lst (za_cons (ze_callB call_abs rfl ma (by rfl) (za_cons (ze_ix ix_list (zv 1) ze_int (fun _ _=>rfl)) za_nil)) (za_cons (zv 2) za_nil))))) zss_nil)
    (zss_one (zs_ret (ze_lst (za_cons (zv 2) (za_cons (zv 2) za_nil)))))))),?_⟩
  refine ⟨_,rfl,63,rfl,a,_,rfl,hS,fun p1 hp1=>⟨(by show 1<=sizeLine;decide),fun p2 hp2=>?_⟩⟩
  rw [cut63 hl] at hp2 ⊢
  have s1:Same H (upd H p1 (.lst (ns.map V.int))):=Same.new hp1 _
  have s2:=Same.new hp2 (.lst [V.int 0])
  refine ⟨p1,p2,ns.map V.int,[.int 0],rfl,rfl,s2 _ _ upd_same,upd_same,?_,fun c hc=>?_⟩
  . rw [List.length_map];exact Nat.le_of_lt (small1000 (by show ns.length + 1<=1000;omega))
  have s3:=Same.new hc (.lst (ns.map V.int ++ [V.int 0]))
  have cs:ns.map V.int ++ [V.int 0]=(ns ++ [0]).map V.int:=by rw [List.map_append];rfl
  have S:=(s1.trans s2).trans s3
  have hcn:H c=none:=(s1.trans s2).free hc
  have hC:SqL K (upd (upd (upd H p1 (.lst (ns.map V.int))) p2 (.lst [V.int 0])) c (.lst (ns.map V.int ++ [V.int 0]))) c ((ns ++ [0]).map V.int):=by rw [<- cs];exact SqL.of upd_same
  generalize upd (upd (upd H p1 (.lst (ns.map V.int))) p2 (.lst [V.int 0])) c (.lst (ns.map V.int ++ [V.int 0]))=H3 at S hC ⊢
  have bits:∀ v ∈ ns ++ [0],Builtin.Int.intBits v<=2 ^ 20:=fun v hv=>by
    rcases List.mem_append.mp hv with h | h
    . exact hb v h
    . have:v=0:=by simpa using h
      subst this;decide
  generalize hcs:ns ++ [0]=cs at hC bits
  have lc:0 < cs.length/\cs.length<=64:=by rw [<- hcs,List.length_append];simp;omega
  refine ⟨64,rfl,by decide,by decide,for_range (n:=64) (fun i σ H'=>H3=H'/\∃ (x:Int) (k:Option V),σ=[some (.ref a),some (.ref c),some (.int x),k]) ⟨rfl,1,_,rfl⟩ (fun i σ H' hi h=>?_) (fun σ H' h=>?_)⟩
  . obtain ⟨rfl,x,k,rfl⟩:=h
    have m0:(0:Int)<=(0 + (i:Int)) % (cs.length:Int):=Int.emod_nonneg _ (by omega)
    have m1:(0 + (i:Int)) % (cs.length:Int) < (cs.length:Int):=Int.emod_lt_of_pos _ (by omega)
    generalize hj:(0 + (i:Int)) % (cs.length:Int)=j at m0 m1
    obtain ⟨c1,hc1,at1⟩:=at_draw m0 m1
    refine ⟨_,rfl,_,_,rfl,rfl,.inr ⟨by decide,by decide⟩,_,rfl,_,rfl,_,rfl,c,_,rfl,.inl hC,_,_,rfl,rfl,(show (0:Int) < ((cs.map V.int).length:Nat) by rw [List.length_map];omega),c,_,_,_,rfl,rfl,hC,?_,_,rfl,c1,_,rfl,bits _ hc1,by omega,by omega,fun d _ _=>?_⟩
    . rw [List.length_map,hj];exact at1
    . exact ⟨_,_,rfl,rfl,rfl,_,_,rfl⟩
  . obtain ⟨rfl,x,k,rfl⟩:=h
    have hl0:0 < cs.length:=lc.1
    have at0:atI (cs.map V.int) 0=some (.int cs[0]):=atI_nat (j:=0) (by rw [List.getElem?_map];simp [hl0])
    refine ⟨_,rfl,c,_,_,_,rfl,rfl,hC,at0,_,rfl,_,_,rfl,rfl,⟨by decide,by decide,by decide⟩,_,_,rfl,rfl,_,rfl,?_⟩
    refine ite2 (fun c'=>?_) (fun c'=>?_)
    . refine ⟨_,rfl,c,_,_,_,rfl,rfl,hC,at0,_,rfl,_,rfl,(by show 2<=sizeLine;decide),fun p hp=>?_⟩
      exact q p _ (S.free hp) (S.trans (Same.new hp _)) ⟨_,_,upd_same⟩
    . refine ⟨_,rfl,_,rfl,(by show 2<=sizeLine;decide),fun p hp=>?_⟩
      exact q p _ (S.free hp) (S.trans (Same.new hp _)) ⟨_,_,upd_same⟩
theorem scDraw:FnScope ["_law_purse_here","_law_out_of","_law_drawn"] ["_law_purse_here","_law_out_of"] (defScope sDraw):=⟨rfl,rfl,rfl,by decide +kernel,rfl,by decide +kernel,by decide +kernel⟩
theorem ok_draw (F:Fun K "_law_draw" "_law_draw" sDraw f fd):FnOk P w K mg base CX0 1 f fd ["_law_purse_here","_law_out_of"] spDraw:=by
  refine F.okZ scDraw (fun vs H Q E h=>?_) (fun cdv A outer s H vs Q E hr h=>?_)
  . obtain ⟨p,m,rfl,_⟩:=h;rfl
  obtain ⟨p,m,rfl,⟨a,b,hp⟩,m0,m1,q⟩:=h
  refine ⟨_,zss_cons (zs_if (zt_cmpR op_eq (ze_ix ix_list (zv 0) ze_int (fun _ _=>rfl)) ze_int (nomark _)) (zss_one (zs_asg (ze_ix ix_list (zv 0) ze_int (fun _ _=>rfl)) (zg_sub (zv 0) ze_int set_list (fun _=>rfl)))) zss_nil)
    (zss_cons (zs_set (i:=2) scDraw.nd rfl (Or.inl rfl) (ze_op op_mod (ze_ix ix_list (zv 0) ze_int (fun _ _=>rfl)) (zv 1)))
    (zss_cons (zs_asg (ze_op op_fdivB (ze_ix ix_list (zv 0) ze_int (fun _ _=>rfl)) (zv 1)) (zg_sub (zv 0) ze_int set_list (fun _=>rfl)))
    (zss_one (zs_ret (zv 2))))),?_⟩
  have rest:∀ (a:Int) (H1:Hp),SB p H H1->H1 p=some (.lst [.int a,.int b])->tSeq (tAsg (tOp (rI (fun x j=>0 < j) fun i j=>V.int (i % j)) (tOp (rIxL K) (tVar 0) (tC (.int 0))) (tVar 1)) (gName 2))
      (tSeq (tAsg (tOp (rI CDivB fun i j=>V.int (i.fdiv j)) (tOp (rIxL K) (tVar 0) (tC (.int 0))) (tVar 1)) (gSub (tVar 0) (tC (.int 0)) rSetL)) (tRet (tVar 2))) { nx:=fun _ H'=>Q .non H',rt:=Q } [some (.ref p),some (.int m),none] H1:=by
    intro a H1 s1 h1
    refine ⟨_,rfl,p,_,_,_,rfl,rfl,SqL.of h1,rfl,_,rfl,a,m,rfl,rfl,m0,?_⟩
    refine ⟨_,rfl,p,_,_,_,rfl,rfl,SqL.of h1,rfl,_,rfl,a,m,rfl,rfl,⟨by omega,?_⟩,_,rfl,p,_,_,0,rfl,rfl,h1,rfl,_,rfl,?_⟩
    . have:m.natAbs < 2 ^ 9000:=Nat.lt_of_lt_of_le (show m.natAbs < 2 ^ 200 by omega) (Nat.pow_le_pow_right (by decide) (by decide))
      exact (Nat.log2_lt (by omega)).mpr this
    . exact q _ _ (Int.emod_nonneg _ (by omega)) (Int.emod_lt_of_pos _ m0) (s1.trans SB.upd) ⟨_,_,upd_same⟩
  refine ⟨_,rfl,p,_,_,_,rfl,rfl,SqL.of hp,rfl,rfl,_,rfl,?_⟩
  refine ite2 (fun c=>?_) (fun c=>?_)
  . refine ⟨_,rfl,p,_,_,_,rfl,rfl,SqL.of hp,rfl,_,rfl,p,_,_,0,rfl,rfl,hp,rfl,?_⟩
    exact rest b _ SB.upd upd_same
  . exact rest a H (SB.refl _ _) hp
theorem scNumber:FnScope ["_law_purse_here","_law_most"] ["_law_purse_here"] (defScope sNumber):=⟨rfl,rfl,rfl,by decide +kernel,rfl,by decide +kernel,by decide +kernel⟩
theorem ok_number (F:Fun K "_law_number" "_law_number" sNumber f fd) (G:FnOk P w K mg base CX0 1 g gd ["_law_purse_here","_law_out_of"] spDraw) (bG:Binds K gd ["_law_purse_here","_law_out_of"] []) (kG:PySem.W.keepIn K (.ref g)=true) (mG:mg "_law_draw" = some (.ref g)) :
    FnOk P w K mg base CX0 2 f fd ["_law_purse_here"] spNumber:=by
  refine F.okZ scNumber (fun vs H Q E h=>?_) (fun cdv A outer s H vs Q E hr h=>?_)
  . obtain ⟨p,rfl,_⟩:=h;rfl
  obtain ⟨p,rfl,hp,q⟩:=h
  refine ⟨_,zss_cons (zs_set (i:=1) scNumber.nd rfl (Or.inl rfl) (ze_ix ix_list (ze_lst (za_i (za_i (za_i (za_i (za_i (za_i (za_b (ze_op op_pow ze_int ze_int) (za_b (ze_op op_pow ze_int ze_int) za_nil))))))))) (ze_call G hr rfl mG kG bG .nil pass0 (za_n (zv 0) (za_i za_nil))) pix_call) sw_sub)
   (zss_one (zs_ret (ze_op op_sub (ze_call G hr rfl mG kG bG .nil pass0 (za_cons (zv 0) (za_cons (ze_op op_add (ze_op op_mul ze_int (zv 1)) ze_int) za_nil))) (zv 1)))),?_⟩
  refine ⟨_,_,rfl,rfl,⟨by decide,by decide,by decide⟩,_,_,rfl,rfl,⟨by decide,by decide,by decide⟩,(by show 8<=sizeLine;decide),fun l hl=>?_⟩
  have s1:=Same.new hl (.lst ([3,3,1,3,12,1000,(10:Int) ^ (12:Int).toNat,(10:Int) ^ (28:Int).toNat].map V.int))
  refine ⟨_,rfl,p,8,rfl,hp.same s1,by decide,by decide,fun d H1 d0 d1 sb hp1=>?_⟩
  obtain ⟨m,hm,hat⟩:=at_draw (ms:=[3,3,1,3,12,1000,(10:Int) ^ (12:Int).toNat,(10:Int) ^ (28:Int).toNat]) d0 d1
  have hl1:H1 l=some (.lst ([3,3,1,3,12,1000,(10:Int) ^ (12:Int).toNat,(10:Int) ^ (28:Int).toNat].map V.int)):=sb _ _ (hp.ne hl) upd_same
  refine ⟨l,_,d,_,rfl,rfl,SqL.of hl1,hat,?_⟩
  have mb:0<=m/\m<=10 ^ 28:=by
    simp only [List.mem_cons,List.mem_nil_iff,or_false] at hm
    rcases hm with rfl | rfl | rfl | rfl | rfl | rfl | rfl | rfl <;> decide
  refine ⟨_,rfl,_,rfl,_,_,rfl,rfl,.inl ⟨by decide,by decide⟩,_,_,rfl,rfl,p,_,rfl,hp1,(show (0:Int) < 2 * m + 1 by omega),(show 2 * m + 1 < (2:Int) ^ 200 by have:=mb.2;omega),fun d2 H2 e0 e1 sb2 hp2=>?_⟩
  refine ⟨_,rfl,_,_,rfl,rfl,?_⟩
  refine q _ _ ?_ ((s1.sb (p:=p)).trans (sb.trans sb2)) hp2
  show (d2 - m).natAbs<=10 ^ 28
  have:=mb.2
  omega
theorem scFour:FnScope ["_law_purse_here","_law_found","_law_k","_law_by"] ["_law_purse_here"] (defScope sFour):=⟨rfl,rfl,rfl,by decide +kernel,rfl,by decide +kernel,by decide +kernel⟩
theorem ok_four (F : Fun K "_law_four" "_law_four" sFour f fd) (G : FnOk P w K mg base CX0 1 g gd ["_law_purse_here", "_law_out_of"] spDraw) (bG : Binds K gd ["_law_purse_here", "_law_out_of"] []) (kG : PySem.W.keepIn K (.ref g) = true) (mG : mg "_law_draw" = some (.ref g))
    (G2:FnOk P w K mg base CX0 2 g2 gd2 ["_law_purse_here"] spNumber) (bG2:Binds K gd2 ["_law_purse_here"] []) (kG2:PySem.W.keepIn K (.ref g2)=true) (mG2:mg "_law_number" = some (.ref g2)) (mt:mg "tuple" = none) (mr:mg "range" = none) :
    FnOk P w K mg base CX0 3 f fd ["_law_purse_here"] (spFour K):=by
  refine F.okZ scFour (fun vs H Q E h=>?_) (fun cdv A outer s H vs Q E hr h=>?_)
  . obtain ⟨p,rfl,_⟩:=h;rfl
  obtain ⟨p,rfl,hp,q⟩:=h
  have hr1:=hr.mono (show 1<=2 by decide)
  refine ⟨_,zss_cons (zs_comp (own:=["_law_k"]) (i:=1) scFour rfl ⟨by decide +kernel,rfl,by decide +kernel,by decide +kernel,by decide +kernel,by decide +kernel,by decide +kernel,by decide +kernel,by decide +kernel⟩ (zi_range1 rfl mr (za_i za_nil))
      (fun C fp s H nd=>zg_name (i:=0) nd rfl (Or.inl rfl)) (fun C fp s H=>zts_nil) (fun C fp s H=>ze_call G2 hr rfl mG2 kG2 bG2 .nil pass0 (za_n (zv 1) za_nil)) scFour.nd rfl (Or.inl rfl) rfl)
    (zss_cons (zs_for PassesOwn.never rfl (zi_range1 rfl mr (za_i za_nil)) (zg_name (i:=2) scFour.nd rfl (Or.inl rfl)) (zss_one (zs_if (zt_cmpR op_eq (ze_call G hr1 rfl mG kG bG .nil pass0 (za_n (zv 0) (za_i za_nil))) ze_int (nomark _)) (zss_one (zs_asg ze_int (zg_sub (zv 1) (zv 2) set_list (fun _=>rfl)))) zss_nil)))
    (zss_cons (zs_if (zt_cmpR (op_eqD hr.units) (zv 1) (ze_lst (za_i (za_i (za_i (za_i za_nil))))) (nomark _))
       (zss_one (zs_asg (ze_ix ix_list (ze_lst (za_i (za_u (ze_un un_neg ze_int) (za_i (za_u (ze_un un_neg (ze_op op_pow ze_int ze_int)) za_nil))))) (ze_call G hr1 rfl mG kG bG .nil pass0 (za_n (zv 0) (za_i za_nil))) pix_call)
          (zg_sub (zv 1) (ze_call G hr1 rfl mG kG bG .nil pass0 (za_n (zv 0) (za_i za_nil))) set_list (fun _=>rfl)))) zss_nil)
    (zss_cons (zs_set (i:=3) scFour.nd rfl (Or.inr rfl) (ze_ix ix_list (ze_lst (za_i (za_i (za_u (ze_un un_neg ze_int) (za_i (za_u (ze_un un_neg ze_int) (za_i za_nil))))))) (ze_call G hr1 rfl mG kG bG .nil pass0 (za_n (zv 0) (za_i za_nil))) pix_call) sw_sub)
    (zss_one (zs_ret (ze_callTy call_tuple_of rfl mt (by rfl) (za_cons (ze_comp (own:=["_law_number_here"]) scFour rfl ⟨by decide +kernel,rfl,by decide +kernel,by decide +kernel,by decide +kernel,by decide +kernel,by decide +kernel,by decide +kernel,by decide +kernel⟩ (zi_list (zv 1))
      (fun C fp s H nd=>zg_name (i:=0) nd rfl (Or.inl rfl)) (fun C fp s H=>zts_nil) (fun C fp s H=>ze_op op_mul (zv 4) (zv 0))) za_nil))))))),?_⟩
  have nD:∀ {D:Addr},H D=none->D ≠ p:=fun h=>hp.ne h
  refine ⟨4,rfl,by decide,by decide,comp_inv (n:=4) (by show 4<=sizeLine;decide) (fun D i H' ys=>SB p H H'/\Pu H' p/\∃ ns:List Int,ys=ns.map V.int/\∀ n ∈ ns,n.natAbs<=10 ^ 28) (fun D hD=>⟨(Same.new hD _).sb,hp.same (Same.new hD _),[],rfl,by simp⟩) (fun D i H' ys hi hD hy hl h R k=>?_) (fun D H1 ys hD hy hl h=>?_)⟩
  . obtain ⟨sb,pu,ns,rfl,hb⟩:=h
    refine ⟨_,rfl,p,rfl,pu,fun d H2 d1 sb2 pu2=>k _ _ (sb2 _ _ (nD hD) hy) ⟨(sb.trans sb2).snoc hD,?_,ns ++ [d],by rw [List.map_append];rfl,fun n hn=>?_⟩⟩
    . obtain ⟨a,b,e⟩:=pu2
      exact ⟨a,b,by rw [upd_ne (Ne.symm (nD hD))];exact e⟩
    . rcases List.mem_append.mp hn with h | h
      . exact hb n h
      . have:n=d:=by simpa using h
        rw [this];exact d1
  obtain ⟨sb,pu,ns,rfl,hb⟩:=h
  rw [List.length_map] at hl
  refine ⟨4,rfl,by decide,by decide,for_range (n:=4) (fun i σ H'=>∃ (ns:List Int) (k:Option V),σ=[some (.ref p),some (.ref D),k,none]/\SB p H H'/\Pu H' p/\H' D=some (.lst (ns.map V.int))/\ns.length=4/\∀ n ∈ ns,n.natAbs<=10 ^ 28) ⟨ns,_,rfl,sb,pu,hy,hl,hb⟩ (fun i σ H' hi h=>?_) (fun σ H' h=>?_)⟩
  . obtain ⟨ns,k,rfl,sb,pu,hy,hl,hb⟩:=h
    refine ⟨_,rfl,p,5,rfl,pu,by decide,by decide,fun d H2 d0 d1 sb2 pu2=>?_⟩
    have y2:=sb2 _ _ (nD hD) hy
    refine ⟨rfl,_,rfl,?_⟩
    refine ite2 (fun c=>?_) (fun c=>?_)
    . refine ⟨_,rfl,_,rfl,D,_,_,i,rfl,rfl,y2,ixN_at (by rw [List.length_map];omega),ns.set i 0,_,rfl,(sb.trans sb2).snoc hD,pu2.off (nD hD),?_,by rw [List.length_set];exact hl,fun n hn=>?_⟩
      . rw [upd_same,List.map_set]
      . rcases List.mem_or_eq_of_mem_set hn with h | h
        . exact hb n h
        . rw [h];decide
    . exact ⟨ns,_,rfl,sb.trans sb2,pu2,y2,hl,hb⟩
  clear hb hl hy pu sb ns
  obtain ⟨ns,k,rfl,sb,pu,hy,hl,hb⟩:=h
  dsimp only
  refine tSeq_cut (fun σ H4=>∃ (ns:List Int),σ=[some (.ref p),some (.ref D),k,none]/\SB p H H4/\Pu H4 p/\H4 D=some (.lst (ns.map V.int))/\ns.length=4/\(∃ n ∈ ns,n ≠ 0)/\∀ n ∈ ns,n.natAbs<=10 ^ 28) (fun N hN=>?_) (fun σ H4 h=>?_)
  . refine ⟨_,rfl,(by show 4<=sizeLine;decide),fun z hz=>?_⟩
    have s3:=Same.new hz (.lst [.int 0,.int 0,.int 0,.int 0])
    have pu3:=pu.same s3
    have hy3:=s3 _ _ hy
    have sb3:=sb.trans (s3.sb (p:=p))
    have hz3':upd H' z (.lst [.int 0,.int 0,.int 0,.int 0]) z=_:=upd_same
    generalize upd H' z (.lst [.int 0,.int 0,.int 0,.int 0])=H3 at *
    have hz3:H3 z=some (.lst ([0,0,0,0].map V.int)):=hz3'
    refine ⟨.list (ns.map .int),.list ([0,0,0,0].map .int),.lst (SqL.of hy3) (Iss.ints ns),.lst (SqL.of hz3) (Iss.ints _),kqd_lst,kqd_lst,_,rfl,?_⟩
    show if deq _ _=true then _ else _
    rw [deq_lst]
    refine ite2 (fun c=>?_) (fun c=>?_)
    . have e:ns=[0,0,0,0]:=of_decide_eq_true c
      subst e
      refine ⟨_,rfl,_,_,rfl,rfl,⟨by decide,by decide,by decide⟩,_,rfl,(by show 4<=sizeLine;decide),fun l hl=>?_⟩
      have s4:=Same.new hl (.lst ([1, -1,6, -(10:Int) ^ (28:Int).toNat].map V.int))
      refine ⟨_,rfl,p,4,rfl,pu3.same s4,by decide,by decide,fun d H5 d0 d1 sb5 pu5=>?_⟩
      obtain ⟨m,hm,hat⟩:=at_draw (ms:=[1, -1,6, -(10:Int) ^ (28:Int).toNat]) d0 d1
      have hl5:H5 l=some (.lst ([1, -1,6, -(10:Int) ^ (28:Int).toNat].map V.int)):=sb5 _ _ (pu3.ne hl) upd_same
      have hy5:=sb5 _ _ (nD hD) (s4 _ _ hy3)
      refine ⟨l,_,d,_,rfl,rfl,SqL.of hl5,hat,?_⟩
      refine ⟨_,rfl,_,rfl,p,4,rfl,pu5,by decide,by decide,fun d2 H6 e0 e1 sb6 pu6=>?_⟩
      refine ⟨D,_,d2,d2.toNat,rfl,rfl,sb6 _ _ (nD hD) hy5,ixN_of e0 e1,?_⟩
      have mb:m ≠ 0/\m.natAbs<=10 ^ 28:=by
        simp only [List.mem_cons,List.mem_nil_iff,or_false] at hm
        rcases hm with rfl | rfl | rfl | rfl <;> decide
      refine hN _ _ ⟨[0,0,0,0].set d2.toNat m,rfl,(sb3.trans ((s4.sb (p:=p)).trans (sb5.trans sb6))).snoc hD,pu6.off (nD hD),?_,by rw [List.length_set];rfl,⟨m,List.mem_set (l:=[0,0,0,0]) (by show d2.toNat < 4;omega) m,mb.1⟩,fun n hn=>?_⟩
      . rw [upd_same,List.map_set]
      . rcases List.mem_or_eq_of_mem_set hn with h | h
        . exact hb n h
        . rw [h];exact mb.2
    . have e:ns ≠ [0,0,0,0]:=fun e=>c (decide_eq_true e)
      refine hN _ _ ⟨ns,rfl,sb3,pu3,hy3,hl,?_,hb⟩
      match ns,hl,e with
      | [a, b, c, d], _, e =>
        by_cases h1:a=0
        . by_cases h2:b=0
          . by_cases h3:c=0
            . by_cases h4:d=0
              . subst h1 h2 h3 h4;exact absurd rfl e
              . exact ⟨d,by simp,h4⟩
            . exact ⟨c,by simp,h3⟩
          . exact ⟨b,by simp,h2⟩
        . exact ⟨a,by simp,h1⟩
  . clear hb hl hy pu sb ns
    obtain ⟨ns,rfl,sb,pu,hy,hl,hnz,hb⟩:=h
    refine ⟨_,rfl,_,rfl,(by show 6<=sizeLine;decide),fun l hlz=>?_⟩
    have s4:=Same.new hlz (.lst ([1,1, -1,2, -6,12].map V.int))
    refine ⟨_,rfl,p,6,rfl,pu.same s4,by decide,by decide,fun d H5 d0 d1 sb5 pu5=>?_⟩
    obtain ⟨m,hm,hat⟩:=at_draw (ms:=[1,1, -1,2, -6,12]) d0 d1
    have hl5:H5 l=some (.lst ([1,1, -1,2, -6,12].map V.int)):=sb5 _ _ (pu.ne hlz) upd_same
    have hy5:=sb5 _ _ (nD hD) (s4 _ _ hy)
    have mb:m ≠ 0 /\ -12<=m/\m<=12:=by
      simp only [List.mem_cons,List.mem_nil_iff,or_false] at hm
      rcases hm with rfl | rfl | rfl | rfl | rfl | rfl <;> decide
    refine ⟨l,_,d,_,rfl,rfl,SqL.of hl5,hat,?_⟩
    refine ⟨_,rfl,D,rfl,⟨_,SqL.of hy5⟩,?_⟩
    refine comp_ints (src_lst (SqL.of hy5)) (fun n=>m * n) (by rw [hl];decide) (fun n hn H' s R k=>?_) fun D2 H' s h n=>?_
    . exact ⟨_,rfl,_,rfl,_,_,rfl,rfl,.inl ⟨by omega,by omega⟩,k _ (Same.refl _)⟩
    . refine ⟨D2,_,rfl,.inl ⟨SqL.of h,fun r hr'=>?_⟩⟩
      have s6:=s.trans (Same.new hr' (.tup ((ns.map fun n=>m * n).map V.int)))
      refine q r (ns.map fun n=>m * n) _ (by rw [List.length_map];exact hl) ?_ (fun n hn=>?_) (sb.trans ((s4.sb (p:=p)).trans (sb5.trans s6.sb))) (pu5.same s6) (SqT.of upd_same)
      . obtain ⟨n,hn,h0⟩:=hnz
        exact ⟨m * n,List.mem_map_of_mem hn,Int.mul_ne_zero mb.1 h0⟩
      . obtain ⟨x,hx,rfl⟩:=List.mem_map.mp hn
        rw [Int.natAbs_mul]
        exact Nat.mul_le_mul (by omega) (hb x hx)
theorem scSmall:FnScope ["_law_purse_here","_law_most"] ["_law_purse_here"] (defScope sSmall):=⟨rfl,rfl,rfl,by decide +kernel,rfl,by decide +kernel,by decide +kernel⟩
theorem ok_small (F:Fun K "_law_small" "_law_small" sSmall f fd)
    (G:FnOk P w K mg base CX0 1 g gd ["_law_purse_here","_law_out_of"] spDraw) (bG:Binds K gd ["_law_purse_here","_law_out_of"] []) (kG:PySem.W.keepIn K (.ref g)=true) (mG:mg "_law_draw" = some (.ref g)) :
    FnOk P w K mg base CX0 2 f fd ["_law_purse_here"] (spU K (RInt (10 ^ 12))):=by
  refine okU F scSmall (fun ds d h=>?_) (fun cdv A0 outer s0 H0 E0 hr=>?_)
  . obtain ⟨rfl,_⟩:=h;rfl
  have r:=hr.mono (show 1<=1 by decide)
  refine ⟨_,(zss_cons (zs_set (i:=1) scSmall.nd rfl (Or.inl rfl) (ze_ix ix_list (ze_lst (za_i (za_i (za_i (za_i (za_b (ze_op op_pow ze_int ze_int) za_nil)))))) (ze_call G r rfl mG kG bG .nil pass0 (za_n (zv 0) (za_i za_nil))) pix_call) sw_sub)
    (zss_one (zs_ret (ze_op op_sub (ze_call G r rfl mG kG bG .nil pass0 (za_n (zv 0) (za_b (ze_op op_add (ze_op op_mulB ze_int (zv 1)) ze_int) za_nil))) (zv 1))))),fun q0 ds C h=>?_⟩
  obtain ⟨rfl,rfl⟩:=h
  refine S.letC (EI.pick (ms:=[1,3,12,1000,10 ^ Int.toNat 12]) (E1.vwo (by (walk_at "au3");all_goals exact lsz (n:=5) rfl (by decide))) (EI.draw (A1.cons (E1.varP rfl) (A1.cons E1.int A1.nil)) (by decide:(0:Int) < 5) (by decide)) fun d hd=>hd) (fun s ⟨_,e,_⟩=>by rw [e];rfl) fun s ⟨m,e,hm⟩=>?_
  subst e
  have h2:0 < m/\m<=10 ^ 12:=by
    simp only [List.mem_cons,List.mem_nil_iff,or_false] at hm
    rcases hm with rfl | rfl | rfl | rfl | rfl <;> decide
  have bm:Bt m 64:=by unfold Bt;omega
  refine S.ret (EI.op (EI.draw (m:=2 * m + 1) (by (walk_at "au3")) (by omega) (by omega)) (EI.of (E1.var rfl) (P:=fun k=>k=m) rfl)) fun s ⟨k,e,i,j,hi,hj,ek⟩=>?_
  exact ⟨_,⟨k,rfl,by omega⟩,by rw [e];exact ⟨rfl,rfl⟩⟩
theorem scDSetting:FnScope ["_law_purse_here","_law_k","_law_l"] ["_law_purse_here"] (defScope sDSetting):=⟨rfl,rfl,rfl,by decide +kernel,rfl,by decide +kernel,by decide +kernel⟩
theorem ok_dsetting (F:Fun K "_law_setting" "_law_setting" sDSetting f fd)
    (G:FnOk P w K mg base CX0 2 g gd ["_law_purse_here"] (spU K (RInt (10 ^ 12)))) (bG:Binds K gd ["_law_purse_here"] []) (kG:PySem.W.keepIn K (.ref g)=true) (mG:mg "_law_small" = some (.ref g))
    (G2:FnOk P w K mg base CX0 1 g2 gd2 ["_law_purse_here","_law_out_of"] spDraw) (bG2:Binds K gd2 ["_law_purse_here","_law_out_of"] []) (kG2:PySem.W.keepIn K (.ref g2)=true) (mG2:mg "_law_draw" = some (.ref g2)) (m_int:mg "int" = none) :
    FnOk P w K mg base CX0 3 f fd ["_law_purse_here"] (spU K RSet):=by
  refine okU F scDSetting (fun ds d h=>?_) (fun cdv A0 outer s0 H0 E0 hr=>?_)
  . obtain ⟨rfl,_⟩:=h;rfl
  have r:=hr.mono (show 2<=2 by decide)
  have r2:=hr.mono (show 1<=2 by decide)
  refine ⟨_,(zss_cons (zs_set (i:=1) scDSetting.nd rfl (Or.inl rfl) (ze_call G r rfl mG kG bG .nil pass0 (za_n (zv 0) za_nil)))
    (zss_cons (zs_set (i:=2) scDSetting.nd rfl (Or.inl rfl) (ze_op op_mulB (ze_call G r rfl mG kG bG .nil pass0 (za_n (zv 0) za_nil)) (ze_callTy call_int1 rfl m_int (by rfl) (za_cons (ze_cmpR op_gt (ze_call G2 r2 rfl mG2 kG2 bG2 .nil pass0 (za_n (zv 0) (za_i za_nil))) ze_int (nomark _)) za_nil))))
    (zss_cons (zs_if (ZW.pt (zw_and (zt_cmpR op_eq (zv 1) ze_int (nomark _)) (zw_and1 (zt_cmpR op_eq (zv 2) ze_int (nomark _))))) (zss_one (zs_ret (ze_tup (za_i (za_i za_nil))))) zss_nil)
    (zss_one (zs_ret (ze_tup (za_n (zv 1) (za_n (zv 2) za_nil)))))))),fun q0 ds C h=>?_⟩
  obtain ⟨rfl,rfl⟩:=h
  refine S.letC (E.callU (R:=RInt (10 ^ 12)) (ds:=[]) (A1.cons (E1.varP rfl) A1.nil) ⟨rfl,rfl⟩) (fun s ⟨_,e,_⟩=>by rw [e];rfl) fun s ⟨d,e,k,e2,hk⟩=>?_
  subst e e2
  refine S.letC (EI.opC (P:=fun n=>n.natAbs<=10 ^ 12) (E.mono (E.callU (R:=RInt (10 ^ 12)) (ds:=[]) (A1.cons (E1.varP rfl) A1.nil) ⟨rfl,rfl⟩) fun s ⟨d,e,n,e2,hn⟩=>⟨n,by rw [e,e2],hn⟩) (EI.boolInt (E.cmpB (EI.draw (A1.cons (E1.varP rfl) (A1.cons E1.int A1.nil)) (by decide:(0:Int) < 6) (by decide)) EI.lit)) (fun i j hi hj=>okL (by omega) (by omega))) (fun s ⟨_,e,_⟩=>by rw [e];rfl) fun s ⟨l,e,i,j,hi,hj,el⟩=>?_
  subst e
  have hl:l.natAbs<=10 ^ 12:=by
    rcases hj with rfl | rfl
    . simp at el;omega
    . simp at el;omega
  have bkl:Bd (10 ^ 12) [k,l]:=fun n hn=>by
    simp only [List.mem_cons,List.mem_nil_iff,or_false] at hn
    rcases hn with rfl | rfl
    . exact hk
    . exact hl
  refine S.ifs (by (walk_at "au3")) (fun _=>S.ret1 (s:=.dat (tI [0,1])) (by (walk_at "au3")) ⟨_,⟨0,1,rfl,.inr (by decide),by unfold Bd;decide⟩,rfl,rfl⟩) (fun h=>?_)
  have h0:k ≠ 0\/l ≠ 0:=by
    by_cases z:k=0
    . refine .inr fun y=>?_
      rw [z,y] at h;simp at h
    . exact .inl z
  exact S.ret1 (s:=.dat (tI [k,l])) (by (walk_at "au3")) ⟨_,⟨k,l,rfl,h0,bkl⟩,rfl,rfl⟩
theorem scLHanger:FnScope ["_law_purse_here","_law_first","_law_middle","_law_last"] ["_law_purse_here"] (defScope sLHanger):=⟨rfl,rfl,rfl,by decide +kernel,rfl,by decide +kernel,by decide +kernel⟩
theorem ok_lhanger (F:Fun K "_law_hanger" "_law_hanger" sLHanger f fd)
    (G:FnOk P w K mg base CX0 1 g gd ["_law_purse_here","_law_out_of"] spDraw) (bG:Binds K gd ["_law_purse_here","_law_out_of"] []) (kG:PySem.W.keepIn K (.ref g)=true) (mG:mg "_law_draw" = some (.ref g)) :
    FnOk P w K mg base CX0 2 f fd ["_law_purse_here"] (spU K RHanger):=by
  refine okU F scLHanger (fun ds d h=>?_) (fun cdv A0 outer s0 H0 E0 hr=>?_)
  . obtain ⟨rfl,_⟩:=h;rfl
  have r:=hr.mono (show 1<=1 by decide)
  refine ⟨_,(zss_cons (zs_set (i:=1) scLHanger.nd rfl (Or.inl rfl) (ze_call G r rfl mG kG bG .nil pass0 (za_n (zv 0) (za_i za_nil))))
    (zss_cons (zs_set (i:=2) scLHanger.nd rfl (Or.inl rfl) (ze_op op_mod (ze_op op_add (ze_op op_add (zv 1) ze_int) (ze_call G r rfl mG kG bG .nil pass0 (za_n (zv 0) (za_i za_nil)))) ze_int))
    (zss_cons (zs_set (i:=3) scLHanger.nd rfl (Or.inl rfl) (ze_op op_mod (ze_op op_add (ze_op op_add (zv 2) ze_int) (ze_call G r rfl mG kG bG .nil pass0 (za_n (zv 0) (za_i za_nil)))) ze_int))
    (zss_one (zs_ret (ze_op op_add_str (ze_op op_add_str (ze_ix ix_str ze_str (zv 1) (fun _ _=>rfl)) (ze_ix ix_str ze_str (zv 2) (fun _ _=>rfl))) (ze_ix ix_str ze_str (zv 3) (fun _ _=>rfl)))))))),fun q0 ds C h=>?_⟩
  obtain ⟨rfl,rfl⟩:=h
  refine S.letC (EI.draw (A1.cons (E1.varP rfl) (A1.cons E1.int A1.nil)) (by decide:(0:Int) < 3) (by decide)) (fun s ⟨_,e,_⟩=>by rw [e];rfl) fun s ⟨x,e,x0,x1⟩=>?_
  subst e
  refine S.letC (EI.mono (P':=fun m=>∃ t:Int,0<=t/\t < 2/\m=(x + 1 + t) % 3) (EI.opC (EI.op (EI.op (EI.of (P:=fun d=>d=x) (E1.var rfl) rfl) EI.lit) (EI.draw (A1.cons (E1.varP rfl) (A1.cons E1.int A1.nil)) (by decide:(0:Int) < 2) (by decide))) EI.lit (fun i j _ hj=>by subst hj;decide)) fun m ⟨i,j,⟨i1,i2,⟨i3,i4,e1,e2,e3⟩,e4,e5⟩,e6,e7⟩=>⟨i2,e4.1,e4.2,by subst e1 e2 e3 e5 e6;exact e7⟩) (fun s ⟨_,e,_⟩=>by rw [e];rfl) fun s ⟨y,e,t,t0,t1,ey⟩=>?_
  subst e
  refine S.letC (EI.mono (P':=fun m=>∃ t:Int,0<=t/\t < 2/\m=(y + 1 + t) % 3) (EI.opC (EI.op (EI.op (EI.of (P:=fun d=>d=y) (E1.var rfl) rfl) EI.lit) (EI.draw (A1.cons (E1.varP rfl) (A1.cons E1.int A1.nil)) (by decide:(0:Int) < 2) (by decide))) EI.lit (fun i j _ hj=>by subst hj;decide)) fun m ⟨i,j,⟨i1,i2,⟨i3,i4,e1,e2,e3⟩,e4,e5⟩,e6,e7⟩=>⟨i2,e4.1,e4.2,by subst e1 e2 e3 e5 e6;exact e7⟩) (fun s ⟨_,e,_⟩=>by rw [e];rfl) fun s ⟨z,e,u,u0,u1,ez⟩=>?_
  subst e
  obtain ⟨i,rfl⟩:=Int.eq_ofNat_of_zero_le x0
  obtain ⟨j,rfl⟩:=Int.eq_ofNat_of_zero_le (show 0<=y by omega)
  obtain ⟨k,rfl⟩:=Int.eq_ofNat_of_zero_le (show 0<=z by omega)
  have hi:i < 3:=by omega
  have hj:j < 3:=by omega
  have hk:k < 3:=by omega
  exact S.ret1 (s:=.dat (.str (hg i j k))) (E1.addS (x:=⟨#[120 + i,120 + j]⟩) (y:=⟨#[120 + k]⟩) (E1.addS (x:=⟨#[120 + i]⟩) (y:=⟨#[120 + j]⟩) (E1.ixS E1.str (E1.var rfl) (show 3<=sizeLine from z3) (xyz_at i hi)) (E1.ixS E1.str (E1.var rfl) (show 3<=sizeLine from z3) (xyz_at j hj)) (show 1 + 1<=sizeLine from z2)) (E1.ixS E1.str (E1.var rfl) (show 3<=sizeLine from z3) (xyz_at k hk)) (show 2 + 1<=sizeLine from z3)) ⟨_,⟨i,j,k,rfl,hi,hj,hk,by omega,by omega⟩,rfl,rfl⟩
theorem scLText:FnScope ["_law_purse_here","_law_text_here","_law_sign","_law_at","_law_kind"] ["_law_purse_here"] (defScope sLText):=⟨rfl,rfl,rfl,by decide +kernel,rfl,by decide +kernel,by decide +kernel⟩
theorem ok_ltext (F:Fun K "_law_text" "_law_text" sLText f fd)
    (G:FnOk P w K mg base CX0 2 g gd ["_law_purse_here"] (spU K RHanger)) (bG:Binds K gd ["_law_purse_here"] []) (kG:PySem.W.keepIn K (.ref g)=true) (mG:mg "_law_hanger" = some (.ref g))
    (G2:FnOk P w K mg base CX0 1 g2 gd2 ["_law_purse_here","_law_out_of"] spDraw) (bG2:Binds K gd2 ["_law_purse_here","_law_out_of"] []) (kG2:PySem.W.keepIn K (.ref g2)=true) (mG2:mg "_law_draw" = some (.ref g2)) (m_int:mg "int" = none) :
    FnOk P w K mg base CX0 3 f fd ["_law_purse_here"] (spU K RText):=by
  refine okU F scLText (fun ds d h=>?_) (fun cdv A0 outer s0 H0 E0 hr=>?_)
  . obtain ⟨rfl,_⟩:=h;rfl
  have r:=hr.mono (show 2<=2 by decide)
  have r2:=hr.mono (show 1<=2 by decide)
  refine ⟨_,(zss_cons (zs_set (i:=1) scLText.nd rfl (Or.inl rfl) (ze_call G r rfl mG kG bG .nil pass0 (za_n (zv 0) za_nil)))
    (zss_cons (zs_set (i:=2) scLText.nd rfl (Or.inl rfl) (ze_ix ix_str ze_str (ze_call G2 r2 rfl mG2 kG2 bG2 .nil pass0 (za_n (zv 0) (za_i za_nil))) pix_call) sw_sub)
    (zss_cons (zs_set (i:=3) scLText.nd rfl (Or.inl rfl) (ze_call G2 r2 rfl mG2 kG2 bG2 .nil pass0 (za_n (zv 0) (za_i za_nil))))
    (zss_cons (zs_set (i:=4) scLText.nd rfl (Or.inl rfl) (ze_call G2 r2 rfl mG2 kG2 bG2 .nil pass0 (za_n (zv 0) (za_i za_nil))))
    (zss_cons (zs_if (zt_cmpR op_eq (zv 4) ze_int (nomark _)) (zss_one (zs_ret (ze_op op_add_str (ze_slice sl_str (zv 1) zo_none (zo_some (zv 3))) (ze_slice sl_str (zv 1) (zo_some (ze_op op_add (zv 3) ze_int)) zo_none)))) zss_nil)
    (zss_cons (zs_if (zt_cmpR op_eq (zv 4) ze_int (nomark _)) (zss_one (zs_ret (ze_op op_add_str (ze_op op_add_str (ze_slice sl_str (zv 1) zo_none (zo_some (zv 3))) (zv 2)) (ze_slice sl_str (zv 1) (zo_some (zv 3)) zo_none)))) zss_nil)
    (zss_cons (zs_if (zt_cmpR op_eq (zv 4) ze_int (nomark _)) (zss_one (zs_ret (ze_op op_add_str (ze_op op_add_str (ze_slice sl_str (zv 1) zo_none (zo_some (zv 3))) (zv 2)) (ze_slice sl_str (zv 1) (zo_some (ze_op op_add (zv 3) ze_int)) zo_none)))) zss_nil)
    (zss_cons (zs_if (zt_cmpR op_eq (zv 4) ze_int (nomark _)) (zss_one (zs_ret (ze_op op_add_str (ze_op op_add_str (ze_ix ix_str (zv 1) ze_int (fun _ _=>rfl)) (ze_ix ix_str (zv 1) ze_int (fun _ _=>rfl))) (ze_ix ix_str (zv 1) ze_int (fun _ _=>rfl))))) zss_nil)
    (zss_cons (zs_if (zt_cmpR op_eq (zv 4) ze_int (nomark _)) (zss_one (zs_ret (ze_op op_add_str (ze_op op_add_str (ze_ix ix_str (zv 1) ze_int (fun _ _=>rfl)) (ze_ix ix_str (zv 1) ze_int (fun _ _=>rfl))) (ze_ix ix_str (zv 1) ze_int (fun _ _=>rfl))))) zss_nil)
    (zss_cons (zs_if (zt_cmpR op_eq (zv 4) ze_int (nomark _)) (zss_one (zs_ret (ze_op op_mulS (zv 1) (ze_op op_add ze_int (ze_call G2 r2 rfl mG2 kG2 bG2 .nil pass0 (za_n (zv 0) (za_i za_nil))))))) zss_nil)
    (zss_one (zs_ret (ze_ix ix_list (ze_lst (za_n (zv 1) (za_cons ze_str (za_cons ze_str (za_cons ze_str (za_cons ze_str za_nil)))))) (ze_op op_mulB (ze_call G2 r2 rfl mG2 kG2 bG2 .nil pass0 (za_n (zv 0) (za_i za_nil))) (ze_callTy call_int1 rfl m_int (by rfl) (za_cons (ze_cmpR op_eq (zv 4) ze_int (nomark _)) za_nil))) (fun _ _=>rfl)))))))))))))),fun q0 ds C h=>?_⟩
  obtain ⟨rfl,rfl⟩:=h
  refine S.letC (E.callU (R:=RHanger) (ds:=[]) (A1.cons (E1.varP rfl) A1.nil) ⟨rfl,rfl⟩) (fun s ⟨_,e,_⟩=>by rw [e];rfl) fun s ⟨d',es,i,j,k,e2,hh⟩=>?_
  subst es e2
  have hi:=hh.1
  have hk:=hh.2.2.1
  have ah:=Asc.hg hh.1 hh.2.1 hh.2.2.1
  refine S.letC (E.ixSA (z := "xyzXYZwab 0-;") E1.str (EI.draw (A1.cons (E1.varP rfl) (A1.cons E1.int A1.nil)) (by decide:(0:Int) < 13) (by decide)) ⟨by decide +kernel,by decide +kernel⟩ (fun i h=>⟨h.1,by rw [show ((("xyzXYZwab 0-;" : Str).cps.toList.length:Nat):Int)=13 by decide +kernel];exact h.2⟩)) (fun s ⟨_,e,_⟩=>by rw [e];rfl) fun s ⟨c,es,hc⟩=>?_
  subst es
  refine S.letC (EI.draw (A1.cons (E1.varP rfl) (A1.cons E1.int A1.nil)) (by decide:(0:Int) < 3) (by decide)) (fun s ⟨_,e,_⟩=>by rw [e];rfl) fun s ⟨at',es,a0,a1⟩=>?_
  subst es
  refine S.letC (EI.draw (A1.cons (E1.varP rfl) (A1.cons E1.int A1.nil)) (by decide:(0:Int) < 8) (by decide)) (fun s ⟨_,e,_⟩=>by rw [e];rfl) fun s ⟨kd,es,k0,k1⟩=>?_
  subst es
  refine S.ifs (T1.test (E1.eq (E1.var rfl) E1.int)) (fun _=>?_) (fun _=>?_)
  . exact S.ret1 (E1.addS (E1.slS (z:=(hg i j k)) (E1.var rfl) O1.none (O1.some (E1.var rfl)) (show 3<=sizeLine from z3)) (E1.slS (z:=(hg i j k)) (E1.var rfl) (O1.some (E1.add (E1.var rfl) E1.int)) O1.none (show 3<=sizeLine from z3)) (Nat.le_trans (Nat.add_le_add (ah.slice _ _).1 (ah.slice _ _).1) (by decide))) ⟨_,⟨_,rfl,((ah.slice _ _).app (ah.slice _ _)).mono (by decide)⟩,rfl,rfl⟩
  refine S.ifs (T1.test (E1.eq (E1.var rfl) E1.int)) (fun _=>?_) (fun _=>?_)
  . exact S.ret1 (E1.addS (E1.addS (E1.slS (z:=(hg i j k)) (E1.var rfl) O1.none (O1.some (E1.var rfl)) (show 3<=sizeLine from z3)) (E1.var rfl) (Nat.le_trans (Nat.add_le_add (ah.slice _ _).1 (Asc.one hc).1) (by decide))) (E1.slS (z:=(hg i j k)) (E1.var rfl) (O1.some (E1.var rfl)) O1.none (show 3<=sizeLine from z3)) (Nat.le_trans (Nat.add_le_add ((ah.slice _ _).app (Asc.one hc)).1 (ah.slice _ _).1) (by decide))) ⟨_,⟨_,rfl,(((ah.slice _ _).app (Asc.one hc)).app (ah.slice _ _)).mono (by decide)⟩,rfl,rfl⟩
  refine S.ifs (T1.test (E1.eq (E1.var rfl) E1.int)) (fun _=>?_) (fun _=>?_)
  . exact S.ret1 (E1.addS (E1.addS (E1.slS (z:=(hg i j k)) (E1.var rfl) O1.none (O1.some (E1.var rfl)) (show 3<=sizeLine from z3)) (E1.var rfl) (Nat.le_trans (Nat.add_le_add (ah.slice _ _).1 (Asc.one hc).1) (by decide))) (E1.slS (z:=(hg i j k)) (E1.var rfl) (O1.some (E1.add (E1.var rfl) E1.int)) O1.none (show 3<=sizeLine from z3)) (Nat.le_trans (Nat.add_le_add ((ah.slice _ _).app (Asc.one hc)).1 (ah.slice _ _).1) (by decide))) ⟨_,⟨_,rfl,(((ah.slice _ _).app (Asc.one hc)).app (ah.slice _ _)).mono (by decide)⟩,rfl,rfl⟩
  refine S.ifs (T1.test (E1.eq (E1.var rfl) E1.int)) (fun _=>?_) (fun _=>?_)
  . exact S.ret1 (E1.addS (E1.addS (E1.ixS (z:=(hg i j k)) (c:=120 + i) (E1.var rfl) E1.int (show 3<=sizeLine from z3) rfl) (E1.ixS (z:=(hg i j k)) (c:=120 + i) (E1.var rfl) E1.int (show 3<=sizeLine from z3) rfl) (Nat.le_trans (Nat.add_le_add (Asc.one (show 120 + i < 128 by omega)).1 (Asc.one (show 120 + i < 128 by omega)).1) (by decide))) (E1.ixS (z:=(hg i j k)) (c:=120 + k) (E1.var rfl) E1.int (show 3<=sizeLine from z3) rfl) (Nat.le_trans (Nat.add_le_add ((Asc.one (show 120 + i < 128 by omega)).app (Asc.one (show 120 + i < 128 by omega))).1 (Asc.one (show 120 + k < 128 by omega)).1) (by decide))) ⟨_,⟨_,rfl,(((Asc.one (show 120 + i < 128 by omega)).app (Asc.one (show 120 + i < 128 by omega))).app (Asc.one (show 120 + k < 128 by omega))).mono (by decide)⟩,rfl,rfl⟩
  refine S.ifs (T1.test (E1.eq (E1.var rfl) E1.int)) (fun _=>?_) (fun _=>?_)
  . exact S.ret1 (E1.addS (E1.addS (E1.ixS (z:=(hg i j k)) (c:=120 + i) (E1.var rfl) E1.int (show 3<=sizeLine from z3) rfl) (E1.ixS (z:=(hg i j k)) (c:=120 + k) (E1.var rfl) E1.int (show 3<=sizeLine from z3) rfl) (Nat.le_trans (Nat.add_le_add (Asc.one (show 120 + i < 128 by omega)).1 (Asc.one (show 120 + k < 128 by omega)).1) (by decide))) (E1.ixS (z:=(hg i j k)) (c:=120 + k) (E1.var rfl) E1.int (show 3<=sizeLine from z3) rfl) (Nat.le_trans (Nat.add_le_add ((Asc.one (show 120 + i < 128 by omega)).app (Asc.one (show 120 + k < 128 by omega))).1 (Asc.one (show 120 + k < 128 by omega)).1) (by decide))) ⟨_,⟨_,rfl,(((Asc.one (show 120 + i < 128 by omega)).app (Asc.one (show 120 + k < 128 by omega))).app (Asc.one (show 120 + k < 128 by omega))).mono (by decide)⟩,rfl,rfl⟩
  refine S.ifs (T1.test (E1.eq (E1.var rfl) E1.int)) (fun _=>?_) (fun _=>?_)
  . exact S.ret (E.mulSA (E1.var rfl) (EI.op EI.lit (EI.draw (A1.cons (E1.varP rfl) (A1.cons E1.int A1.nil)) (by decide:(0:Int) < 12) (by decide))) ah (fun n ⟨x,y,hx,hy,e⟩=>by subst e;subst hx;omega)) fun s ⟨y,es,ay⟩=>es ▸ ⟨_,⟨y,rfl,ay⟩,rfl,rfl⟩
  refine S.ret (E.pick (ms:=[.str (hg i j k),.str "",.str "xyzx",.str "zyx ",.str " yxz"]) (E1.vwo (E1.li (A1.cons (E1.var rfl) (A1.cons E1.str (A1.cons E1.str (A1.cons E1.str (A1.cons E1.str A1.nil))))) rfl (show 5<=sizeLine by decide))) (EI.opC (P:=fun i=>0<=i/\i < 5) (Q:=fun i=>i=0\/i=1) (EI.draw (A1.cons (E1.varP rfl) (A1.cons E1.int A1.nil)) (by decide:(0:Int) < 5) (by decide)) (EI.boolInt (E.mono (E1.eq (E1.var rfl) E1.int) fun s e=>⟨_,e.symm⟩)) (fun a b ha hb=>?_)) (fun n ⟨x,y,hx,hy,e⟩=>?_)) fun s ⟨d,es,hd⟩=>?_
  . exact okL (by omega) (by omega)
  . subst e
    rcases hy with rfl | rfl
    . simp
    . simp only [List.length_cons,List.length_nil];omega
  . subst es
    simp only [List.mem_cons,List.mem_nil_iff,or_false] at hd
    refine ⟨d,?_,rfl,?_⟩
    . rcases hd with rfl | rfl | rfl | rfl | rfl
      . exact ⟨_,rfl,ah.mono (by decide)⟩
      all_goals exact ⟨_,rfl,by decide +kernel,by decide +kernel⟩
    . rcases hd with rfl | rfl | rfl | rfl | rfl <;> rfl
theorem scLGood:FnScope ["_law_text_here"] ["_law_text_here"] (defScope sLGood):=⟨rfl,rfl,rfl,by decide +kernel,rfl,by decide +kernel,by decide +kernel⟩
theorem ok_lgood (F : Fun K "_law_good" "_law_good" sLGood f fd) (m_len : mg "len" = none) :
    FnOk P w K mg base CX0 1 f fd ["_law_text_here"] (spP K RIsHX):=by
  refine okP F scLGood (fun ds d h=>?_) (fun cdv A0 outer s0 H0 E0 hr=>?_)
  . obtain ⟨z,rfl,_⟩:=h;rfl
  refine ⟨_,(zss_cons (zs_if (ZW.pt (zw_or (zt_cmpR op_ne (ze_callB call_len_str rfl m_len PySem.boot_len (za_n (zv 0) za_nil)) ze_int (nomark _)) (zw_or (zt_cmpR op_eq (ze_ix ix_str (zv 0) ze_int (fun _ _=>rfl)) (ze_ix ix_str (zv 0) ze_int (fun _ _=>rfl)) (nomark _)) (zw_or1 (zt_cmpR op_eq (ze_ix ix_str (zv 0) ze_int (fun _ _=>rfl)) (ze_ix ix_str (zv 0) ze_int (fun _ _=>rfl)) (nomark _)))))) (zss_one (zs_ret ze_bl)) zss_nil)
    (zss_one (zs_ret (ze_cmpR op_eq (ze_callB call_len_seq rfl m_len PySem.boot_len (za_cons (ze_comp (own:=["_law_sign"]) scLGood rfl ⟨by decide +kernel,rfl,by decide +kernel,by decide +kernel,by decide +kernel,by decide +kernel,by decide +kernel,by decide +kernel,by decide +kernel⟩ (zi_str (zv 0)) (fun C fp s H nd=>zg_name (i:=0) nd rfl (Or.inl rfl)) (fun C fp s H=>zts_one (zt_cmpR (op_inDC hr.units) (zv 0) (ze_lst (za_cons ze_str (za_cons ze_str (za_cons ze_str za_nil)))) (by with_unfolding_all rfl))) (fun C fp s H=>(zv 0))) za_nil)) ze_int (nomark _))))),fun ds d h=>?_⟩
  obtain ⟨z,rfl,az,rfl⟩:=h
  by_cases h3:z.length=3
  . obtain ⟨a,b,c,rfl⟩:=D.three_of h3
    refine S.ifs (T1.or1 (T1.test (E1.ne (E1.lenS (z:=⟨#[a,b,c]⟩) (A1.cons (E1.var rfl) A1.nil) (show 3<=sizeLine from z3)) E1.int)) (T1.or1 (T1.test (E1.eqS (x:=⟨#[a]⟩) (y:=⟨#[b]⟩) (E1.ixS (z:=⟨#[a,b,c]⟩) (E1.var rfl) E1.int (show 3<=sizeLine from z3) rfl) (E1.ixS (z:=⟨#[a,b,c]⟩) (E1.var rfl) E1.int (show 3<=sizeLine from z3) rfl))) (T1.test (E1.eqS (x:=⟨#[b]⟩) (y:=⟨#[c]⟩) (E1.ixS (z:=⟨#[a,b,c]⟩) (E1.var rfl) E1.int (show 3<=sizeLine from z3) rfl) (E1.ixS (z:=⟨#[a,b,c]⟩) (E1.var rfl) E1.int (show 3<=sizeLine from z3) rfl))))) (fun hb=>?_) (fun hb=>?_)
    . refine S.ret1 (s:=.dat (.bool false)) E1.bl ⟨?_,rfl⟩
      rw [one_eq,one_eq] at hb
      rw [isHg_three]
      have q:(a != b && b != c)=false:=by
        rw [Bool.eq_false_iff]
        intro z
        simp only [Bool.and_eq_true,bne_iff_ne] at z
        rw [decide_eq_false z.1,decide_eq_false z.2] at hb
        exact absurd (show (!decide ((3:Int)=3) || (false || false))=true from hb) (by decide)
      rw [q]
      rfl
    . rw [one_eq,one_eq] at hb
      simp only [Bool.or_eq_false_iff,decide_eq_false_iff_not] at hb
      have q:(a != b && b != c)=true:=by
        simp only [Bool.and_eq_true,bne_iff_ne]
        exact ⟨hb.2.1,hb.2.2⟩
      have lo:∀ d,d ∈ [(.str ⟨#[a]⟩:Dat),.str ⟨#[b]⟩,.str ⟨#[c]⟩]->PySem.W.kqdOk 8 d=true:=fun d hd=>by
        simp only [List.mem_cons,List.mem_nil_iff,or_false] at hd
        rcases hd with rfl | rfl | rfl
        . exact kqd_one (az.2 a (by simp))
        . exact kqd_one (az.2 b (by simp))
        . exact kqd_one (az.2 c (by simp))
      refine S.ret1 (s:=.dat (.bool (isHg ⟨#[a,b,c]⟩))) (E1.to (E1.eq (E1.lenL (A1.cons (E1.vwo (E1.compF (ds:=[.str ⟨#[a]⟩,.str ⟨#[b]⟩,.str ⟨#[c]⟩]) (f:=id) (kp:=inXyz) (Wk.str (z:=⟨#[a,b,c]⟩) (E1.var rfl) az.all) (fun d hd=>T1.test (E1.inD (d:=d) (ds:=[.str "x",.str "y",.str "z"]) (E1.var rfl) (E1.vwo (E1.li (A1.cons E1.str (A1.cons E1.str (A1.cons E1.str A1.nil))) rfl (show 3<=sizeLine from z3))) rfl rfl (lo d hd) (by decide +kernel) (inXyz_mem d))) (fun d hd _=>(E1.var rfl)) (show 3<=sizeLine from z3))) A1.nil)) E1.int) ?_) ⟨rfl,rfl⟩
      rw [good_len,inXyz_one,inXyz_one,inXyz_one,isHg_three,q]
      simp only [Bool.true_and]
  . refine S.ifs (T1.orT ((T1.test (E1.ne (E1.lenS (z:=z) (A1.cons (E1.var rfl) A1.nil) az.le) E1.int)).eqn (by rw [decide_eq_false (fun e=>h3 (by omega))];rfl))) (fun _=>?_) (fun z=>by cases z)
    exact S.ret1 (s:=.dat (.bool false)) E1.bl ⟨by rw [isHg_len h3],rfl⟩
theorem scLFault:FnScope ["_law_way","_law_text_here","_law_settings","_law_four_here","_law_fault_here","e"] ["_law_way","_law_text_here","_law_settings","_law_four_here"] (defScope sLFault):=⟨rfl,rfl,rfl,by decide +kernel,rfl,by decide +kernel,by decide +kernel⟩
theorem ok_lfault (F:Fun K "_law_fault" "_law_fault" sLFault f fd) (m_TurnError:mg "TurnError" = some (.ref cTurnError)) (x_NoHanger:Xc K "NoHanger" cNoHanger) (u_NoHanger:PySem.W.exmOne K (.ref cNoHanger) (.ref cTurnError)=some true)
    (G:FnOk P w K mg base CX0 5 g gd ["hanger","settings"] (spP K RHung)) (bG:Binds K gd ["hanger","settings"] []) (kG:PySem.W.keepIn K (.ref g)=true) (mG:mg "hung" = some (.ref g))
    (G2:FnOk P w K mg base (CXx P w (.ref cNoHanger)) 3 g2 gd2 ["hanger","settings"] (spB K BHg2)) (bG2:Binds K gd2 ["hanger","settings"] []) (kG2:PySem.W.keepIn K (.ref g2)=true) (mG2:mg "hung" = some (.ref g2))
    (G3:FnOk P w K mg base CX0 6 g3 gd3 ["hanger","four"] (spP K RSof)) (bG3:Binds K gd3 ["hanger","four"] []) (kG3:PySem.W.keepIn K (.ref g3)=true) (mG3:mg "settings_of" = some (.ref g3))
    (G4:FnOk P w K mg base (CXx P w (.ref cNoHanger)) 3 g4 gd4 ["hanger","four"] (spB K BHg2)) (bG4:Binds K gd4 ["hanger","four"] []) (kG4:PySem.W.keepIn K (.ref g4)=true) (mG4:mg "settings_of" = some (.ref g4)) :
    FnOk P w K mg base CX0 7 f fd ["_law_way","_law_text_here","_law_settings","_law_four_here"] (spP K RFault):=by
  refine okPx F scLFault (fun ds d h=>?_) (fun cdv A0 outer s0 H0 vs ds d E0 hr h=>?_)
  . obtain ⟨_,_,_,_,_,_,_,_,_,rfl,_⟩:=h;rfl
  have r:=hr.mono (show 5<=6 by decide)
  have r2:=hr.mono (show 3<=6 by decide)
  have r3:=hr.mono (show 6<=6 by decide)
  obtain ⟨w0,z,a,b,c,e,f0,g0,ns,rfl,az,n1,n2,n3,b1,b2,b3,l4,nz,bn,rfl⟩:=h
  by_cases hz:isHg z=true
  . rw [if_pos hz]
    obtain ⟨i,j,k,rfl,hh⟩:=isHg_ex hz
    obtain ⟨D0,hD⟩:=SofA.ex i j k ((tpN j (le3 i j k) ns).getD (i + 1) 0) ((tpN j (le3 i j k) ns).getD 0 0) (hd i j * (tpN j (le3 i j k) ns).getD (th3' i j + 1) 0) ((tpN j (le3 i j k) ns).getD (j + 1) 0)
    refine ⟨_,(zss_cons (zs_set (i:=4) scLFault.nd rfl (Or.inl rfl) ze_non)
      (zss_cons (zs_tryOk (zss_one (zs_if (zt_cmpR op_eq (zv 0) ze_int (nomark _)) (zss_one (zs_expr (ze_call G r rfl mG kG bG .nil pass0 (za_n (zv 1) (za_n (zv 2) za_nil))))) (zss_one (zs_expr (ze_call G3 r3 rfl mG3 kG3 bG3 .nil pass0 (za_n (zv 1) (za_n (zv 3) za_nil))))))))
      (zss_one (zs_ret (zv 4))))),?_⟩
    refine S.let1 (s:=.dat .none) E1.non ?_
    refine S.seq (M:=fun τ'=>τ'=[.dat (.int w0),.dat (.str (hg i j k)),.dat (.tuple [tI [a,b],tI [c,e],tI [f0,g0]]),.dat (tI ns),.dat .none,.un]) (S.if1 (T1.test (E1.eq (E1.var rfl) E1.int)) (fun _=>S.drop (s:=.dat (tI (hu (rf i a b) (rf j c e) (rf k f0 g0)))) (E1.call (R:=RHung) (A1.cons (E1.var rfl) (A1.cons (E1.var rfl) A1.nil)) ⟨i,j,k,a,b,c,e,f0,g0,rfl,hh,n1,n2,n3,b1,b2,b3,rfl⟩) rfl) (fun _=>S.drop (s:=.dat D0) (E1.call (R:=RSof) (A1.cons (E1.var rfl) (A1.cons (E1.var rfl) A1.nil)) ⟨i,j,k,ns,rfl,hh,l4,nz,bn,hD⟩) rfl)) (fun τ' e=>?_)
    subst e
    exact S.ret1 (s:=.dat .none) (E1.var rfl) (.inl ⟨rfl,rfl⟩)
  . rw [if_neg hz]
    have hz':isHg z=false:=Bool.eq_false_iff.mpr hz
    refine ⟨_,(zss_cons (zs_set (i:=4) scLFault.nd rfl (Or.inl rfl) ze_non)
      (zss_cons (zs_tryAs (i:=5) (C:=.ref cNoHanger) (cT:=cTurnError) scLFault.nd rfl rfl (by rfl) m_TurnError u_NoHanger (rss_here (rs_if (zt_cmpR op_eq (zv 0) ze_int (nomark _)) (rss_here (rs_expr (re_call G2 r2 (by rfl) mG2 kG2 bG2 (za_n (zv 1) (za_n (zv 2) za_nil))))) (rss_here (rs_expr (re_call G4 r2 (by rfl) mG4 kG4 bG4 (za_n (zv 1) (za_n (zv 3) za_nil))))))) (fun ex=>zss_one (zs_set (i:=4) scLFault.nd rfl (Or.inl rfl) (zv 5))))
      (zss_one (zs_ret (zv 4))))),?_⟩
    refine S.let1 (s:=.dat .none) E1.non ?_
    refine S.seq (M:=fun τ'=>τ'=[.dat (.int w0),.dat (.str z),.dat (.tuple [tI [a,b],tI [c,e],tI [f0,g0]]),.dat (tI ns),.dt (excO cNH),.un]) (S.tryAs (SX.iff (T1.test (E1.eq (E1.var rfl) E1.int)) (fun _=>SX.call (B:=BHg2) (A1.cons (E1.var rfl) (A1.cons (E1.var rfl) A1.nil)) ⟨z,_,rfl,az,hz'⟩) (fun _=>SX.call (B:=BHg2) (A1.cons (E1.var rfl) (A1.cons (E1.var rfl) A1.nil)) ⟨z,_,rfl,az,hz'⟩)) (xn_NH x_NoHanger) (by decide) (fun τ' e=>by subst e;exact (show 5 < 6 by decide)) (fun τ' e=>by subst e;rfl)) (fun τ' e=>?_)
    subst e
    exact S.retT rfl (.inr ⟨_,rfl,rfl⟩)
theorem scLRight34:FnScope ["_law_fault_here","_law_good_here"] ["_law_fault_here","_law_good_here"] (defScope sLRight34):=⟨rfl,rfl,rfl,by decide +kernel,rfl,by decide +kernel,by decide +kernel⟩
theorem ok_lright34 (F:Fun K "_law_right" "_law_right" sLRight34 f fd) (m_NoDeed:mg "NoDeed" = some (.ref cNoDeed)) (m_NoJoint:mg "NoJoint" = some (.ref cNoJoint)) (m_NoMark:mg "NoMark" = some (.ref cNoMark)) (m_NoName:mg "NoName" = some (.ref cNoName)) (m_NoReach:mg "NoReach" = some (.ref cNoReach)) (m_NoText:mg "NoText" = some (.ref cNoText)) (m_NoTurn:mg "NoTurn" = some (.ref cNoTurn)) (m_TooMany:mg "TooMany" = some (.ref cTooMany)) (m_NoHanger:mg "NoHanger" = some (.ref cNoHanger)) (x_NoHanger:Xc K "NoHanger" cNoHanger) (l_NoHanger:XcL K cNoHanger)
    (kt34:PySem.W.kitAny K (.ref cNoHanger) [.ref cNoDeed,.ref cNoJoint,.ref cNoMark,.ref cNoName,.ref cNoReach,.ref cNoText,.ref cNoTurn,.ref cTooMany]=some false) (s_NoHanger:PySem.W.kitOne K (.ref cNoHanger) (.ref cNoHanger)=some true) (v_NoHanger:PySem.W.kitOne K (.ref cNoHanger) (.type "ValueError")=some true) (m_isinstance:mg "isinstance" = none) (m_ValueError:mg "ValueError" = none) :
    FnOk P w K mg base CX0 1 f fd ["_law_fault_here","_law_good_here"] (spP K RRight34):=by
  refine okP F scLRight34 (fun ds d h=>?_) (fun cdv A0 outer s0 H0 E0 hr=>?_)
  . obtain ⟨_,rfl | rfl⟩:=h <;> rfl
  refine ⟨_,(zss_cons (zs_if (zt_val (zv 1)) (zss_one (zs_ret (ze_cmpR op_isN (zv 0) ze_non (nomark _)))) zss_nil)
    (zss_cons (zs_if (zt_val (ze_callB call_isXT rfl m_isinstance (by rfl) (za_n (zv 0) (za_t (ze_tup (za_n (ze_glob (v:=.ref cNoDeed) rfl m_NoDeed rfl) (za_n (ze_glob (v:=.ref cNoJoint) rfl m_NoJoint rfl) (za_n (ze_glob (v:=.ref cNoMark) rfl m_NoMark rfl) (za_n (ze_glob (v:=.ref cNoName) rfl m_NoName rfl) (za_n (ze_glob (v:=.ref cNoReach) rfl m_NoReach rfl) (za_n (ze_glob (v:=.ref cNoText) rfl m_NoText rfl) (za_n (ze_glob (v:=.ref cNoTurn) rfl m_NoTurn rfl) (za_n (ze_glob (v:=.ref cTooMany) rfl m_TooMany rfl) za_nil))))))))) za_nil)))) (zss_one (zs_ret ze_bl)) zss_nil)
    (zss_one (zs_ret (ze_and (ze_callB call_isX rfl m_isinstance (by rfl) (za_n (zv 0) (za_n (ze_glob (v:=.ref cNoHanger) rfl m_NoHanger rfl) za_nil))) (ze_one (ze_callB call_isX rfl m_isinstance (by rfl) (za_n (zv 0) (za_n (ze_tyn rfl m_ValueError (by rfl)) za_nil))))))))),fun ds d h=>?_⟩
  obtain ⟨rfl,rfl | rfl⟩:=h
  . exact S.ifs (T1.val (E1.var rfl)) (fun _=>S.ret1 (s:=.dat (.bool true)) (E1.isN (d:=.none) (E1.var rfl) E1.non) ⟨rfl,rfl⟩) (fun z=>by cases z)
  . refine S.ifsF (T1.val (E1.var rfl)) ?_
    refine S.ifsF (T1.val (E1.isXT (cs:=[cNoDeed,cNoJoint,cNoMark,cNoName,cNoReach,cNoText,cNoTurn,cTooMany]) (show 8<=sizeLine by decide) (xn_NH x_NoHanger) l_NoHanger kt34 (E1.var rfl))) ?_
    exact S.ret1 (s:=.dat (.bool true)) (E1.andV (E1.isX (xn_NH x_NoHanger) l_NoHanger s_NoHanger (E1.var rfl)) (fun _=>E1.isXty (xn_NH x_NoHanger) l_NoHanger v_NoHanger (E1.var rfl)) (fun z=>by cases z)) ⟨rfl,rfl⟩
theorem scLaw:FnScope ["_law_script","_law_purse_here","_law_four_here","_law_settings","_law_k","_law_text_here","_law_way"] ["_law_script"] (defScope sLaw):=⟨rfl,rfl,rfl,by decide +kernel,rfl,by decide +kernel,by decide +kernel⟩
theorem ok_law (F:Fun K "law" "law" sLaw f fd)
    (G:FnOk P w K mg base CX0 2 g gd ["_law_script"] (spPurse K)) (bG:Binds K gd ["_law_script"] []) (kG:PySem.W.keepIn K (.ref g)=true) (mG:mg "_law_purse" = some (.ref g))
    (G2:FnOk P w K mg base CX0 3 g2 gd2 ["_law_purse_here"] (spFour K)) (bG2:Binds K gd2 ["_law_purse_here"] []) (kG2:PySem.W.keepIn K (.ref g2)=true) (mG2:mg "_law_four" = some (.ref g2))
    (G3:FnOk P w K mg base CX0 3 g3 gd3 ["_law_purse_here"] (spU K RSet)) (bG3:Binds K gd3 ["_law_purse_here"] []) (kG3:PySem.W.keepIn K (.ref g3)=true) (mG3:mg "_law_setting" = some (.ref g3))
    (G4:FnOk P w K mg base CX0 3 g4 gd4 ["_law_purse_here"] (spU K RText)) (bG4:Binds K gd4 ["_law_purse_here"] []) (kG4:PySem.W.keepIn K (.ref g4)=true) (mG4:mg "_law_text" = some (.ref g4))
    (G5:FnOk P w K mg base CX0 1 g5 gd5 ["_law_fault_here","_law_good_here"] (spP K RRight34)) (bG5:Binds K gd5 ["_law_fault_here","_law_good_here"] []) (kG5:PySem.W.keepIn K (.ref g5)=true) (mG5:mg "_law_right" = some (.ref g5))
    (G6:FnOk P w K mg base CX0 1 g6 gd6 ["_law_text_here"] (spP K RIsHX)) (bG6:Binds K gd6 ["_law_text_here"] []) (kG6:PySem.W.keepIn K (.ref g6)=true) (mG6:mg "_law_good" = some (.ref g6))
    (G7:FnOk P w K mg base CX0 7 g7 gd7 ["_law_way","_law_text_here","_law_settings","_law_four_here"] (spP K RFault)) (bG7:Binds K gd7 ["_law_way","_law_text_here","_law_settings","_law_four_here"] []) (kG7:PySem.W.keepIn K (.ref g7)=true) (mG7:mg "_law_fault" = some (.ref g7)) (m_tuple:mg "tuple" = none) (m_range:mg "range" = none) :
    FnOk P w K mg base CX0 8 f fd ["_law_script"] (spLaw K):=by
  refine okL F scLaw rfl (fun cdv A0 outer s0 H0 E0 hr=>?_)
  have r:=hr.mono (show 2<=7 by decide)
  have r2:=hr.mono (show 3<=7 by decide)
  have r3:=hr.mono (show 3<=7 by decide)
  have r4:=hr.mono (show 3<=7 by decide)
  have r5:=hr.mono (show 1<=7 by decide)
  have r6:=hr.mono (show 1<=7 by decide)
  have r7:=hr.mono (show 7<=7 by decide)
  refine ⟨_,(zss_cons (zs_set (i:=1) scLaw.nd rfl (Or.inr rfl) (ze_call G r rfl mG kG bG .nil pass0 (za_n (zv 0) za_nil)))
    (zss_cons (zs_set (i:=2) scLaw.nd rfl (Or.inl rfl) (ze_call G2 r2 rfl mG2 kG2 bG2 .nil pass0 (za_n (zv 1) za_nil)))
    (zss_cons (zs_set (i:=3) scLaw.nd rfl (Or.inl rfl) (ze_callTy call_tuple_of rfl m_tuple (by rfl) (za_cons (ze_comp (own:=["_law_k"]) scLaw rfl ⟨by decide +kernel,rfl,by decide +kernel,by decide +kernel,by decide +kernel,by decide +kernel,by decide +kernel,by decide +kernel,by decide +kernel⟩ (zi_range1 rfl m_range (za_i za_nil)) (fun C fp s H nd=>zg_name (i:=0) nd rfl (Or.inl rfl)) (fun C fp s H=>zts_nil) (fun C fp s H=>(ze_call G3 r3 rfl mG3 kG3 bG3 .nil pass0 (za_n (zv 2) za_nil)))) za_nil)))
    (zss_cons (zs_for PassesOwn.never rfl (zi_range1 rfl m_range (za_i za_nil)) (zg_name (i:=4) scLaw.nd rfl (Or.inl rfl)) (zss_cons (zs_set (i:=5) scLaw.nd rfl (Or.inl rfl) (ze_call G4 r4 rfl mG4 kG4 bG4 .nil pass0 (za_n (zv 1) za_nil)))
    (zss_one (zs_for PassesOwn.never rfl (zi_range1 rfl m_range (za_i za_nil)) (zg_name (i:=6) scLaw.nd rfl (Or.inl rfl)) (zss_one (zs_if (zt_not (zt_val (ze_call G5 r5 rfl mG5 kG5 bG5 .nil pass0 (za_c (ze_call G7 r7 rfl mG7 kG7 bG7 .nil pass0 (za_n (zv 6) (za_n (zv 5) (za_n (zv 3) (za_n (zv 2) za_nil))))) (za_c (ze_call G6 r6 rfl mG6 kG6 bG6 .nil pass0 (za_n (zv 5) za_nil)) za_nil))))) (zss_one (zs_ret ze_bl)) zss_nil))))))
    (zss_one (zs_ret (ze_call G5 r5 rfl mG5 kG5 bG5 .nil pass0 (za_c (ze_call G7 r7 rfl mG7 kG7 bG7 .nil pass0 (za_i (za_cons ze_str (za_n (zv 3) (za_n (zv 2) za_nil))))) (za_cons ze_bl za_nil))))))))),fun sc hl hb=>?_⟩
  refine S.purse1 (ns:=sc) (A1.cons (E1.var rfl) A1.nil) hl hb (fun q=>?_) (fun s h=>⟨_,h⟩)
  refine S.letC (ER.four (A1.cons (E1.varP rfl) A1.nil)) (fun s ⟨_,e,_⟩=>by rw [e];rfl) fun s ⟨ns,es,l4,nz,bd⟩=>?_
  subst es
  have bn:Bd (2 ^ 300) ns:=bd_mono bd (by decide)
  refine S.letC (E.tupC (E.compC (Cd:=fun _ e=>∃ k l:Int,e=tI [k,l]/\(k ≠ 0\/l ≠ 0)/\Bd (10 ^ 12) [k,l]) (Wk.r3 (A1.cons E1.int A1.nil)) (fun d hd=>E.callU (R:=RSet) (ds:=[]) (A1.cons (E1.varP rfl) A1.nil) ⟨rfl,rfl⟩) (lsz (n:=3) rfl z3))) (fun s ⟨_,e,_⟩=>by rw [e];rfl) fun s ⟨ss,es,l3,he⟩=>?_
  subst es
  match ss,l3 with
  | [t1,t2,t3],_ =>
  obtain ⟨_,_,a,b,rfl,n1,b1'⟩:=he 0 t1 rfl
  obtain ⟨_,_,c,e,rfl,n2,b2'⟩:=he 1 t2 rfl
  obtain ⟨_,_,f0,g0,rfl,n3,b3'⟩:=he 2 t3 rfl
  have b1:Bd (2 ^ 50) [a,b]:=bd_mono b1' (by decide)
  have b2:Bd (2 ^ 50) [c,e]:=bd_mono b2' (by decide)
  have b3:Bd (2 ^ 50) [f0,g0]:=bd_mono b3' (by decide)
  refine S.seq (M:=fun τ'=>∃ o1 o2 o3:Sl,τ'=[.dat (.list (sc.map .int)),.pu,.dat (tI ns),.dat (.tuple [tI [a,b],tI [c,e],tI [f0,g0]]),o1,o2,o3]) ?_ fun τ' ⟨o1,o2,o3,eτ⟩=>?_
  . refine S.for (Wk.rng (n:=12) (A1.cons E1.int A1.nil) rfl) (fun _ τ'=>∃ o1 o2 o3:Sl,τ'=[.dat (.list (sc.map .int)),.pu,.dat (tI ns),.dat (.tuple [tI [a,b],tI [c,e],tI [f0,g0]]),o1,o2,o3]) ⟨_,_,_,rfl⟩ (fun n dd τ1 hd ⟨o1,o2,o3,e1⟩=>?_) (fun τ1 h=>h)
    subst e1
    refine ⟨_,Gd.name,?_⟩
    refine S.letC (E.callU (R:=RText) (ds:=[]) (A1.cons (E1.varP rfl) A1.nil) ⟨rfl,rfl⟩) (fun s ⟨_,e,_⟩=>by rw [e];rfl) fun s ⟨d',es,z,e2,az⟩=>?_
    subst es e2
    refine S.for (Wk.rng (n:=2) (A1.cons E1.int A1.nil) rfl) (fun _ τ'=>∃ o1 o3:Sl,τ'=[.dat (.list (sc.map .int)),.pu,.dat (tI ns),.dat (.tuple [tI [a,b],tI [c,e],tI [f0,g0]]),o1,.dat (.str z),o3]) ⟨_,_,rfl⟩ (fun m dm τ1 hm ⟨o1,o3,e1⟩=>?_) (fun τ1 ⟨o1,o3,e1⟩=>⟨_,_,_,e1⟩)
    subst e1
    refine ⟨_,Gd.name,?_⟩
    have wv:∃ w0:Int,dm = .int w0:=by
      have:=List.mem_of_getElem? hm
      obtain ⟨w0,_,e⟩:=List.mem_map.mp this
      exact ⟨_,e.symm⟩
    obtain ⟨w0,rfl⟩:=wv
    have rr:RRight34 [(if isHg z=true then .none else .bytes cNH),.bool (isHg z)] (.bool true):=by
      refine ⟨rfl,?_⟩
      cases h:isHg z
      . right;rfl
      . left;rfl
    exact S.ifF (T1.notT (T1.val (E1.call (R:=RRight34) (A1.cons (E1.call (R:=RFault) (ds:=[.int w0,.str z,.tuple [tI [a,b],tI [c,e],tI [f0,g0]],tI ns]) (A1.cons (E1.var rfl) (A1.cons (E1.var rfl) (A1.cons (E1.var rfl) (A1.cons (E1.var rfl) A1.nil)))) ⟨w0,z,a,b,c,e,f0,g0,ns,rfl,az,n1,n2,n3,b1,b2,b3,l4,nz,bn,rfl⟩) (A1.cons (E1.call (R:=RIsHX) (A1.cons (E1.var rfl) A1.nil) ⟨z,rfl,az,rfl⟩) A1.nil)) rr))) (S.next ⟨_,_,rfl⟩)
  subst eτ
  exact S.ret1 (s:=.dat (.bool true)) (E1.call (R:=RRight34) (A1.cons (E1.call (R:=RFault) (ds:=[.int 0,.str (hg 0 1 0),.tuple [tI [a,b],tI [c,e],tI [f0,g0]],tI ns]) (A1.cons E1.int (A1.cons E1.str (A1.cons (E1.var rfl) (A1.cons (E1.var rfl) A1.nil)))) ⟨0,(hg 0 1 0),a,b,c,e,f0,g0,ns,rfl,((Asc.hg (by decide) (by decide) (by decide)).mono (by decide)),n1,n2,n3,b1,b2,b3,l4,nz,bn,rfl⟩) (A1.cons E1.bl A1.nil)) ⟨rfl,.inl rfl⟩) rfl
theorem scSop:FnScope ["one","other"] ["one","other"] (defScope sSop):=⟨rfl,rfl,rfl,by decide +kernel,rfl,by decide +kernel,by decide +kernel⟩
theorem ok_sop (F : Fun K "sum_of_products" "sum_of_products" sSop f fd) (ms : mg "sum" = none) (mz : mg "zip" = none) : FnOk P w K mg base CX0 1 f fd ["one", "other"] (spSop K) := by
  refine F.okZ scSop (fun vs H Q E h=>?_) (fun cdv A outer s H vs Q E hr h=>?_)
  . obtain ⟨a,b,ns,ms,rfl,_⟩:=h;rfl
  obtain ⟨a,b,ns,ms,rfl,hS,hT,hl,hl2,s1,s2,q⟩:=h
  refine ⟨_,zss_one (zs_ret (ze_callB (call_sumL rfl) rfl ‹_› (by rfl) (za_cons (ze_comp (own:=["left","right"]) scSop rfl ⟨by decide +kernel,rfl,by decide +kernel,by decide +kernel,by decide +kernel,by decide +kernel,by decide +kernel,by decide +kernel,by decide +kernel⟩
      (zi_zip rfl mz (za_cons (zv 0) (za_cons (zv 1) za_nil)))
      (fun C fp s H nd=>zg_pair rfl nd rfl rfl rfl rfl) (fun C fp s H=>zts_nil) (fun C fp s H=>ze_op op_mulB (zv 0) (zv 1))) za_nil))),?_⟩
  refine ⟨_,rfl,_,rfl,a,b,rfl,⟨_,hS⟩,⟨_,hT⟩,?_⟩
  refine comp_zip (K:=K) ((List.zipWith (· * ·) ns ms).map PySem.W.Dat.int) hS hT (by simp [hl2]) (by simp [hl2]) (by rw [List.length_map];exact Nat.le_of_lt (small1000 hl)) (fun i x y H' d hx hy hd hs=>?_) (fun σ' H2 Q1 Q2 hq h=>?_) (fun D H' ys hs hy hD hf=>?_)
  . rw [List.getElem?_map] at hx hy hd
    rw [List.getElem?_zipWith] at hd
    cases e:ns[i]? with
    | none=>rw [e] at hx;cases hx
    | some n =>
      cases e2:ms[i]? with
      | none=>rw [e2] at hy;cases hy
      | some m =>
        rw [e] at hx hd
        rw [e2] at hy hd
        cases hx;cases hy;cases hd
        exact ⟨_,rfl,_,rfl,n,m,rfl,rfl,mulOk_of (pow_lift (s1 n (List.mem_of_getElem? e))) (pow_lift (s2 m (List.mem_of_getElem? e2))),Same.refl _,.int _⟩
  . obtain ⟨v1,e1,v2,e2,i,j,e3,e4,e5,q⟩:=h
    exact ⟨v1,e1,v2,e2,i,j,e3,e4,e5,hq _ _ q⟩
  . refine ⟨D,_,rfl,?_,q _ hs⟩
    rw [Fzs.ints_inv hf] at hy
    exact SqL.of hy
theorem scIsHg:FnScope ["hanger"] ["hanger"] (defScope sIsHg):=⟨rfl,rfl,rfl,by decide +kernel,rfl,by decide +kernel,by decide +kernel⟩
theorem ok_ishg (F:Fun K "is_hanger" "is_hanger" sIsHg f fd) (m_len:mg "len" = none) (m_all:mg "all" = none) (m_WAYS:mg "WAYS" = some (.ref dWAYS)) (t_WAYS:TabS K dWAYS ways) :
    FnOk P w K mg base CX0 1 f fd ["hanger"] (spP K RIsH):=by
  refine okP F scIsHg (fun ds d h=>?_) (fun cdv A0 outer s0 H0 E0 hr=>?_)
  . obtain ⟨i,j,k,rfl,_⟩:=h;rfl
  refine ⟨_,(zss_cons (zs_if (ZW.pt (zw_or (zt_cmpR op_ne (ze_callB call_len_str rfl m_len PySem.boot_len (za_n (zv 0) za_nil)) ze_int (nomark _)) (zw_or (zt_cmpR op_eq (ze_ix ix_str (zv 0) ze_int (fun _ _=>rfl)) (ze_ix ix_str (zv 0) ze_int (fun _ _=>rfl)) (nomark _)) (zw_or1 (zt_cmpR op_eq (ze_ix ix_str (zv 0) ze_int (fun _ _=>rfl)) (ze_ix ix_str (zv 0) ze_int (fun _ _=>rfl)) (nomark _)))))) (zss_one (zs_ret ze_bl)) zss_nil)
    (zss_one (zs_ret (ze_callB (call_allL rfl) rfl m_all (by rfl) (za_cons (ze_comp (own:=["letter"]) scIsHg rfl ⟨by decide +kernel,rfl,by decide +kernel,by decide +kernel,by decide +kernel,by decide +kernel,by decide +kernel,by decide +kernel,by decide +kernel⟩ (zi_str (zv 0)) (fun C fp s H nd=>zg_name (i:=0) nd rfl (Or.inl rfl)) (fun C fp s H=>zts_nil) (fun C fp s H=>(ze_cmpR op_tinC (zv 0) (ze_glob (v:=.ref dWAYS) rfl m_WAYS rfl) (by with_unfolding_all rfl)))) za_nil))))),fun ds d h=>?_⟩
  obtain ⟨i,j,k,rfl,⟨hi,hj,hk,ij,jk⟩,rfl⟩:=h
  refine S.ifsF (T1.orF ((T1.test (E1.ne (E1.lenS (z:=hg i j k) (A1.cons (E1.var rfl) A1.nil) (show 3<=sizeLine from z3)) E1.int)).eqn rfl) (T1.orF ((T1.test (E1.eqS (x:=lt1 i) (y:=lt1 j) (E1.ixS (z:=hg i j k) (E1.var rfl) E1.int (show 3<=sizeLine from z3) rfl) (E1.ixS (z:=hg i j k) (E1.var rfl) E1.int (show 3<=sizeLine from z3) rfl))).eqn (decide_eq_false (lt_ne ij))) ((T1.test (E1.eqS (x:=lt1 j) (y:=lt1 k) (E1.ixS (z:=hg i j k) (E1.var rfl) E1.int (show 3<=sizeLine from z3) rfl) (E1.ixS (z:=hg i j k) (E1.var rfl) E1.int (show 3<=sizeLine from z3) rfl))).eqn (decide_eq_false (lt_ne jk))))) ?_
  exact S.ret1 (s:=.dat (.bool true)) (E1.to (E1.allL (bs:=[true,true,true]) (E1.comp3 (d1:=.str (lt1 i)) (d2:=.str (lt1 j)) (d3:=.str (lt1 k)) (Wk.str (z:=hg i j k) (E1.var rfl) (hg_ascii i hi j hj k hk)) (E1.to (E1.tin t_WAYS (E1.var rfl)) (by rw [way_in i hi])) (E1.to (E1.tin t_WAYS (E1.var rfl)) (by rw [way_in j hj])) (E1.to (E1.tin t_WAYS (E1.var rfl)) (by rw [way_in k hk])))) rfl) ⟨rfl,rfl⟩
theorem scRefHg:FnScope ["hanger"] ["hanger"] (defScope sRefHg):=⟨rfl,rfl,rfl,by decide +kernel,rfl,by decide +kernel,by decide +kernel⟩
theorem ok_refhg (F:Fun K "refuse_no_hanger" "refuse_no_hanger" sRefHg f fd)
    (G:FnOk P w K mg base CX0 1 g gd ["hanger"] (spP K RIsH)) (bG:Binds K gd ["hanger"] []) (kG:PySem.W.keepIn K (.ref g)=true) (mG:mg "is_hanger" = some (.ref g)) :
    FnOk P w K mg base CX0 2 f fd ["hanger"] (spP K RRefH):=by
  refine okP F scRefHg (fun ds d h=>?_) (fun cdv A0 outer s0 H0 E0 hr=>?_)
  . obtain ⟨i,j,k,rfl,_⟩:=h;rfl
  have r:=hr.mono (show 1<=1 by decide)
  refine ⟨_,(zss_one (zs_if (zt_not (zt_val (ze_call G r rfl mG kG bG .nil pass0 (za_n (zv 0) za_nil)))) (zss_one zs_never) zss_nil)),fun ds d h=>?_⟩
  obtain ⟨i,j,k,rfl,h,rfl⟩:=h
  exact S.ifF (T1.notT (T1.val (E1.call (R:=RIsH) (A1.cons (E1.var rfl) A1.nil) ⟨i,j,k,rfl,h,rfl⟩))) (S.next rfl)
theorem scHung:FnScope ["hanger","settings","first","middle","last"] ["hanger","settings"] (defScope sHung):=⟨rfl,rfl,rfl,by decide +kernel,rfl,by decide +kernel,by decide +kernel⟩
theorem ok_hung (F:Fun K "hung" "hung" sHung f fd)
    (G:FnOk P w K mg base CX0 2 g gd ["hanger"] (spP K RRefH)) (bG:Binds K gd ["hanger"] []) (kG:PySem.W.keepIn K (.ref g)=true) (mG:mg "refuse_no_hanger" = some (.ref g))
    (G2:FnOk P w K mg base CX0 4 g2 gd2 ["way","setting"] (spAbout K)) (bG2:Binds K gd2 ["way","setting"] []) (kG2:PySem.W.keepIn K (.ref g2)=true) (mG2:mg "about" = some (.ref g2))
    (G3:FnOk P w K mg base CX0 4 g3 gd3 ["one","other"] (spThen K)) (bG3:Binds K gd3 ["one","other"] []) (kG3:PySem.W.keepIn K (.ref g3)=true) (mG3:mg "then" = some (.ref g3)) (m_WAYS:mg "WAYS" = some (.ref dWAYS)) (t_WAYS:TabS K dWAYS ways) :
    FnOk P w K mg base CX0 5 f fd ["hanger","settings"] (spP K RHung):=by
  refine okP F scHung (fun ds d h=>?_) (fun cdv A0 outer s0 H0 E0 hr=>?_)
  . obtain ⟨i,j,k,a,b,c,e,f,g,rfl,_⟩:=h;rfl
  have r:=hr.mono (show 2<=4 by decide)
  have r2:=hr.mono (show 4<=4 by decide)
  have r3:=hr.mono (show 4<=4 by decide)
  refine ⟨_,(zss_cons (zs_expr (ze_call G r rfl mG kG bG .nil pass0 (za_n (zv 0) za_nil)))
    (zss_cons (zs_set (i:=2) scHung.nd rfl (Or.inl rfl) (ze_call G2 r2 rfl mG2 kG2 bG2 .nil pass0 (za_s (ze_tix (ze_glob (v:=.ref dWAYS) rfl m_WAYS rfl) (ze_ix ix_str (zv 0) ze_int (fun _ _=>rfl)) (fun _ _=>rfl)) (za_s (ze_ix ix_tup (zv 1) ze_int (fun _ _=>rfl)) za_nil))))
    (zss_cons (zs_set (i:=3) scHung.nd rfl (Or.inl rfl) (ze_call G2 r2 rfl mG2 kG2 bG2 .nil pass0 (za_s (ze_tix (ze_glob (v:=.ref dWAYS) rfl m_WAYS rfl) (ze_ix ix_str (zv 0) ze_int (fun _ _=>rfl)) (fun _ _=>rfl)) (za_s (ze_ix ix_tup (zv 1) ze_int (fun _ _=>rfl)) za_nil))))
    (zss_cons (zs_set (i:=4) scHung.nd rfl (Or.inl rfl) (ze_call G2 r2 rfl mG2 kG2 bG2 .nil pass0 (za_s (ze_tix (ze_glob (v:=.ref dWAYS) rfl m_WAYS rfl) (ze_ix ix_str (zv 0) ze_int (fun _ _=>rfl)) (fun _ _=>rfl)) (za_s (ze_ix ix_tup (zv 1) ze_int (fun _ _=>rfl)) za_nil))))
    (zss_one (zs_ret (ze_call G3 r3 rfl mG3 kG3 bG3 .nil pass0 (za_c (ze_call G3 r3 rfl mG3 kG3 bG3 .nil pass0 (za_n (zv 4) (za_n (zv 3) za_nil))) (za_n (zv 2) za_nil))))))))),fun ds d h=>?_⟩
  obtain ⟨i,j,k,a,b,c,e,f,g,rfl,hh,n1,n2,n3,b1,b2,b3,rfl⟩:=h
  have hh':=hh
  obtain ⟨hi,hj,hk,ij,jk⟩:=hh'
  refine S.dropS (s:=.dat .none) (E1.call (R:=RRefH) (A1.cons (E1.var rfl) A1.nil) ⟨i,j,k,rfl,hh,rfl⟩) ?_
  refine S.let1 (s:=.dat (tI (pl (rf i a b)))) (E1.cAbout (x:=w1 i) (y:=w2 i) (z:=w3 i) (k:=a) (l:=b) (A1.cons (E1.tix t_WAYS (E1.ixS (z:=hg i j k) (c:=120 + i) (E1.var rfl) E1.int (show 3<=sizeLine from z3) rfl) (way_at i hi)) (A1.cons (E1.ixT (E1.var rfl) E1.int rfl) A1.nil)) (rf_nz hi n1) (bd_mono (w_bd i hi) (by decide)) (bd_up b1)) ?_
  refine S.let1 (s:=.dat (tI (pl (rf j c e)))) (E1.cAbout (x:=w1 j) (y:=w2 j) (z:=w3 j) (k:=c) (l:=e) (A1.cons (E1.tix t_WAYS (E1.ixS (z:=hg i j k) (c:=120 + j) (E1.var rfl) E1.int (show 3<=sizeLine from z3) rfl) (way_at j hj)) (A1.cons (E1.ixT (E1.var rfl) E1.int rfl) A1.nil)) (rf_nz hj n2) (bd_mono (w_bd j hj) (by decide)) (bd_up b2)) ?_
  refine S.let1 (s:=.dat (tI (pl (rf k f g)))) (E1.cAbout (x:=w1 k) (y:=w2 k) (z:=w3 k) (k:=f) (l:=g) (A1.cons (E1.tix t_WAYS (E1.ixS (z:=hg i j k) (c:=120 + k) (E1.var rfl) E1.int (show 3<=sizeLine from z3) rfl) (way_at k hk)) (A1.cons (E1.ixT (E1.var rfl) E1.int rfl) A1.nil)) (rf_nz hk n3) (bd_mono (w_bd k hk) (by decide)) (bd_up b3)) ?_
  have m1:=rf_nz (k:=a) (l:=b) hi n1
  have m2:=rf_nz (k:=c) (l:=e) hj n2
  have m3:=rf_nz (k:=f) (l:=g) hk n3
  have d1:=bd_pl m1 (rf_bd hi b1)
  have d2:=bd_pl m2 (rf_bd hj b2)
  have d3:=bd_pl m3 (rf_bd hk b3)
  have l1:(pl (rf i a b)).length=4:=by rw [pl_length];rfl
  have l2:(pl (rf j c e)).length=4:=by rw [pl_length];rfl
  have l3:(pl (rf k f g)).length=4:=by rw [pl_length];rfl
  have nq:=nz_qm l2 l3 (nz_pl m2) (nz_pl m3)
  have lq:=qm_len l2 l3
  have bq:Bd (2 ^ 102) (qm (pl (rf j c e)) (pl (rf k f g))):=bd_mono (bd_qm l2 l3 d2 d3) (by decide)
  exact S.ret1 (s:=.dat (tI (hu (rf i a b) (rf j c e) (rf k f g)))) (E1.to (E1.cThen (ns:=pl (qm (pl (rf j c e)) (pl (rf k f g)))) (ms:=pl (rf i a b)) (A1.cons (E1.cThen (ns:=pl (rf k f g)) (ms:=pl (rf j c e)) (A1.cons (E1.var rfl) (A1.cons (E1.var rfl) A1.nil)) l3 l2 (nz_pl m3) (nz_pl m2) (bd_up d3) (bd_up d2)) (A1.cons (E1.var rfl) A1.nil)) (by rw [pl_length];exact lq) l1 (nz_pl nq) (nz_pl m1) (bd_up (bd_pl nq bq)) (bd_up d1)) (by rw [hu_prog rfl rfl rfl m1 m2 m3])) ⟨rfl,noLs_ints _⟩
theorem scSetOf:FnScope ["hanger","four","parts","length","number","root","both"] ["hanger","four"] (defScope sSetOf):=⟨rfl,rfl,rfl,by decide +kernel,rfl,by decide +kernel,by decide +kernel⟩
theorem ok_setof (F : Fun K "settings_of" "settings_of" sSetOf f fd)
    (G:FnOk P w K mg base CX0 2 g gd ["hanger"] (spP K RRefH)) (bG:Binds K gd ["hanger"] []) (kG:PySem.W.keepIn K (.ref g)=true) (mG:mg "refuse_no_hanger" = some (.ref g))
    (G2:FnOk P w K mg base CX0 4 g2 gd2 ["hanger","four"] (spP K RTwo)) (bG2:Binds K gd2 ["hanger","four"] []) (kG2:PySem.W.keepIn K (.ref g2)=true) (mG2:mg "two_parts" = some (.ref g2))
    (G3:FnOk P w K mg base CX0 1 g3 gd3 ["one","other"] (spSop K)) (bG3:Binds K gd3 ["one","other"] []) (kG3:PySem.W.keepIn K (.ref g3)=true) (mG3:mg "sum_of_products" = some (.ref g3))
    (G4:FnOk P w K mg base CX0 5 g4 gd4 ["hanger","parts"] (spP K RLok)) (bG4:Binds K gd4 ["hanger","parts"] []) (kG4:PySem.W.keepIn K (.ref g4)=true) (mG4:mg "locked" = some (.ref g4))
    (G5:FnOk P w K mg base CX0 2 g5 gd5 ["number"] (spP K RExact)) (bG5:Binds K gd5 ["number"] []) (kG5:PySem.W.keepIn K (.ref g5)=true) (mG5:mg "exact_root" = some (.ref g5))
    (G6:FnOk P w K mg base CX0 5 g6 gd6 ["hanger","parts","middle"] (spP K RSBy)) (bG6:Binds K gd6 ["hanger","parts","middle"] []) (kG6:PySem.W.keepIn K (.ref g6)=true) (mG6:mg "settings_by" = some (.ref g6)) (m_sorted:mg "sorted" = none) :
    FnOk P w K mg base CX0 6 f fd ["hanger","four"] (spP K RSof):=by
  refine okP F scSetOf (fun ds d h=>?_) (fun cdv A0 outer s0 H0 E0 hr=>?_)
  . obtain ⟨i,j,k,ns,rfl,_⟩:=h;rfl
  have r:=hr.mono (show 2<=5 by decide)
  have r2:=hr.mono (show 4<=5 by decide)
  have r3:=hr.mono (show 1<=5 by decide)
  have r4:=hr.mono (show 5<=5 by decide)
  have r5:=hr.mono (show 2<=5 by decide)
  have r6:=hr.mono (show 5<=5 by decide)
  refine ⟨_,(zss_cons (zs_expr (ze_call G r rfl mG kG bG .nil pass0 (za_n (zv 0) za_nil)))
    (zss_cons (zs_set (i:=2) scSetOf.nd rfl (Or.inl rfl) (ze_call G2 r2 rfl mG2 kG2 bG2 .nil pass0 (za_n (zv 0) (za_n (zv 1) za_nil))))
    (zss_cons (zs_set (i:=3) scSetOf.nd rfl (Or.inl rfl) (ze_call G3 r3 rfl mG3 kG3 bG3 .nil pass0 (za_s (ze_ix ix_tup (zv 2) ze_int (fun _ _=>rfl)) (za_s (ze_ix ix_tup (zv 2) ze_int (fun _ _=>rfl)) za_nil))))
    (zss_cons (zs_set (i:=4) scSetOf.nd rfl (Or.inl rfl) (ze_op op_mulB (zv 3) (ze_call G3 r3 rfl mG3 kG3 bG3 .nil pass0 (za_s (ze_ix ix_tup (zv 2) ze_int (fun _ _=>rfl)) (za_s (ze_ix ix_tup (zv 2) ze_int (fun _ _=>rfl)) za_nil)))))
    (zss_cons (zs_if (zt_cmpR op_eq (zv 4) ze_int (nomark _)) (zss_one (zs_ret (ze_call G4 r4 rfl mG4 kG4 bG4 .nil pass0 (za_n (zv 0) (za_n (zv 2) za_nil))))) zss_nil)
    (zss_cons (zs_set (i:=5) scSetOf.nd rfl (Or.inl rfl) (ze_call G5 r5 rfl mG5 kG5 bG5 .nil pass0 (za_n (zv 4) za_nil)))
    (zss_cons (zs_if (zt_cmpR op_isN (zv 5) ze_non (nomark _)) (zss_one (zs_ret (ze_tup (za_cons ze_str (za_n (zv 4) za_nil))))) zss_nil)
    (zss_cons (zs_set (i:=6) scSetOf.nd rfl (Or.inl rfl) (ze_callB (call_sorted2 hr.units) rfl m_sorted (by rfl) (za_l (ze_lst (za_c (ze_call G6 r6 rfl mG6 kG6 bG6 .nil pass0 (za_n (zv 0) (za_n (zv 2) (za_t (ze_tup (za_n (zv 5) (za_n (zv 3) za_nil))) za_nil)))) (za_c (ze_call G6 r6 rfl mG6 kG6 bG6 .nil pass0 (za_n (zv 0) (za_n (zv 2) (za_t (ze_tup (za_u (ze_un un_neg (zv 5)) (za_n (zv 3) za_nil))) za_nil)))) za_nil))) za_nil)))
    (zss_one (zs_ret (ze_tup (za_cons ze_str (za_s (ze_ix ix_list (zv 6) ze_int (fun _ _=>rfl)) (za_s (ze_ix ix_list (zv 6) ze_int (fun _ _=>rfl)) za_nil)))))))))))))),fun ds d h=>?_⟩
  obtain ⟨i,j,k,ns,rfl,hh,l4,nz,bd,ha⟩:=h
  have tz:=tp_nz hh l4 nz
  obtain ⟨hi,hj,hk,ij,jk⟩:=id hh
  obtain ⟨ht,_,_⟩:=th3_lt hi hj ij
  have b1:Bd (2 ^ 1) [-le3 i j k,1]:=by
    intro n hn
    simp only [List.mem_cons,List.mem_nil_iff,or_false] at hn
    rcases hn with rfl | rfl
    . rw [Int.natAbs_neg];rcases le_is i j k with e | e | e <;> rw [e] <;> decide
    . decide
  have lp:(pl ns).length=4:=by rw [pl_length];exact l4
  have lq:(tpN j (le3 i j k) ns).length=4:=qm_len lp rfl
  have bqm:Bd (2 ^ 303) (tpN j (le3 i j k) ns):=bd_mono (bd_qm lp rfl (bd_pl nz bd) (rf_bd hj b1)) (by decide)
  have bh:Bt (hd i j) 1:=by unfold Bt;rcases hd_is i j with e | e <;> rw [e] <;> decide
  have bp:Bt ((tpN j (le3 i j k) ns).getD (i + 1) 0) 304:=Bt.up (x:=303) (bqm _ (four_mem lq (by omega))) (by decide)
  have bq:Bt ((tpN j (le3 i j k) ns).getD 0 0) 304:=Bt.up (x:=303) (bqm _ (four_mem lq (by omega))) (by decide)
  have br:Bt (hd i j * (tpN j (le3 i j k) ns).getD (th3' i j + 1) 0) 304:=(bh.mul (show Bt _ 303 from bqm _ (four_mem lq (by omega)))).up (by decide)
  have bs:Bt ((tpN j (le3 i j k) ns).getD (j + 1) 0) 304:=Bt.up (x:=303) (bqm _ (four_mem lq (by omega))) (by decide)
  refine S.dropS (s:=.dat .none) (E1.call (R:=RRefH) (A1.cons (E1.var rfl) A1.nil) ⟨i,j,k,rfl,hh,rfl⟩) ?_
  refine S.let1 (E1.call (R:=RTwo) (ds:=[.str (hg i j k),tI ns]) (A1.cons (E1.var rfl) (A1.cons (E1.var rfl) A1.nil)) ⟨i,j,k,ns,rfl,hh,l4,nz,bd_up bd,rfl⟩) ?_
  generalize (tpN j (le3 i j k) ns).getD (i + 1) 0=p at *
  generalize (tpN j (le3 i j k) ns).getD 0 0=q at *
  generalize hd i j * (tpN j (le3 i j k) ns).getD (th3' i j + 1) 0=r at *
  generalize (tpN j (le3 i j k) ns).getD (j + 1) 0=s at *
  have bL:Bt (p * p + q * q) 609:=((bp.mul bp).add (bq.mul bq)).up (by decide)
  have bM:Bt (r * r + s * s) 609:=((br.mul br).add (bs.mul bs)).up (by decide)
  have bN:Bt ((p * p + q * q) * (r * r + s * s)) 1218:=bL.mul bM
  have sm:∀ {a b:Int},Bt a 304->Bt b 304->Sm [a,b]:=fun h1 h2=>sm2 h2 h1 (by decide)
  have N0:0<=(p * p + q * q) * (r * r + s * s):=Int.mul_nonneg (by have:=Num.sq_nn p;have:=Num.sq_nn q;omega) (by have:=Num.sq_nn r;have:=Num.sq_nn s;omega)
  refine S.let1 (s:=.dat (.int (p * p + q * q))) (E1.to (E1.cSop (ns:=[p,q]) (ms:=[p,q]) (A1.cons (E1.ixT (E1.var rfl) E1.int rfl) (A1.cons (E1.ixT (E1.var rfl) E1.int rfl) A1.nil)) (by show 2<=1000;decide) rfl (sm bp bq) (sm bp bq)) (by rw [sop22])) ?_
  refine S.let1 (s:=.dat (.int ((p * p + q * q) * (r * r + s * s)))) (E1.mul (E1.var rfl) (E1.to (E1.cSop (ns:=[r,s]) (ms:=[r,s]) (A1.cons (E1.ixT (E1.var rfl) E1.int rfl) (A1.cons (E1.ixT (E1.var rfl) E1.int rfl) A1.nil)) (by show 2<=1000;decide) rfl (sm br bs) (sm br bs)) (by rw [sop22])) (bL.mulOk bM)) ?_
  rcases ha with ⟨h0,rfl⟩ | ⟨h0,hno,rfl⟩ | ⟨t,tp,ht,rfl⟩
  . refine S.ifs (b:=true) ((T1.test (E1.eq (E1.var rfl) E1.int)).eqn (decide_eq_true h0)) (fun _=>?_) (fun z=>by cases z)
    refine S.ret1 (E1.call (R:=RLok) (ds:=[.str (hg i j k),.tuple [tI [p,q],tI [r,s]]]) (A1.cons (E1.var rfl) (A1.cons (E1.var rfl) A1.nil)) ⟨304,i,j,k,p,q,r,s,rfl,hh,fun z=>?_,bp,bq,br,bs,by decide,rfl⟩) ⟨rfl,?_⟩
    . by_cases y:p=0
      . exact .inr fun w=>tz ⟨y,w,z.1,z.2⟩
      . exact .inl y
    . unfold lok;split <;> rfl
  . refine S.ifsF ((T1.test (E1.eq (E1.var rfl) E1.int)).eqn (decide_eq_false h0)) ?_
    refine S.let1 (s:=.dat .none) (E1.call (R:=RExact) (ds:=[.int ((p * p + q * q) * (r * r + s * s))]) (A1.cons (E1.var rfl) A1.nil) ⟨_,rfl,N0,bN.up (by decide),.inr ⟨hno,rfl⟩⟩) ?_
    refine S.ifs (b:=true) (T1.test (E1.isNo (d:=.none) (E1.var rfl) E1.non)) (fun _=>?_) (fun z=>by cases z)
    exact S.ret1 (E1.tu (A1.cons E1.str (A1.cons (E1.var rfl) A1.nil)) rfl (lsz (n:=2) rfl z2)) ⟨rfl,rfl⟩
  . have h0:(p * p + q * q) * (r * r + s * s) ≠ 0:=by rw [<- ht];exact Int.mul_ne_zero (by omega) (by omega)
    have hL:(p * p + q * q) ≠ 0:=fun z=>h0 (by rw [z,Int.zero_mul])
    have npq:p ≠ 0\/q ≠ 0:=by
      by_cases y:p=0
      . refine .inr fun w=>hL ?_
        rw [y,w];rfl
      . exact .inl y
    have ht0:t ≠ 0:=by omega
    have hn0 : -t ≠ 0:=by omega
    have bt:Bt t 1218:=by
      have hle:t.natAbs<=((p * p + q * q) * (r * r + s * s)).natAbs:=by
        rw [<- ht,Int.natAbs_mul]
        exact Nat.le_mul_of_pos_right _ (by omega)
      exact Nat.le_trans hle bN
    have bnt:Bt (-t) 1218:=by unfold Bt at *;rw [Int.natAbs_neg];exact bt
    refine S.ifsF ((T1.test (E1.eq (E1.var rfl) E1.int)).eqn (decide_eq_false h0)) ?_
    refine S.let1 (s:=.dat (.int t)) (E1.call (R:=RExact) (ds:=[.int ((p * p + q * q) * (r * r + s * s))]) (A1.cons (E1.var rfl) A1.nil) ⟨_,rfl,N0,bN.up (by decide),.inl ⟨t,by omega,ht,rfl⟩⟩) ?_
    refine S.ifsF (T1.test (E1.isNo (d:=.int t) (E1.var rfl) E1.non)) ?_
    have nl:∀ a b:List (List Int),noLs [rowD a,rowD b]=true:=fun a b=>by
      have h:∀ x:List (List Int),noL (rowD x)=true:=fun x=>noL_row x
      show (noL (rowD a) && (noL (rowD b) && true))=true
      rw [h,h];rfl
    refine S.letO (E1.sort2 (x:=sbyR i j k p q r s t (p * p + q * q)) (y:=sbyR i j k p q r s (-t) (p * p + q * q)) (E1.li (ds:=[sby i j k p q r s t (p * p + q * q),sby i j k p q r s (-t) (p * p + q * q)]) (A1.cons (E1.call (R:=RSBy) (ds:=[.str (hg i j k),.tuple [tI [p,q],tI [r,s]],tI [t,(p * p + q * q)]]) (A1.cons (E1.var rfl) (A1.cons (E1.var rfl) (A1.cons (by (walk_at "au3")) A1.nil))) ⟨i,j,k,p,q,r,s,t,(p * p + q * q),rfl,hh,npq,ht0,bp.up (by decide),bq.up (by decide),br.up (by decide),bs.up (by decide),bt.up (by decide),bL.up (by decide),rfl⟩) (A1.cons (E1.call (R:=RSBy) (ds:=[.str (hg i j k),.tuple [tI [p,q],tI [r,s]],tI [-t,(p * p + q * q)]]) (A1.cons (E1.var rfl) (A1.cons (E1.var rfl) (A1.cons (by (walk_at "au3")) A1.nil))) ⟨i,j,k,p,q,r,s, -t,(p * p + q * q),rfl,hh,npq,hn0,bp.up (by decide),bq.up (by decide),br.up (by decide),bs.up (by decide),bnt.up (by decide),bL.up (by decide),rfl⟩) A1.nil)) rfl (lsz (n:=2) rfl z2)) (by show 0 < 3;decide) rfl) (by split <;> exact nl _ _) ?_
    by_cases z:rlt (sbyR i j k p q r s (-t) (p * p + q * q)) (sbyR i j k p q r s t (p * p + q * q))=true
    . rw [if_pos z,if_pos z]
      exact S.ret1 (E1.tu (A1.cons E1.str (A1.cons (E1.ixL (E1.varO rfl) E1.int rfl) (A1.cons (E1.ixL (E1.varO rfl) E1.int rfl) A1.nil))) rfl (lsz (n:=3) rfl z3)) ⟨rfl,rfl⟩
    . rw [if_neg z,if_neg z]
      exact S.ret1 (E1.tu (A1.cons E1.str (A1.cons (E1.ixL (E1.varO rfl) E1.int rfl) (A1.cons (E1.ixL (E1.varO rfl) E1.int rfl) A1.nil))) rfl (lsz (n:=3) rfl z3)) ⟨rfl,rfl⟩
end
end K34
end
section
namespace K34
open PySem L2 Num K0 D
open PySem.W (Dat)
theorem us1 {P:List Value->Prop} (h:∀ a,P [a]):∀ (us:List Value),us.length=1->P us:=fun us l=>by
  cases us with
  | nil=>cases l
  | cons x0 us =>
  cases us with
  | cons _ _=>simp at l
  | nil=>exact h x0
theorem us2 {P:List Value->Prop} (h:∀ a b,P [a,b]):∀ (us:List Value),us.length=2->P us:=fun us l=>by
  cases us with
  | nil=>cases l
  | cons x0 us =>
  cases us with
  | nil=>cases l
  | cons x1 us =>
  cases us with
  | cons _ _=>simp at l
  | nil=>exact h x0 x1
theorem us3 {P:List Value->Prop} (h:∀ a b c,P [a,b,c]):∀ (us:List Value),us.length=3->P us:=fun us l=>by
  cases us with
  | nil=>cases l
  | cons x0 us =>
  cases us with
  | nil=>cases l
  | cons x1 us =>
  cases us with
  | nil=>cases l
  | cons x2 us =>
  cases us with
  | cons _ _=>simp at l
  | nil=>exact h x0 x1 x2
theorem us4 {P:List Value->Prop} (h:∀ a b c d,P [a,b,c,d]):∀ (us:List Value),us.length=4->P us:=fun us l=>by
  cases us with
  | nil=>cases l
  | cons x0 us =>
  cases us with
  | nil=>cases l
  | cons x1 us =>
  cases us with
  | nil=>cases l
  | cons x2 us =>
  cases us with
  | nil=>cases l
  | cons x3 us =>
  cases us with
  | cons _ _=>simp at l
  | nil=>exact h x0 x1 x2 x3
theorem all_mk {l:PySem.W.OpenLaw} {w:World} {K:PySem.W.Frag} {h:Heap} {mg:Str->Option Value} {fa cTurnError cNoTurn cNoHanger cTooMany cNoJoint cNoReach cNoDeed cNoName cNoMark cNoText:Addr} (X:K.In h) (G:h.Ns mainGlobals mg) (hfa:mg "law" = some (.ref fa))
    (g_TurnError:PySem.W.nsIn K mainGlobals "TurnError" = some (some (.ref cTurnError))) (g_NoTurn:PySem.W.nsIn K mainGlobals "NoTurn" = some (some (.ref cNoTurn))) (g_NoHanger:PySem.W.nsIn K mainGlobals "NoHanger" = some (some (.ref cNoHanger))) (g_TooMany:PySem.W.nsIn K mainGlobals "TooMany" = some (some (.ref cTooMany))) (g_NoJoint:PySem.W.nsIn K mainGlobals "NoJoint" = some (some (.ref cNoJoint))) (g_NoReach:PySem.W.nsIn K mainGlobals "NoReach" = some (some (.ref cNoReach))) (g_NoDeed:PySem.W.nsIn K mainGlobals "NoDeed" = some (some (.ref cNoDeed))) (g_NoName:PySem.W.nsIn K mainGlobals "NoName" = some (some (.ref cNoName))) (g_NoMark:PySem.W.nsIn K mainGlobals "NoMark" = some (some (.ref cNoMark))) (g_NoText:PySem.W.nsIn K mainGlobals "NoText" = some (some (.ref cNoText)))  (q_x_NoHanger:L2.Xc K "NoHanger" cNoHanger) (q_u_NoHanger:PySem.W.exmOne K (.ref cNoHanger) (.ref cTurnError)=some true) (q_l_NoHanger:L2.XcL K cNoHanger) (q_kt34:PySem.W.kitAny K (.ref cNoHanger) [.ref cNoDeed,.ref cNoJoint,.ref cNoMark,.ref cNoName,.ref cNoReach,.ref cNoText,.ref cNoTurn,.ref cTooMany]=some false) (q_s_NoHanger:PySem.W.kitOne K (.ref cNoHanger) (.ref cNoHanger)=some true) (q_v_NoHanger:PySem.W.kitOne K (.ref cNoHanger) (.type "ValueError")=some true) (d1:DefAt K "common_divisor" sCD) (d2:DefAt K "reduced" sRed) (d3:DefAt K "negated" sNeg) (d5:DefAt K "whole_root" sWholeRoot) (d6:DefAt K "exact_root" sExactRoot) (d8:DefAt K "plain" sPlain) (d9:DefAt K "product" sProd) (d10:DefAt K "then" sThen) (d12:DefAt K "plain_setting" sPSet) (d13:DefAt K "about" sAbout) (d28:DefAt K "is_hanger" sIsHgX) (d29:DefAt K "refuse_no_hanger" sRefHgB) (d30:DefAt K "hung" sHungB) (d31:DefAt K "third_letter" sThird) (d32:DefAt K "joined" sJoined) (d33:DefAt K "taken_back" sTBack) (d34:DefAt K "hand_of" sHand) (d35:DefAt K "lean_of" sLean) (d36:DefAt K "two_parts" sTwoParts) (d37:DefAt K "leaning" sLeaning) (d38:DefAt K "locked" sLocked) (d39:DefAt K "settings_by" sSBy) (d40:DefAt K "settings_of" sSetOfB) (d42:DefAt K "_law_mixed" sMixed) (d43:DefAt K "_law_purse" sPurse) (d44:DefAt K "_law_draw" sDraw) (d45:DefAt K "_law_number" sNumber) (d46:DefAt K "_law_four" sFour) (d47:DefAt K "_law_small" sSmall) (d48:DefAt K "_law_setting" sDSetting) (d49:DefAt K "_law_hanger" sLHanger) (d50:DefAt K "_law_text" sLText) (d51:DefAt K "_law_good" sLGood) (d52:DefAt K "_law_fault" sLFault) (d53:DefAt K "_law_right" sLRight34) (d54:DefAt K "law" sLaw) (d4:DefAt K "sum_of_products" sSop)
    (tb_WAYS:TabSAt K "WAYS" ways) (tb_PLACES:TabIAt K "PLACES" places) (z_abs:PySem.W.nsIn K mainGlobals "abs" = some none) (z_tuple:PySem.W.nsIn K mainGlobals "tuple" = some none) (z_len:PySem.W.nsIn K mainGlobals "len" = some none) (z_all:PySem.W.nsIn K mainGlobals "all" = some none) (z_range:PySem.W.nsIn K mainGlobals "range" = some none) (z_int:PySem.W.nsIn K mainGlobals "int" = some none) (z_isinstance:PySem.W.nsIn K mainGlobals "isinstance" = some none) (z_ValueError:PySem.W.nsIn K mainGlobals "ValueError" = some none) (z_sum:PySem.W.nsIn K mainGlobals "sum" = some none) (z_zip:PySem.W.nsIn K mainGlobals "zip" = some none) (z_sorted:PySem.W.nsIn K mainGlobals "sorted" = some none) :
    ∃ fd:FuncData,(∀ (s:Shared) (v:Value),BindsTo s fd ⟨[v],[]⟩ [("_law_script",v)])/\∀ base:Heap,K.In base->base.Ns mainGlobals mg->FnOk l.prog w K mg base CX0 8 fa fd ["_law_script"] (spLaw K):=by
  obtain ⟨f1,fd1,F1,m1,k1⟩:=d1.get X G
  have b1:=F1.binds (ps:=["numbers"]) (by refine fun _ _ _ _ _ _=>us1 ?_;intros;rfl)
  obtain ⟨f2,fd2,F2,m2,k2⟩:=d2.get X G
  have b2:=F2.binds (ps:=["numbers"]) (by refine fun _ _ _ _ _ _=>us1 ?_;intros;rfl)
  obtain ⟨f3,fd3,F3,m3,k3⟩:=d3.get X G
  have b3:=F3.binds (ps:=["numbers"]) (by refine fun _ _ _ _ _ _=>us1 ?_;intros;rfl)
  obtain ⟨f5,fd5,F5,m5,k5⟩:=d5.get X G
  have b5:=F5.binds (ps:=["number"]) (by refine fun _ _ _ _ _ _=>us1 ?_;intros;rfl)
  obtain ⟨f6,fd6,F6,m6,k6⟩:=d6.get X G
  have b6:=F6.binds (ps:=["number"]) (by refine fun _ _ _ _ _ _=>us1 ?_;intros;rfl)
  obtain ⟨f8,fd8,F8,m8,k8⟩:=d8.get X G
  have b8:=F8.binds (ps:=["four"]) (by refine fun _ _ _ _ _ _=>us1 ?_;intros;rfl)
  obtain ⟨f9,fd9,F9,m9,k9⟩:=d9.get X G
  have b9:=F9.binds (ps:=["one","other"]) (by refine fun _ _ _ _ _ _=>us2 ?_;intros;rfl)
  obtain ⟨f10,fd10,F10,m10,k10⟩:=d10.get X G
  have b10:=F10.binds (ps:=["one","other"]) (by refine fun _ _ _ _ _ _=>us2 ?_;intros;rfl)
  obtain ⟨f12,fd12,F12,m12,k12⟩:=d12.get X G
  have b12:=F12.binds (ps:=["setting"]) (by refine fun _ _ _ _ _ _=>us1 ?_;intros;rfl)
  obtain ⟨f13,fd13,F13,m13,k13⟩:=d13.get X G
  have b13:=F13.binds (ps:=["way","setting"]) (by refine fun _ _ _ _ _ _=>us2 ?_;intros;rfl)
  obtain ⟨f28,fd28,F28,m28,k28⟩:=d28.get X G
  have b28:=F28.binds (ps:=["hanger"]) (by refine fun _ _ _ _ _ _=>us1 ?_;intros;rfl)
  obtain ⟨f29,fd29,F29,m29,k29⟩:=d29.get X G
  have b29:=F29.binds (ps:=["hanger"]) (by refine fun _ _ _ _ _ _=>us1 ?_;intros;rfl)
  obtain ⟨f30,fd30,F30,m30,k30⟩:=d30.get X G
  have b30:=F30.binds (ps:=["hanger","settings"]) (by refine fun _ _ _ _ _ _=>us2 ?_;intros;rfl)
  obtain ⟨f31,fd31,F31,m31,k31⟩:=d31.get X G
  have b31:=F31.binds (ps:=["hanger"]) (by refine fun _ _ _ _ _ _=>us1 ?_;intros;rfl)
  obtain ⟨f32,fd32,F32,m32,k32⟩:=d32.get X G
  have b32:=F32.binds (ps:=["one","other"]) (by refine fun _ _ _ _ _ _=>us2 ?_;intros;rfl)
  obtain ⟨f33,fd33,F33,m33,k33⟩:=d33.get X G
  have b33:=F33.binds (ps:=["setting"]) (by refine fun _ _ _ _ _ _=>us1 ?_;intros;rfl)
  obtain ⟨f34,fd34,F34,m34,k34⟩:=d34.get X G
  have b34:=F34.binds (ps:=["hanger"]) (by refine fun _ _ _ _ _ _=>us1 ?_;intros;rfl)
  obtain ⟨f35,fd35,F35,m35,k35⟩:=d35.get X G
  have b35:=F35.binds (ps:=["hanger"]) (by refine fun _ _ _ _ _ _=>us1 ?_;intros;rfl)
  obtain ⟨f36,fd36,F36,m36,k36⟩:=d36.get X G
  have b36:=F36.binds (ps:=["hanger","four"]) (by refine fun _ _ _ _ _ _=>us2 ?_;intros;rfl)
  obtain ⟨f37,fd37,F37,m37,k37⟩:=d37.get X G
  have b37:=F37.binds (ps:=["hanger","middle"]) (by refine fun _ _ _ _ _ _=>us2 ?_;intros;rfl)
  obtain ⟨f38,fd38,F38,m38,k38⟩:=d38.get X G
  have b38:=F38.binds (ps:=["hanger","parts"]) (by refine fun _ _ _ _ _ _=>us2 ?_;intros;rfl)
  obtain ⟨f39,fd39,F39,m39,k39⟩:=d39.get X G
  have b39:=F39.binds (ps:=["hanger","parts","middle"]) (by refine fun _ _ _ _ _ _=>us3 ?_;intros;rfl)
  obtain ⟨f40,fd40,F40,m40,k40⟩:=d40.get X G
  have b40:=F40.binds (ps:=["hanger","four"]) (by refine fun _ _ _ _ _ _=>us2 ?_;intros;rfl)
  obtain ⟨f42,fd42,F42,m42,k42⟩:=d42.get X G
  have b42:=F42.binds (ps:=["_law_cell","_law_k"]) (by refine fun _ _ _ _ _ _=>us2 ?_;intros;rfl)
  obtain ⟨f43,fd43,F43,m43,k43⟩:=d43.get X G
  have b43:=F43.binds (ps:=["_law_script"]) (by refine fun _ _ _ _ _ _=>us1 ?_;intros;rfl)
  obtain ⟨f44,fd44,F44,m44,k44⟩:=d44.get X G
  have b44:=F44.binds (ps:=["_law_purse_here","_law_out_of"]) (by refine fun _ _ _ _ _ _=>us2 ?_;intros;rfl)
  obtain ⟨f45,fd45,F45,m45,k45⟩:=d45.get X G
  have b45:=F45.binds (ps:=["_law_purse_here"]) (by refine fun _ _ _ _ _ _=>us1 ?_;intros;rfl)
  obtain ⟨f46,fd46,F46,m46,k46⟩:=d46.get X G
  have b46:=F46.binds (ps:=["_law_purse_here"]) (by refine fun _ _ _ _ _ _=>us1 ?_;intros;rfl)
  obtain ⟨f47,fd47,F47,m47,k47⟩:=d47.get X G
  have b47:=F47.binds (ps:=["_law_purse_here"]) (by refine fun _ _ _ _ _ _=>us1 ?_;intros;rfl)
  obtain ⟨f48,fd48,F48,m48,k48⟩:=d48.get X G
  have b48:=F48.binds (ps:=["_law_purse_here"]) (by refine fun _ _ _ _ _ _=>us1 ?_;intros;rfl)
  obtain ⟨f49,fd49,F49,m49,k49⟩:=d49.get X G
  have b49:=F49.binds (ps:=["_law_purse_here"]) (by refine fun _ _ _ _ _ _=>us1 ?_;intros;rfl)
  obtain ⟨f50,fd50,F50,m50,k50⟩:=d50.get X G
  have b50:=F50.binds (ps:=["_law_purse_here"]) (by refine fun _ _ _ _ _ _=>us1 ?_;intros;rfl)
  obtain ⟨f51,fd51,F51,m51,k51⟩:=d51.get X G
  have b51:=F51.binds (ps:=["_law_text_here"]) (by refine fun _ _ _ _ _ _=>us1 ?_;intros;rfl)
  obtain ⟨f52,fd52,F52,m52,k52⟩:=d52.get X G
  have b52:=F52.binds (ps:=["_law_way","_law_text_here","_law_settings","_law_four_here"]) (by refine fun _ _ _ _ _ _=>us4 ?_;intros;rfl)
  obtain ⟨f53,fd53,F53,m53,k53⟩:=d53.get X G
  have b53:=F53.binds (ps:=["_law_fault_here","_law_good_here"]) (by refine fun _ _ _ _ _ _=>us2 ?_;intros;rfl)
  obtain ⟨fd54,F54,b54⟩:=d54.law (y := "_law_script") X G hfa fun _ _ _ _ _ _ _=>rfl
  obtain ⟨f4,fd4,F4,m4,k4⟩:=d4.get X G
  have b4:=F4.binds (ps:=["one","other"]) (by refine fun _ _ _ _ _ _=>us2 ?_;intros;rfl)
  have m_TurnError:=PySem.W.mg_of X G g_TurnError
  have m_NoTurn:=PySem.W.mg_of X G g_NoTurn
  have m_NoHanger:=PySem.W.mg_of X G g_NoHanger
  have m_TooMany:=PySem.W.mg_of X G g_TooMany
  have m_NoJoint:=PySem.W.mg_of X G g_NoJoint
  have m_NoReach:=PySem.W.mg_of X G g_NoReach
  have m_NoDeed:=PySem.W.mg_of X G g_NoDeed
  have m_NoName:=PySem.W.mg_of X G g_NoName
  have m_NoMark:=PySem.W.mg_of X G g_NoMark
  have m_NoText:=PySem.W.mg_of X G g_NoText
  obtain ⟨dWAYS,m_WAYS,t_WAYS⟩:=tb_WAYS.get X G
  obtain ⟨dPLACES,m_PLACES,t_PLACES⟩:=tb_PLACES.get X G
  have m_abs:=PySem.W.mg_none_of X G z_abs
  have m_tuple:=PySem.W.mg_none_of X G z_tuple
  have m_len:=PySem.W.mg_none_of X G z_len
  have m_all:=PySem.W.mg_none_of X G z_all
  have m_range:=PySem.W.mg_none_of X G z_range
  have m_int:=PySem.W.mg_none_of X G z_int
  have m_isinstance:=PySem.W.mg_none_of X G z_isinstance
  have m_ValueError:=PySem.W.mg_none_of X G z_ValueError
  have m_sum:=PySem.W.mg_none_of X G z_sum
  have m_zip:=PySem.W.mg_none_of X G z_zip
  have m_sorted:=PySem.W.mg_none_of X G z_sorted
  refine ⟨fd54,b54,fun base _ _=>?_⟩
  have o1_CD:=ok_cd (P:=l.prog) (w:=w) (mg:=mg) (base:=base) F1      m_abs 
  have o2_Red:=ok_red (P:=l.prog) (w:=w) (mg:=mg) (base:=base) F2     o1_CD b1 k1 m1 m_tuple 
  have o3_Neg:=ok_neg (P:=l.prog) (w:=w) (mg:=mg) (base:=base) F3      m_tuple 
  have o5_WholeRoot:=ok_wholeroot (P:=l.prog) (w:=w) (mg:=mg) (base:=base) F5       
  have o6_ExactRoot:=ok_exactroot (P:=l.prog) (w:=w) (mg:=mg) (base:=base) F6     o5_WholeRoot b5 k5 m5  
  have o8_Plain:=ok_plain (P:=l.prog) (w:=w) (mg:=mg) (base:=base) F8     o2_Red b2 k2 m2 o3_Neg b3 k3 m3  
  have o9_Prod:=ok_prod (P:=l.prog) (w:=w) (mg:=mg) (base:=base) F9       
  have o10_Then:=ok_then (P:=l.prog) (w:=w) (mg:=mg) (base:=base) F10     o8_Plain b8 k8 m8 o9_Prod b9 k9 m9  
  have o12_PSet:=ok_pset (P:=l.prog) (w:=w) (mg:=mg) (base:=base) F12     o2_Red b2 k2 m2 o3_Neg b3 k3 m3  
  have o13_About:=ok_about (P:=l.prog) (w:=w) (mg:=mg) (base:=base) F13     o8_Plain b8 k8 m8  
  have o28_IsHgX:=ok_ishgx (P:=l.prog) (w:=w) (mg:=mg) (base:=base) F28      m_len m_all m_WAYS t_WAYS
  have o29_RefHgB:=ok_refhgb (P:=l.prog) (w:=w) (mg:=mg) (base:=base) F29   m_NoHanger q_x_NoHanger o28_IsHgX b28 k28 m28  
  have o30_HungB:=ok_hungb (P:=l.prog) (w:=w) (mg:=mg) (base:=base) F30     o29_RefHgB b29 k29 m29  
  have o31_Third:=ok_third (P:=l.prog) (w:=w) (mg:=mg) (base:=base) F31       
  have o32_Joined:=ok_joined (P:=l.prog) (w:=w) (mg:=mg) (base:=base) F32       
  have o33_TBack:=ok_tback (P:=l.prog) (w:=w) (mg:=mg) (base:=base) F33       
  have o34_Hand:=ok_hand (P:=l.prog) (w:=w) (mg:=mg) (base:=base) F34     o31_Third b31 k31 m31  
  have o35_Lean:=ok_lean (P:=l.prog) (w:=w) (mg:=mg) (base:=base) F35     o34_Hand b34 k34 m34  
  have o36_TwoParts:=ok_twoparts (P:=l.prog) (w:=w) (mg:=mg) (base:=base) F36     o35_Lean b35 k35 m35 o9_Prod b9 k9 m9 o8_Plain b8 k8 m8 o34_Hand b34 k34 m34 o31_Third b31 k31 m31 m_tuple m_PLACES t_PLACES
  have o37_Leaning:=ok_leaning (P:=l.prog) (w:=w) (mg:=mg) (base:=base) F37     o12_PSet b12 k12 m12 o32_Joined b32 k32 m32 o35_Lean b35 k35 m35  
  have o38_Locked:=ok_locked (P:=l.prog) (w:=w) (mg:=mg) (base:=base) F38     o12_PSet b12 k12 m12 o37_Leaning b37 k37 m37  
  have o39_SBy:=ok_sby (P:=l.prog) (w:=w) (mg:=mg) (base:=base) F39     o32_Joined b32 k32 m32 o33_TBack b33 k33 m33 o12_PSet b12 k12 m12 o37_Leaning b37 k37 m37  
  have o40_SetOfB:=ok_setofb (P:=l.prog) (w:=w) (mg:=mg) (base:=base) F40     o29_RefHgB b29 k29 m29  
  have o42_Mixed:=ok_mixed (P:=l.prog) (w:=w) (mg:=mg) (base:=base) F42       
  have o43_Purse:=ok_purse (P:=l.prog) (w:=w) (mg:=mg) (base:=base) F43     o42_Mixed b42 k42 m42 m_len m_abs m_range 
  have o44_Draw:=ok_draw (P:=l.prog) (w:=w) (mg:=mg) (base:=base) F44       
  have o45_Number:=ok_number (P:=l.prog) (w:=w) (mg:=mg) (base:=base) F45     o44_Draw b44 k44 m44  
  have o46_Four:=ok_four (P:=l.prog) (w:=w) (mg:=mg) (base:=base) F46     o44_Draw b44 k44 m44 o45_Number b45 k45 m45 m_tuple m_range 
  have o47_Small:=ok_small (P:=l.prog) (w:=w) (mg:=mg) (base:=base) F47     o44_Draw b44 k44 m44  
  have o48_DSetting:=ok_dsetting (P:=l.prog) (w:=w) (mg:=mg) (base:=base) F48     o47_Small b47 k47 m47 o44_Draw b44 k44 m44 m_int 
  have o49_LHanger:=ok_lhanger (P:=l.prog) (w:=w) (mg:=mg) (base:=base) F49     o44_Draw b44 k44 m44  
  have o50_LText:=ok_ltext (P:=l.prog) (w:=w) (mg:=mg) (base:=base) F50     o49_LHanger b49 k49 m49 o44_Draw b44 k44 m44 m_int 
  have o51_LGood:=ok_lgood (P:=l.prog) (w:=w) (mg:=mg) (base:=base) F51      m_len 
  have o53_LRight34:=ok_lright34 (P:=l.prog) (w:=w) (mg:=mg) (base:=base) F53   m_NoDeed m_NoJoint m_NoMark m_NoName m_NoReach m_NoText m_NoTurn m_TooMany m_NoHanger q_x_NoHanger q_l_NoHanger q_kt34 q_s_NoHanger q_v_NoHanger  m_isinstance m_ValueError 
  have o4_Sop:=ok_sop (P:=l.prog) (w:=w) (mg:=mg) (base:=base) F4      m_sum m_zip 
  have o28_IsHg:=ok_ishg (P:=l.prog) (w:=w) (mg:=mg) (base:=base) F28      m_len m_all m_WAYS t_WAYS
  have o29_RefHg:=ok_refhg (P:=l.prog) (w:=w) (mg:=mg) (base:=base) F29     o28_IsHg b28 k28 m28  
  have o30_Hung:=ok_hung (P:=l.prog) (w:=w) (mg:=mg) (base:=base) F30     o29_RefHg b29 k29 m29 o13_About b13 k13 m13 o10_Then b10 k10 m10  m_WAYS t_WAYS
  have o40_SetOf:=ok_setof (P:=l.prog) (w:=w) (mg:=mg) (base:=base) F40     o29_RefHg b29 k29 m29 o36_TwoParts b36 k36 m36 o4_Sop b4 k4 m4 o38_Locked b38 k38 m38 o6_ExactRoot b6 k6 m6 o39_SBy b39 k39 m39 m_sorted 
  have o52_LFault:=ok_lfault (P:=l.prog) (w:=w) (mg:=mg) (base:=base) F52   m_TurnError q_x_NoHanger q_u_NoHanger o30_Hung b30 k30 m30 o30_HungB b30 k30 m30 o40_SetOf b40 k40 m40 o40_SetOfB b40 k40 m40  
  exact ok_law (P:=l.prog) (w:=w) (mg:=mg) (base:=base) F54     o43_Purse b43 k43 m43 o46_Four b46 k46 m46 o48_DSetting b48 k48 m48 o50_LText b50 k50 m50 o53_LRight34 b53 k53 m53 o51_LGood b51 k51 m51 o52_LFault b52 k52 m52 m_tuple m_range 
theorem walk {l:PySem.W.OpenLaw} {q:Program} {loose:List Str} {XP:(Str->Option Value)->Heap->Prop} {YP:World->Heap->Prop} {d:DefRec} {K:Params->PySem.W.Frag} (hn:l.most=some 63) (hdf:d.params.defaults=[])
    (hY:∀ (w:World) (h:Heap),YP w h->(K w.params).In h)
    (F:∀ (w:World) (mg:Str->Option Value) (fa:Addr) (h:Heap),(K w.params).In h->h.Ns mainGlobals mg->mg d.name=some (.ref fa) ->
      ∃ fd:FuncData,(∀ (s:Shared) (u:Value),BindsTo s fd ⟨[u],[]⟩ [("_law_script",u)])/\∀ base:Heap,(K w.params).In base->base.Ns mainGlobals mg->FnOk l.prog w (K w.params) mg base CX0 8 fa fd ["_law_script"] (spLaw (K w.params))) :
    PySem.W.WalkO q loose XP YP l.row.toRowW d [] (fun f vs=>PySem.call f vs) :=
  L2.walkB (n:=63) (k:=8) (x := "_law_script") (sp:=spLaw) hn (by decide) hdf ⟨rfl,by decide,by decide⟩ hY F (fun K H a ns hl hb hS=>⟨a,ns,rfl,hS,hl,hb,fun _=>rfl⟩)
end K34
open PySem PySem.W PyProof.Rows
namespace K34
noncomputable def vw:PySem.Program:={ PySem.Challenge.pw_hangrings_k34_no_hangers with main:={ PySem.Challenge.pw_hangrings_k34_no_hangers.main with body:=(PySem.Challenge.pw_hangrings_k34_no_hangers.main.body.zipIdx.filter fun x => !([0,7,11,14,25,41].contains x.2)).map (·.1) } }
noncomputable def hRun (T:PySem.W.BT) (w:PySem.World) (os:PySem.OsState):Option PySem.W.SharedT:=TopT.goes PySem.Challenge.pw_hangrings_k34_no_hangers 20000 T w os
noncomputable def hA (h0:PySem.Heap) (s:PySem.W.SharedT):Bool:=PySem.W.staticsOk (PySem.importedModules PySem.Challenge.pw_hangrings_k34_no_hangers.main.body) h0 s.abs.heap && PySem.W.namesBound PySem.Challenge.pw_hangrings_k34_no_hangers s.abs.heap && PySem.W.gensDone s.abs && PySem.W.laidKept h0 s.abs.heap
noncomputable def hB (s:PySem.W.SharedT):=PySem.W.openSeen vw [PySem.Str.ofString "WAYS",PySem.Str.ofString "PLACES"] (PySem.importedModules PySem.Challenge.pw_hangrings_k34_no_hangers.main.body) (fun s=>PySem.W.xlAt vw [] s && PySem.W.recOk [] s) true s.abs
noncomputable def hG:=PySem.W.openGood vw [PySem.Str.ofString "WAYS",PySem.Str.ofString "PLACES"]
end K34
lay_quick K34.hRun K34.hA K34.hB K34.hG
theorem K34.lookA:∀ w os,(PySem.W.Fast.tw1460009339386292691 (TopT.bt w.params) w os).map (K34.hA (PySem.W.boot_heap w.params))=some true:=by
  rw [PySem.W.Fast.te6164755088248329113]
  refine TopT.byR "special-get-raises" ?_ ?_ <;> (intro w os;kernel_rfl)
theorem K34.lookB:∀ w os,(PySem.W.Fast.tw1460009339386292691 (TopT.bt w.params) w os).map K34.hB=some K34.hG:=by
  rw [PySem.W.Fast.te16078902952604659937,PySem.W.Fast.te4437829578605999424]
  refine TopT.byR "special-get-raises" ?_ ?_ <;> (intro w os;kernel_rfl)
local macro_rules | `(tactic| o_head $H) => `(tactic| (refine PySem.W.holds_open (q := K34.vw) (loose := [PySem.Str.ofString "WAYS", PySem.Str.ofString "PLACES"]) (Xt := fun s => PySem.W.xlAt K34.vw [] s && PySem.W.recOk [] s) (XP := PySem.W.XL K34.vw []) (Yf := PySem.W.Hook.obs $H) (Ya := PySem.W.Hook.val $H) (YP := PySem.W.Hook.says $H) (N := 20000) ?hl (PySem.W.Hook.of $H) (PySem.W.Hook.keeps $H) (fun s e => PySem.W.xl_of s (Bool.and_eq_true_iff.mp e).1) PySem.W.XL.keeps (by rfl) (by rfl) (by rfl) (fun s e => PySem.W.recFacts_of (Bool.and_eq_true_iff.mp e).2) (by rfl) (by first | assumption | decide +kernel) (by decide +kernel) ⟨rfl, rfl, rfl, rfl, rfl, by decide +kernel⟩ ?hw ?hc))
set_option maxRecDepth 100000 in
set_option maxHeartbeats 0 in
theorem PySem.Challenge.cw_hangrings_k34_no_hangers_holds : PySem.Challenge.rw_hangrings_k34_no_hangers.Holds := by
  w_on;o_law;k_head;(case hl=>exact TopT.leftT 20000 PySem.W.Fast.te1460009339386292691 (by kernel_rfl) (fun s=>by kernel_rfl) rfl rfl K34.lookA K34.lookB (TopT.byR "special-get-raises" (fun w os=>by kernel_rfl) (fun w os=>by kernel_rfl)));(case hw=>w_witness2)
  k_fill
  refine K34.walk (l:=PySem.Challenge.rw_hangrings_k34_no_hangers) rfl rfl (fun w h Y=>PySem.W.kIn_of Y) ?F
  case F =>
    intro w mg fa h KX G hmg
    refine' K34.all_mk KX G hmg ?gTurnError ?gNoTurn ?gNoHanger ?gTooMany ?gNoJoint ?gNoReach ?gNoDeed ?gNoName ?gNoMark ?gNoText  ?q_x_NoHanger ?q_u_NoHanger ?q_l_NoHanger ?q_kt34 ?q_s_NoHanger ?q_v_NoHanger (L2.DefAt.mk ?a1 ?l1 ?c1 ?k1) (L2.DefAt.mk ?a2 ?l2 ?c2 ?k2) (L2.DefAt.mk ?a3 ?l3 ?c3 ?k3) (L2.DefAt.mk ?a5 ?l5 ?c5 ?k5) (L2.DefAt.mk ?a6 ?l6 ?c6 ?k6) (L2.DefAt.mk ?a8 ?l8 ?c8 ?k8) (L2.DefAt.mk ?a9 ?l9 ?c9 ?k9) (L2.DefAt.mk ?a10 ?l10 ?c10 ?k10) (L2.DefAt.mk ?a12 ?l12 ?c12 ?k12) (L2.DefAt.mk ?a13 ?l13 ?c13 ?k13) (L2.DefAt.mk ?a28 ?l28 ?c28 ?k28) (L2.DefAt.mk ?a29 ?l29 ?c29 ?k29) (L2.DefAt.mk ?a30 ?l30 ?c30 ?k30) (L2.DefAt.mk ?a31 ?l31 ?c31 ?k31) (L2.DefAt.mk ?a32 ?l32 ?c32 ?k32) (L2.DefAt.mk ?a33 ?l33 ?c33 ?k33) (L2.DefAt.mk ?a34 ?l34 ?c34 ?k34) (L2.DefAt.mk ?a35 ?l35 ?c35 ?k35) (L2.DefAt.mk ?a36 ?l36 ?c36 ?k36) (L2.DefAt.mk ?a37 ?l37 ?c37 ?k37) (L2.DefAt.mk ?a38 ?l38 ?c38 ?k38) (L2.DefAt.mk ?a39 ?l39 ?c39 ?k39) (L2.DefAt.mk ?a40 ?l40 ?c40 ?k40) (L2.DefAt.mk ?a42 ?l42 ?c42 ?k42) (L2.DefAt.mk ?a43 ?l43 ?c43 ?k43) (L2.DefAt.mk ?a44 ?l44 ?c44 ?k44) (L2.DefAt.mk ?a45 ?l45 ?c45 ?k45) (L2.DefAt.mk ?a46 ?l46 ?c46 ?k46) (L2.DefAt.mk ?a47 ?l47 ?c47 ?k47) (L2.DefAt.mk ?a48 ?l48 ?c48 ?k48) (L2.DefAt.mk ?a49 ?l49 ?c49 ?k49) (L2.DefAt.mk ?a50 ?l50 ?c50 ?k50) (L2.DefAt.mk ?a51 ?l51 ?c51 ?k51) (L2.DefAt.mk ?a52 ?l52 ?c52 ?k52) (L2.DefAt.mk ?a53 ?l53 ?c53 ?k53) (L2.DefAt.mk ?a54 ?l54 ?c54 ?k54) (L2.DefAt.mk ?a4 ?l4 ?c4 ?k4) (L2.TabSAt.mk ?tAWAYS ?tLWAYS ?tCWAYS ?tEWAYS ?tNWAYS ?tMWAYS) (L2.TabIAt.mk ?tAPLACES ?tLPLACES ?tCPLACES ?tEPLACES ?tNPLACES ?tMPLACES) ?z0 ?z1 ?z2 ?z3 ?z4 ?z5 ?z6 ?z7 ?z8 ?z9 ?z10
    (case gTurnError=>k_is)
    (case gNoTurn=>k_is)
    (case gNoHanger=>k_is)
    (case gTooMany=>k_is)
    (case gNoJoint=>k_is)
    (case gNoReach=>k_is)
    (case gNoDeed=>k_is)
    (case gNoName=>k_is)
    (case gNoMark=>k_is)
    (case gNoText=>k_is)
    (case q_x_NoHanger=>exact ⟨by k_exc,by k_is⟩)
    (case q_u_NoHanger=>first | k_is | kernel_rfl)
    (case q_l_NoHanger=>exact ⟨by first | k_is | kernel_rfl,by first | k_is | kernel_rfl,by first | k_is | kernel_rfl,by first | k_is | kernel_rfl,by first | k_is | kernel_rfl,by first | k_is | kernel_rfl,by first | k_is | kernel_rfl,by first | k_is | kernel_rfl⟩)
    (case q_kt34=>first | k_is | kernel_rfl)
    (case q_s_NoHanger=>first | k_is | kernel_rfl)
    (case q_v_NoHanger=>first | k_is | kernel_rfl)
    (case a1=>k_is);(case l1=>k_is);(case c1=>k_is);(case k1=>k_is)
    (case a2=>k_is);(case l2=>k_is);(case c2=>k_is);(case k2=>k_is)
    (case a3=>k_is);(case l3=>k_is);(case c3=>k_is);(case k3=>k_is)
    (case a5=>k_is);(case l5=>k_is);(case c5=>k_is);(case k5=>k_is)
    (case a6=>k_is);(case l6=>k_is);(case c6=>k_is);(case k6=>k_is)
    (case a8=>k_is);(case l8=>k_is);(case c8=>k_is);(case k8=>k_is)
    (case a9=>k_is);(case l9=>k_is);(case c9=>k_is);(case k9=>k_is)
    (case a10=>k_is);(case l10=>k_is);(case c10=>k_is);(case k10=>k_is)
    (case a12=>k_is);(case l12=>k_is);(case c12=>k_is);(case k12=>k_is)
    (case a13=>k_is);(case l13=>k_is);(case c13=>k_is);(case k13=>k_is)
    (case a28=>k_is);(case l28=>k_is);(case c28=>k_is);(case k28=>k_is)
    (case a29=>k_is);(case l29=>k_is);(case c29=>k_is);(case k29=>k_is)
    (case a30=>k_is);(case l30=>k_is);(case c30=>k_is);(case k30=>k_is)
    (case a31=>k_is);(case l31=>k_is);(case c31=>k_is);(case k31=>k_is)
    (case a32=>k_is);(case l32=>k_is);(case c32=>k_is);(case k32=>k_is)
    (case a33=>k_is);(case l33=>k_is);(case c33=>k_is);(case k33=>k_is)
    (case a34=>k_is);(case l34=>k_is);(case c34=>k_is);(case k34=>k_is)
    (case a35=>k_is);(case l35=>k_is);(case c35=>k_is);(case k35=>k_is)
    (case a36=>k_is);(case l36=>k_is);(case c36=>k_is);(case k36=>k_is)
    (case a37=>k_is);(case l37=>k_is);(case c37=>k_is);(case k37=>k_is)
    (case a38=>k_is);(case l38=>k_is);(case c38=>k_is);(case k38=>k_is)
    (case a39=>k_is);(case l39=>k_is);(case c39=>k_is);(case k39=>k_is)
    (case a40=>k_is);(case l40=>k_is);(case c40=>k_is);(case k40=>k_is)
    (case a42=>k_is);(case l42=>k_is);(case c42=>k_is);(case k42=>k_is)
    (case a43=>k_is);(case l43=>k_is);(case c43=>k_is);(case k43=>k_is)
    (case a44=>k_is);(case l44=>k_is);(case c44=>k_is);(case k44=>k_is)
    (case a45=>k_is);(case l45=>k_is);(case c45=>k_is);(case k45=>k_is)
    (case a46=>k_is);(case l46=>k_is);(case c46=>k_is);(case k46=>k_is)
    (case a47=>k_is);(case l47=>k_is);(case c47=>k_is);(case k47=>k_is)
    (case a48=>k_is);(case l48=>k_is);(case c48=>k_is);(case k48=>k_is)
    (case a49=>k_is);(case l49=>k_is);(case c49=>k_is);(case k49=>k_is)
    (case a50=>k_is);(case l50=>k_is);(case c50=>k_is);(case k50=>k_is)
    (case a51=>k_is);(case l51=>k_is);(case c51=>k_is);(case k51=>k_is)
    (case a52=>k_is);(case l52=>k_is);(case c52=>k_is);(case k52=>k_is)
    (case a53=>k_is);(case l53=>k_is);(case c53=>k_is);(case k53=>k_is)
    (case a54=>k_is);(case l54=>k_is);(case c54=>k_is);(case k54=>k_is)
    (case a4=>k_is);(case l4=>k_is);(case c4=>k_is);(case k4=>k_is)
    (case tAWAYS=>k_is);(case tLWAYS=>k_is);(case tCWAYS=>exact ⟨rfl,rfl,rfl⟩);(case tEWAYS=>exact rfl)
    (case tNWAYS =>
      refine' L2.EntS.three ?l ?c ?d ?_;(case l=>k_is);(case c=>exact rfl);(case d=>exact rfl)
      refine' L2.EntS.three ?l ?c ?d ?_;(case l=>k_is);(case c=>exact rfl);(case d=>exact rfl)
      refine' L2.EntS.three ?l ?c ?d ?_;(case l=>k_is);(case c=>exact rfl);(case d=>exact rfl)
      exact L2.EntS.nil)
    (case tMWAYS=>rfl)
    (case tAPLACES=>k_is);(case tLPLACES=>k_is);(case tCPLACES=>exact ⟨rfl,rfl,rfl⟩);(case tEPLACES=>exact rfl)
    (case tNPLACES =>
      exact .cons (.cons (.cons .nil)))
    (case tMPLACES=>rfl)
    (case z0=>k_is)
    (case z1=>k_is)
    (case z2=>k_is)
    (case z3=>k_is)
    (case z4=>k_is)
    (case z5=>k_is)
    (case z6=>k_is)
    (case z7=>k_is)
    (case z8=>k_is)
    (case z9=>k_is)
    (case z10=>k_is)
#print axioms PySem.Challenge.cw_hangrings_k34_no_hangers_holds
end
