import PyProof.Rows.All
import Wide.All
import OpenK.AllK
import Wide.FinOn
import Lean
import PyProof.EqAt
import PyProof.EqKinds
import PyProof.TupleCall
import KE.KUnpack
import KE.KTab
import KE.LcSums
import KE.KSortTup
import KE.KDictAny
import PyProof.WalkInts
import PyProof.MinMaxWalk
import PyProof.P3In
import PySem.Challenge.RW_hangrings_k84_whole_bones_stay
set_option bootstrap.genMatcherCode false
set_option linter.all false
set_option maxRecDepth 100000
set_option Elab.async false
set_option maxHeartbeats 4000000
set_option exponentiation.threshold 200000
section
set_option maxHeartbeats 0
namespace TopT
open PySem PySem.W
noncomputable def topRunT (tb:String->Option Builtin) (p:Program) (w:World) (n₀:Nat) (ann:Option Value):Nat->SharedT->Thread->Option SharedT
  | 0,_,_=>none
  | n + 1, s, t => match through t with
    | true=>some s
    | false=>match stepOk n₀ ann t with
      | false=>none
      | true=>match stepT (denote tb) p w s t with
        | some (s',t')=>topRunT tb p w n₀ ann n s' t'
        | none=>none
theorem topRun_of {tb : String -> Option Builtin} {p : Program} {w : World} {n₀ : Nat} {ann : Option Value} : ∀ {n : Nat} {s s' : SharedT} {t : Thread}, topRunT tb p w n₀ ann n s t = some s' -> topRun tb p w n₀ ann n s.abs t = some s'.abs
  | 0,_,_,_,h=>by cases h
  | n + 1, s, s', t, h => by
    unfold topRunT at h
    unfold topRun
    cases he:through t with
    | true=>rw [he] at h;cases h;rfl
    | false =>
      rw [he] at h
      cases hk:stepOk n₀ ann t with
      | false=>rw [hk] at h;cases h
      | true =>
        rw [hk] at h
        cases hs:stepT (denote tb) p w s t with
        | none=>rw [hs] at h;cases h
        | some r=>obtain ⟨s₂,t₂⟩:=r;rw [hs] at h;rw [stepT_spec hs];exact topRun_of h
noncomputable def ofL:BT->Nat->List Obj->BT
  | t,_,[]=>t
  | t,n,o :: l=>ofL (t.ins n o) (n + 1) l
noncomputable def bt (P:Params):BT:=ofL .nil 0 (boot_heap P).objs.toList
theorem bt_abs (P:Params):absHeap (bt P) 11 {}=boot_heap P:=by kernel_rfl
theorem size0 (P:Params):((boot_heap P).isNs mainGlobals,(boot_heap P).objs.size,(boot_heap P).nsMap mainGlobals "__annotations__")=(true,11,some (.ref 6)):=by kernel_rfl
noncomputable def goes (p:Program) (M:Nat) (T:BT) (w:World) (os:OsState):Option SharedT:=topRunT treeTable p w 11 (some (.ref 6)) M ⟨T,11,{}, #[],{},181,os⟩ (topStub p)
theorem leftT {p q:Program} {loose:List Str} {Xt:Shared->Bool} {α:Type} {Yf:Shared->α} {Ya:World->α} {N:Nat} (M:Nat)
    {R:BT->World->OsState->Option SharedT} (hR:goes p M=R) (e:opening p=plainProg p.main.scope.names) (f:∀ s,fenceModules? p s=some s) (hN:Nat.ble 600 N=true) (le:Nat.ble M N=true)
    (A:∀ w os,(R (bt w.params) w os).map (fun s=>staticsOk (importedModules p.main.body) (boot_heap w.params) s.abs.heap && namesBound p s.abs.heap && gensDone s.abs && laidKept (boot_heap w.params) s.abs.heap)=some true)
    (B:∀ w os,(R (bt w.params) w os).map (fun s=>openSeen q loose (importedModules p.main.body) Xt true s.abs)=some (openGood q loose))
    (C:∀ w os,(R (bt w.params) w os).map (fun s=>Yf s.abs)=some (Ya w)):LeftO p q loose Xt Yf Ya N:=fun w=>by
  subst hR
  obtain ⟨⟨h,gs,d,k,os⟩,e,e'⟩:=Option.map_eq_some_iff.mp (boot_open e hN f w)
  obtain ⟨rfl,rfl,rfl,rfl⟩:h=boot_heap w.params/\gs = #[]/\d=boot_drawn/\k=boot_toks:=by simpa using e'
  obtain ⟨z1,z2,z3⟩:_/\_/\_:=by simpa only [Prod.mk.injEq] using size0 w.params
  obtain ⟨s,hs,l1⟩:=Option.map_eq_some_iff.mp (A w os)
  have b:=B w os;rw [hs] at b
  have c:=C w os;rw [hs] at c
  have r:=topRun_mono (N - M) _ _ _ _ (topRun_of hs)
  rw [show M + (N - M)=N by have:=Nat.le_of_ble_eq_true le;omega] at r
  have r':topRun treeTable p w 11 (some (.ref 6)) N ⟨boot_heap w.params, #[],boot_drawn,boot_toks,os⟩ (topStub p)=some s.abs:=by
    rw [<- bt_abs];exact r
  have t:topFrom treeTable p w N ⟨boot_heap w.params, #[],boot_drawn,boot_toks,os⟩=some s.abs:=by
    unfold topFrom
    dsimp only
    rw [z1,z2,z3,r']
    show (match staticsOk (importedModules p.main.body) (boot_heap w.params) s.abs.heap && namesBound p s.abs.heap && gensDone s.abs && laidKept (boot_heap w.params) s.abs.heap with | true=>_ | false=>_)=_
    rw [l1]
  unfold openEnds
  rw [e]
  show (topFrom treeTable p w N _).map _=_
  rw [t]
  exact congrArg some (Prod.ext (Option.some.inj b) (Option.some.inj c))
end TopT
end
section
namespace L2
open PySem PySem.Spec PyProof.Rows
noncomputable abbrev Key:=Sum Int Str
noncomputable def keyIs:Key->Value->Bool
  | .inl k,v=>Value.isInt k v
  | .inr x,v=>Value.isStrOf x v
noncomputable def keyH (w:World):Key->Int
  | .inl k=>hashInt k
  | .inr x=>hashStr w x
theorem keyIs_shape:∀ {k:Key} {v:Value},keyIs k v=true->(∃ i t,k=Sum.inl i/\v=Value.int i t)\/(∃ x t,k=Sum.inr x/\v=Value.str x t)
  | .inl i,v,h=>by
    obtain ⟨t,e⟩:=Value.isInt_shape (k:=i) (v:=v) h
    exact .inl ⟨i,t,rfl,e⟩
  | .inr x,v,h=>by
    obtain ⟨t,e⟩:=Value.isStrOf_shape (x:=x) (v:=v) h
    exact .inr ⟨x,t,rfl,e⟩
theorem key_ll (a b:Int):decide ((Sum.inl a:Key)=Sum.inl b)=(a == b):=by
  by_cases e:a=b
  . subst e;simp
  . have h:¬ (Sum.inl a:Key)=Sum.inl b:=fun q=>e (Sum.inl.inj q)
    rw [decide_eq_false h]
    exact (beq_eq_false_iff_ne.mpr e).symm
theorem key_rr (a b:Str):decide ((Sum.inr a:Key)=Sum.inr b)=decide (a=b):=by
  by_cases e:a=b
  . subst e;simp
  . have h:¬ (Sum.inr a:Key)=Sum.inr b:=fun q=>e (Sum.inr.inj q)
    rw [decide_eq_false h,decide_eq_false e]
theorem key_lr (a:Int) (b:Str):decide ((Sum.inl a:Key)=Sum.inr b)=false:=decide_eq_false (fun q=>nomatch q)
theorem key_rl (a:Str) (b:Int):decide ((Sum.inr a:Key)=Sum.inl b)=false:=decide_eq_false (fun q=>nomatch q)
noncomputable def mixKind (prog:Program) (w:World):PySem.KeyKind prog w Key where
  is:=keyIs
  hash:=keyH w
  inj := fun v a b ha hb => by
    rcases keyIs_shape ha with ⟨i,t,rfl,rfl⟩ | ⟨x,t,rfl,rfl⟩
    . rcases keyIs_shape hb with ⟨j,u,rfl,e⟩ | ⟨y,u,rfl,e⟩
      . injection e with e1 _;rw [e1]
      . exact nomatch e
    . rcases keyIs_shape hb with ⟨j,u,rfl,e⟩ | ⟨y,u,rfl,e⟩
      . exact nomatch e
      . injection e with e1 _;rw [e1]
  byValue:=fun k v h=>by
    rcases keyIs_shape h with ⟨i,t,rfl,rfl⟩ | ⟨x,t,rfl,rfl⟩ <;> rfl
  pyHash:=fun hv h=>by
    rcases keyIs_shape hv with ⟨i,t,rfl,rfl⟩ | ⟨x,t,rfl,rfl⟩
    . exact wpAny_pyHash_int h
    . exact wpAny_pyHash_str h
  eqBool:=fun hu hv h=>by
    rcases keyIs_shape hu with ⟨i,t,rfl,rfl⟩ | ⟨x,t,rfl,rfl⟩
    . rcases keyIs_shape hv with ⟨j,u,rfl,rfl⟩ | ⟨y,u,rfl,rfl⟩
      . rw [key_ll] at h;exact wpAny_eqBool_int h
      . rw [key_lr] at h;exact SeqAt.EqAt.int_str i t y u _ _ _ _ h
    . rcases keyIs_shape hv with ⟨j,u,rfl,rfl⟩ | ⟨y,u,rfl,rfl⟩
      . rw [key_rl] at h;exact SeqAt.EqAt.str_int x t j u _ _ _ _ h
      . rw [key_rr] at h;exact wpAny_eqBool_str h
  «strs» := fun k x t v h=>by
    rcases keyIs_shape h with ⟨i,u,rfl,e⟩ | ⟨y,u,rfl,e⟩
    . exact nomatch e
    . injection e with e1 _
      subst e1
      cases v <;> rfl
end L2
namespace L2
open PySem PySem.Spec PyProof.Rows
inductive V where
  | non | bl (b:Bool) | int (i:Int) | str (x:Str) | byt (b:Array UInt8) | flt (b:UInt64) | ref (a:Addr) | ty (n:String)
  deriving DecidableEq
noncomputable def RelV:V->Value->Prop
  | .non,u=>u=Value.none
  | .bl b,u=>u=Value.bool b
  | .int i,u=>∃ t,u=Value.int i t
  | .str x,u=>∃ t,u=Value.str x t
  | .byt b,u=>∃ t,u=Value.bytes b t
  | .flt b,u=>∃ t,u=Value.float b t
  | .ref a,u=>u=Value.ref a
  | .ty n,u=>u=Value.type n
noncomputable abbrev Vals:List V->List Value->Prop:=Paired RelV
theorem Vals.length {xs:List V} {us:List Value} (r:Vals xs us):xs.length=us.length:=Paired.length r
theorem Vals.get:∀ {xs:List V} {us:List Value} {i:Nat} {x:V},Vals xs us->xs[i]?=some x->∃ u,us[i]?=some u/\RelV x u
  | _,_,_,_,.nil,e=>by simp at e
  | _,_,0,_,.cons r _,e=>by simp at e;subst e;exact ⟨_,rfl,r⟩
  | _,_,i + 1,x,.cons _ t,e=>by
    obtain ⟨u,h1,h2⟩:=Vals.get (i:=i) (x:=x) t (by simpa using e)
    exact ⟨u,by simpa using h1,h2⟩
theorem Vals.set {x:V} {u:Value} (r:RelV x u):∀ {xs:List V} {us:List Value} (i:Nat),Vals xs us->Vals (xs.set i x) (us.set i u)
  | _,_,_,.nil=>.nil
  | _,_,0,.cons _ t=>.cons r t
  | _,_,i + 1,.cons q t=>.cons q (Vals.set r i t)
theorem Vals.append:∀ {xs ys:List V} {us ws:List Value},Vals xs us->Vals ys ws->Vals (xs ++ ys) (us ++ ws)
  | _,_,_,_,.nil,s=>s
  | _,_,_,_,.cons r t,s=>.cons r (Vals.append t s)
theorem Vals.take:∀ {xs:List V} {us:List Value} (n:Nat),Vals xs us->Vals (xs.take n) (us.take n)
  | _,_,0,_=>.nil
  | _,_,_ + 1,.nil=>.nil
  | _,_,n + 1,.cons r t=>.cons r (Vals.take n t)
theorem Vals.drop:∀ {xs:List V} {us:List Value} (n:Nat),Vals xs us->Vals (xs.drop n) (us.drop n)
  | _,_,0,r=>r
  | _,_,_ + 1,.nil=>.nil
  | _,_,n + 1,.cons _ t=>Vals.drop n t
noncomputable def RelO:Option V->Option Value->Prop
  | some v,some u=>RelV v u
  | none,none=>True
  | _,_=>False
noncomputable def KV {κ:Type}:List (κ × V)->List (κ × Value)->Prop:=Paired fun (p:κ × V) (q:κ × Value)=>p.1=q.1/\RelV p.2 q.2
noncomputable def kV:Key->V
  | .inl i=>.int i
  | .inr x=>.str x
inductive HO where
  | lst (xs:List V)
  | tup (xs:List V)
  | dK (kvs:List (Key × V)) | dT (kvs:List (List Key × V))
  | set (S:Int->Bool) (n:Nat)
  | ins (C dx:Addr) (fs:List (Str × V))
  | own (x:Addr)
  | xd (fs:List (Str × V))
  | met (f x:Addr)
  | rng (lo hi:Int)
  | frz (o:Obj) (u:HO)
  | tbl (ps:Array Value)
  | ext (φ:Heap->Prop)
noncomputable abbrev Hp:=Addr->Option HO
noncomputable def upd (H:Hp) (a:Addr) (o:HO):Hp:=fun b=>if b=a then some o else H b
theorem upd_same {H:Hp} {a:Addr} {o:HO}:upd H a o a=some o:=by unfold upd;rw [if_pos rfl]
theorem upd_ne {H:Hp} {a b:Addr} {o:HO} (h:b ≠ a):upd H a o b=H b:=by unfold upd;rw [if_neg h]
theorem ne_of {H:Hp} {a b:Addr} {o u:HO} (h:H a=some o) (h':H b=some u) (d:o ≠ u):a ≠ b:=by
  intro e;subst e;rw [h] at h';exact d (Option.some.inj h')
theorem ne_of_none {H:Hp} {a b:Addr} {o:HO} (h:H a=some o) (h':H b=none):a ≠ b:=by
  intro e;subst e;rw [h] at h';cases h'
section
variable (P:Program) (w:World)
noncomputable def ObjOk (H:Hp) (h:Heap) (a:Addr):HO->Prop
  | .lst xs=>xs.length<=sizeLine/\∃ (its:List Value) (n:Nat),Vals xs its/\h.get? a=some { cls:=.type "list",data:=.seq its.toArray n }
  | .tup xs=>xs.length<=sizeLine/\∃ its:List Value,Vals xs its/\IsTup h a its.toArray
  | .dK kvs=>kvs.length<=sizeLine/\(a == sysModules)=false/\∃ vs,KV kvs vs/\h.DictOf (mixKind P w) a vs
  | .dT kvs=>kvs.length<=sizeLine/\(a == sysModules)=false/\∃ xs:List (List Key × Addr × Value),
      Paired (fun (p:List Key × V) (q:List Key × Addr × Value)=>p.1=q.1/\H q.2.1=some (.tup (p.1.map kV))/\RelV p.2 q.2.2) kvs xs /\
      ∃ o es ep,h.get? a=some o/\o.ExactDict/\o.data = .dict es ep/\es.toList=xs.map (entryOfKey (tupleKind (mixKind P w)))/\(xs.map (·.1)).Nodup
  | .set S n=>h.SetOf (intKind P w) a S n
  | .ins C dx fs=>H dx=some (.own a)/\fs.length<=1000/\dx ≠ a/\h.get? a=some (PySem.W.instObj C dx) /\
      ∃ mA,h.Ns1 dx mA/\(∀ f,RelO (fs.lookup f) (mA f))/\PySem.Within mA (fs.map (·.1))
  | .own _=>∃ o,h.get? a=some o
  | .xd fs=>∃ mA,h.Ns1 a mA/\∀ f,RelO (fs.lookup f) (mA f)
  | .rng lo hi=>∃ t u v,h.get? a=some { cls:=.type "range",data:=.fields #[.int lo t,.int hi u,.int 1 v] }
  | .frz o u=>h.get? a=some o/\ObjOk H h a u
  | .tbl ps=>h.get? a=some { cls:=.none,data:=.fields ps }
  | .met f x=>h.get? a=some (PySem.W.methodObj (.ref f) (.ref x))
  | .ext φ=>φ h/\(∃ o,h.get? a=some o)/\∀ h1 h2:Heap,φ h1->(∀ o,h1.get? a=some o->h2.get? a=some o)->φ h2
noncomputable def HOk (H:Hp) (h:Heap):Prop:=∀ a o,H a=some o->ObjOk P w H h a o
end
section
variable {P:Program} {w:World} {H H':Hp} {h h':Heap} {a:Addr} {o:HO}
theorem ObjOk.lt (x:ObjOk P w H h a o):a < h.objs.size:=by
  cases o with
  | lst xs=>obtain ⟨_,_,_,_,e⟩:=x;exact Heap.lt_size e
  | tup xs=>obtain ⟨_,_,_,p⟩:=x;exact p.lt
  | dK kvs=>obtain ⟨_,_,_,_,o,_,_,e,_⟩:=x;exact Heap.lt_size e
  | dT kvs=>obtain ⟨_,_,_,_,o,_,_,e,_⟩:=x;exact Heap.lt_size e
  | set S n=>obtain ⟨o,_,_,_,e,_⟩:=x;exact Heap.lt_size e
  | ins C dx fs=>obtain ⟨_,_,_,e,_⟩:=x;exact Heap.lt_size e
  | own y=>obtain ⟨_,e⟩:=x;exact Heap.lt_size e
  | xd fs=>obtain ⟨_,⟨_,_,_,e,_⟩,_⟩:=x;exact Heap.lt_size e
  | rng lo hi=>obtain ⟨_,_,_,e⟩:=x;exact Heap.lt_size e
  | frz ob u=>obtain ⟨e,_⟩:=x;exact Heap.lt_size e
  | tbl ps=>exact Heap.lt_size (show h.get? a=some _ from x)
  | met f y=>exact Heap.lt_size (show h.get? a=some _ from x)
  | ext φ=>obtain ⟨_,⟨_,e⟩,_⟩:=x;exact Heap.lt_size e
theorem Paired.mapP {α β:Type} {F G:α->β->Prop}:∀ {l₁:List α} {l₂:List β},Paired F l₁ l₂->(∀ a b,F a b->G a b)->Paired G l₁ l₂
  | _,_,.nil,_=>.nil
  | _,_,.cons r t,f=>.cons (f _ _ r) (Paired.mapP t f)
theorem ObjOk.stay (x:ObjOk P w H h a o) (k:∀ b u,(b=a\/H b=some (.own a))->h.get? b=some u->h'.get? b=some u)
    (ho:∀ b,H b=some (.own a)->H' b=some (.own a)) (ht:∀ b xs,H b=some (.tup xs)->H' b=some (.tup xs)):ObjOk P w H' h' a o:=by
  induction o with
  | lst xs=>obtain ⟨z,its,n,r,e⟩:=x;exact ⟨z,its,n,r,k _ _ (.inl rfl) e⟩
  | tup xs=>obtain ⟨z,its,r,ob,e,c⟩:=x;exact ⟨z,its,r,ob,k _ _ (.inl rfl) e,c⟩
  | dK kvs=>obtain ⟨z,y,vs,r,ob,es,ep,e,c⟩:=x;exact ⟨z,y,vs,r,ob,es,ep,k _ _ (.inl rfl) e,c⟩
  | dT kvs =>
    obtain ⟨z,y,xs,r,ob,es,ep,e,c⟩:=x
    exact ⟨z,y,xs,Paired.mapP r fun p q z=>⟨z.1,ht _ _ z.2.1,z.2.2⟩,ob,es,ep,k _ _ (.inl rfl) e,c⟩
  | set S n=>obtain ⟨ob,es,ep,t,e,c⟩:=x;exact ⟨ob,es,ep,t,k _ _ (.inl rfl) e,c⟩
  | ins C dx fs =>
    obtain ⟨d,z,ne,e,mA,⟨od,es,ep,e2,c⟩,r⟩:=x
    exact ⟨ho _ d,z,ne,k _ _ (.inl rfl) e,mA,⟨od,es,ep,k _ _ (.inr d) e2,c⟩,r⟩
  | own y=>obtain ⟨ob,e⟩:=x;exact ⟨ob,k _ _ (.inl rfl) e⟩
  | xd fs=>obtain ⟨mA,⟨od,es,ep,e,c⟩,r⟩:=x;exact ⟨mA,⟨od,es,ep,k _ _ (.inl rfl) e,c⟩,r⟩
  | rng lo hi=>obtain ⟨t,u,v,e⟩:=x;exact ⟨t,u,v,k _ _ (.inl rfl) e⟩
  | frz ob u ih=>obtain ⟨e,q⟩:=x;exact ⟨k _ _ (.inl rfl) e,ih q⟩
  | tbl ps =>
    have e:h.get? a=some { cls:=.none,data:=.fields ps }:=x
    show h'.get? a=some { cls:=.none,data:=.fields ps }
    exact k a _ (.inl rfl) e
  | met f y =>
    have e:h.get? a=some (PySem.W.methodObj (.ref f) (.ref y)):=x
    show h'.get? a=some (PySem.W.methodObj (.ref f) (.ref y))
    exact k a _ (.inl rfl) e
  | ext φ=>obtain ⟨p,⟨o,e⟩,st⟩:=x;exact ⟨st _ _ p fun o q=>k _ _ (.inl rfl) q,⟨o,k _ _ (.inl rfl) e⟩,st⟩
theorem HOk.lt (x:HOk P w H h) (e:H a=some o):a < h.objs.size:=(x a o e).lt
theorem HOk.fresh (x:HOk P w H h) (e:h.objs.size<=a):H a=none:=by
  cases q:H a with
  | none=>rfl
  | some u=>exact absurd (Nat.lt_of_lt_of_le (x.lt q) e) (Nat.lt_irrefl _)
theorem HOk.kept (x:HOk P w H h) (k:∀ b u,h.get? b=some u->h'.get? b=some u):HOk P w H h':=fun a o e =>
  (x a o e).stay (fun b u _ q=>k b u q) (fun _ q=>q) fun _ _ q=>q
theorem HOk.laid (x:HOk P w H h) (k:∀ b u,h.get? b=some u->h'.get? b=some u) (hp:h.objs.size<=a) (new:ObjOk P w (upd H a o) h' a o):HOk P w (upd H a o) h':=fun b u e=>by
  have hn:=x.fresh hp
  by_cases hb:b=a
  . subst hb;rw [upd_same] at e;cases e;exact new
  . rw [upd_ne hb] at e
    exact (x b u e).stay (fun c v _ q=>k c v q) (fun c q=>by rw [upd_ne (ne_of_none q hn)];exact q) fun c xs q=>by rw [upd_ne (ne_of_none q hn)];exact q
end
noncomputable def Rd (H:Hp) (a:Addr) (u:HO):Prop:=H a=some u\/∃ o,H a=some (.frz o u)
theorem Rd.ok {P:Program} {w:World} {H:Hp} {h:Heap} {a:Addr} {u:HO} (r:Rd H a u) (x:HOk P w H h):ObjOk P w H h a u:=by
  rcases r with r | ⟨o,r⟩
  . exact x a u r
  . obtain ⟨_,q⟩:=x a _ r
    exact q
noncomputable def Mut:Option HO->Prop
  | some (.lst _)=>True
  | some (.dK _)=>True
  | some (.dT _)=>True
  | some (.set _ _)=>True
  | some (.ins _ _ _)=>True
  | some (.ext _)=>True
  | _=>False
section
variable {P:Program} {w:World} {H:Hp} {h h':Heap} {x e:Addr} {o':HO}
theorem HOk.write (ok : HOk P w H h) (mu : Mut (H x)) (he : e = x \/ H e = some (.own x)) (k : ∀ b u, b ≠ e -> h.get? b = some u -> h'.get? b = some u) (heo : ∃ u, h'.get? e = some u)
    (new:ObjOk P w (upd H x o') h' x o'):HOk P w (upd H x o') h':=fun b u q=>by
  have nown:∀ c y,H c=some (.own y)->c ≠ x:=fun c y r z=>by subst z;rw [r] at mu;exact mu
  have ntup:∀ c xs,H c=some (.tup xs)->c ≠ x:=fun c xs r z=>by subst z;rw [r] at mu;exact mu
  by_cases hb:b=x
  . subst hb;rw [upd_same] at q;cases q;exact new
  . rw [upd_ne hb] at q
    by_cases hbe:b=e
    . have q':H b=some (.own x):=by
        rcases he with z | z
        . exact absurd (hbe.trans z) hb
        . rw [hbe];exact z
      rw [q] at q';cases q'
      obtain ⟨v,hv⟩:=heo
      exact ⟨v,by rw [hbe];exact hv⟩
    . refine (ok b u q).stay (fun c v hc r=>k c v ?_ r) (fun c r=>by rw [upd_ne (nown c b r)];exact r) fun c xs r=>by rw [upd_ne (ntup c xs r)];exact r
      rcases hc with rfl | hc
      . exact hbe
      . rintro rfl
        rcases he with z | z
        . exact nown c b hc z
        . rw [hc] at z;cases z;exact hb rfl
end
structure Un (fs ex:List Addr) (H H':Hp) (h h':Heap):Prop where
  keep:∀ b o,h.get? b=some o->H b=none->b ∉ fs->b ∉ ex->h'.get? b=some o
  slot:∀ b o,h.get? b=some o->H b=none->b ∈ fs->b ∉ ex->∃ sl,h'.get? b=some { o with slots:=sl }
  free:∀ b o,h.get? b=some o->H b=none->b ∉ ex->H' b=none
  there:∀ b o,h.get? b=some o->b ∉ ex->∃ o',h'.get? b=some o'
  tups:∀ b xs,H b=some (.tup xs)->H' b=some (.tup xs)
  frzs:∀ b o u,H b=some (.frz o u)->H' b=some (.frz o u)
  tbls:∀ b ps,H b=some (.tbl ps)->∃ more,H' b=some (.tbl (ps ++ more))
section
variable {fs ex:List Addr} {H H1 H2:Hp} {h h1 h2 h':Heap} {a x e:Addr} {o:HO}
theorem Un.any (u:Un fs ex H H1 h h1) {b:Addr} {ob:Obj} (q:h.get? b=some ob) (n:H b=none) (hx:b ∉ ex):∃ sl,h1.get? b=some { ob with slots:=sl }:=by
  by_cases hb:b ∈ fs
  . exact u.slot b ob q n hb hx
  . exact ⟨ob.slots,u.keep b ob q n hb hx⟩
theorem Un.kept (k:∀ b u,h.get? b=some u->h'.get? b=some u):Un fs ex H H h h' :=
  ⟨fun b ob q _ _ _=>k b ob q,fun b ob q _ _ _=>⟨ob.slots,k b ob q⟩,fun _ _ _ n _=>n,fun b ob q _=>⟨ob,k b ob q⟩,fun _ _ q=>q,fun _ _ _ q=>q,fun _ ps q=>⟨#[],by rw [q];simp⟩⟩
theorem Un.refl:Un fs ex H H h h:=Un.kept fun _ _ q=>q
theorem Un.laid (k:∀ b u,h.get? b=some u->h'.get? b=some u) (hp:h.objs.size<=a) (hn:H a=none):Un fs ex H (upd H a o) h h' where
  keep:=fun b u q _ _ _=>k b u q
  slot:=fun b u q _ _ _=>⟨u.slots,k b u q⟩
  free:=fun b u q n _=>by rw [upd_ne (Nat.ne_of_lt (Nat.lt_of_lt_of_le (Heap.lt_size q) hp))];exact n
  there:=fun b u q _=>⟨u,k b u q⟩
  tups:=fun b xs q=>by rw [upd_ne (ne_of_none q hn)];exact q
  frzs:=fun b u xs q=>by rw [upd_ne (ne_of_none q hn)];exact q
  tbls:=fun b ps q=>⟨#[],by rw [upd_ne (ne_of_none q hn),q];simp⟩
theorem Un.write (mu:Mut (H x)) (he:e=x\/H e=some (.own x)) (k:∀ b u,b ≠ e->h.get? b=some u->h'.get? b=some u) (heo:∃ u,h'.get? e=some u):Un fs ex H (upd H x o) h h':=by
  have hx:∀ b,H b=none->b ≠ x:=fun b n z=>by subst z;rw [n] at mu;exact mu
  have hb:∀ b,H b=none->b ≠ e:=fun b n z=>by
    subst z
    rcases he with r | r
    . exact hx b n r
    . rw [n] at r;cases r
  have hm:∀ b u,H b=some u->¬ Mut (some u)->b ≠ x:=fun b u q nm z=>by subst z;rw [q] at mu;exact nm mu
  refine ⟨fun b u q n _ _=>k b u (hb b n) q,fun b u q n _ _=>⟨u.slots,k b u (hb b n) q⟩,fun b u q n _=>by rw [upd_ne (hx b n)];exact n,fun b u q _=>?_,
    fun b xs q=>by rw [upd_ne (hm b _ q fun z=>z)];exact q,fun b u xs q=>by rw [upd_ne (hm b _ q fun z=>z)];exact q,fun b ps q=>⟨#[],by rw [upd_ne (hm b _ q fun z=>z),q];simp⟩⟩
  by_cases hbe:b=e
  . subst hbe;exact heo
  . exact ⟨u,k b u hbe q⟩
end
noncomputable def trk (h:Heap) (H:Hp):List Addr:=(List.range h.objs.size).filter fun a=>(H a).isSome
noncomputable def hidT (h:Heap) (H:Hp):Heap:=PySem.W.hideAll h (trk h H)
theorem hidT_size (h:Heap) (H:Hp):(hidT h H).objs.size=h.objs.size:=PySem.W.hideAll_size _ _
theorem hidT_get {h:Heap} {H:Hp} {b:Addr} {o:Obj} (e:h.get? b=some o) (n:H b=none):(hidT h H).get? b=some o :=
  PySem.W.hideAll_get _ e fun hm=>by
    have q:(H b).isSome=true:=(List.mem_filter.mp hm).2
    rw [n] at q;simp at q
theorem of_hidT {h:Heap} {H:Hp} {b:Addr} {o:Obj} (e:(hidT h H).get? b=some o):h.get? b=some o/\H b=none:=by
  have e':h.get? b=some o:=PySem.W.of_hideAll (trk h H) e
  refine ⟨e',?_⟩
  cases q:H b with
  | none=>rfl
  | some x =>
    have hm:b ∈ trk h H:=List.mem_filter.mpr ⟨List.mem_range.mpr (Heap.lt_size e'),by simp [q]⟩
    have z:(hidT h H).get? b=none:=PySem.W.hideAll_none (trk h H) hm
    rw [z] at e;cases e
noncomputable def allNews (g h:Heap) (L:Addr):List (Addr × Obj):=(List.range h.objs.size).filterMap fun a=>if a=L\/(g.get? a).isSome=true then none else (h.get? a).map fun o=>(a,o)
noncomputable def rest (g h:Heap) (L d:Addr):List (Addr × Obj):=(allNews g h L).filter fun p=>decide (p.1 ≠ d)
end L2
namespace L2
open PySem PySem.Spec PyProof.Rows
structure Mod (K:PySem.W.Frag) (mg:Str->Option Value) (base:Heap):Prop where
  kin:K.In base
  glob:base.Ns mainGlobals mg
  blt:∃ mb,base.Ns builtinsNs mb/\∀ x:Str,x ≠ "__name__" -> mb x=bootBuiltins x
  nolimit:base.NoLimit
structure Cx where
  prog:Program
  w:World
  K:PySem.W.Frag
  mg:Str->Option Value
  base:Heap
  A:Around
  N:List Str
  s₀:Shared
  H₀:Hp
  env:Env
  outer:List Env
  stack:List Env
  ex:List Addr
  fn:Str->Bool
  calm:Bool
  pn:List (Addr × Obj)
  xe:Value->Shared->Prop
noncomputable def frs (l:List Env):List Addr:=l.filterMap (·.frame)
noncomputable abbrev Cx.fs (X:Cx):List Addr:=frs X.outer
noncomputable def Vis (sc:Scope) (x:Str):Prop:=sc.names.lookup x=some .local\/sc.names.lookup x=some .cell\/sc.names.lookup x=some .free
noncomputable def Loc (sc:Scope) (x:Str):Prop:=sc.names.lookup x=some .local\/sc.names.lookup x=some .cell
noncomputable def Look (env:Env) (h:Heap) (m:Str->Option Value) (x:Str) (u:Value):Prop :=
  (env.kindOf x=some .local/\m x=some u)\/((env.kindOf x=some .cell\/env.kindOf x=some .free)/\∃ c,env.cells.lookup x=some c/\h.IsCell c (some u))
structure Cx.Ok (X:Cx):Prop where
  mod:Mod X.K X.mg X.base
  kind:X.env.scope.kind = .function
  glob:X.env.globals=mainGlobals
  blt:X.env.builtins=builtinsNs
  above:X.s₀.heap.objs.size<=X.env.locals
  inj:∀ x y c,X.env.cells.lookup x=some c->X.env.cells.lookup y=some c->x=y
  has:∀ x,(X.env.kindOf x=some .cell\/X.env.kindOf x=some .free)->∃ c,X.env.cells.lookup x=some c
  cab:∀ x c,X.fn x=true->X.env.cells.lookup x=some c->X.s₀.heap.objs.size<=c
  hd:X.calm=true->X.A.handled=none
  frames:X.A.frames=some X.stack
  stk:X.stack=X.outer\/(X.stack=X.env :: X.outer/\X.env.frame=some X.env.locals)
  exf:∀ b ∈ X.ex,b ≠ X.env.locals/\∀ x c,X.env.cells.lookup x=some c->c ≠ b
  bs:∀ b o,X.base.get? b=some o->X.s₀.heap.get? b=some o/\X.H₀ b=none
  bsz:X.base.objs.size<=X.s₀.heap.objs.size
  noex:∀ b o,X.base.get? b=some o->b ∉ X.ex
  exfs:∀ b ∈ X.ex,b ∉ X.fs
  funs:X.s₀.heap.FunFrames X.base X.outer
  frf:∀ b ∈ X.fs,X.H₀ b=none
structure Inv (X:Cx) (pins:List (Addr × Obj)) (σ:List (Option V)) (H:Hp) (s:Shared):Prop where
  ok:X.Ok
  os:s.os=X.s₀.os
  bare:AllBare s.gens
  base:Un X.fs X.ex X.H₀ H X.s₀.heap s.heap
  loc:∃ m,s.heap.Ns X.env.locals m/\∀ (i:Nat) (x:Str) (v:V),X.N[i]?=some x->σ[i]?=some (some v)->Vis X.env.scope x->∃ u,RelV v u/\Look X.env s.heap m x u
  cell:∀ x c,X.env.cells.lookup x=some c->∃ v,s.heap.IsCell c v
  free:H X.env.locals=none
  freeC:∀ x c,X.env.cells.lookup x=some c->H c=none
  pin:∀ p ∈ X.pn ++ pins,s.heap.get? p.1=some p.2/\H p.1=none/\p.1 ≠ X.env.locals/\p.1 ∉ X.fs/\∀ v,p.2.data ≠ .cell v
  hok:HOk X.prog X.w H s.heap
  len:σ.length=X.N.length
section
variable {X:Cx} {pins:List (Addr × Obj)} {σ:List (Option V)} {H H':Hp} {s:Shared} {h':Heap}
theorem Cx.Ok.nofr (ok:X.Ok) {b:Addr} {o:Obj} (e:X.base.get? b=some o):b ∉ X.fs:=fun hb=>by
  have:=(ok.funs.mem hb).1
  rw [e] at this;cases this
theorem Inv.bs (I:Inv X pins σ H s):∀ b o,X.base.get? b=some o->s.heap.get? b=some o/\H b=none:=fun b o e =>
  ⟨I.base.keep b o (I.ok.bs b o e).1 (I.ok.bs b o e).2 (I.ok.nofr e) (I.ok.noex b o e),I.base.free b o (I.ok.bs b o e).1 (I.ok.bs b o e).2 (I.ok.noex b o e)⟩
theorem Inv.bk (I:Inv X pins σ H s):∀ b o,X.base.get? b=some o->s.heap.get? b=some o:=fun b o e=>(I.bs b o e).1
theorem Inv.mod (I:Inv X pins σ H s):Mod X.K X.mg X.base:=I.ok.mod
theorem Inv.kIn (I:Inv X pins σ H s):X.K.In s.heap:=I.ok.mod.kin.keeps I.bk
theorem Inv.fr (I:Inv X pins σ H s):∃ m,Fr X.base X.env.locals s.heap m :=
  let ⟨m,hn,_⟩:=I.loc
  ⟨m,hn,I.bk,Nat.le_trans I.ok.bsz I.ok.above⟩
theorem Inv.lt (I:Inv X pins σ H s):X.env.locals < s.heap.objs.size:=let ⟨_,hn,_⟩:=I.loc;hn.lt
theorem Inv.sz (I:Inv X pins σ H s):X.s₀.heap.objs.size<=s.heap.objs.size:=Nat.le_trans I.ok.above (Nat.le_of_lt I.lt)
theorem Inv.nofs (I:Inv X pins σ H s) {a:Addr} (h:s.heap.objs.size<=a):a ∉ X.fs:=fun hb=>by
  obtain ⟨_,o,ho,_⟩:=I.ok.funs.mem hb
  exact absurd (Nat.lt_of_lt_of_le (Heap.lt_size ho) (Nat.le_trans I.sz h)) (Nat.lt_irrefl _)
theorem Inv.cne (I:Inv X pins σ H s):∀ x c,X.env.cells.lookup x=some c->c ≠ X.env.locals:=fun x c e z=>by
  obtain ⟨v,o,ho,hd⟩:=I.cell x c e
  obtain ⟨m,⟨o',es,ep,ho',hd',_⟩,_⟩:=I.loc
  rw [z,ho'] at ho;cases ho;rw [hd'] at hd;cases hd
theorem Inv.funs (I:Inv X pins σ H s):s.heap.FunFrames X.base X.outer:=by
  have all:∀ (l:List Env),(∀ b ∈ frs l,b ∈ X.fs)->X.s₀.heap.FunFrames X.base l->s.heap.FunFrames X.base l:=by
    intro l
    induction l with
    | nil=>intro _ _;trivial
    | cons env r ih =>
      intro hs hl
      obtain ⟨hk,⟨L,o,hf,hn,ho,hd⟩,hr⟩:=hl
      have hL:L ∈ X.fs:=hs L (by unfold frs;rw [List.filterMap_cons,hf];exact List.mem_cons_self)
      obtain ⟨sl,e⟩:=I.base.slot L o ho (I.ok.frf L hL) hL fun z=>I.ok.exfs L z hL
      exact ⟨hk,⟨L,_,hf,hn,e,hd⟩,ih (fun b hb=>hs b (by unfold frs;rw [List.filterMap_cons,hf];exact List.mem_cons_of_mem _ hb)) hr⟩
  exact all X.outer (fun _ hb=>hb) I.ok.funs
theorem Inv.stack (I:Inv X pins σ H s):s.heap.FunFrames X.base X.stack:=by
  rcases I.ok.stk with e | ⟨e,hf⟩
  . rw [e];exact I.funs
  . rw [e]
    obtain ⟨m,hn,_⟩:=I.loc
    refine .cons (by rw [I.ok.kind];decide) hf hn ?_ I.funs
    exact Heap.get?_none_of_le (Nat.le_trans I.ok.bsz I.ok.above)
theorem Inv.stkSub (I:Inv X pins σ H s):∀ b ∈ frs X.stack,b ∈ X.env.locals :: X.fs:=fun b hb=>by
  rcases I.ok.stk with e | ⟨e,hf⟩
  . rw [e] at hb;exact List.mem_cons_of_mem _ hb
  . rw [e] at hb
    unfold frs at hb
    rw [List.filterMap_cons,hf] at hb
    exact hb
theorem Inv.stkFree (I:Inv X pins σ H s):∀ b ∈ frs X.stack,H b=none:=fun b hb=>by
  rcases List.mem_cons.mp (I.stkSub b hb) with e | hb
  . rw [e];exact I.free
  . obtain ⟨_,o,ho,_⟩:=I.ok.funs.mem hb
    exact I.base.free b o ho (I.ok.frf b hb) fun z=>I.ok.exfs b z hb
theorem Inv.step {g':Array GenState} {t':Nat} {d':Drawn} {ch:List Addr} (I:Inv X pins σ H s)
    (hch:∀ b ∈ ch,(b ∈ X.ex\/X.s₀.heap.objs.size<=b)/\b ≠ X.env.locals/\(∀ x c,X.env.cells.lookup x=some c->c ≠ b)/\∀ p ∈ X.pn ++ pins,p.1 ≠ b)
    (keep:∀ b o,b ≠ X.env.locals->b ∉ X.fs->b ∉ ch->s.heap.get? b=some o->H b=none->h'.get? b=some o)
    (slot:∀ b o,b ≠ X.env.locals->b ∈ X.fs->b ∉ ch->s.heap.get? b=some o->H b=none->∃ sl,h'.get? b=some { o with slots:=sl }) (free:∀ b o,b ∉ ch->s.heap.get? b=some o->H b=none->H' b=none)
    (there:∀ b o,b ∉ ch->s.heap.get? b=some o->∃ o',h'.get? b=some o')
    (tups:∀ b xs,H b=some (.tup xs)->H' b=some (.tup xs)) (frzs:∀ b o u,H b=some (.frz o u)->H' b=some (.frz o u)) (tbls:∀ b ps,H b=some (.tbl ps)->∃ more,H' b=some (.tbl (ps ++ more)))
    (ns:∀ m,s.heap.Ns X.env.locals m->h'.Ns X.env.locals m) (hok:HOk X.prog X.w H' h') (hg:AllBare g') :
    Inv X pins σ H' { s with heap:=h',gens:=g',drawn:=d',toks:=t' }:=by
  have neL:∀ b o,X.s₀.heap.get? b=some o->b ≠ X.env.locals:=fun b o e=>Nat.ne_of_lt (Nat.lt_of_lt_of_le (Heap.lt_size e) I.ok.above)
  have neC:∀ b o,X.s₀.heap.get? b=some o->b ∉ X.ex->b ∉ ch:=fun b o e hx hb=>by
    rcases (hch b hb).1 with z | z
    . exact hx z
    . exact absurd (Nat.lt_of_lt_of_le (Heap.lt_size e) z) (Nat.lt_irrefl _)
  have cellK:∀ x c,X.env.cells.lookup x=some c->∀ v,s.heap.IsCell c v->h'.IsCell c v:=fun x c e v ⟨o,ho,hd⟩=>by
    have nch:c ∉ ch:=fun z=>(hch c z).2.2.1 x c e rfl
    by_cases hc:c ∈ X.fs
    . obtain ⟨sl,q⟩:=slot c o (I.cne x c e) hc nch ho (I.freeC x c e)
      exact ⟨_,q,hd⟩
    . exact ⟨o,keep c o (I.cne x c e) hc nch ho (I.freeC x c e),hd⟩
  refine ⟨I.ok,I.os,hg,⟨fun b o e n hb hx=>?_,fun b o e n hb hx=>?_,fun b o e n hx=>?_,fun b o e hx=>?_,fun b xs e=>tups b xs (I.base.tups b xs e),fun b o xs e=>frzs b o xs (I.base.frzs b o xs e),fun b ps e=>?_⟩,?_,fun x c e=>?_,?_,fun x c e=>?_,fun p hp=>?_,hok,I.len⟩
  . exact keep b o (neL b o e) hb (neC b o e hx) (I.base.keep b o e n hb hx) (I.base.free b o e n hx)
  . obtain ⟨sl,e1⟩:=I.base.slot b o e n hb hx
    obtain ⟨sl',e2⟩:=slot b _ (neL b o e) hb (neC b o e hx) e1 (I.base.free b o e n hx)
    exact ⟨sl',e2⟩
  . obtain ⟨o',e1⟩:=I.base.there b o e hx
    exact free b o' (neC b o e hx) e1 (I.base.free b o e n hx)
  . obtain ⟨o',e1⟩:=I.base.there b o e hx
    exact there b o' (neC b o e hx) e1
  . obtain ⟨m1,e1⟩:=I.base.tbls b ps e
    obtain ⟨m2,e2⟩:=tbls b _ e1
    exact ⟨m1 ++ m2,by rw [e2,Array.append_assoc]⟩
  . obtain ⟨m,hn,hl⟩:=I.loc
    refine ⟨m,ns m hn,fun i x v e1 e2 e3=>?_⟩
    obtain ⟨u,r,l⟩:=hl i x v e1 e2 e3
    refine ⟨u,r,?_⟩
    rcases l with l | ⟨k,c,e,z⟩
    . exact .inl l
    . exact .inr ⟨k,c,e,cellK x c e _ z⟩
  . obtain ⟨v,z⟩:=I.cell x c e
    exact ⟨v,cellK x c e v z⟩
  . obtain ⟨m,⟨o,_,_,ho,_⟩,_⟩:=I.loc
    exact free _ o (fun z=>(hch _ z).2.1 rfl) ho I.free
  . obtain ⟨v,o,ho,hd⟩:=I.cell x c e
    exact free c o (fun z=>(hch c z).2.2.1 x c e rfl) ho (I.freeC x c e)
  . obtain ⟨e,n,ne,nf,d⟩:=I.pin p hp
    have nch:p.1 ∉ ch:=fun z=>(hch p.1 z).2.2.2 p hp rfl
    exact ⟨keep p.1 p.2 ne nf nch e n,free p.1 p.2 nch e n,ne,nf,d⟩
theorem Inv.un {t':Nat} (I:Inv X pins σ H s) (u:Un X.fs [] H H' s.heap h') (hok:HOk X.prog X.w H' h'):Inv X pins σ H' { s with heap:=h',toks:=t' }:=by
  obtain ⟨m,⟨o,es,ep,ho,r⟩,_⟩:=id I.loc
  obtain ⟨sl,hL⟩:=u.any ho I.free (by simp)
  exact I.step (g':=s.gens) (d':=s.drawn) (ch:=[]) (fun _ z=>nomatch z) (fun b o _ hb _ e n=>u.keep b o e n hb (by simp)) (fun b o _ hb _ e n=>u.slot b o e n hb (by simp)) (fun b o _ e n=>u.free b o e n (by simp)) (fun b o _ e=>u.there b o e (by simp)) u.tups u.frzs u.tbls (fun m' hm=>by
    obtain ⟨o',es',ep',ho',r'⟩:=hm
    rw [ho] at ho';cases ho'
    exact ⟨_,es',ep',hL,r'⟩) hok I.bare
theorem Inv.call {g':Array GenState} {t':Nat} {d':Drawn} {ch:List Addr} (I:Inv X pins σ H s) (u:Un (frs X.stack) ch H H' s.heap h') (hok:HOk X.prog X.w H' h') (hg:AllBare g')
    (hch:∀ b ∈ ch,(b ∈ X.ex\/X.s₀.heap.objs.size<=b)/\b ≠ X.env.locals/\(∀ x c,X.env.cells.lookup x=some c->c ≠ b)/\∀ p ∈ X.pn ++ pins,p.1 ≠ b) :
    Inv X pins σ H' { s with heap:=h',gens:=g',drawn:=d',toks:=t' }:=by
  obtain ⟨m,⟨o,es,ep,ho,r⟩,_⟩:=id I.loc
  obtain ⟨sl,hL⟩:=u.any ho I.free fun z=>(hch _ z).2.1 rfl
  exact I.step (ch:=ch) hch (fun b o hL hb hc e n=>u.keep b o e n (fun z=>(List.mem_cons.mp (I.stkSub b z)).elim hL hb) hc) (fun b o _ _ hc e n=>u.any e n hc) (fun b o hc e n=>u.free b o e n hc) (fun b o hc e=>u.there b o e hc) u.tups u.frzs u.tbls (fun m' hm=>by
    obtain ⟨o',es',ep',ho',r'⟩:=hm
    rw [ho] at ho';cases ho'
    exact ⟨_,es',ep',hL,r'⟩) hok hg
theorem Inv.turned {t':Nat} {it:Addr} (I:Inv X pins σ H s) (k:∀ b o,b ≠ it->s.heap.get? b=some o->h'.get? b=some o) (hn:H it=none) (hL:it ≠ X.env.locals)
    (h1:it ∈ X.ex\/X.s₀.heap.objs.size<=it) (h2:∀ x c,X.env.cells.lookup x=some c->c ≠ it) (h3:∀ p ∈ X.pn ++ pins,p.1 ≠ it):Inv X pins σ H { s with heap:=h',toks:=t' }:=by
  have nit:∀ b u,H b=some u->b ≠ it:=fun b u e z=>by rw [z,hn] at e;cases e
  refine I.step (g':=s.gens) (d':=s.drawn) (ch:=[it]) (fun b hb=>?_) (fun b o _ _ hc e _=>k b o (fun z=>hc (by simp [z])) e) (fun b o _ _ hc e _=>⟨o.slots,k b o (fun z=>hc (by simp [z])) e⟩) (fun _ _ _ _ n=>n)
    (fun b o hc e=>⟨o,k b o (fun z=>hc (by simp [z])) e⟩) (fun _ _ e=>e) (fun _ _ _ e=>e) (fun b ps e=>⟨#[],by rw [e];simp⟩) (fun m hm=>?_) (fun b u e=>?_) I.bare
  . have e:b=it:=by simpa using hb
    subst e
    exact ⟨h1,hL,h2,h3⟩
  . obtain ⟨o,es,ep,ho,r⟩:=hm
    exact ⟨o,es,ep,k _ o (Ne.symm hL) ho,r⟩
  . refine (I.hok b u e).stay (fun c v hc q=>k c v ?_ q) (fun _ q=>q) fun _ _ q=>q
    rcases hc with z | z
    . rw [z];exact nit b u e
    . exact nit c _ z
theorem Inv.tok (I:Inv X pins σ H s) (t:Nat):Inv X pins σ H { s with toks:=t }:=I.un (h':=s.heap) (t':=t) Un.refl I.hok
theorem Inv.kept {t':Nat} (I:Inv X pins σ H s) (k:∀ b u,s.heap.get? b=some u->h'.get? b=some u):Inv X pins σ H { s with heap:=h',toks:=t' }:=I.un (Un.kept k) (I.hok.kept k)
theorem Inv.laid {a:Addr} {o:HO} {t':Nat} (I:Inv X pins σ H s) (k:∀ b u,s.heap.get? b=some u->h'.get? b=some u) (hp:s.heap.objs.size<=a) (new:ObjOk X.prog X.w (upd H a o) h' a o) :
    Inv X pins σ (upd H a o) { s with heap:=h',toks:=t' }:=I.un (Un.laid k hp (I.hok.fresh hp)) (I.hok.laid k hp new)
theorem Inv.write {x e:Addr} {o:HO} {t':Nat} (I:Inv X pins σ H s) (mu:Mut (H x)) (he:e=x\/H e=some (.own x)) (k:∀ b u,b ≠ e->s.heap.get? b=some u->h'.get? b=some u) (heo:∃ u,h'.get? e=some u)
    (new:ObjOk X.prog X.w (upd H x o) h' x o):Inv X pins σ (upd H x o) { s with heap:=h',toks:=t' }:=I.un (Un.write mu he k heo) (I.hok.write mu he k heo new)
theorem Inv.pins_of {pins':List (Addr × Obj)} (I:Inv X pins σ H s) (h:∀ p ∈ pins',s.heap.get? p.1=some p.2/\H p.1=none/\p.1 ≠ X.env.locals/\p.1 ∉ X.fs/\∀ v,p.2.data ≠ .cell v):Inv X pins' σ H s :=
  ⟨I.ok,I.os,I.bare,I.base,I.loc,I.cell,I.free,I.freeC,fun p hp=>(List.mem_append.mp hp).elim (fun z=>I.pin p (List.mem_append_left _ z)) (h p),I.hok,I.len⟩
theorem nodup_ix {N:List Str} (hN:N.Nodup) {i j:Nat} {x:Str} (a:N[i]?=some x) (b:N[j]?=some x):i=j:=by
  obtain ⟨h1,e1⟩:=List.getElem?_eq_some_iff.mp a
  obtain ⟨h2,e2⟩:=List.getElem?_eq_some_iff.mp b
  exact (List.getElem_inj hN).mp (e1.trans e2.symm)
theorem store_ok2 {M : Model} {A : Around} {E : Value -> Shared -> Prop} {i : Nat} {x : Str} {v : V} {u : Value} {Q : Unit -> Shared -> Prop} (I : Inv X pins σ H s) (hN : X.N.Nodup) (hi : X.N[i]? = some x) (hx : Loc X.env.scope x) (r : RelV v u)
    (h:∀ s',Inv X pins (σ.set i (some v)) H s'->(∃ a,Heap.SameBut a s.heap s'.heap/\(a=X.env.locals\/X.env.cells.lookup x=some a))->Q () s') (hf:X.fn x=true\/X.env.scope.names.lookup x=some .local:=by first | exact .inl rfl | exact .inr rfl | assumption):wpAny M A (storeName X.env x u) Q E s:=by
  obtain ⟨m,hn,hl⟩:=id I.loc
  have hcls:(X.env.scope.kind == .class || (X.env.scope.kind == .module && X.env.locals != X.env.globals))=false:=by rw [I.ok.kind];rfl
  have hiσ:i < σ.length:=by rw [I.len];exact (List.getElem?_eq_some_iff.mp hi).1
  have cne:=I.cne
  have tracked:∀ {a:Addr} {h':Heap},(∃ o,s.heap.get? a=some o/\H a=none)->Heap.SameBut a s.heap h'->HOk X.prog X.w H h':=fun {a h'} ha hs b ob e=>by
    obtain ⟨_,_,hfree⟩:=ha
    refine (I.hok b ob e).stay (fun c w' hc q=>(hs.2 c ?_).trans q) (fun _ q=>q) fun _ _ q=>q
    rintro rfl
    rcases hc with rfl | hc
    . rw [hfree] at e;cases e
    . rw [hfree] at hc;cases hc
  rcases hx with hk | hk
  . refine wpAny_storeName_local hk hn (fun h' hn' hs=>?_) hcls
    obtain ⟨oL,_,_,hoL,_⟩:=id hn
    refine h _ ⟨I.ok,I.os,I.bare,⟨fun b o e n hb hx=>?_,fun b o e n hb hx=>?_,I.base.free,fun b o e hx=>?_,I.base.tups,I.base.frzs,I.base.tbls⟩,⟨_,hn',fun j y v' e1 e2 e3=>?_⟩,fun y c e=>?_,I.free,I.freeC,fun p hp=>?_,tracked ⟨oL,hoL,I.free⟩ hs,by simpa using I.len⟩ ⟨_,hs,.inl rfl⟩
    . exact (hs.2 b (Nat.ne_of_lt (Nat.lt_of_lt_of_le (Heap.lt_size e) I.ok.above))).trans (I.base.keep b o e n hb hx)
    . obtain ⟨sl,e1⟩:=I.base.slot b o e n hb hx
      exact ⟨sl,(hs.2 b (Nat.ne_of_lt (Nat.lt_of_lt_of_le (Heap.lt_size e) I.ok.above))).trans e1⟩
    . obtain ⟨o',e1⟩:=I.base.there b o e hx
      exact ⟨o',(hs.2 b (Nat.ne_of_lt (Nat.lt_of_lt_of_le (Heap.lt_size e) I.ok.above))).trans e1⟩
    . by_cases hj:j=i
      . subst hj
        rw [hi] at e1;cases e1
        rw [List.getElem?_set_self hiσ] at e2
        cases e2
        exact ⟨u,r,.inl ⟨hk,by simp⟩⟩
      . rw [List.getElem?_set_ne (Ne.symm hj)] at e2
        obtain ⟨u',r',q⟩:=hl j y v' e1 e2 e3
        refine ⟨u',r',?_⟩
        rcases q with ⟨k,e⟩ | ⟨k,c,e,z⟩
        . refine .inl ⟨k,?_⟩
          have:y ≠ x:=fun e=>hj (nodup_ix hN e1 (e ▸ hi))
          simp [this,e]
        . exact .inr ⟨k,c,e,z.sameBut hs (cne y c e)⟩
    . obtain ⟨w',z⟩:=I.cell y c e
      exact ⟨w',z.sameBut hs (cne y c e)⟩
    . obtain ⟨e,n,ne,nf,d⟩:=I.pin p hp
      exact ⟨(hs.2 p.1 ne).trans e,n,ne,nf,d⟩
  . have hfn:X.fn x=true:=by
      rcases hf with z | z
      . exact z
      . rw [z] at hk;cases hk
    obtain ⟨c,hc⟩:=I.ok.has x (.inl hk)
    obtain ⟨w',z⟩:=I.cell x c hc
    refine wpAny_storeName_cell I.ok.kind hk hc z (fun h' hc' hs=>?_)
    obtain ⟨oc,hoc,hocd⟩:=id z
    refine h { s with heap:=h' } ⟨I.ok,I.os,I.bare,⟨fun b o e n hb hx=>?_,fun b o e n hb hx=>?_,I.base.free,fun b o e hx=>?_,I.base.tups,I.base.frzs,I.base.tbls⟩,⟨m,hn.sameBut hs (Ne.symm (cne x c hc)),fun j y v' e1 e2 e3=>?_⟩,fun y c' e=>?_,I.free,I.freeC,fun p hp=>?_,tracked ⟨oc,hoc,I.freeC x c hc⟩ hs,by simpa using I.len⟩ ⟨c,hs,.inr hc⟩
    . exact (hs.2 b (Nat.ne_of_lt (Nat.lt_of_lt_of_le (Heap.lt_size e) (I.ok.cab x c hfn hc)))).trans (I.base.keep b o e n hb hx)
    . obtain ⟨sl,e1⟩:=I.base.slot b o e n hb hx
      exact ⟨sl,(hs.2 b (Nat.ne_of_lt (Nat.lt_of_lt_of_le (Heap.lt_size e) (I.ok.cab x c hfn hc)))).trans e1⟩
    . obtain ⟨o',e1⟩:=I.base.there b o e hx
      exact ⟨o',(hs.2 b (Nat.ne_of_lt (Nat.lt_of_lt_of_le (Heap.lt_size e) (I.ok.cab x c hfn hc)))).trans e1⟩
    . by_cases hj:j=i
      . subst hj
        rw [hi] at e1;cases e1
        rw [List.getElem?_set_self hiσ] at e2
        cases e2
        exact ⟨u,r,.inr ⟨.inl hk,c,hc,hc'⟩⟩
      . rw [List.getElem?_set_ne (Ne.symm hj)] at e2
        obtain ⟨u',r',q⟩:=hl j y v' e1 e2 e3
        refine ⟨u',r',?_⟩
        rcases q with q | ⟨k,c',e,z'⟩
        . exact .inl q
        . refine .inr ⟨k,c',e,z'.sameBut hs ?_⟩
          rintro rfl
          exact hj (nodup_ix hN e1 (I.ok.inj _ _ _ e hc ▸ hi))
    . by_cases hcc:c'=c
      . subst hcc;exact ⟨_,hc'⟩
      . obtain ⟨w2,z2⟩:=I.cell y c' e
        exact ⟨w2,z2.sameBut hs hcc⟩
    . obtain ⟨e,n,ne,nf,d⟩:=I.pin p hp
      refine ⟨(hs.2 p.1 ?_).trans e,n,ne,nf,d⟩
      intro q
      rw [q,hoc] at e
      have q':oc=p.2:=Option.some.inj e
      exact d w' (by rw [<- q'];exact hocd)
theorem store_ok {M:Model} {A:Around} {E:Value->Shared->Prop} {i:Nat} {x:Str} {v:V} {u:Value} {Q:Unit->Shared->Prop} (I:Inv X pins σ H s) (hN:X.N.Nodup) (hi:X.N[i]?=some x) (hx:Loc X.env.scope x) (r:RelV v u)
    (h:∀ s',Inv X pins (σ.set i (some v)) H s'->Q () s') (hf:X.fn x=true\/X.env.scope.names.lookup x=some .local:=by first | exact .inl rfl | exact .inr rfl | assumption):wpAny M A (storeName X.env x u) Q E s :=
  store_ok2 I hN hi hx r (fun s' I' _=>h s' I') hf
theorem Inv.call' {s':Shared} {ch:List Addr} (I:Inv X pins σ H s) (ho:s'.os=s.os) (u:Un (frs X.stack) ch H H' s.heap s'.heap) (hok:HOk X.prog X.w H' s'.heap) (hg:AllBare s'.gens)
    (hch:∀ b ∈ ch,(b ∈ X.ex\/X.s₀.heap.objs.size<=b)/\b ≠ X.env.locals/\(∀ x c,X.env.cells.lookup x=some c->c ≠ b)/\∀ p ∈ X.pn ++ pins,p.1 ≠ b):Inv X pins σ H' s':=by
  obtain ⟨h',g',d',t',o'⟩:=s'
  have e:o'=s.os:=ho
  subst e
  exact I.call (g':=g') (t':=t') (d':=d') u hok hg hch
end
noncomputable abbrev XK:=Value->Option Addr->Hp->Prop
noncomputable abbrev St:=List (Option V)
noncomputable abbrev VK:=V->Hp->Prop
noncomputable abbrev TE:=St->Hp->VK->Prop
noncomputable abbrev TT:=St->Hp->(Bool->Hp->Prop)->Prop
noncomputable abbrev TA:=St->Hp->(List V->Hp->Prop)->Prop
structure Ends where
  nx:St->Hp->Prop
  rt:VK
  bk:St->Hp->Prop:=fun _ _=>False
  ct:St->Hp->Prop:=fun _ _=>False
noncomputable abbrev TS:=Ends->St->Hp->Prop
noncomputable def EP (X:Cx) (pins:List (Addr × Obj)) (σ:St) (Q:VK) (u:Value) (s':Shared):Prop:=∃ v H',Inv X pins σ H' s'/\RelV v u/\Q v H'
noncomputable def TP (X:Cx) (pins:List (Addr × Obj)) (σ:St) (Q:Bool->Hp->Prop) (b:Bool) (s':Shared):Prop:=∃ H',Inv X pins σ H' s'/\Q b H'
noncomputable def AP (X:Cx) (pins:List (Addr × Obj)) (σ:St) (Q:List V->Hp->Prop) (us:List Value) (s':Shared):Prop:=∃ vs H',Inv X pins σ H' s'/\Vals vs us/\Q vs H'
noncomputable def SP (X:Cx) (pins:List (Addr × Obj)) (D:Ends) (f:Flow) (s':Shared):Prop :=
  match f with
  | .next=>∃ σ' H',Inv X pins σ' H' s'/\D.nx σ' H'
  | .brk=>∃ σ' H',Inv X pins σ' H' s'/\D.bk σ' H'
  | .cont=>∃ σ' H',Inv X pins σ' H' s'/\D.ct σ' H'
  | .ret u=>∃ v σ' H',Inv X pins σ' H' s'/\RelV v u/\D.rt v H'
noncomputable def PE (X:Cx) (e:Expr) (t:TE):Prop :=
  ∀ (pins:List (Addr × Obj)) (s:Shared) (σ:St) (H:Hp) (Q:VK),Inv X pins σ H s->t σ H Q->wpAny (model X.prog X.w) X.A (eval e X.env) (EP X pins σ Q) X.xe s
noncomputable def PT (X:Cx) (e:Expr) (t:TT):Prop :=
  ∀ (pins:List (Addr × Obj)) (s:Shared) (σ:St) (H:Hp) (Q:Bool->Hp->Prop),Inv X pins σ H s->t σ H Q->wpAny (model X.prog X.w) X.A (isTrue e X.env (eval e X.env)) (TP X pins σ Q) X.xe s
noncomputable def PW (X:Cx) (e:Expr) (t:TT):Prop :=
  ∀ (whole:Sem Value) (pins:List (Addr × Obj)) (s:Shared) (σ:St) (H:Hp) (Q:Bool->Hp->Prop),Inv X pins σ H s->t σ H Q->wpAny (model X.prog X.w) X.A (isTrue e X.env whole) (TP X pins σ Q) X.xe s
theorem PW.pt {X:Cx} {e:Expr} {t:TT} (h:PW X e t):PT X e t:=h _
noncomputable def PA (X:Cx) (es:List Expr) (t:TA):Prop :=
  ∀ (pos:Pos) (pins:List (Addr × Obj)) (s:Shared) (σ:St) (H:Hp) (Q:List V->Hp->Prop),Inv X pins σ H s->t σ H Q->wpAny (model X.prog X.w) X.A (spliced (backTo pos (starEach es X.env))) (AP X pins σ Q) X.xe s
noncomputable def PS (X:Cx) (st:Stmt) (t:TS):Prop :=
  ∀ (pins:List (Addr × Obj)) (s:Shared) (σ:St) (H:Hp) (D:Ends),Inv X pins σ H s->t D σ H->wpAny (model X.prog X.w) X.A (exec st X.env) (SP X pins D) X.xe s
noncomputable def PSs (X:Cx) (st:List Stmt) (t:TS):Prop :=
  ∀ (pins:List (Addr × Obj)) (s:Shared) (σ:St) (H:Hp) (D:Ends),Inv X pins σ H s->t D σ H->wpAny (model X.prog X.w) X.A (execs st X.env) (SP X pins D) X.xe s
theorem thn {α:Type} {t:Sem α} {Q Q':α->Shared->Prop} {M:Model} {A:Around} {E:Value->Shared->Prop} {s:Shared} (h:wpAny M A t Q E s) (hQ:∀ a s,Q a s->Q' a s):wpAny M A t Q' E s:=wpAny_mono h hQ fun _ _ x=>x
end L2
namespace L2
open PySem PySem.Spec PyProof.Rows
section
variable {X:Cx}
theorem bin {a b:Expr} {ta tb:TE} (ha:PE X a ta) (hb:PE X b tb) {pins:List (Addr × Obj)} {s:Shared} {σ:St} {H:Hp} {R:V->V->Hp->Prop} (I:Inv X pins σ H s) (h:ta σ H fun x H1=>tb σ H1 fun y H2=>R x y H2)
    {α:Type} {Q:α->Shared->Prop} {f:Value->Value->Sem α}
    (hf:∀ v u s2 x y H2,Inv X pins σ H2 s2->RelV x v->RelV y u->R x y H2->wpAny (model X.prog X.w) X.A (f v u) Q X.xe s2) :
    wpAny (model X.prog X.w) X.A (eval a X.env) (fun v s₁=>wpAny (model X.prog X.w) X.A (eval b X.env) (fun u s₂=>wpAny (model X.prog X.w) X.A (f v u) Q X.xe s₂) X.xe s₁) X.xe s:=by
  refine thn (ha pins s σ H _ I h) fun v s1 ⟨x,H1,I1,r1,q1⟩=>?_
  refine thn (hb pins s1 σ H1 _ I1 q1) fun u s2 ⟨y,H2,I2,r2,q2⟩=>?_
  exact hf v u s2 x y H2 I2 r1 r2 q2
noncomputable def tVar (i:Nat):TE:=fun σ H Q=>∃ v,σ[i]?=some (some v)/\Q v H
noncomputable def tC (v:V):TE:=fun _ H Q=>Q v H
theorem pe_var {i:Nat} {x:Str} {pos:Pos} (hN:X.N[i]?=some x) (hv:Vis X.env.scope x) (hd:(x == ("__debug__" : Str))=false:=by decide) (hcd:(x == ("__classdict__" : Str))=false:=by decide):PE X (.Name x pos) (tVar i):=by
  intro pins s σ H Q I h
  obtain ⟨v,e,h⟩:=h
  obtain ⟨m,hn,hl⟩:=I.loc
  obtain ⟨u,r,l⟩:=hl i x v hN e hv
  have fin:EP X pins σ Q u s:=⟨v,H,I,r,h⟩
  rcases l with ⟨hk,hm⟩ | ⟨hk,c,hc,hcell⟩
  . exact wpAny_Name (wpAny_loadName_local I.ok.kind hk hn hm fin) hd
  . rcases hk with hk | hk
    . exact wpAny_Name (wpAny_loadName_cell I.ok.kind hk hc hcell fin) hd
    . exact wpAny_Name (wpAny_loadName_free I.ok.kind hk hc hcell fin hcd) hd
theorem pe_int {i j pos}:PE X (.Constant (.int i) j pos) (tC (.int i)):=fun _ _ _ H _ I h=>wpAny_Constant_int ⟨.int i,H,I.tok _,⟨_,rfl⟩,h⟩
theorem pe_bl {b j pos}:PE X (.Constant (.bool b) j pos) (tC (.bl b)):=fun _ _ _ H _ I h=>Constant_bool ⟨.bl b,H,I,rfl,h⟩
noncomputable def Gl (X:Cx) (x:Str):Prop:=X.env.kindOf x=some .globalImplicit
theorem ld_glob {E:Value->Shared->Prop} {pins:List (Addr × Obj)} {s:Shared} {σ:St} {H:Hp} {x:Str} {u:Value} {pos:Pos} {Q:Value->Shared->Prop} (I:Inv X pins σ H s) (hg:Gl X x) (hm:X.mg x=some u) (h:Q u s)
    (hd:(x == ("__debug__" : Str))=false:=by decide):wpAny (model X.prog X.w) X.A (eval (.Name x pos) X.env) Q E s :=
  Calls.Name_function_global I.ok.kind hg (Calls.loadGlobal_global (by rw [I.ok.glob];exact I.mod.glob.keeps I.bk) hm h) hd
theorem ld_blt {E:Value->Shared->Prop} {pins:List (Addr × Obj)} {s:Shared} {σ:St} {H:Hp} {x:Str} {u:Value} {pos:Pos} {Q:Value->Shared->Prop} (I:Inv X pins σ H s) (hg:Gl X x) (hm:X.mg x=none) (hv:bootBuiltins x=some u) (h:Q u s)
    (hn:x ≠ "__name__" := by decide) (hd:(x == ("__debug__" : Str))=false:=by decide):wpAny (model X.prog X.w) X.A (eval (.Name x pos) X.env) Q E s:=by
  obtain ⟨mb,h1,h2⟩:=I.mod.blt
  exact Calls.Name_function_global I.ok.kind hg (Calls.loadGlobal_builtin (by rw [I.ok.glob];exact I.mod.glob.keeps I.bk) hm (by rw [I.ok.blt];exact h1.keeps I.bk) ((h2 x hn).trans hv) h) hd
theorem pe_glob {x:Str} {v:V} {u:Value} {pos:Pos} (hg:Gl X x) (hm:X.mg x=some u) (r:RelV v u) (hd:(x == ("__debug__" : Str))=false:=by decide):PE X (.Name x pos) (tC v) :=
  fun _ _ _ H _ I h=>ld_glob I hg hm ⟨v,H,I,r,h⟩ hd
variable {a b:Expr} {ta tb:TE} {pos:Pos}
noncomputable def PC (X:Cx) (op:CmpOp) (a b:Expr) (t:TE):Prop :=
  ∀ (pins:List (Addr × Obj)) (s:Shared) (σ:St) (H:Hp) (Q:VK),Inv X pins σ H s->t σ H Q ->
    wpAny (model X.prog X.w) X.A (eval a X.env) (fun v s₁=>wpAny (model X.prog X.w) X.A (eval b X.env) (fun u s₂=>wpAny (model X.prog X.w) X.A (compareOp op v u) (EP X pins σ Q) X.xe s₂) X.xe s₁) X.xe s
noncomputable def tB (t:TE):TT:=fun σ H Q=>t σ H fun x H1=>∃ c,x = .bl c/\Q c H1
theorem pt_cmp {op:CmpOp} {t:TE} (h:PC X op a b t) (h1:behindInMarks op b=false:=by first | exact nobehind _ (by decide) (by decide) | rfl):PT X (.Compare a [op] [b] pos) (tB t):=by
  intro pins s σ H Q I hw
  refine wpAny_isTrue_Compare1 (thn (h pins s σ H _ I hw) fun v s1 h1=>thn h1 fun u s2 h2=>thn h2 fun c s3 ⟨x,H1,I1,r1,q1⟩=>?_) h1
  obtain ⟨d,rfl,q⟩:=q1
  cases r1
  exact wpAny_truthy_bool ⟨H1,I1,q⟩
theorem pt_val {e:Expr} {t:TE} (h:PE X e t) (he:∀ whole,isTrue e X.env whole=(do let v <- whole;standAt e.pos;holding [v] (truthy v)):=by intro _;rfl):PT X e (tB t):=by
  intro pins s σ H Q I hw
  refine isTrue_plain (thn (h pins s σ H _ I hw) fun v s1 ⟨x,H1,I1,r1,q1⟩=>?_) (he _)
  obtain ⟨d,rfl,q⟩:=q1
  cases r1
  exact wpAny_truthy_bool ⟨H1,I1,q⟩
variable {tA tB':TT} {rest:List Expr}
noncomputable def tOr (t u:TT):TT:=fun σ H Q=>t σ H fun c H1=>if c=true then Q true H1 else u σ H1 Q
noncomputable def tNot (t:TT):TT:=fun σ H Q=>t σ H fun c H1=>Q (!c) H1
theorem pw_or1 (ha:PT X a tA):PW X (.BoolOp .Or [a] pos) tA:=by
  intro wh pins s σ H Q I h
  refine isTrue_or (thn (ha pins s σ H Q I h) fun c s1 e=>?_)
  cases c with
  | false=>exact isTrue_or_nil e
  | true=>exact e
theorem pw_or (ha:PT X a tA) (hb:PW X (.BoolOp .Or (b :: rest) pos) tB'):PW X (.BoolOp .Or (a :: b :: rest) pos) (tOr tA tB'):=by
  intro wh pins s σ H Q I h
  refine isTrue_or (thn (ha pins s σ H _ I h) fun c s1 ⟨H1,I1,q1⟩=>?_)
  cases c with
  | true=>exact ⟨H1,I1,q1⟩
  | false=>exact hb wh pins s1 σ H1 Q I1 q1
theorem pt_not (ha:PT X a tA):PT X (.UnaryOp .Not a pos) (tNot tA):=by
  intro pins s σ H Q I h
  exact isTrue_not (ha pins s σ H (fun c H1=>Q (!c) H1) I h)
noncomputable def tAndV (ta tb:TE):TE:=fun σ H Q=>ta σ H fun x H1=>∃ c,x = .bl c/\if c=true then tb σ H1 Q else Q (.bl false) H1
theorem pe_one {op} {t:TE} (h:PE X a t):PE X (.BoolOp op [a] pos) t:=fun pins s σ H Q I hw=>BoolOp_one (h pins s σ H Q I hw)
theorem pe_and (ha:PE X a ta) (hb:PE X (.BoolOp .And (b :: rest) pos) tb):PE X (.BoolOp .And (a :: b :: rest) pos) (tAndV ta tb):=by
  intro pins s σ H Q I h
  refine BoolOp_and (thn (ha pins s σ H _ I h) fun v s1 ⟨x,H1,I1,r1,q1⟩=>?_)
  obtain ⟨c,rfl,q1⟩:=q1
  cases r1
  refine wpAny_truthy_bool ?_
  cases c with
  | true=>exact hb pins s1 σ H1 Q I1 q1
  | false=>exact ⟨.bl false,H1,I1,rfl,q1⟩
end
end L2
namespace L2
open PySem PySem.Spec PyProof.Rows
noncomputable def SqL (K:PySem.W.Frag) (H:Hp) (a:Addr) (xs:List V):Prop :=
  Rd H a (.lst xs) \/
    ∃ (o:Obj) (its:Array Value) (n:Nat),K.lookup a=some o/\o.cls = .type "list" /\ o.dict=none/\o.data = .seq its n/\its.size<=sizeLine/\Vals xs its.toList
noncomputable def SqT (K:PySem.W.Frag) (H:Hp) (a:Addr) (xs:List V):Prop :=
  Rd H a (.tup xs) \/
    ∃ (o:Obj) (its:Array Value) (n:Nat),K.lookup a=some o/\o.cls = .type "tuple" /\ o.data = .seq its n/\its.size<=sizeLine/\Vals xs its.toList
noncomputable def absV:Value->Option V
  | .none=>some .non
  | .bool b=>some (.bl b)
  | .int i _=>some (.int i)
  | .str x _=>some (.str x)
  | .bytes b _=>some (.byt b)
  | .float b _=>some (.flt b)
  | .ref a=>some (.ref a)
  | .type n=>some (.ty n)
  | _=>none
theorem RelV.abs {x:V} {u:Value} (r:RelV x u):absV u=some x:=by
  cases x with
  | non=>cases r;rfl
  | bl _=>cases r;rfl
  | int _=>obtain ⟨t,rfl⟩:=r;rfl
  | str _=>obtain ⟨t,rfl⟩:=r;rfl
  | byt _=>obtain ⟨t,rfl⟩:=r;rfl
  | flt _=>obtain ⟨t,rfl⟩:=r;rfl
  | ref _=>cases r;rfl
  | ty _=>cases r;rfl
theorem RelV.inj {x y:V} {u:Value} (r:RelV x u) (q:RelV y u):x=y:=Option.some.inj (r.abs.symm.trans q.abs)
theorem Vals.inj:∀ {xs ys:List V} {us:List Value},Vals xs us->Vals ys us->xs=ys
  | _,_,_,.nil,.nil=>rfl
  | _,_,_,.cons r t,.cons r' t'=>by rw [r.inj r',Vals.inj t t']
section
variable {X:Cx} {pins:List (Addr × Obj)} {σ:St} {H:Hp} {s:Shared} {a:Addr} {xs ys:List V}
theorem SqL.of {K:PySem.W.Frag} (h:H a=some (.lst xs)):SqL K H a xs:=.inl (.inl h)
theorem SqT.of {K:PySem.W.Frag} (h:H a=some (.tup xs)):SqT K H a xs:=.inl (.inl h)
theorem Inv.list (I:Inv X pins σ H s) (h:SqL X.K H a xs):∃ its:List Value,Vals xs its/\PlainL s.heap a its.toArray/\xs.length<=sizeLine:=by
  rcases h with h | ⟨o,its,n,hk,hc,hd,hs,hz,r⟩
  . obtain ⟨z,its,n,r,e⟩:=h.ok I.hok
    exact ⟨its,r,⟨_,n,e,rfl,rfl,rfl⟩,z⟩
  . refine ⟨its.toList,r,⟨o,n,I.kIn a o hk,hc,hd,by simpa using hs⟩,?_⟩
    have e:=r.length
    simp only [Array.length_toList] at e
    omega
theorem Inv.tuple (I:Inv X pins σ H s) (h:SqT X.K H a xs):∃ its:List Value,Vals xs its/\IsTup s.heap a its.toArray/\xs.length<=sizeLine:=by
  rcases h with h | ⟨o,its,n,hk,hc,hs,hz,r⟩
  . obtain ⟨z,its,r,p⟩:=h.ok I.hok
    exact ⟨its,r,p,z⟩
  . refine ⟨its.toList,r,⟨o,I.kIn a o hk,hc,n,by simpa using hs⟩,?_⟩
    have e:=r.length
    simp only [Array.length_toList] at e
    omega
theorem Inv.list_inj (I:Inv X pins σ H s) (h:SqL X.K H a xs) (h':SqL X.K H a ys):xs=ys:=by
  obtain ⟨its,r,⟨o,n,e,_,_,d⟩,_⟩:=I.list h
  obtain ⟨its',r',⟨o',n',e',_,_,d'⟩,_⟩:=I.list h'
  rw [e] at e';cases e'
  rw [d] at d'
  injection d' with d1 _
  have:its=its':=by simpa using congrArg Array.toList d1
  subst this
  exact r.inj r'
theorem Inv.tuple_inj (I:Inv X pins σ H s) (h:SqT X.K H a xs) (h':SqT X.K H a ys):xs=ys:=by
  obtain ⟨its,r,⟨o,e,_,n,d⟩,_⟩:=I.tuple h
  obtain ⟨its',r',⟨o',e',_,n',d'⟩,_⟩:=I.tuple h'
  rw [e] at e';cases e'
  rw [d] at d'
  injection d' with d1 _
  have:its=its':=by simpa using congrArg Array.toList d1
  subst this
  exact r.inj r'
end
noncomputable abbrev Cx.wish (X:Cx) (E:Value->Shared->Prop):Cx:={ X with xe:=E }
noncomputable abbrev Cx.nox (X:Cx):Cx:=X.wish fun _ _=>False
theorem Cx.Ok.wish {X:Cx} (ok:X.Ok) (E:Value->Shared->Prop):(X.wish E).Ok :=
  ⟨ok.mod,ok.kind,ok.glob,ok.blt,ok.above,ok.inj,ok.has,ok.cab,ok.hd,ok.frames,ok.stk,ok.exf,ok.bs,ok.bsz,ok.noex,ok.exfs,ok.funs,ok.frf⟩
theorem Cx.Ok.unwish {X:Cx} {E:Value->Shared->Prop} (ok:(X.wish E).Ok):X.Ok :=
  ⟨ok.mod,ok.kind,ok.glob,ok.blt,ok.above,ok.inj,ok.has,ok.cab,ok.hd,ok.frames,ok.stk,ok.exf,ok.bs,ok.bsz,ok.noex,ok.exfs,ok.funs,ok.frf⟩
section
variable {X:Cx} {pins:List (Addr × Obj)} {σ:St} {H:Hp} {s:Shared} {E:Value->Shared->Prop}
theorem Inv.wish (I:Inv X pins σ H s) (E:Value->Shared->Prop):Inv (X.wish E) pins σ H s:=⟨I.ok.wish E,I.os,I.bare,I.base,I.loc,I.cell,I.free,I.freeC,I.pin,I.hok,I.len⟩
theorem Inv.unwish (I:Inv (X.wish E) pins σ H s):Inv X pins σ H s:=⟨I.ok.unwish,I.os,I.bare,I.base,I.loc,I.cell,I.free,I.freeC,I.pin,I.hok,I.len⟩
theorem SP.unwish {D:Ends} {f:Flow} {s':Shared} (h:SP (X.wish E) pins D f s'):SP X pins D f s':=by
  cases f with
  | next=>obtain ⟨σ',H',I,q⟩:=h;exact ⟨σ',H',I.unwish,q⟩
  | brk=>obtain ⟨σ',H',I,q⟩:=h;exact ⟨σ',H',I.unwish,q⟩
  | cont=>obtain ⟨σ',H',I,q⟩:=h;exact ⟨σ',H',I.unwish,q⟩
  | ret u=>obtain ⟨v,σ',H',I,r,q⟩:=h;exact ⟨v,σ',H',I.unwish,r,q⟩
theorem PSs.nox {st:List Stmt} {t:TS} (h:PSs X.nox st t):PSs X st t:=fun pins s σ H D I hw =>
  wpAny_mono (h pins s σ H D (I.wish _) hw) (fun _ _ q=>q.unwish) fun _ _ z=>False.elim z
end
section
variable {X:Cx} {st:Stmt} {rest:List Stmt} {t u:TS} {e:Expr} {te:TE} {pos:Pos}
noncomputable def tNext:TS:=fun D σ H=>D.nx σ H
noncomputable def tSeq (t u:TS):TS:=fun D σ H=>t { D with nx:=u D } σ H
theorem pss_nil:PSs X [] tNext:=fun _ _ σ H _ I h=>wpAny_execs_nil ⟨σ,H,I,h⟩
theorem pss_cons (h1:PS X st t) (h2:PSs X rest u):PSs X (st :: rest) (tSeq t u):=by
  intro pins s σ H D I h
  refine wpAny_execs_cons (thn (h1 pins s σ H { D with nx:=u D } I h) fun f s1 q=>?_)
  cases f with
  | next =>
    obtain ⟨σ',H',I',q⟩:=q
    exact h2 pins s1 σ' H' D I' q
  | ret v=>exact q
  | brk=>exact q
  | cont=>exact q
theorem pss_one (h1:PS X st t):PSs X [st] t:=by
  intro pins s σ H D I h
  refine wpAny_execs_cons (thn (h1 pins s σ H D I h) fun f s1 q=>?_)
  cases f with
  | next=>exact wpAny_execs_nil q
  | ret v=>exact q
  | brk=>exact q
  | cont=>exact q
theorem Inv.quiet {pins:List (Addr × Obj)} {σ:St} {H:Hp} {s:Shared} (I:Inv X pins σ H s):interactive X.env=false:=by simp [interactive,I.ok.kind]
noncomputable def tDrop (te:TE):TS:=fun D σ H=>te σ H fun _ H1=>D.nx σ H1
theorem ps_expr (he:PE X e te) (hs:swapsWith e none pos.line X.env=pure false:=by rfl):PS X (.Expr e pos) (tDrop te):=by
  intro pins s σ H D I h
  exact wpAny_Expr_any (thn (he pins s σ H _ I h) fun v s1 ⟨x,H1,I1,r1,q1⟩=>⟨σ,H1,I1,q1⟩) I.quiet hs
noncomputable def tRet (te:TE):TS:=fun D σ H=>te σ H D.rt
theorem ps_ret (he:PE X e te):PS X (.Return (some e) pos) (tRet te):=by
  intro pins s σ H D I h
  exact wpAny_Return_some (thn (he pins s σ H _ I h) fun v s1 ⟨x,H1,I1,r1,q1⟩=>⟨x,σ,H1,I1,r1,q1⟩)
noncomputable def tIfS (c:TT) (t u:TS):TS:=fun D σ H=>c σ H fun b H1=>if b=true then t D σ H1 else u D σ H1
theorem ps_if {c:Expr} {a b:List Stmt} {tc:TT} (hc:PT X c tc) (ha:PSs X a t) (hb:PSs X b u):PS X (.If c a b pos) (tIfS tc t u):=by
  intro pins s σ H D I h
  refine wpAny_If (thn (hc pins s σ H _ I h) fun d s1 ⟨H1,I1,q1⟩=>?_)
  cases d with
  | true=>exact ha pins s1 σ H1 D I1 q1
  | false=>exact hb pins s1 σ H1 D I1 q1
noncomputable def tNever:TS:=fun _ _ _=>False
theorem ps_never:PS X st tNever:=fun _ _ _ _ _ _ h=>h.elim
end
noncomputable abbrev TG:=V->St->Hp->(St->Hp->Prop)->Prop
noncomputable abbrev TGs:=List V->St->Hp->(St->Hp->Prop)->Prop
noncomputable def PG (X:Cx) (target:Expr) (t:TG):Prop :=
  ∀ (pins:List (Addr × Obj)) (s:Shared) (σ:St) (H:Hp) (v:V) (u:Value) (Q:St->Hp->Prop),Inv X pins σ H s->RelV v u->t v σ H Q ->
    wpAny (model X.prog X.w) X.A (assign target X.env u) (fun _ s'=>∃ σ' H',Inv X pins σ' H' s'/\Q σ' H') X.xe s
noncomputable def PGs (X:Cx) (ts:List Expr) (t:TGs):Prop :=
  ∀ (pins:List (Addr × Obj)) (s:Shared) (σ:St) (H:Hp) (vs:List V) (us:List Value) (Q:St->Hp->Prop),Inv X pins σ H s->Vals vs us->t vs σ H Q ->
    wpAny (model X.prog X.w) X.A (assignInOrder ((assignEach ts X.env).map (·.2)) us) (fun _ s'=>∃ σ' H',Inv X pins σ' H' s'/\Q σ' H') X.xe s
noncomputable abbrev TSet:=V->V->V->Hp->(Hp->Prop)->Prop
noncomputable def PSet (X:Cx) (t:TSet):Prop :=
  ∀ (pins:List (Addr × Obj)) (s:Shared) (σ:St) (H:Hp) (o i v:V) (ov iv u:Value) (Q:Hp->Prop),Inv X pins σ H s->RelV o ov->RelV i iv->RelV v u->t o i v H Q ->
    wpAny (model X.prog X.w) X.A (setItem ov iv u) (fun _ s'=>∃ H',Inv X pins σ H' s'/\Q H') X.xe s
section
variable {X:Cx} {pos:Pos}
noncomputable def gName (i:Nat):TG:=fun v σ H Q=>Q (σ.set i (some v)) H
theorem pg_name {i:Nat} {x:Str} (hN:X.N.Nodup) (hi:X.N[i]?=some x) (hx:Loc X.env.scope x) (hf:X.fn x=true\/X.env.scope.names.lookup x=some .local:=by first | exact .inl rfl | exact .inr rfl | assumption):PG X (.Name x pos) (gName i):=by
  intro pins s σ H v u Q I r h
  exact wpAny_assign_Name (store_ok I hN hi hx r (fun s' I'=>⟨_,H,I',h⟩) hf)
noncomputable def gNil:TGs:=fun vs σ H Q=>vs=[]/\Q σ H
noncomputable def gCons (t:TG) (u:TGs):TGs:=fun vs σ H Q=>∃ v r,vs=v :: r/\t v σ H fun σ' H'=>u r σ' H' Q
theorem pgs_nil:PGs X [] gNil:=by
  intro pins s σ H vs us Q I r h
  obtain ⟨e,h⟩:=h
  subst e
  cases r
  exact assignInOrder_nil ⟨σ,H,I,h⟩
theorem pgs_cons {e:Expr} {es:List Expr} {t:TG} {u:TGs} (h1:PG X e t) (h2:PGs X es u)
    (hs:(assignEach (e :: es) X.env).map (·.2)=assign e X.env :: (assignEach es X.env).map (·.2):=by rfl):PGs X (e :: es) (gCons t u):=by
  intro pins s σ H vs us Q I r h
  obtain ⟨v,vr,e1,h⟩:=h
  subst e1
  cases r with
  | cons r rr =>
    rw [hs]
    refine assignInOrder_cons (thn (h1 pins s σ H _ _ _ I r h) fun _ s1 ⟨σ1,H1,I1,q1⟩=>?_)
    exact h2 pins s1 σ1 H1 _ _ Q I1 rr q1
noncomputable def gTup (K:PySem.W.Frag) (n:Nat) (t:TGs):TG:=fun v σ H Q=>∃ a xs,v = .ref a/\SqT K H a xs/\xs.length=n/\t xs σ H Q
theorem pg_tup {es:List Expr} {k:Nat} {t:TGs} {n:Nat} (hc:X.calm=true) (h:PGs X es t)
    (hn:(assignEach es X.env).length=n:=by rfl) (hst:(assignEach es X.env).findIdx? (·.1)=none:=by rfl):PG X (.Tuple es k pos) (gTup X.K n t):=by
  intro pins s σ H v u Q I r hw
  obtain ⟨a,xs,e1,hq,hl,hw⟩:=hw
  subst e1
  cases r
  obtain ⟨its,rv,ht,hz⟩:=I.tuple hq
  refine assign_Tuple_tuple (I.ok.hd hc) ht (by simp [hn, <- hl,rv.length]) hst fun h' hx=>?_
  have I1:Inv X pins σ H { s with heap:=h' }:=I.kept (t':=s.toks) fun b o e=>hx b o (Nat.ne_of_lt (Heap.lt_size e)) e
  exact h pins _ σ H xs _ Q I1 (by simpa using rv) hw
noncomputable def gSub (to ti:TE) (t:TSet):TG:=fun v σ H Q=>to σ H fun o H1=>ti σ H1 fun i H2=>t o i v H2 fun H3=>Q σ H3
theorem pg_sub {o i:Expr} {to ti:TE} {t:TSet} (ho:PE X o to) (hi:PE X i ti) (hs:PSet X t)
    (ha:∀ v,assign (.Subscript o i pos) X.env v=(do
      let ov <- holding [v] (eval o X.env)
      let iv <- holding [v,ov] (eval i X.env)
      standAt pos
      holding [v,ov,iv] (setItem ov iv v)
      release [v,ov,iv] []):=by intro _;rfl):PG X (.Subscript o i pos) (gSub to ti t):=by
  intro pins s σ H v u Q I r h
  rw [ha]
  refine wpAny_bind (wpAny_holding (thn (ho pins s σ H _ I h) fun ov s1 ⟨x,H1,I1,r1,q1⟩=>?_))
  refine wpAny_bind (wpAny_holding (thn (hi pins s1 σ H1 _ I1 q1) fun iv s2 ⟨y,H2,I2,r2,q2⟩=>?_))
  refine wpAny_bind (wpAny_standAt (wpAny_bind (wpAny_holding (thn (hs pins s2 σ H2 x y v ov iv u _ I2 r1 r2 r q2) fun _ s3 ⟨H3,I3,q3⟩=>?_))))
  exact wpAny_release ⟨σ,H3,I3,q3⟩
noncomputable def tAsg (te:TE) (g:TG):TS:=fun D σ H=>te σ H fun x H1=>g x σ H1 D.nx
theorem ps_asg {tg e:Expr} {te:TE} {g:TG} (he:PE X e te) (hg:PG X tg g) (hs:swapsWithSole [tg] e pos.line X.env=pure false:=by rfl) (hw:swappedStores [tg] e X.env=pure none:=by rfl)
    (h1:(assignEach [tg] X.env).map (·.2)=[assign tg X.env]:=by rfl):PS X (.Assign [tg] e pos) (tAsg te g):=by
  intro pins s σ H D I h
  refine wpAny_Assign_stores (thn (he pins s σ H _ I h) fun v s1 ⟨x,H1,I1,r1,q1⟩=>?_) hs hw
  rw [h1]
  exact thn (hg pins s1 σ H1 x v _ I1 r1 q1) fun _ s2 q=>q
theorem ps_set {i:Nat} {x:Str} {e:Expr} {te:TE} {pos':Pos} (hN:X.N.Nodup) (hi:X.N[i]?=some x) (hx:Loc X.env.scope x) (he:PE X e te) (hs:swapsWith e (some (.Name x pos')) pos.line X.env=pure false:=by rfl) (hf:X.fn x=true\/X.env.scope.names.lookup x=some .local:=by first | exact .inl rfl | exact .inr rfl | assumption) :
    PS X (.Assign [.Name x pos'] e pos) (tAsg te (gName i)):=by
  intro pins s σ H D I h
  refine wpAny_Assign_Name (thn (he pins s σ H _ I h) fun v s1 ⟨y,H1,I1,r1,q1⟩=>?_) hs
  exact store_ok I1 hN hi hx r1 (fun s2 I2=>⟨_,H1,I2,q1⟩) hf
noncomputable def tPar (i j:Nat) (ta:TA):TS:=fun D σ H=>ta σ H fun vs H1=>∃ v w,vs=[v,w]/\D.nx ((σ.set i (some v)).set j (some w)) H1
theorem ps_par {i j : Nat} {x y : Str} {a b : Expr} {ta : TA} {px py pt : Pos} {kt k2 pt2} (hc : X.calm = true) (hN : X.N.Nodup) (hi : X.N[i]? = some x) (hj : X.N[j]? = some y) (hij : i ≠ j)
    (hx:X.env.scope.names.lookup x=some .local) (hy:X.env.scope.names.lookup y=some .local) (ha:PA X [a,b] ta)
    (hw:swappedStores [.Tuple [.Name x px,.Name y py] kt pt] (.Tuple [a,b] k2 pt2) X.env=pure (some [x,y]))
    (hs:swapsWithSole [.Tuple [.Name x px,.Name y py] kt pt] (.Tuple [a,b] k2 pt2) pos.line X.env=pure false:=by rfl) :
    PS X (.Assign [.Tuple [.Name x px,.Name y py] kt pt] (.Tuple [a,b] k2 pt2) pos) (tPar i j ta):=by
  intro pins s σ H D I h
  rw [exec_Assign_arm]
  refine wpAny_bind (wpAny_standAt ?_)
  rw [hs]
  refine wpAny_bind (wpAny_pure ?_)
  rw [if_neg (by decide)]
  refine wpAny_bind (Tuple_ (thn (ha _ pins s σ H _ I h) fun us s1 ⟨vs,H1,I1,r1,q1⟩=>?_))
  obtain ⟨v,w,e1,q1⟩:=q1
  subst e1
  obtain ⟨u1,u2,rfl,rv,rw'⟩:∃ u1 u2,us=[u1,u2]/\RelV v u1/\RelV w u2:=by
    cases r1 with
    | cons p q =>
      cases q with
      | cons p' q' =>
        cases q'
        exact ⟨_,_,rfl,p,p'⟩
  refine wpAny_newObj_type ?_ (by show 2<=sizeLine;decide)
  have I2:Inv X pins σ H1 { s1 with heap:=s1.heap.push { cls:=.type "tuple",data:=.seq [u1,u2].toArray } }:=I1.kept (t':=s1.toks) fun b o e=>Heap.get?_push_of_some _ e
  rw [hw]
  refine wpAny_bind (wpAny_pure ?_)
  show wpAny (model X.prog X.w) X.A (do rule "assign.swapped-stores";let items <- unpackItems (.ref s1.heap.objs.size) 2 none;assignInOrder [fun v=>bindName X.env y v,fun v=>bindName X.env x v] items.reverse;pure Flow.next) _ _ _
  refine wpAny_bind (wpAny_rule (wpAny_bind (unpackItems_tuple (items := #[u1,u2]) (I.ok.hd hc) (IsTup.new s1.heap _) fun h' hx'=>?_)))
  have I3:=I2.kept (h':=h') (t':=s1.toks) fun b o e=>hx' b o (Nat.ne_of_lt (Heap.lt_size e)) e
  show wpAny _ _ (assignInOrder [fun v=>bindName X.env y v,fun v=>bindName X.env x v] [u2,u1] >>= fun _=>pure Flow.next) _ _ _
  refine wpAny_bind (assignInOrder_cons (wpAny_bindName (store_ok I3 hN hj (.inl hy) rw' (fun s2 I4=>?_) (.inr hy))))
  refine assignInOrder_cons (wpAny_bindName (store_ok I4 hN hi (.inl hx) rv (fun s3 I5=>assignInOrder_nil (wpAny_pure ?_)) (.inr hx)))
  rw [List.set_comm _ _ (Ne.symm hij)] at I5
  exact ⟨_,H1,I5,q1⟩
end
section
variable {X:Cx} {pos:Pos}
noncomputable def tWhile (c:TT) (tb:TS):TS:=fun D σ H=>∃ W:Nat->St->Hp->Prop,(∃ m,W m σ H)/\∀ m σ H,W m σ H ->
  c σ H fun b H1=>if b=true then ∃ N:St->Hp->Prop,(∀ σ' H',N σ' H'->∃ m',m' < m/\W m' σ' H')/\tb { D with nx:=N,ct:=N,bk:=D.nx } σ H1 else D.nx σ H1
theorem ps_while {c:Expr} {body:List Stmt} {tc:TT} {tb:TS} (hp:PassesOwn (model X.prog X.w) X.A X.env X.xe) (hc:PT X c tc) (hb:PSs X body tb):PS X (.While c body [] pos) (tWhile tc tb):=by
  intro pins s σ H D I h
  obtain ⟨W,⟨m0,w0⟩,turn⟩:=h
  refine wpAny_While (codeAny_whileLoop (fun n s'=>∃ σ' H',Inv X pins σ' H' s'/\W n σ' H') ?_ m0 ⟨σ,H,I,w0⟩)
  rintro n s1 ⟨σ1,H1,I1,w1⟩
  refine wpAny_passesOwn hp (thn (hc pins s1 σ1 H1 _ I1 (turn n σ1 H1 w1)) fun b s2 ⟨H2,I2,q2⟩=>?_)
  cases b with
  | true =>
    obtain ⟨N,hN,q2⟩:=q2
    rw [if_pos rfl]
    refine wpAny_passesOwn hp (thn (hb pins s2 σ1 H2 _ I2 q2) fun f s3 q3=>?_)
    cases f with
    | next =>
      obtain ⟨σ3,H3,I3,n3⟩:=q3
      obtain ⟨m',hm,w3⟩:=hN σ3 H3 n3
      exact ⟨m',hm,σ3,H3,I3,w3⟩
    | cont =>
      obtain ⟨σ3,H3,I3,n3⟩:=q3
      obtain ⟨m',hm,w3⟩:=hN σ3 H3 n3
      exact ⟨m',hm,σ3,H3,I3,w3⟩
    | brk=>exact q3
    | ret v=>exact q3
  | false =>
    rw [if_neg Bool.false_ne_true]
    exact wpAny_execs_nil ⟨σ1,H2,I2,q2⟩
end
structure It where
  go:Nat->Hp->Prop
  yld:Nat->Hp->V->Hp->Prop
  stop:Nat->Hp->Prop
noncomputable def FpOk (X:Cx) (pins:List (Addr × Obj)) (H:Hp) (b:Addr):Prop :=
  H b=none/\b ≠ X.env.locals/\b ∉ X.fs/\(b ∈ X.ex\/X.s₀.heap.objs.size<=b)/\(∀ x c,X.env.cells.lookup x=some c->c ≠ b)/\∀ p ∈ X.pn ++ pins,p.1 ≠ b
theorem Inv.fpOk {X:Cx} {pins:List (Addr × Obj)} {σ:St} {H H':Hp} {s:Shared} {b:Addr} (I:Inv X pins σ H s) (hb:s.heap.objs.size<=b) (hn:H' b=none):FpOk X pins H' b:=by
  refine ⟨hn,Nat.ne_of_gt (Nat.lt_of_lt_of_le I.lt hb),I.nofs hb,.inr (Nat.le_trans I.sz hb),fun x c e z=>?_,fun p hp z=>?_⟩
  . obtain ⟨v,q⟩:=I.cell x c e
    exact absurd (Nat.lt_of_lt_of_le q.lt (by rw [z];exact hb)) (Nat.lt_irrefl _)
  . exact absurd (Nat.lt_of_lt_of_le (Heap.lt_size (I.pin p hp).1) (by rw [z];exact hb)) (Nat.lt_irrefl _)
structure Turn (P:Program) (w:World) (K:PySem.W.Frag) (tg:Expr) (J:It) (fp:List Addr) (it:Addr) (tn:Nat->Heap->Prop):Prop where
  mem:it ∈ fp
  obj:∀ i h,tn i h->∀ b ∈ fp,∃ o,h.get? b=some o/\∀ v,o.data ≠ .cell v
  keep:∀ i h h',tn i h->(∀ b ∈ fp,∀ o,h.get? b=some o->h'.get? b=some o)->tn i h'
  item:∀ (X:Cx),X.prog=P->X.w=w->X.K=K->X.calm=true->∀ (i:Nat) (pins:List (Addr × Obj)) (s:Shared) (σ:St) (H:Hp) (E:Value->Shared->Prop),Inv X pins σ H s->(∀ b ∈ fp,FpOk X pins H b)->tn i s.heap->J.go i H ->
    wpAny (model P w) X.A (pyNext (.ref it)) (fun r s1=>∃ u,r=some u /\
      wpAny (model P w) X.A (letOwnedTupleGo tg (.ref it) u) (fun _ s2=>∃ x H',Inv X pins σ H' s2/\RelV x u/\J.yld i H x H'/\tn (i + 1) s2.heap/\∀ b ∈ fp,H' b=none) E s1) E s
  done:∀ (X:Cx),X.prog=P->X.w=w->X.K=K->X.calm=true->∀ (i:Nat) (pins:List (Addr × Obj)) (s:Shared) (σ:St) (H:Hp) (E:Value->Shared->Prop),Inv X pins σ H s->(∀ b ∈ fp,FpOk X pins H b)->tn i s.heap->J.stop i H ->
    wpAny (model P w) X.A (pyNext (.ref it)) (fun r s1=>r=none/\Inv X pins σ H s1) E s
  self:∀ (A:Around) (i:Nat) (s:Shared) (Q:Value->Shared->Prop) (E:Value->Shared->Prop),tn i s.heap->Q (.ref it) s->wpAny (model P w) A (pyIter (.ref it)) Q E s
noncomputable abbrev TI:=St->Hp->(It->Hp->Prop)->Prop
noncomputable def PIE (X:Cx) (pins:List (Addr × Obj)) (σ:St) (tg:Expr) (R:It->Hp->Prop) (itv:Value) (s2:Shared):Prop :=
  ∃ (it:Addr) (fp:List Addr) (tn:Nat->Heap->Prop) (J:It) (H':Hp),itv = .ref it/\Inv X pins σ H' s2/\Turn X.prog X.w X.K tg J fp it tn/\tn 0 s2.heap/\(∀ b ∈ fp,FpOk X pins H' b)/\R J H'
noncomputable def PI (X:Cx) (tg iter:Expr) (wi:TI):Prop :=
  ∀ (pins:List (Addr × Obj)) (s:Shared) (σ:St) (H:Hp) (R:It->Hp->Prop),Inv X pins σ H s->wi σ H R ->
    wpAny (model X.prog X.w) X.A (eval iter X.env) (fun v s1=>wpAny (model X.prog X.w) X.A (pyIter v) (PIE X pins σ tg R) X.xe s1) X.xe s
theorem go_of {M : Model} {A : Around} {E : Value -> Shared -> Prop} {s : Shared} {tg : Expr} {it : Addr} {u : Value} {o : Obj} {n : String} {vs : Array Value} {Q : Unit -> Shared -> Prop} (ho : s.heap.get? it = some o) (hc : o.cls = .type n) (hd : o.data = .fields vs)
    (hn:["enumerate","zip","dict_itemiterator","dict_reverseitemiterator","odict_iterator","itertools.zip_longest","itertools.pairwise"].contains n=false) (hQ:Q () s):wpAny M A (letOwnedTupleGo tg (.ref it) u) Q E s:=by
  unfold letOwnedTupleGo
  cases tg <;> first
    | exact wpAny_pure hQ
    | (cases u <;> first
        | exact wpAny_pure hQ
        | (refine wpAny_bind (wpAny_load ho ?_)
           rw [hc,hd]
           show wpAny M A (if (["enumerate","zip","dict_itemiterator","dict_reverseitemiterator","odict_iterator","itertools.zip_longest","itertools.pairwise"].contains n && vs[0]? == some (rawInt _))=true then _ else _) Q E s
           rw [if_neg (by intro h;rw [hn,Bool.false_and] at h;cases h)]
           exact wpAny_pure hQ))
noncomputable def Itl (K:PySem.W.Frag) (a:Addr):It :=
  ⟨fun i H=>∃ xs x,SqL K H a xs/\xs[i]?=some x,fun i H x H'=>H'=H/\∀ xs,SqL K H a xs->xs[i]?=some x,fun i H=>∃ xs,SqL K H a xs/\xs.length<=i⟩
noncomputable def Itt (K:PySem.W.Frag) (a:Addr):It :=
  ⟨fun i H=>∃ xs x,SqT K H a xs/\xs[i]?=some x,fun i H x H'=>H'=H/\∀ xs,SqT K H a xs->xs[i]?=some x,fun i H=>∃ xs,SqT K H a xs/\xs.length<=i⟩
noncomputable def Itr (lo:Int) (n:Nat):It:=⟨fun i _=>i < n,fun i H x H'=>H'=H/\x = .int (lo + i),fun i _=>n<=i⟩
theorem turn_list {P:Program} {w:World} {K:PySem.W.Frag} {tg:Expr} (a it:Addr):Turn P w K tg (Itl K a) [it] it (fun i h=>h.IsListIter it a i) where
  mem:=by simp
  obj:=fun i h st b hb=>by
    have e:b=it:=by simpa using hb
    subst e
    obtain ⟨o,e,c,d⟩:=st
    exact ⟨o,e,fun v z=>by rw [d] at z;cases z⟩
  keep:=fun i h h' st k=>st.at fun o e=>k it (by simp) o e
  item:=by
    intro X hP hw hK hc i pins s σ H E I hf st hg
    subst hP hw hK
    obtain ⟨xs,x,hq,hx⟩:=hg
    obtain ⟨its,rv,p,hz⟩:=I.list hq
    obtain ⟨u,hu,ru⟩:=rv.get hx
    obtain ⟨f0,f1,f2,f3,f4,f5⟩:=hf it (by simp)
    refine wpAny_pyNext_list_item st p.isList (x:=u) (by simpa using hu) fun h' st' sb=>?_
    have I1:Inv X pins σ H { s with heap:=h' }:=I.turned (t':=s.toks) (fun b o hb e=>(sb.2 b hb).trans e) f0 f1 f3 f4 f5
    obtain ⟨o,e,c,d⟩:=id st'
    exact ⟨u,rfl,go_of (s:={ s with heap:=h' }) e c d (by decide) ⟨x,H,I1,ru,⟨rfl,fun ys hy=>by rw [I.list_inj hy hq];exact hx⟩,st',fun b hb=>(hf b hb).1⟩⟩
  done:=by
    intro X hP hw hK hc i pins s σ H E I hf st hg
    subst hP hw hK
    obtain ⟨xs,hq,hx⟩:=hg
    obtain ⟨its,rv,p,hz⟩:=I.list hq
    obtain ⟨f0,f1,f2,f3,f4,f5⟩:=hf it (by simp)
    have hl:=rv.length
    exact wpAny_pyNext_list_end (I.ok.hd hc) st p.isList (by simp;omega) fun h' eb=>⟨rfl,I.turned (t':=s.toks) (fun b o hb e=>eb b o hb e) f0 f1 f3 f4 f5⟩
  self:=fun _ _ _ _ _ st h=>wpAny_pyIter_listiter st h
theorem turn_tuple {P:Program} {w:World} {K:PySem.W.Frag} {tg:Expr} (a it:Addr):Turn P w K tg (Itt K a) [it] it (fun i h=>h.IsTupleIter it a i) where
  mem:=by simp
  obj:=fun i h st b hb=>by
    have e:b=it:=by simpa using hb
    subst e
    obtain ⟨o,e,c,d⟩:=st
    exact ⟨o,e,fun v z=>by rw [d] at z;cases z⟩
  keep:=fun i h h' st k=>st.at fun o e=>k it (by simp) o e
  item:=by
    intro X hP hw hK hc i pins s σ H E I hf st hg
    subst hP hw hK
    obtain ⟨xs,x,hq,hx⟩:=hg
    obtain ⟨its,rv,p,hz⟩:=I.tuple hq
    obtain ⟨u,hu,ru⟩:=rv.get hx
    obtain ⟨f0,f1,f2,f3,f4,f5⟩:=hf it (by simp)
    refine wpAny_pyNext_tuple_item st (show s.heap.IsTuple a its.toArray from p) (x:=u) (by simpa using hu) fun h' st' sb=>?_
    have I1:Inv X pins σ H { s with heap:=h' }:=I.turned (t':=s.toks) (fun b o hb e=>(sb.2 b hb).trans e) f0 f1 f3 f4 f5
    obtain ⟨o,e,c,d⟩:=id st'
    exact ⟨u,rfl,go_of (s:={ s with heap:=h' }) e c d (by decide) ⟨x,H,I1,ru,⟨rfl,fun ys hy=>by rw [I.tuple_inj hy hq];exact hx⟩,st',fun b hb=>(hf b hb).1⟩⟩
  done:=by
    intro X hP hw hK hc i pins s σ H E I hf st hg
    subst hP hw hK
    obtain ⟨xs,hq,hx⟩:=hg
    obtain ⟨its,rv,p,hz⟩:=I.tuple hq
    obtain ⟨f0,f1,f2,f3,f4,f5⟩:=hf it (by simp)
    have hl:=rv.length
    exact wpAny_pyNext_tuple_end (I.ok.hd hc) st (show s.heap.IsTuple a its.toArray from p) (by simp;omega) fun h' eb=>⟨rfl,I.turned (t':=s.toks) (fun b o hb e=>eb b o hb e) f0 f1 f3 f4 f5⟩
  self:=fun _ _ _ _ _ st h=>wpAny_pyIter_tupleiter st h
theorem turn_range {P:Program} {w:World} {K:PySem.W.Frag} {tg:Expr} (it:Addr) (lo:Int) (n:Nat):Turn P w K tg (Itr lo n) [it] it (fun i h=>IsRangeIter h it (lo + (i:Nat) * 1) ((n:Int) - (i:Nat)) 1) where
  mem:=by simp
  obj := fun i h st b hb => by
    have e:b=it:=by simpa using hb
    subst e
    exact ⟨_,st,fun v z=>by
      have z':Data.fields _=Data.cell v:=z
      cases z'⟩
  keep:=fun i h h' st k=>k it (by simp) _ st
  item:=by
    intro X hP hw hK hc i pins s σ H E I hf st hg
    subst hP hw hK
    obtain ⟨f0,f1,f2,f3,f4,f5⟩:=hf it (by simp)
    have W:=Walks.range (prog:=X.prog) (w:=X.w) (I.ok.hd hc) it lo 1 n
    refine W.item i s _ _ hg st fun v h' tk hv st' kk=>?_
    obtain ⟨t,rfl⟩:=hv
    have I1:Inv X pins σ H { s with heap:=h',toks:=tk }:=I.turned (fun b o hb e=>kk b o (by simpa using hb) e) f0 f1 f3 f4 f5
    refine ⟨_,rfl,go_of (s:={ s with heap:=h',toks:=tk }) (n := "range_iterator") st' rfl rfl (by decide) ⟨.int (lo + i),H,I1,⟨t,?_⟩,⟨rfl,rfl⟩,st',fun b hb=>(hf b hb).1⟩⟩
    rw [Int.mul_one]
  done:=by
    intro X hP hw hK hc i pins s σ H E I hf st hg
    subst hP hw hK
    obtain ⟨f0,f1,f2,f3,f4,f5⟩:=hf it (by simp)
    exact wpAny_pyNext_range_end (I.ok.hd hc) st (by have:n<=i:=hg;omega) fun h' eb=>⟨rfl,I.turned (t':=s.toks) (fun b o hb e=>eb b o hb e) f0 f1 f3 f4 f5⟩
  self:=fun _ _ _ _ _ st h=>wpAny_pyIter_rangeiter st h
end L2
namespace L2
open PySem PySem.Spec PyProof.Rows
section
variable {X:Cx} {tg:Expr}
noncomputable def iList (K:PySem.W.Frag) (tl:TE):TI:=fun σ H R=>tl σ H fun x H1=>∃ a,x = .ref a/\(∃ xs,SqL K H1 a xs)/\R (Itl K a) H1
noncomputable def iTup (K:PySem.W.Frag) (tl:TE):TI:=fun σ H R=>tl σ H fun x H1=>∃ a,x = .ref a/\(∃ xs,SqT K H1 a xs)/\R (Itt K a) H1
theorem pi_list {l:Expr} {tl:TE} (hl:PE X l tl):PI X tg l (iList X.K tl):=by
  intro pins s σ H R I h
  refine thn (hl pins s σ H _ I h) fun v s1 ⟨x,H1,I1,r1,q1⟩=>?_
  obtain ⟨a,e,⟨xs,hq⟩,q⟩:=q1
  subst e
  cases r1
  obtain ⟨its,rv,p,hz⟩:=I1.list hq
  refine wpAny_pyIter_list p.isList ?_
  refine ⟨s1.heap.objs.size,[s1.heap.objs.size],_,_,H1,rfl,I1.kept (t':=s1.toks) fun b o e=>Heap.get?_push_of_some _ e,turn_list a _,⟨_,Heap.get?_push_size _ rfl,rfl,rfl⟩,fun b hb=>?_,q⟩
  have e:b=s1.heap.objs.size:=by simpa using hb
  subst e
  exact I1.fpOk (Nat.le_refl _) (I1.hok.fresh (Nat.le_refl _))
theorem pi_tup {l:Expr} {tl:TE} (hl:PE X l tl):PI X tg l (iTup X.K tl):=by
  intro pins s σ H R I h
  refine thn (hl pins s σ H _ I h) fun v s1 ⟨x,H1,I1,r1,q1⟩=>?_
  obtain ⟨a,e,⟨xs,hq⟩,q⟩:=q1
  subst e
  cases r1
  obtain ⟨its,rv,p,hz⟩:=I1.tuple hq
  refine wpAny_pyIter_tuple (show s1.heap.IsTuple a its.toArray from p) ?_
  refine ⟨s1.heap.objs.size,[s1.heap.objs.size],_,_,H1,rfl,I1.kept (t':=s1.toks) fun b o e=>Heap.get?_push_of_some _ e,turn_tuple a _,⟨_,Heap.get?_push_size _ rfl,rfl,rfl⟩,fun b hb=>?_,q⟩
  have e:b=s1.heap.objs.size:=by simpa using hb
  subst e
  exact I1.fpOk (Nat.le_refl _) (I1.hok.fresh (Nat.le_refl _))
theorem range_it {pins:List (Addr × Obj)} {σ:St} {H:Hp} {s:Shared} {R:It->Hp->Prop} {E:Value->Shared->Prop} {lo hi:Int} {t u v:Tok} {tk:Nat} (I:Inv X pins σ H s) (h1 : -(2 ^ 62)<=lo) (h2:lo < 2 ^ 62) (h3 : -(2 ^ 62)<=hi) (h4:hi < 2 ^ 62)
    (q:R (Itr lo (hi - lo).toNat) H):wpAny (model X.prog X.w) X.A (pyIter (.ref s.heap.objs.size)) (PIE X pins σ tg R) E { s with heap:=s.heap.push { cls:=.type "range",data:=.fields #[.int lo t,.int hi u,.int 1 v] },toks:=tk }:=by
  refine wpAny_pyIter_range (IsRange.new ..) (small_one h1 h2 h3 h4) ?_
  have I1:Inv X pins σ H { s with heap:=s.heap.push { cls:=.type "range",data:=.fields #[.int lo t,.int hi u,.int 1 v] },toks:=tk }:=I.kept fun b o e=>Heap.get?_push_of_some _ e
  refine ⟨(s.heap.push { cls:=.type "range",data:=.fields #[.int lo t,.int hi u,.int 1 v] }).objs.size,[(s.heap.push { cls:=.type "range",data:=.fields #[.int lo t,.int hi u,.int 1 v] }).objs.size],_,_,H,rfl,
    I1.kept (t':=tk) fun b o e=>Heap.get?_push_of_some _ e,turn_range _ lo (hi - lo).toNat,?_,fun b hb=>?_,q⟩
  . have e1:lo + ((0:Nat):Int) * 1=lo:=by simp
    have e2:(((hi - lo).toNat:Nat):Int) - ((0:Nat):Int)=Builtin.Range.rangeSize lo hi 1:=by rw [rangeSize_one];split <;> omega
    show IsRangeIter _ _ (lo + ((0:Nat):Int) * 1) ((((hi - lo).toNat:Nat):Int) - ((0:Nat):Int)) 1
    rw [e1,e2]
    exact Heap.get?_push_size _ rfl
  . have e:b=(s.heap.push { cls:=.type "range",data:=.fields #[.int lo t,.int hi u,.int 1 v] }).objs.size:=by simpa using hb
    subst e
    exact I1.fpOk (Nat.le_refl _) (I1.hok.fresh (Nat.le_refl _))
noncomputable def iRng1 (ta:TA):TI:=fun σ H R=>ta σ H fun vs H1=>∃ j:Int,vs=[.int j] /\ -(2 ^ 62)<=j/\j < 2 ^ 62/\R (Itr 0 j.toNat) H1
noncomputable def iRng2 (ta:TA):TI:=fun σ H R=>ta σ H fun vs H1=>∃ i j:Int,vs=[.int i,.int j]/\(-(2 ^ 62)<=i/\i < 2 ^ 62 /\ -(2 ^ 62)<=j/\j < 2 ^ 62)/\R (Itr i (j - i).toNat) H1
theorem pi_range1 {a:Expr} {ta:TA} {p pos:Pos} (hg:Gl X "range") (hm:X.mg "range" = none) (ha:PA X [a] ta) (hs:starEach [a] X.env=[(false,eval a X.env)]:=by rfl):PI X tg (.Call (.Name "range" p) [a] [] pos) (iRng1 ta):=by
  intro pins s σ H R I h
  refine Call_ (ld_blt I hg hm boot_range (PyProof.Rows.callWith_type1 (thn (ha pos pins s σ H _ I h) fun us s1 ⟨vs,H1,I1,r1,q1⟩=>?_) hs rfl))
  obtain ⟨j,e,q1,q2,q⟩:=q1
  subst e
  cases r1 with
  | cons r rr =>
    cases rr
    obtain ⟨t,rfl⟩:=r
    exact call_range_1 (range_it I1 (by omega) (by omega) q1 q2 (by simpa using q))
theorem pi_range2 {a b:Expr} {ta:TA} {p pos:Pos} (hg:Gl X "range") (hm:X.mg "range" = none) (ha:PA X [a,b] ta) (hs:starEach [a,b] X.env=[(false,eval a X.env),(false,eval b X.env)]:=by rfl) (hs2:starEach [b] X.env=[(false,eval b X.env)]:=by rfl) :
    PI X tg (.Call (.Name "range" p) [a,b] [] pos) (iRng2 ta):=by
  intro pins s σ H R I h
  refine Call_ (ld_blt I hg hm boot_range (PyProof.Rows.callWith_type1 (thn (ha pos pins s σ H _ I h) fun us s1 ⟨vs,H1,I1,r1,q1⟩=>?_) (by rw [hs,hs2]) (by rw [hs2];rfl)))
  obtain ⟨i,j,e,⟨q1,q2,q3,q4⟩,q⟩:=q1
  subst e
  cases r1 with
  | cons r rr =>
    cases rr with
    | cons r' rr =>
      cases rr
      obtain ⟨t,rfl⟩:=r
      obtain ⟨t',rfl⟩:=r'
      exact call_range_2 (range_it I1 q1 q2 q3 q4 q)
noncomputable def tFor (wi:TI) (g:TG) (tb:TS):TS:=fun D σ H=>wi σ H fun J H1=>∃ W:Nat->Nat->St->Hp->Prop,(∃ m,W 0 m σ H1)/\∀ i m σ H,W i m σ H ->
  (J.stop i H/\D.nx σ H)\/(J.go i H/\∃ N:St->Hp->Prop,(∀ σ' H',N σ' H'->∃ m',m' < m/\W (i + 1) m' σ' H')/\∀ x H',J.yld i H x H'->g x σ H' fun σ2 H2=>tb { D with nx:=N,ct:=N,bk:=D.nx } σ2 H2)
noncomputable def pinsAt (fp:List Addr) (h:Heap):List (Addr × Obj):=fp.filterMap fun b=>(h.get? b).map fun o=>(b,o)
theorem mem_pinsAt {fp:List Addr} {h:Heap} {b:Addr} {o:Obj} (hb:b ∈ fp) (e:h.get? b=some o):(b,o) ∈ pinsAt fp h:=List.mem_filterMap.mpr ⟨b,hb,by rw [e];rfl⟩
theorem of_pinsAt {fp:List Addr} {h:Heap} {p:Addr × Obj} (hp:p ∈ pinsAt fp h):p.1 ∈ fp/\h.get? p.1=some p.2:=by
  obtain ⟨b,hb,e⟩:=List.mem_filterMap.mp hp
  cases q:h.get? b with
  | none=>rw [q] at e;cases e
  | some o =>
    rw [q] at e
    have e':(b,o)=p:=Option.some.inj e
    subst e'
    exact ⟨hb,q⟩
theorem Inv.pinned {pins:List (Addr × Obj)} {σ:St} {H:Hp} {s:Shared} {fp:List Addr} (I:Inv X pins σ H s) (hf:∀ b ∈ fp,FpOk X pins H b) (ho:∀ b ∈ fp,∃ o,s.heap.get? b=some o/\∀ v,o.data ≠ .cell v):Inv X (pins ++ pinsAt fp s.heap) σ H s :=
  I.pins_of fun p hp=>(List.mem_append.mp hp).elim (fun z=>I.pin p (List.mem_append_right _ z)) fun z=>by
    obtain ⟨hb,e⟩:=of_pinsAt z
    obtain ⟨f0,f1,f2,_⟩:=hf p.1 hb
    obtain ⟨o,e',d⟩:=ho p.1 hb
    rw [e] at e';cases e'
    exact ⟨e,f0,f1,f2,d⟩
theorem Inv.unpinned {pins pl:List (Addr × Obj)} {σ:St} {H:Hp} {s:Shared} (I:Inv X (pins ++ pl) σ H s):Inv X pins σ H s:=I.pins_of fun p hp=>I.pin p (List.mem_append_right _ (List.mem_append_left _ hp))
theorem ps_for {iter:Expr} {body:List Stmt} {wi:TI} {g:TG} {tb:TS} {pos:Pos} (hp:PassesOwn (model X.prog X.w) X.A X.env X.xe) (hc:X.calm=true) (hi:PI X tg iter wi) (hg:PG X tg g) (hb:PSs X body tb)
    (hs:∀ x,foldedSetIterable iter X.env x=pure x:=by intro _;rfl):PS X (.For tg iter body [] pos) (tFor wi g tb):=by
  intro pins s σ H D I h
  refine wpAny_For (thn (hi pins s σ H _ I h) fun v s1 h1=>thn h1 fun itv s2 h2=>?_) hs
  obtain ⟨it,fp,tn,J,H2,e,I2,T,st2,f2,W,⟨m0,w0⟩,turn⟩:=h2
  subst e
  have stat:∀ {H':Hp},(∀ b ∈ fp,H' b=none)->∀ b ∈ fp,FpOk X pins H' b:=fun hn b hb=>⟨hn b hb,(f2 b hb).2⟩
  refine codeAny_forLoop_any (fun n s'=>∃ i σ' H',Inv X pins σ' H' s'/\tn i s'.heap/\(∀ b ∈ fp,H' b=none)/\W i n σ' H') ?_ m0 ⟨0,σ,H2,I2,st2,fun b hb=>(f2 b hb).1,w0⟩
  rintro n s3 ⟨i,σ3,H3,I3,st3,fr3,w3⟩
  rcases turn i n σ3 H3 w3 with ⟨stop,qn⟩ | ⟨go,N,hN,step⟩
  . refine wpAny_passesOwn hp (thn (T.done X rfl rfl rfl hc i pins s3 σ3 H3 X.xe I3 (stat fr3) st3 stop) fun r s4 ⟨hr,I4⟩=>?_)
    subst hr
    exact wpAny_execs_nil ⟨σ3,H3,I4,qn⟩
  . refine wpAny_passesOwn hp (thn (T.item X rfl rfl rfl hc i pins s3 σ3 H3 X.xe I3 (stat fr3) st3 go) fun r s4 ⟨u,hr,h4⟩=>?_)
    subst hr
    refine wpAny_passesOwn hp (thn h4 fun _ s5 ⟨x,H5,I5,r5,y5,st5,fr5⟩=>?_)
    have I5':=I5.pinned (stat fr5) (T.obj _ _ st5)
    refine wpAny_passesOwn hp (thn (hg _ s5 σ3 H5 x u _ I5' r5 (step x H5 y5)) fun _ s6 ⟨σ6,H6,I6,q6⟩=>?_)
    refine wpAny_passesOwn hp (thn (hb _ s6 σ6 H6 _ I6 q6) fun f s7 q7=>?_)
    have again:∀ {σ7:St} {H7:Hp},Inv X (pins ++ pinsAt fp s5.heap) σ7 H7 s7->N σ7 H7->∃ m,m < n/\∃ i σ' H',Inv X pins σ' H' s7/\tn i s7.heap/\(∀ b ∈ fp,H' b=none)/\W i m σ' H':=fun {σ7 H7} I7 n7=>by
      obtain ⟨m',hm,w7⟩:=hN σ7 H7 n7
      refine ⟨m',hm,i + 1,σ7,H7,I7.unpinned,T.keep _ _ _ st5 fun b hb o e=>(I7.pin (b,o) (List.mem_append_right _ (List.mem_append_right _ (mem_pinsAt hb e)))).1,fun b hb=>?_,w7⟩
      obtain ⟨o,e,d⟩:=T.obj _ _ st5 b hb
      exact (I7.pin (b,o) (List.mem_append_right _ (List.mem_append_right _ (mem_pinsAt hb e)))).2.1
    cases f with
    | next=>obtain ⟨σ7,H7,I7,n7⟩:=q7;exact again I7 n7
    | cont=>obtain ⟨σ7,H7,I7,n7⟩:=q7;exact again I7 n7
    | brk=>obtain ⟨σ7,H7,I7,q7⟩:=q7;exact ⟨σ7,H7,I7.unpinned,q7⟩
    | ret v=>obtain ⟨x7,σ7,H7,I7,r7,q7⟩:=q7;exact ⟨x7,σ7,H7,I7.unpinned,r7,q7⟩
end
theorem for_list {K:PySem.W.Frag} {a:Addr} {xs:List V} {g:TG} {tb:TS} {D:Ends} {σ:St} {H:Hp} (Pv:Nat->St->Hp->Prop) (h0:Pv 0 σ H) (hl:∀ i σ H,i<=xs.length->Pv i σ H->SqL K H a xs)
    (hs:∀ i x σ H,xs[i]?=some x->Pv i σ H->g x σ H fun σ2 H2=>tb { D with nx:=Pv (i + 1),ct:=Pv (i + 1),bk:=D.nx } σ2 H2) (hd:∀ σ H,Pv xs.length σ H->D.nx σ H) :
    ∃ W:Nat->Nat->St->Hp->Prop,(∃ m,W 0 m σ H)/\∀ i m σ H,W i m σ H ->
      ((Itl K a).stop i H/\D.nx σ H)\/((Itl K a).go i H/\∃ N:St->Hp->Prop,(∀ σ' H',N σ' H'->∃ m',m' < m/\W (i + 1) m' σ' H')/\∀ x H',(Itl K a).yld i H x H'->g x σ H' fun σ2 H2=>tb { D with nx:=N,ct:=N,bk:=D.nx } σ2 H2):=by
  refine ⟨fun i m σ H=>m=xs.length - i/\i<=xs.length/\Pv i σ H,⟨xs.length,by simp,Nat.zero_le _,h0⟩,?_⟩
  rintro i m σ H ⟨rfl,hi,p⟩
  have q:=hl i σ H hi p
  by_cases hlt:i < xs.length
  . refine .inr ⟨⟨xs,xs[i],q,by simp [hlt]⟩,Pv (i + 1),fun σ' H' p'=>⟨xs.length - (i + 1),by omega,rfl,hlt,p'⟩,fun x H' y=>?_⟩
    obtain ⟨e,y⟩:=y
    subst e
    exact hs i x σ _ (y xs q) p
  . have e:i=xs.length:=by omega
    subst e
    exact .inl ⟨⟨xs,q,Nat.le_refl _⟩,hd σ H p⟩
theorem for_tup {K:PySem.W.Frag} {a:Addr} {xs:List V} {g:TG} {tb:TS} {D:Ends} {σ:St} {H:Hp} (Pv:Nat->St->Hp->Prop) (h0:Pv 0 σ H) (hl:∀ i σ H,i<=xs.length->Pv i σ H->SqT K H a xs)
    (hs:∀ i x σ H,xs[i]?=some x->Pv i σ H->g x σ H fun σ2 H2=>tb { D with nx:=Pv (i + 1),ct:=Pv (i + 1),bk:=D.nx } σ2 H2) (hd:∀ σ H,Pv xs.length σ H->D.nx σ H) :
    ∃ W:Nat->Nat->St->Hp->Prop,(∃ m,W 0 m σ H)/\∀ i m σ H,W i m σ H ->
      ((Itt K a).stop i H/\D.nx σ H)\/((Itt K a).go i H/\∃ N:St->Hp->Prop,(∀ σ' H',N σ' H'->∃ m',m' < m/\W (i + 1) m' σ' H')/\∀ x H',(Itt K a).yld i H x H'->g x σ H' fun σ2 H2=>tb { D with nx:=N,ct:=N,bk:=D.nx } σ2 H2):=by
  refine ⟨fun i m σ H=>m=xs.length - i/\i<=xs.length/\Pv i σ H,⟨xs.length,by simp,Nat.zero_le _,h0⟩,?_⟩
  rintro i m σ H ⟨rfl,hi,p⟩
  have q:=hl i σ H hi p
  by_cases hlt:i < xs.length
  . refine .inr ⟨⟨xs,xs[i],q,by simp [hlt]⟩,Pv (i + 1),fun σ' H' p'=>⟨xs.length - (i + 1),by omega,rfl,hlt,p'⟩,fun x H' y=>?_⟩
    obtain ⟨e,y⟩:=y
    subst e
    exact hs i x σ _ (y xs q) p
  . have e:i=xs.length:=by omega
    subst e
    exact .inl ⟨⟨xs,q,Nat.le_refl _⟩,hd σ H p⟩
theorem for_range {lo:Int} {n:Nat} {g:TG} {tb:TS} {D:Ends} {σ:St} {H:Hp} (Pv:Nat->St->Hp->Prop) (h0:Pv 0 σ H)
    (hs:∀ i σ H,i < n->Pv i σ H->g (.int (lo + i)) σ H fun σ2 H2=>tb { D with nx:=Pv (i + 1),ct:=Pv (i + 1),bk:=D.nx } σ2 H2) (hd:∀ σ H,Pv n σ H->D.nx σ H) :
    ∃ W:Nat->Nat->St->Hp->Prop,(∃ m,W 0 m σ H)/\∀ i m σ H,W i m σ H ->
      ((Itr lo n).stop i H/\D.nx σ H)\/((Itr lo n).go i H/\∃ N:St->Hp->Prop,(∀ σ' H',N σ' H'->∃ m',m' < m/\W (i + 1) m' σ' H')/\∀ x H',(Itr lo n).yld i H x H'->g x σ H' fun σ2 H2=>tb { D with nx:=N,ct:=N,bk:=D.nx } σ2 H2):=by
  refine ⟨fun i m σ H=>m=n - i/\i<=n/\Pv i σ H,⟨n,by simp,Nat.zero_le _,h0⟩,?_⟩
  rintro i m σ H ⟨rfl,hi,p⟩
  by_cases hlt:i < n
  . refine .inr ⟨hlt,Pv (i + 1),fun σ' H' p'=>⟨n - (i + 1),by omega,rfl,hlt,p'⟩,fun x H' y=>?_⟩
    obtain ⟨e,y⟩:=y
    subst e y
    exact hs i σ _ hlt p
  . have e:i=n:=by omega
    subst e
    exact .inl ⟨Nat.le_refl _,hd σ H p⟩
theorem while_by {c:TT} {tb:TS} {D:Ends} {σ:St} {H:Hp} (Pv:St->Hp->Prop) (μ:St->Hp->Nat) (h0:Pv σ H)
    (hs:∀ σ H,Pv σ H->c σ H fun b H1=>if b=true then tb { D with nx:=fun σ' H'=>Pv σ' H'/\μ σ' H' < μ σ H,ct:=fun σ' H'=>Pv σ' H'/\μ σ' H' < μ σ H,bk:=D.nx } σ H1 else D.nx σ H1)
    (mono:∀ σ H Q Q',(∀ b H1,Q b H1->Q' b H1)->c σ H Q->c σ H Q'):tWhile c tb D σ H:=by
  refine ⟨fun m σ H=>m=μ σ H/\Pv σ H,⟨_,rfl,h0⟩,?_⟩
  rintro m σ H ⟨rfl,p⟩
  refine mono σ H _ _ (fun b H1 q=>?_) (hs σ H p)
  cases b with
  | true=>exact ⟨_,fun σ' H' ⟨p',l⟩=>⟨_,l,rfl,p'⟩,q⟩
  | false=>exact q
end L2
namespace L2
open PySem PySem.Spec PyProof.Rows
noncomputable abbrev R2:=V->V->Hp->VK->Prop
noncomputable def OpR (X:Cx) (f:Value->Value->Sem Value) (r:R2):Prop :=
  ∀ (pins:List (Addr × Obj)) (s:Shared) (σ:St) (H:Hp) (x y:V) (v u:Value) (Q:VK),Inv X pins σ H s->RelV x v->RelV y u->r x y H Q ->
    wpAny (model X.prog X.w) X.A (f v u) (EP X pins σ Q) X.xe s
noncomputable def UnR (X:Cx) (f:Value->Sem Value) (r:V->Hp->VK->Prop):Prop :=
  ∀ (pins:List (Addr × Obj)) (s:Shared) (σ:St) (H:Hp) (x:V) (v:Value) (Q:VK),Inv X pins σ H s->RelV x v->r x H Q ->
    wpAny (model X.prog X.w) X.A (f v) (EP X pins σ Q) X.xe s
noncomputable def CallR (X:Cx) (f:Value) (r:List V->Hp->VK->Prop):Prop :=
  ∀ (pins:List (Addr × Obj)) (s:Shared) (σ:St) (H:Hp) (xs:List V) (us:List Value) (Q:VK),Inv X pins σ H s->Vals xs us->r xs H Q ->
    wpAny (model X.prog X.w) X.A (call f us) (EP X pins σ Q) X.xe s
noncomputable def tOp (r:R2) (ta tb:TE):TE:=fun σ H Q=>ta σ H fun x H1=>tb σ H1 fun y H2=>r x y H2 Q
noncomputable def tUn (r:V->Hp->VK->Prop) (ta:TE):TE:=fun σ H Q=>ta σ H fun x H1=>r x H1 Q
noncomputable def rI (C:Int->Int->Prop) (g:Int->Int->V):R2:=fun x y H Q=>∃ i j,x = .int i/\y = .int j/\C i j/\Q (g i j) H
noncomputable def rI0 (g:Int->Int->V):R2:=fun x y H Q=>∃ i j,x = .int i/\y = .int j/\Q (g i j) H
noncomputable def rU (g:Int->V):V->Hp->VK->Prop:=fun x H Q=>∃ i,x = .int i/\Q (g i) H
section
variable {X:Cx} {a b c:Expr} {ta tb tc:TE} {pos:Pos}
theorem binT (ha:PE X a ta) (hb:PE X b tb) {pins:List (Addr × Obj)} {s:Shared} {σ:St} {H:Hp} {R:V->V->Hp->Prop} (I:Inv X pins σ H s)
    (h:ta σ H fun x H1=>tb σ H1 fun y H2=>R x y H2) {Q:Value->Shared->Prop} {f:Value->Value->Sem Value}
    (hf:∀ v u s2 x y H2,Inv X pins σ H2 s2->RelV x v->RelV y u->R x y H2->wpAny (model X.prog X.w) X.A (f v u) Q X.xe s2) :
    wpAny (model X.prog X.w) X.A (eval a X.env) (fun v s₁=>wpAny (model X.prog X.w) X.A (eval b X.env) (fun u s₂=>wpAny (model X.prog X.w) X.A (f v u) Q X.xe s₂) X.xe s₁) X.xe s:=by
  refine thn (ha pins s σ H _ I h) fun v s1 ⟨x,H1,I1,r1,q1⟩=>?_
  refine thn (hb pins s1 σ H1 _ I1 q1) fun u s2 ⟨y,H2,I2,r2,q2⟩=>?_
  exact hf v u s2 x y H2 I2 r1 r2 q2
theorem pe_op {op:Operator} {r:R2} (ho:OpR X (binaryOp op) r) (ha:PE X a ta) (hb:PE X b tb):PE X (.BinOp a op b pos) (tOp r ta tb):=by
  intro pins s σ H Q I h
  exact wpAny_BinOp (binT ha hb I h fun v u s2 x y H2 I2 rx ry q=>ho pins s2 σ H2 x y v u Q I2 rx ry q)
theorem pe_un {op:UnaryOp} {r:V->Hp->VK->Prop} (ho:UnR X (unaryOp op) r) (ha:PE X a ta):PE X (.UnaryOp op a pos) (tUn r ta):=by
  intro pins s σ H Q I h
  exact UnaryOp_ (thn (ha pins s σ H _ I h) fun v s1 ⟨x,H1,I1,r1,q1⟩=>ho pins s1 σ H1 x v Q I1 r1 q1)
theorem opI {f:Value->Value->Sem Value} {C:Int->Int->Prop} {g:Int->Int->Int}
    (rule:∀ (i j:Int) (t u:Tok) (s:Shared) (Q:Value->Shared->Prop) (E:Value->Shared->Prop),C i j->Q (.int (g i j) s.toks) { s with toks:=s.toks + 1 }->wpAny (model X.prog X.w) X.A (f (.int i t) (.int j u)) Q E s) :
    OpR X f (rI C fun i j=>.int (g i j)):=by
  intro pins s σ H x y v u Q I rx ry h
  obtain ⟨i,j,rfl,rfl,hc,q⟩:=h
  obtain ⟨t,rfl⟩:=rx
  obtain ⟨t',rfl⟩:=ry
  exact rule i j t t' s _ _ hc ⟨.int (g i j),H,I.tok _,⟨_,rfl⟩,q⟩
theorem opI0 {f:Value->Value->Sem Value} {g:Int->Int->Int}
    (rule:∀ (i j:Int) (t u:Tok) (s:Shared) (Q:Value->Shared->Prop) (E:Value->Shared->Prop),Q (.int (g i j) s.toks) { s with toks:=s.toks + 1 }->wpAny (model X.prog X.w) X.A (f (.int i t) (.int j u)) Q E s) :
    OpR X f (rI0 fun i j=>.int (g i j)):=by
  intro pins s σ H x y v u Q I rx ry h
  obtain ⟨i,j,rfl,rfl,q⟩:=h
  obtain ⟨t,rfl⟩:=rx
  obtain ⟨t',rfl⟩:=ry
  exact rule i j t t' s _ _ ⟨.int (g i j),H,I.tok _,⟨_,rfl⟩,q⟩
theorem opB0 {f:Value->Value->Sem Value} {g:Int->Int->Bool}
    (rule:∀ (i j:Int) (t u:Tok) (s:Shared) (Q:Value->Shared->Prop) (E:Value->Shared->Prop),Q (.bool (g i j)) s->wpAny (model X.prog X.w) X.A (f (.int i t) (.int j u)) Q E s) :
    OpR X f (rI0 fun i j=>.bl (g i j)):=by
  intro pins s σ H x y v u Q I rx ry h
  obtain ⟨i,j,rfl,rfl,q⟩:=h
  obtain ⟨t,rfl⟩:=rx
  obtain ⟨t',rfl⟩:=ry
  exact rule i j t t' s _ _ ⟨.bl (g i j),H,I,rfl,q⟩
noncomputable def CPow (i j:Int):Prop:=0<=j/\j<=1000000/\i.natAbs < 2 ^ 64
noncomputable def CMul (i j:Int):Prop:=(-(2 ^ 64) < i/\i < 2 ^ 64)\/(-(2 ^ 64) < j/\j < 2 ^ 64)
theorem CMul.ok {i j:Int} (h:CMul i j):IntMulOk i j:=by
  rcases h with ⟨h1,h2⟩ | ⟨h1,h2⟩
  . exact .of_left (intBits_le_64 h1 h2)
  . exact .of_right (intBits_le_64 h1 h2)
theorem op_add:OpR X (binaryOp .Add) (rI0 fun i j=>.int (i + j)):=opI0 fun _ _ _ _ _ _ _ q=>add_int q
theorem op_sub:OpR X (binaryOp .Sub) (rI0 fun i j=>.int (i - j)):=opI0 fun _ _ _ _ _ _ _ q=>sub_int q
theorem op_mod:OpR X (binaryOp .Mod) (rI (fun _ j=>0 < j) fun i j=>.int (i % j)):=opI fun i j _ _ _ _ _ hc q=>by
  have h1:(0:Int) < j:=hc
  exact mod_int' (by omega) (by rw [Int.fmod_eq_emod_of_nonneg i (by omega)];exact q)
theorem op_pow:OpR X (binaryOp .Pow) (rI CPow fun i j=>.int (i ^ j.toNat)):=opI fun _ _ _ _ _ _ _ hc q=>pow_int_small hc.1 hc.2.1 hc.2.2 q
theorem unI {f:Value->Sem Value} {g:Int->Int}
    (rule:∀ (i:Int) (t:Tok) (s:Shared) (Q:Value->Shared->Prop) (E:Value->Shared->Prop),Q (.int (g i) s.toks) { s with toks:=s.toks + 1 }->wpAny (model X.prog X.w) X.A (f (.int i t)) Q E s) :
    UnR X f (rU fun i=>.int (g i)):=by
  intro pins s σ H x v Q I rx h
  obtain ⟨i,rfl,q⟩:=h
  obtain ⟨t,rfl⟩:=rx
  exact rule i t s _ _ ⟨.int (g i),H,I.tok _,⟨_,rfl⟩,q⟩
theorem un_neg:UnR X (unaryOp .USub) (rU fun i=>.int (-i)):=unI fun _ _ _ _ _ q=>neg_int q
end
noncomputable def scal:V->V->Bool
  | .non,.non=>true | .non,.int _=>true | .int _,.non=>true | .non,.bl _=>true | .bl _,.non=>true | .non,.str _=>true | .str _,.non=>true
  | .int _,.int _=>true | .bl _,.bl _=>true | .str _,.str _=>true | .byt _,.byt _=>true
  | .int _,.str _=>true | .str _,.int _=>true | .bl _,.str _=>true | .str _,.bl _=>true
  | _,_=>false
noncomputable def rEq:R2:=fun x y H Q=>scal x y=true/\Q (.bl (decide (x=y))) H
noncomputable def rNe:R2:=fun x y H Q=>scal x y=true/\Q (.bl (!decide (x=y))) H
theorem dec_int {i j:Int}:decide (V.int i=V.int j)=(i == j):=by
  rw [Bool.eq_iff_iff]
  simp
theorem dec_bl {i j:Bool}:decide (V.bl i=V.bl j)=(i == j):=by
  rw [Bool.eq_iff_iff]
  simp
theorem dec_str {i j:Str}:decide (V.str i=V.str j)=(i == j):=by
  rw [Bool.eq_iff_iff]
  simp
theorem dec_byt {i j:Array UInt8}:decide (V.byt i=V.byt j)=(i.toList == j.toList):=by
  rw [Bool.eq_iff_iff]
  cases i
  cases j
  simp
section
variable {X:Cx} {a b c:Expr} {ta tb tc:TE} {pos:Pos}
theorem fin_bl {pins:List (Addr × Obj)} {σ:St} {H:Hp} {s:Shared} {Q:VK} {k k':Bool} (I:Inv X pins σ H s) (q:Q (.bl k) H) (e:k=k'):EP X pins σ Q (.bool k') s:=by
  subst e
  exact ⟨.bl k,H,I,rfl,q⟩
theorem op_eq:OpR X (compareOp .Eq) rEq:=by
  intro pins s σ H x y v u Q I rx ry h
  obtain ⟨hs,q⟩:=h
  cases x with
  | non =>
    cases rx
    cases y with
    | non=>cases ry;exact PySem.EqNone.eq_none_none (fin_bl I q (by simp))
    | bl j=>cases ry;exact PySem.EqNone.eq_none_bool (fin_bl I q (by simp))
    | int j=>obtain ⟨t',rfl⟩:=ry;exact PySem.EqNone.eq_none_int (fin_bl I q (by simp))
    | str j=>obtain ⟨t',rfl⟩:=ry;exact PySem.EqNone.eq_none_str (fin_bl I q (by simp))
    | _=>exact absurd (show false=true from hs) Bool.false_ne_true
  | bl i =>
    cases rx
    cases y with
    | non=>cases ry;exact PySem.EqNone.eq_bool_none (fin_bl I q (by simp))
    | bl j=>cases ry;exact eq_bool (fin_bl I q dec_bl)
    | str j=>obtain ⟨t',rfl⟩:=ry;exact PySem.EqMixed.eq_bool_str (fin_bl I q (by simp))
    | _=>exact absurd (show false=true from hs) Bool.false_ne_true
  | int i =>
    obtain ⟨t,rfl⟩:=rx
    cases y with
    | non=>cases ry;exact PySem.EqNone.eq_int_none (fin_bl I q (by simp))
    | int j=>obtain ⟨t',rfl⟩:=ry;exact eq_int (fin_bl I q dec_int)
    | str j=>obtain ⟨t',rfl⟩:=ry;exact PySem.EqMixed.eq_int_str (fin_bl I q (by simp))
    | _=>exact absurd (show false=true from hs) Bool.false_ne_true
  | str i =>
    obtain ⟨t,rfl⟩:=rx
    cases y with
    | non=>cases ry;exact PySem.EqNone.eq_str_none (fin_bl I q (by simp))
    | bl j=>cases ry;exact PySem.EqMixed.eq_str_bool (fin_bl I q (by simp))
    | int j=>obtain ⟨t',rfl⟩:=ry;exact PySem.EqMixed.eq_str_int (fin_bl I q (by simp))
    | str j=>obtain ⟨t',rfl⟩:=ry;exact eq_str (fin_bl I q dec_str)
    | _=>exact absurd (show false=true from hs) Bool.false_ne_true
  | byt i =>
    obtain ⟨t,rfl⟩:=rx
    cases y with
    | byt j=>obtain ⟨t',rfl⟩:=ry;exact PySem.W.eq_bytes (fin_bl I q dec_byt)
    | _=>exact absurd (show false=true from hs) Bool.false_ne_true
  | _=>cases y <;> exact absurd (show false=true from hs) Bool.false_ne_true
theorem op_ne:OpR X (compareOp .NotEq) rNe:=by
  intro pins s σ H x y v u Q I rx ry h
  obtain ⟨hs,q⟩:=h
  cases x with
  | non =>
    cases rx
    cases y with
    | non=>cases ry;exact PySem.EqNone.ne_none_none (fin_bl I q (by simp))
    | bl j=>cases ry;exact PySem.EqNone.ne_none_bool (fin_bl I q (by simp))
    | int j=>obtain ⟨t',rfl⟩:=ry;exact PySem.EqNone.ne_none_int (fin_bl I q (by simp))
    | str j=>obtain ⟨t',rfl⟩:=ry;exact PySem.EqNone.ne_none_str (fin_bl I q (by simp))
    | _=>exact absurd (show false=true from hs) Bool.false_ne_true
  | bl i =>
    cases rx
    cases y with
    | non=>cases ry;exact PySem.EqNone.ne_bool_none (fin_bl I q (by simp))
    | bl j=>cases ry;exact ne_bool (fin_bl I q (congrArg not dec_bl))
    | str j=>obtain ⟨t',rfl⟩:=ry;exact PySem.EqMixed.ne_bool_str (fin_bl I q (by simp))
    | _=>exact absurd (show false=true from hs) Bool.false_ne_true
  | int i =>
    obtain ⟨t,rfl⟩:=rx
    cases y with
    | non=>cases ry;exact PySem.EqNone.ne_int_none (fin_bl I q (by simp))
    | int j=>obtain ⟨t',rfl⟩:=ry;exact ne_int (fin_bl I q (congrArg not dec_int))
    | str j=>obtain ⟨t',rfl⟩:=ry;exact PySem.EqMixed.ne_int_str (fin_bl I q (by simp))
    | _=>exact absurd (show false=true from hs) Bool.false_ne_true
  | str i =>
    obtain ⟨t,rfl⟩:=rx
    cases y with
    | non=>cases ry;exact PySem.EqNone.ne_str_none (fin_bl I q (by simp))
    | bl j=>cases ry;exact PySem.EqMixed.ne_str_bool (fin_bl I q (by simp))
    | int j=>obtain ⟨t',rfl⟩:=ry;exact PySem.EqMixed.ne_str_int (fin_bl I q (by simp))
    | str j=>obtain ⟨t',rfl⟩:=ry;exact ne_str (fin_bl I q (congrArg not dec_str))
    | _=>exact absurd (show false=true from hs) Bool.false_ne_true
  | byt i =>
    obtain ⟨t,rfl⟩:=rx
    cases y with
    | byt j=>obtain ⟨t',rfl⟩:=ry;exact PySem.W.ne_bytes (fin_bl I q (congrArg not dec_byt))
    | _=>exact absurd (show false=true from hs) Bool.false_ne_true
  | _=>cases y <;> exact absurd (show false=true from hs) Bool.false_ne_true
theorem op_lt:OpR X (compareOp .Lt) (rI0 fun i j=>.bl (decide (i < j))):=opB0 fun _ _ _ _ _ _ _ q=>lt_int q
theorem op_gt:OpR X (compareOp .Gt) (rI0 fun i j=>.bl (decide (j < i))):=opB0 fun _ _ _ _ _ _ _ q=>gt_int q
theorem op_ge:OpR X (compareOp .GtE) (rI0 fun i j=>.bl (decide (j<=i))):=opB0 fun _ _ _ _ _ _ _ q=>ge_int q
theorem nomark (b:Expr) {op:CmpOp} (h:op ≠ .In:=by decide) (h2:op ≠ .NotIn:=by decide):behindInMarks op b=false:=by
  have e1:(op == CmpOp.In)=false:=by cases op <;> first | rfl | exact absurd rfl h
  have e2:(op == CmpOp.NotIn)=false:=by cases op <;> first | rfl | exact absurd rfl h2
  cases b <;> simp [behindInMarks,e1,e2]
theorem pe_cmpR {op:CmpOp} {r:R2} (ho:OpR X (compareOp op) r) (ha:PE X a ta) (hb:PE X b tb) (hm:behindInMarks op b=false):PE X (.Compare a [op] [b] pos) (tOp r ta tb):=by
  intro pins s σ H Q I h
  exact wpAny_Compare1 (binT ha hb I h fun v u s2 x y H2 I2 rx ry q=>ho pins s2 σ H2 x y v u Q I2 rx ry q) hm
noncomputable def tTest (t:TE):TT:=fun σ H Q=>t σ H fun x H'=>∃ k,x = .bl k/\Q k H'
theorem pt_cmpR {op:CmpOp} {r:R2} (ho:OpR X (compareOp op) r) (ha:PE X a ta) (hb:PE X b tb) (hm:behindInMarks op b=false):PT X (.Compare a [op] [b] pos) (tTest (tOp r ta tb)):=by
  intro pins s σ H Q I h
  refine wpAny_isTrue_Compare1 (thn (ha pins s σ H _ I h) fun v s1 ⟨x,H1,I1,r1,q1⟩=>thn (hb pins s1 σ H1 _ I1 q1) fun u s2 ⟨y,H2,I2,r2,q2⟩ =>
    thn (ho pins s2 σ H2 x y v u _ I2 r1 r2 q2) fun c s3 ⟨z,H3,I3,r3,k,e,q3⟩=>?_) hm
  subst e
  cases r3
  exact wpAny_truthy_bool ⟨H3,I3,q3⟩
theorem line63:(sizeLine:Nat) < 2 ^ 63:=by rw [sizeLine_eq];decide
theorem vals1 {x:V} {us:List Value} (r:Vals [x] us):∃ u,us=[u]/\RelV x u:=by
  cases r with
  | cons r1 r2=>cases r2;exact ⟨_,rfl,r1⟩
theorem call_abs:CallR X (.builtin "abs") (fun xs H Q=>∃ i,xs=[.int i]/\Q (.int (if i < 0 then -i else i)) H):=by
  intro pins s σ H xs us Q I r h
  obtain ⟨i,rfl,q⟩:=h
  obtain ⟨u,rfl,t,rfl⟩:=vals1 r
  exact call_abs_int fun u tk=>⟨.int (if i < 0 then -i else i),H,I.tok _,⟨_,rfl⟩,q⟩
end
end L2
namespace L2
open PySem PySem.Spec PyProof.Rows
structure ObjM (h:Heap) (x dx C:Addr) (mA:Str->Option Value):Prop where
  obj:h.get? x=some (PySem.W.instObj C dx)
  ns:h.Ns1 dx mA
  ne:dx ≠ x
theorem lookIn_ns {h:Heap} {dx:Addr} {mA:Str->Option Value} (n:h.Ns1 dx mA):∃ od,h.get? dx=some od/\∀ name,PySem.W.lookIn name od=some (mA name):=by
  obtain ⟨o,es,ep,ho,hd,hk,_,hm⟩:=n
  refine ⟨o,ho,fun name=>?_⟩
  have e:=hm name
  unfold nsFind findBy at e
  rw [<- Array.find?_toList] at e
  unfold PySem.W.lookIn
  rw [hd]
  dsimp only
  split
  . rename_i y q
    rw [q] at e
    exact congrArg some e
  . rename_i q
    rw [q] at e
    have a:es.toList.any (·.refKey)=false:=by
      rw [List.any_eq_false]
      intro y hy
      obtain ⟨z,t,hkey⟩:=hk y (Array.mem_toList_iff.mp hy)
      simp [DictEntry.refKey,hkey]
    have a':¬ es.toList.any (·.refKey)=true:=by rw [a];exact Bool.false_ne_true
    rw [if_neg a']
    exact congrArg some e
theorem ObjM.look {h:Heap} {x dx C:Addr} {mA:Str->Option Value} (I:ObjM h x dx C mA):∃ od,PySem.W.InstAt h x (PySem.W.instObj C dx) C (some od)/\∀ name,PySem.W.lookIn name od=some (mA name) :=
  let ⟨od,ho,hl⟩:=lookIn_ns I.ns
  ⟨od,⟨I.obj,rfl,rfl,ho⟩,hl⟩
section
variable {prog:Program} {w:World} {A:Around} {E:Value->Shared->Prop} {s:Shared} {K:PySem.W.Frag} {x dx C f:Addr} {mA:Str->Option Value} {name:Str} {v:Value}
theorem get_map {expr:Bool} {Q:Value->Shared->Prop} (X:K.In s.heap) (I:ObjM s.heap x dx C mA) (hg:PySem.W.plainGet K C name=true) (hh:PySem.W.hasDictIn K C=true)
    (ha:PySem.W.findIn K (.ref C) name=some none) (hv:mA name=some v) (hv':PySem.W.handedIn v=true) (h:Q v { s with toks:=s.toks + 1 }) :
    wpAny (model prog w) A (getAttr (.ref x) name expr) Q E s:=by
  obtain ⟨od,J,hl⟩:=I.look
  exact PySem.W.get_value X J (PySem.W.plainGet_of hg).1 (PySem.W.findObj_own hh ha rfl (by rw [hl,hv])) hv' h
theorem get_meth {pl:Sem Bool} {Q:Value × List Value->Shared->Prop} (X:K.In s.heap) (I:ObjM s.heap x dx C mA) (hg:PySem.W.plainGet K C name=true)
    (hf:PySem.W.findIn K (.ref C) name=some (some (.ref f))) (ht:PySem.W.isFn K (.ref f)=true) (hv:mA name=none) (h:Q (.ref f,[.ref x]) s) :
    wpAny (model prog w) A (getMethod (.ref x) name pl) Q E s:=by
  obtain ⟨od,J,hl⟩:=I.look
  exact PySem.W.method_fn X J (PySem.W.plainGet_of hg).1 (PySem.W.plainGet_of hg).2 hf (beq_iff_eq.mp ht) (by show (PySem.W.lookIn name od).map (·.isSome)=some false;rw [hl,hv];rfl) h
theorem set_map {ns:List Str} {Q:Unit->Shared->Prop} (X:K.In s.heap) (I:ObjM s.heap x dx C mA)
    (hs:PySem.W.findIn K (.ref C) "__setattr__" = some (some (.builtin "object.__setattr__"))) (hp:PySem.W.plainOver K C=true) (ht:PySem.W.takerIn K C name=some none) (hh:PySem.W.hasDictIn K C=true)
    (hw:PySem.Within mA ns) (hsz:ns.length<=sizeLine)
    (h:∀ h',ObjM h' x dx C (fun y=>if y=name then some v else mA y)->Heap.SameBut dx s.heap h'->Q () { s with heap:=h',toks:=s.toks + 2 }) :
    wpAny (model prog w) A (setAttr (.ref x) name v) Q E s:=by
  obtain ⟨od,J,hl⟩:=I.look
  refine PySem.W.set_plain X J hs (PySem.W.osa_open (s:={ s with toks:=s.toks + 1 }) (r:=none) X J hp ht fun b=>?_)
  obtain ⟨cd,hc,hd'⟩:=PySem.W.any_some hh
  have hx:s.heap.get? x=some ⟨.ref C,some dx,.plain, #[]⟩:=I.obj
  refine wpAny_bind (wpAny_pure (wpAny_bind (wpAny_bind (wpAny_loadPart hx (wpAny_bind (PySem.W.Looks.here (s:={ s with toks:=s.toks + 1 }) (PySem.W.looks_clsIn X hc) ?_))))))
  rw [hd']
  refine wpAny_pure (a:=some dx) (wpAny_bind (wpAny_pure (wpAny_bind ?_)))
  refine wpAny_nsSet1 (s:={ s with toks:=s.toks + 1 }) I.ns fun h' hn2 hs2=>?_
  obtain ⟨oD,esD,epD,hoD,hdD,hcD⟩:=hn2.count (PySem.Within.cons name v hw)
  refine wpAny_bind (wpAny_lookBehind hoD (by rw [hdD];exact pastItsLine_dict (Nat.le_trans hcD (by rw [List.length_cons];omega))) ?_)
  exact wpAny_pure (h _ ⟨(hs2.2 _ (Ne.symm I.ne)).trans I.obj,hn2,I.ne⟩ hs2)
theorem make_map {R:Result->Shared->Prop} {vs:List Value} {kw:List (Str × Value)} (X:K.In s.heap) (hm:PySem.W.makesIn K C=true)
    (hi:PySem.W.findIn K (.ref C) "__init__" = some (some (.ref f))) (hf:PySem.W.typeIn K (.ref f)=some (.type "function"))
    (h:codeAny (model prog w) (A.under (.builtin "type.__call__" ⟨.ref C :: vs,kw⟩)) (.call (.ref f) ⟨.ref (s.heap.objs.size + 1) :: vs,kw⟩) (PySem.W.InitBack (s.heap.objs.size + 1) R)
      { s with heap:=(s.heap.push PySem.W.emptyDict).push (PySem.W.instObj C s.heap.objs.size) }) :
    codeAny (model prog w) A (.call (.ref C) ⟨vs,kw⟩) R s:=by
  obtain ⟨hh,g,d,t,os⟩:=s
  exact PySem.W.make_core (PySem.W.makes_of X hm) (PySem.W.looks_findIn X hi) (fun self=>PySem.W.bind_fn X self hf) (.inl rfl) h
end
noncomputable def putF (f:Str) (v:V):List (Str × V)->List (Str × V)
  | []=>[(f,v)]
  | (g,x) :: r=>if g=f then (g,v) :: r else (g,x) :: putF f v r
theorem lookup_putF (f g : Str) (v : V) : ∀ fs : List (Str × V), (putF f v fs).lookup g = if g = f then some v else fs.lookup g
  | []=>by
    show List.lookup g [(f,v)]=_
    by_cases h:g=f
    . have hb:(g == f)=true:=beq_iff_eq.mpr h
      simp only [List.lookup,hb,if_pos h]
    . have hb:(g == f)=false:=beq_eq_false_iff_ne.mpr h
      simp only [List.lookup,hb,if_neg h]
  | (k, x) :: r => by
    have ih:=lookup_putF f g v r
    rw [show putF f v ((k,x) :: r)=(if k=f then (k,v) :: r else (k,x) :: putF f v r) from rfl]
    by_cases hk:k=f
    . rw [if_pos hk]
      by_cases h:g=k
      . have hb:(g == k)=true:=beq_iff_eq.mpr h
        simp only [List.lookup,hb,if_pos (h.trans hk)]
      . have hb:(g == k)=false:=beq_eq_false_iff_ne.mpr h
        simp only [List.lookup,hb,if_neg (fun e:g=f=>h (e.trans hk.symm))]
    . rw [if_neg hk]
      by_cases h:g=k
      . have hb:(g == k)=true:=beq_iff_eq.mpr h
        simp only [List.lookup,hb,if_neg (fun e:g=f=>hk (h.symm.trans e))]
      . have hb:(g == k)=false:=beq_eq_false_iff_ne.mpr h
        simp only [List.lookup,hb]
        exact ih
theorem keys_putF (f : Str) (v : V) : ∀ fs : List (Str × V), f ∈ (putF f v fs).map (·.1) /\ ∀ g, g ∈ fs.map (·.1) -> g ∈ (putF f v fs).map (·.1)
  | []=>⟨by simp [putF],fun g h=>by simp at h⟩
  | (k, x) :: r => by
    obtain ⟨i1,i2⟩:=keys_putF f v r
    rw [show putF f v ((k,x) :: r)=(if k=f then (k,v) :: r else (k,x) :: putF f v r) from rfl]
    by_cases hk:k=f
    . rw [if_pos hk]
      subst hk
      exact ⟨by simp,fun g h=>by simpa using h⟩
    . rw [if_neg hk]
      refine ⟨?_,fun g h=>?_⟩
      . rw [List.map_cons]
        exact List.mem_cons_of_mem _ i1
      . rw [List.map_cons] at h ⊢
        rcases List.mem_cons.mp h with e | e
        . exact List.mem_cons.mpr (.inl e)
        . exact List.mem_cons_of_mem _ (i2 g e)
theorem length_putF (f:Str) (v:V):∀ fs:List (Str × V),(putF f v fs).length<=fs.length + 1
  | []=>by simp [putF]
  | (k,x) :: r=>by
    have ih:=length_putF f v r
    rw [show putF f v ((k,x) :: r)=(if k=f then (k,v) :: r else (k,x) :: putF f v r) from rfl]
    by_cases hk:k=f
    . rw [if_pos hk,List.length_cons,List.length_cons];omega
    . rw [if_neg hk,List.length_cons,List.length_cons];omega
theorem RelO.some_of {v:V} {o:Option Value} (r:RelO (some v) o):∃ u,o=some u/\RelV v u:=by
  cases o with
  | none=>exact (show False from r).elim
  | some u=>exact ⟨u,rfl,r⟩
theorem RelO.none_of {o:Option Value} (r:RelO none o):o=none:=by
  cases o with
  | none=>rfl
  | some u=>exact (show False from r).elim
theorem handed_of {v:V} {u:Value} (r:RelV v u):PySem.W.handedIn u=true:=by
  cases v with
  | non=>cases (show u=Value.none from r);rfl
  | bl b=>cases (show u=Value.bool b from r);rfl
  | int i=>obtain ⟨t,e⟩:=(show ∃ t,u=Value.int i t from r);cases e;rfl
  | str x=>obtain ⟨t,e⟩:=(show ∃ t,u=Value.str x t from r);cases e;rfl
  | byt b=>obtain ⟨t,e⟩:=(show ∃ t,u=Value.bytes b t from r);cases e;rfl
  | flt b=>obtain ⟨t,e⟩:=(show ∃ t,u=Value.float b t from r);cases e;rfl
  | ref a=>cases (show u=Value.ref a from r);rfl
  | ty n=>cases (show u=Value.type n from r);rfl
section
variable {P:Program} {w:World} {H H':Hp} {h h':Heap} {a C dx:Addr} {fs:List (Str × V)}
theorem ins_get (hok:HOk P w H h) (e:H a=some (.ins C dx fs)):∃ mA,ObjM h a dx C mA/\(∀ f,RelO (fs.lookup f) (mA f))/\PySem.Within mA (fs.map (·.1))/\fs.length<=1000/\H dx=some (.own a):=by
  obtain ⟨d,z,ne,ob,mA,n,r,q⟩:=(show ObjOk P w H h a (.ins C dx fs) from hok a _ e)
  exact ⟨mA,⟨ob,n,ne⟩,r,q,z,d⟩
end
structure Cls (K:PySem.W.Frag) (C:Addr):Prop where
  pg:PySem.W.plainGet K C Str.empty=true
  hd:PySem.W.hasDictIn K C=true
  po:PySem.W.plainOver K C=true
  sa:PySem.W.findIn K (.ref C) "__setattr__" = some (some (.builtin "object.__setattr__"))
theorem Cls.get {K:PySem.W.Frag} {C:Addr} (c:Cls K C) (f:Str):PySem.W.plainGet K C f=true:=c.pg
noncomputable def NoAttr (K:PySem.W.Frag) (C:Addr) (f:Str):Prop:=PySem.W.findIn K (.ref C) f=some none
theorem NoAttr.taker {K:PySem.W.Frag} {C:Addr} {f:Str} (n:NoAttr K C f):PySem.W.takerIn K C f=some none:=by
  unfold PySem.W.takerIn
  rw [show PySem.W.findIn K (.ref C) f=some none from n]
  rfl
structure Con (K:PySem.W.Frag) (C:Addr) (f:Str) (v:V) (u:Value):Prop where
  at_:PySem.W.findIn K (.ref C) f=some (some u)
  rel:RelV v u
  get:PySem.W.specialIn K u "__get__" = some none
  cp:PySem.W.copiedNames.contains f=false
structure Meth (K:PySem.W.Frag) (C:Addr) (m:Str) (f:Addr):Prop where
  at_:PySem.W.findIn K (.ref C) m=some (some (.ref f))
  fn:PySem.W.isFn K (.ref f)=true
  kp:PySem.W.keepIn K (.ref f)=true
section
variable {X:Cx} {pins:List (Addr × Obj)} {σ:St} {H:Hp} {s:Shared} {a C dx:Addr} {fs:List (Str × V)} {f:Str} {v:V} {A:Around} {E:Value->Shared->Prop}
theorem getattr_ok {b:Bool} {Q:Value->Shared->Prop} (I:Inv X pins σ H s) (e:H a=some (.ins C dx fs)) (c:Cls X.K C) (n:NoAttr X.K C f) (l:fs.lookup f=some v)
    (h:∀ u s',Inv X pins σ H s'->RelV v u->Q u s'):wpAny (model X.prog X.w) A (getAttr (.ref a) f b) Q E s:=by
  obtain ⟨mA,O,r,_,_,_⟩:=ins_get I.hok e
  obtain ⟨u,hu,ru⟩:=RelO.some_of (v:=v) (o:=mA f) (by rw [<- l];exact r f)
  exact get_map I.kIn O (c.get f) c.hd n hu (handed_of ru) (h u _ (I.tok _) ru)
theorem getmeth_ok {m:Str} {g:Addr} {pl:Sem Bool} {Q:Value × List Value->Shared->Prop} (I:Inv X pins σ H s) (e:H a=some (.ins C dx fs)) (c:Cls X.K C) (k:Meth X.K C m g) (l:fs.lookup m=none)
    (h:Q (.ref g,[.ref a]) s):wpAny (model X.prog X.w) A (getMethod (.ref a) m pl) Q E s:=by
  obtain ⟨mA,O,r,_,_,_⟩:=ins_get I.hok e
  have hn:mA m=none:=RelO.none_of (by rw [<- l];exact r m)
  exact get_meth I.kIn O (c.get m) k.at_ k.fn hn h
theorem setattr_ok {y:V} {u:Value} {Q:Unit->Shared->Prop} (I:Inv X pins σ H s) (e:H a=some (.ins C dx fs)) (c:Cls X.K C) (n:NoAttr X.K C f) (hl:fs.length < 1000) (ry:RelV y u)
    (h:∀ s',Inv X pins σ (upd H a (.ins C dx (putF f y fs))) s'->Q () s'):wpAny (model X.prog X.w) A (setAttr (.ref a) f u) Q E s:=by
  obtain ⟨mA,O,r,wi,_,ho⟩:=ins_get I.hok e
  have hz:(fs.map (·.1)).length<=sizeLine:=by rw [List.length_map,sizeLine_eq];omega
  refine set_map I.kIn O c.sa c.po n.taker c.hd wi hz fun h' O' sb=>h _ ?_
  have hd:∃ o,h'.get? dx=some o:=let ⟨o,_,_,e',_⟩:=O'.ns;⟨o,e'⟩
  refine I.write (x:=a) (e:=dx) (by rw [e];exact True.intro) (.inr ho) (fun b q hb z=>(sb.2 b hb).trans z) hd ?_
  refine ⟨by rw [upd_ne O.ne];exact ho,?_,O.ne,O'.obj,_,O'.ns,fun g=>?_,fun g hg=>?_⟩
  . have:=length_putF f y fs;omega
  . show RelO ((putF f y fs).lookup g) (if g=f then some u else mA g)
    rw [lookup_putF]
    by_cases q:g=f
    . rw [if_pos q,if_pos q];exact ry
    . rw [if_neg q,if_neg q];exact r g
  . by_cases q:g=f
    . rw [q];exact (keys_putF f y fs).1
    . refine (keys_putF f y fs).2 g (wi g fun z=>hg ?_)
      show (if g=f then some u else mA g)=none
      rw [if_neg q];exact z
theorem Inv.made (I:Inv X pins σ H s):Inv X pins σ (upd (upd H s.heap.objs.size (.own (s.heap.objs.size + 1))) (s.heap.objs.size + 1) (.ins C s.heap.objs.size []))
    { s with heap:=(s.heap.push PySem.W.emptyDict).push (PySem.W.instObj C s.heap.objs.size) }:=by
  have e1:(s.heap.push PySem.W.emptyDict).get? s.heap.objs.size=some PySem.W.emptyDict:=Heap.get?_push_size s.heap rfl
  have e2:((s.heap.push PySem.W.emptyDict).push (PySem.W.instObj C s.heap.objs.size)).get? (s.heap.objs.size + 1)=some (PySem.W.instObj C s.heap.objs.size):=by
    have:=Heap.get?_push_size (s.heap.push PySem.W.emptyDict) (o:=PySem.W.instObj C s.heap.objs.size) rfl
    rwa [Heap.size_push] at this
  have e3:(s.heap.push PySem.W.emptyDict).Ns s.heap.objs.size (fun _=>none):=⟨PySem.W.emptyDict, #[],_,e1,rfl,(fun e he=>absurd he (by simp)),fun _=>rfl⟩
  have I1:=I.laid (a:=s.heap.objs.size) (o:=.own (s.heap.objs.size + 1)) (h':=s.heap.push PySem.W.emptyDict) (t':=s.toks) (fun b u q=>Heap.get?_push_of_some _ q) (Nat.le_refl _) ⟨_,e1⟩
  refine I1.laid (a:=s.heap.objs.size + 1) (o:=.ins C s.heap.objs.size []) (t':=s.toks) (fun b u q=>Heap.get?_push_of_some _ q) (Nat.le_of_eq (Heap.size_push _ _)) ?_
  have ne:s.heap.objs.size ≠ s.heap.objs.size + 1:=Nat.ne_of_lt (Nat.lt_succ_self _)
  refine ⟨by rw [upd_ne ne,upd_same],Nat.zero_le _,ne,e2,fun _=>none,(Heap.Ns1.of_empty e3).at fun o q=>Heap.get?_push_of_some _ q,fun _=>True.intro,fun y hy=>absurd rfl hy⟩
theorem attr_of {prog:Program} {w:World} {env:Env} {e:Expr} {f:Str} {pos:Pos} {s:Shared} {Q:Value->Shared->Prop} (hb:attributeBase e f env (eval e env)=eval e env)
    (h:wpAny (model prog w) A (eval e env) (fun o s₁=>wpAny (model prog w) A (getAttr o f true) Q E s₁) E s):wpAny (model prog w) A (eval (.Attribute e f pos) env) Q E s :=
  Attribute_any_ h (by rw [arm_eval_Attribute,hb])
end
noncomputable def tFld (K:PySem.W.Frag) (ta:TE) (f:Str):TE:=fun σ H Q=>ta σ H fun x H1=>∃ a C dx fs v,x = .ref a/\H1 a=some (.ins C dx fs)/\Cls K C/\NoAttr K C f/\fs.lookup f=some v/\Q v H1
noncomputable def sFld (K:PySem.W.Frag) (ta tv:TE) (f:Str):TS:=fun D σ H=>tv σ H fun y H1=>ta σ H1 fun x H2=>∃ a C dx fs,x = .ref a/\H2 a=some (.ins C dx fs)/\Cls K C/\NoAttr K C f/\fs.length < 1000 /\
  D.nx σ (upd H2 a (.ins C dx (putF f y fs)))
section
variable {X:Cx} {o e value:Expr} {f:Str} {pos pos':Pos} {ta tv:TE}
theorem pe_fld (he:PE X e ta) (hb:attributeBase e f X.env (eval e X.env)=eval e X.env):PE X (.Attribute e f pos) (tFld X.K ta f):=by
  intro pins s σ H Q I h
  refine attr_of hb (thn (he pins s σ H _ I h) fun u s1 ⟨x,H1,I1,rx,a,C,dx,fs,v,ex,ea,c,n,l,q⟩=>?_)
  subst ex
  obtain rfl:u=Value.ref a:=rx
  exact getattr_ok I1 ea c n l fun u' s2 I2 ru=>⟨v,H1,I2,ru,q⟩
theorem ps_fld (ha:PE X o ta) (hv:PE X value tv) (hs:swapsWith value (some (.Attribute o f pos')) pos.line X.env=pure false):PS X (.Assign [.Attribute o f pos'] value pos) (sFld X.K ta tv f):=by
  intro pins s σ H D I h
  refine plainObj_wpAny_Assign_Attribute (thn (hv pins s σ H _ I h) fun u s1 ⟨y,H1,I1,ry,q⟩=>thn (ha pins s1 σ H1 _ I1 q) fun ov s2 ⟨x,H2,I2,rx,a,C,dx,fs,ex,ea,c,n,l,q2⟩=>?_) hs
  subst ex
  obtain rfl:ov=Value.ref a:=rx
  exact setattr_ok I2 ea c n l ry fun s3 I3=>⟨σ,_,I3,q2⟩
theorem methcall_of {pl:Sem Bool} {m:Str} {apos:Pos} {args:List Expr} {pins:List (Addr × Obj)} {s:Shared} {σ:St} {H:Hp} {Q:Value->Shared->Prop} {te:TE} (he:PE X e te) (I:Inv X pins σ H s)
    (h:te σ H fun x H1=>∃ a C dx fs g,x = .ref a/\H1 a=some (.ins C dx fs)/\Cls X.K C/\Meth X.K C m g/\fs.lookup m=none /\
      ∀ s1,Inv X pins σ H1 s1->wpAny (model X.prog X.w) X.A (callWith pos (.ref g) [.ref a] (backTo pos (starEach args X.env)) (backToKw pos (keywordEach [] X.env))) Q X.xe s1)
    (ht:eval (.Call (.Attribute e m apos) args [] pos) X.env=(do
      let ov <- eval e X.env
      standAt apos.atName
      let (f,first) <- holding [ov] (getMethod ov m pl)
      callWith pos f first (backTo pos (starEach args X.env)) (backToKw pos (keywordEach [] X.env)))) :
    wpAny (model X.prog X.w) X.A (eval (.Call (.Attribute e m apos) args [] pos) X.env) Q X.xe s:=by
  refine PySem.W.methodCall_KW (pl:=pl) (thn (he pins s σ H _ I h) fun u s1 ⟨x,H1,I1,rx,a,C,dx,fs,g,ex,ea,c,k,l,q⟩=>?_) ht
  subst ex
  obtain rfl:u=Value.ref a:=rx
  exact getmeth_ok I1 ea c k l (q s1 I1)
end
section
variable {X:Cx} {pins:List (Addr × Obj)} {σ:St} {H:Hp} {s:Shared} {A:Around} {E:Value->Shared->Prop} {Q:Value->Shared->Prop} {c:Value} {b:Bool}
end
end L2
namespace L2
open PySem PySem.Spec PyProof.Rows
structure Room (k:Nat) (A:Around):Prop where
  hd:A.handled=none
  dp:A.depth + 3 * k + 5 < recursionLimit
  un:A.units + 16 * k + 200 < cLine
theorem Room.mono {j k:Nat} {A:Around} (r:Room k A) (h:j<=k):Room j A:=⟨r.hd,by have:=r.dp;omega,by have:=r.un;omega⟩
theorem Room.deeper {k:Nat} {A:Around} (r:Room (k + 1) A) (env:Env):Room k (A.deeper env) :=
  ⟨r.hd,by have:=r.dp;show A.depth + 1 + 3 * k + 5 < _;omega,by have:=r.un;show A.units + 3 + 16 * k + 200 < _;omega⟩
theorem make_depth {A:Around} {C:Addr} {us:List Value} {kw:List (Str × Value)}:(A.under (.builtin "type.__call__" ⟨.ref C :: us,kw⟩)).depth=A.depth + 1:=by
  first | rfl | simp [Around.under,Code.weight,Code.isCreation,Code.isGuard,Code.isCaller,Code.frames,Code.isFrame,guardIds]
theorem make_units {A:Around} {C:Addr} {us:List Value} {kw:List (Str × Value)}:(A.under (.builtin "type.__call__" ⟨.ref C :: us,kw⟩)).units=A.units + 1:=by
  first | rfl | simp [Around.under,Code.cUnits,Code.frames,Code.isFrame]
theorem Room.make {k:Nat} {A:Around} (r:Room (k + 1) A) (C:Addr) (us:List Value) (kw:List (Str × Value)):Room k (A.under (.builtin "type.__call__" ⟨.ref C :: us,kw⟩)) :=
  ⟨r.hd,by have:=r.dp;rw [make_depth];omega,by have:=r.un;rw [make_units];omega⟩
theorem Room.depth {k:Nat} {A:Around} (r:Room k A):A.depth < recursionLimit:=by have:=r.dp;omega
theorem Room.units {k:Nat} {A:Around} (r:Room k A):A.units + 64 < cLine:=by have:=r.un;omega
theorem Room.units0 {k:Nat} {A:Around} (r:Room k A):A.units < cLine:=by have:=r.un;omega
noncomputable def tNil:TA:=fun _ H Q=>Q [] H
noncomputable def tCons (ta:TE) (tr:TA):TA:=fun σ H Q=>ta σ H fun x H1=>tr σ H1 fun xs H2=>Q (x :: xs) H2
section
variable {X:Cx} {e:Expr} {es:List Expr} {te:TE} {t:TA} {pos:Pos}
theorem pa_nil:PA X [] tNil:=fun _ _ _ _ H Q I h=>Calls.spliced_nil ⟨[],H,I,.nil,h⟩
theorem pa_cons (ha:PE X e te) (hr:PA X es t) (hs:starEach (e :: es) X.env=(false,eval e X.env) :: starEach es X.env:=by rfl):PA X (e :: es) (tCons te t):=by
  intro pos pins s σ H Q I h
  rw [hs]
  show wpAny _ _ (spliced ((false,eval e X.env) :: backTo pos (starEach es X.env))) _ _ s
  refine Calls.spliced_cons (thn (ha pins s σ H _ I h) fun u s1 ⟨x,H1,I1,r1,q1⟩=>?_)
  exact thn (hr pos pins s1 σ H1 _ I1 q1) fun us s2 ⟨xs,H2,I2,r2,q2⟩=>⟨x :: xs,H2,I2,.cons r1 r2,q2⟩
noncomputable def tTup (t:TA):TE:=fun σ H Q=>t σ H fun xs H1=>xs.length<=sizeLine/\∀ p,H1 p=none->Q (.ref p) (upd H1 p (.tup xs))
noncomputable def tLst (t:TA):TE:=fun σ H Q=>t σ H fun xs H1=>xs.length<=sizeLine/\∀ p,H1 p=none->Q (.ref p) (upd H1 p (.lst xs))
theorem pe_tup {x1} (h:PA X es t):PE X (.Tuple es x1 pos) (tTup t):=by
  intro pins s σ H Q I hq
  refine wpAny_Tuple_spliced (thn (h pos pins s σ H _ I hq) fun us s1 ⟨xs,H1,I1,r,z,q⟩=>⟨by rw [<- r.length];exact z,?_⟩)
  have hf:H1 s1.heap.objs.size=none:=I1.hok.fresh (Nat.le_refl _)
  refine ⟨.ref s1.heap.objs.size,upd H1 s1.heap.objs.size (.tup xs),I1.laid (t':=s1.toks) (fun b u e=>Heap.get?_push_of_some _ e) (Nat.le_refl _) ?_,rfl,q _ hf⟩
  exact ⟨z,us,r,⟨_,Heap.get?_push_size _ rfl,rfl,_,rfl⟩⟩
theorem pe_lst (h:PA X es t):PE X (.List es pos) (tLst t):=by
  intro pins s σ H Q I hq
  refine wpAny_List_spliced (thn (h pos pins s σ H _ I hq) fun us s1 ⟨xs,H1,I1,r,z,q⟩=>⟨by rw [<- r.length];exact z,?_⟩)
  have hf:H1 s1.heap.objs.size=none:=I1.hok.fresh (Nat.le_refl _)
  refine ⟨.ref s1.heap.objs.size,upd H1 s1.heap.objs.size (.lst xs),I1.laid (t':=s1.toks) (fun b u e=>Heap.get?_push_of_some _ e) (Nat.le_refl _) ?_,rfl,q _ hf⟩
  exact ⟨z,us,0,r,Heap.get?_push_size _ rfl⟩
end
noncomputable abbrev Sp:=List V->Hp->VK->XK->Prop
noncomputable abbrev CXT:=List Env->Hp->Shared->XK->Value->Shared->Prop
structure Env0 (P:Program) (w:World) (K:PySem.W.Frag) (mg:Str->Option Value) (base:Heap) (A:Around) (outer:List Env) (s:Shared) (H:Hp):Prop where
  frames:A.frames=some outer
  mod:Mod K mg base
  bs:∀ b o,base.get? b=some o->s.heap.get? b=some o/\H b=none
  bsz:base.objs.size<=s.heap.objs.size
  funs:s.heap.FunFrames base outer
  frf:∀ b ∈ frs outer,H b=none
  hok:HOk P w H s.heap
  bare:AllBare s.gens
noncomputable def CE (outer:List Env) (P:Program) (w:World) (H:Hp) (s:Shared) (Q:VK) (u:Value) (s':Shared):Prop :=
  ∃ v H',s'.os=s.os/\AllBare s'.gens/\Un (frs outer) [] H H' s.heap s'.heap/\HOk P w H' s'.heap/\RelV v u/\Q v H'
noncomputable def CR (CX:CXT) (outer:List Env) (P:Program) (w:World) (H:Hp) (s:Shared) (Q:VK) (E:XK) (r:Result) (s':Shared):Prop :=
  match r with
  | .ok (.ret u)=>CE outer P w H s Q u s'
  | .ok _=>False
  | .error e=>CX outer H s E e s'
structure FnOk (P:Program) (w:World) (K:PySem.W.Frag) (mg:Str->Option Value) (base:Heap) (CX:CXT) (k:Nat) (f:Addr) (fd:FuncData) (ps:List Str) (sp:Sp):Prop where
  len:∀ vs H Q E,sp vs H Q E->vs.length=ps.length
  run:∀ (A:Around) (outer:List Env) (s:Shared) (H:Hp) (args:Args) (us:List Value) (vs:List V) (Q:VK) (E:XK),Room k A->Env0 P w K mg base A outer s H->BindsTo s fd args (ps.zip us)->Vals vs us->sp vs H Q E ->
    codeAny (model P w) A (.call (.ref f) args) (CR CX outer P w H s Q E) s
theorem Env0.make {P:Program} {w:World} {K:PySem.W.Frag} {mg:Str->Option Value} {base:Heap} {A:Around} {outer:List Env} {s:Shared} {H:Hp} (e:Env0 P w K mg base A outer s H) (C:Addr) (us:List Value) (kw:List (Str × Value)) :
    Env0 P w K mg base (A.under (.builtin "type.__call__" ⟨.ref C :: us,kw⟩)) outer s H:=⟨by first | exact e.frames | (simpa [Around.under,Code.envs,Code.isFrame,pushEnvs] using e.frames),e.mod,e.bs,e.bsz,e.funs,e.frf,e.hok,e.bare⟩
section
variable {X:Cx} {pins:List (Addr × Obj)} {σ:St} {H:Hp} {s s':Shared}
theorem Inv.env0 (I:Inv X pins σ H s):Env0 X.prog X.w X.K X.mg X.base X.A X.stack s H :=
  ⟨I.ok.frames,I.ok.mod,I.bs,Nat.le_trans I.ok.bsz I.sz,I.stack,I.stkFree,I.hok,I.bare⟩
theorem Inv.after {Q:VK} {u:Value} (I:Inv X pins σ H s) (h:CE X.stack X.prog X.w H s Q u s'):EP X pins σ Q u s':=by
  obtain ⟨v,H',os,bare,un,hok,r,q⟩:=h
  obtain ⟨hh,g,d,t,os'⟩:=s'
  obtain rfl:os'=s.os:=os
  exact ⟨v,H',I.call (h':=hh) (g':=g) (d':=d) (t':=t) (ch:=[]) un hok bare (fun b z=>absurd z (by simp)),r,q⟩
end
noncomputable def tCall (sp:Sp) (dvs:List V) (E:XK) (t:TA):TE:=fun σ H Q=>t σ H fun vs H1=>sp (vs ++ dvs) H1 Q E
noncomputable def tMeth (C:Addr) (m:Str) (sp:Sp) (dvs:List V) (E:XK) (ta:TE) (t:TA):TE:=fun σ H Q=>ta σ H fun x H1=>∃ a dx fs,x = .ref a/\H1 a=some (.ins C dx fs)/\fs.lookup m=none /\
  t σ H1 fun vs H2=>sp (x :: (vs ++ dvs)) H2 Q E
noncomputable def tMake (C:Addr) (sp:Sp) (dvs:List V) (E:XK) (t:TA):TE:=fun σ H Q=>t σ H fun vs H1=>∀ x dx,H1 x=none->H1 dx=none->dx ≠ x ->
  sp (.ref x :: (vs ++ dvs)) (upd (upd H1 dx (.own x)) x (.ins C dx [])) (fun v H2=>v = .non/\Q (.ref x) H2) E
noncomputable def Binds (K:PySem.W.Frag) (fd:FuncData) (ps:List Str) (ds:List Value):Prop :=
  ∀ (s:Shared) (us:List Value),K.In s.heap->(us ++ ds).length=ps.length->BindsTo s fd ⟨us,[]⟩ (ps.zip (us ++ ds))
theorem Binds.all {K:PySem.W.Frag} {fd:FuncData} {ps:List Str} (h:∀ us:List Value,us.length=ps.length->bindArgs fd ⟨us,[]⟩=pure (ps.zip us)):Binds K fd ps []:=fun s us _ hl=>by
  rw [List.append_nil] at hl ⊢
  exact .of_eq (h us hl)
noncomputable def Passes (CX:CXT) (X:Cx) (E:XK):Prop:=∀ (pins:List (Addr × Obj)) (σ:St) (H:Hp) (s:Shared) (e:Value) (s':Shared),Inv X pins σ H s->CX X.stack H s E e s'->X.xe e s'
section
variable {X:Cx} {CX:CXT} {k:Nat} {f C:Addr} {fd:FuncData} {ps:List Str} {sp:Sp} {dvs:List V} {ds:List Value} {E:XK} {x m:Str} {p pos apos:Pos} {e o:Expr} {es:List Expr} {ta:TE} {t:TA}
theorem run_fn {pins:List (Addr × Obj)} {σ:St} {H:Hp} {s:Shared} {Q:VK} {us:List Value} {vs:List V} (F:FnOk X.prog X.w X.K X.mg X.base CX k f fd ps sp) (hr:Room k X.A) (hb:Binds X.K fd ps ds) (hd:Vals dvs ds) (hx:Passes CX X E)
    (I:Inv X pins σ H s) (r:Vals vs us) (h:sp (vs ++ dvs) H Q E):wpAny (model X.prog X.w) X.A (call (.ref f) us) (EP X pins σ Q) X.xe s:=by
  have r2:Vals (vs ++ dvs) (us ++ ds):=r.append hd
  have hl:(us ++ ds).length=ps.length:=by rw [<- r2.length];exact F.len _ _ _ _ h
  refine wpAny_call (codeAny_mono (F.run X.A X.stack s H ⟨us,[]⟩ (us ++ ds) (vs ++ dvs) Q E hr I.env0 (hb s us I.kIn hl) r2 h) fun r s' hq=>?_)
  cases r with
  | error e=>exact hx pins σ H s e s' I hq
  | ok fl =>
    cases fl with
    | ret u=>exact I.after hq
    | next=>exact False.elim hq
    | brk=>exact False.elim hq
    | cont=>exact False.elim hq
theorem pe_call (F:FnOk X.prog X.w X.K X.mg X.base CX k f fd ps sp) (hr:Room k X.A) (hg:Gl X x) (hm:X.mg x=some (.ref f)) (hk:PySem.W.keepIn X.K (.ref f)=true) (hb:Binds X.K fd ps ds) (hd:Vals dvs ds) (hx:Passes CX X E)
    (ha:PA X (e :: es) t) (hdb:(x == ("__debug__" : Str))=false:=by decide) (he:starEach (e :: es) X.env=(false,eval e X.env) :: starEach es X.env:=by rfl) (hpl:(backTo pos (starEach es X.env)).any (·.1)=false:=by rfl) :
    PE X (.Call (.Name x p) (e :: es) [] pos) (tCall sp dvs E t):=by
  intro pins s σ H Q I h
  refine wpAny_Call_Name_kw (ld_glob I hg hm ?_ hdb)
  refine PySem.W.callWith_K (h₀:=X.base) I.ok.mod.kin hk (thn (ha pos pins s σ H _ I h) fun us s1 ⟨vs,H1,I1,r,q⟩=>⟨I1.kIn,?_⟩) he hpl
  exact run_fn F hr hb hd hx I1 r q
theorem pe_meth {pl:Sem Bool} (he:PE X o ta) (c:Cls X.K C) (hm:Meth X.K C m f) (F:FnOk X.prog X.w X.K X.mg X.base CX k f fd ps sp) (hr:Room k X.A) (hb:Binds X.K fd ps ds) (hd:Vals dvs ds) (hx:Passes CX X E) (ha:PA X (e :: es) t)
    (hst:starEach (e :: es) X.env=(false,eval e X.env) :: starEach es X.env:=by rfl) (hpl:(backTo pos (starEach es X.env)).any (·.1)=false:=by rfl)
    (ht:eval (.Call (.Attribute o m apos) (e :: es) [] pos) X.env=(do
      let ov <- eval o X.env
      standAt apos.atName
      let (f,first) <- holding [ov] (getMethod ov m pl)
      callWith pos f first (backTo pos (starEach (e :: es) X.env)) (backToKw pos (keywordEach [] X.env))):=by rfl) :
    PE X (.Call (.Attribute o m apos) (e :: es) [] pos) (tMeth C m sp dvs E ta t):=by
  intro pins s σ H Q I h
  refine PySem.W.methodCall_KW (pl:=pl) (thn (he pins s σ H _ I h) fun u s1 ⟨x,H1,I1,rx,a,dx,fs,ex,ea,l,q⟩=>?_) ht
  subst ex
  obtain rfl:u=Value.ref a:=rx
  refine getmeth_ok I1 ea c hm l ?_
  refine PySem.W.callWith_K (first:=[.ref a]) (h₀:=X.base) I.ok.mod.kin hm.kp (thn (ha pos pins s1 σ H1 _ I1 q) fun us s2 ⟨vs,H2,I2,r,q2⟩=>⟨I2.kIn,?_⟩) hst hpl
  exact run_fn (us:=.ref a :: us) (vs:=.ref a :: vs) F hr hb hd hx I2 (.cons rfl r) q2
theorem pe_meth0 {pl:Sem Bool} (he:PE X o ta) (c:Cls X.K C) (hm:Meth X.K C m f) (F:FnOk X.prog X.w X.K X.mg X.base CX k f fd ps sp) (hr:Room k X.A) (hb:Binds X.K fd ps ds) (hd:Vals dvs ds) (hx:Passes CX X E)
    (ht:eval (.Call (.Attribute o m apos) [] [] pos) X.env=(do
      let ov <- eval o X.env
      standAt apos.atName
      let (f,first) <- holding [ov] (getMethod ov m pl)
      callWith pos f first (backTo pos (starEach [] X.env)) (backToKw pos (keywordEach [] X.env))):=by rfl) :
    PE X (.Call (.Attribute o m apos) [] [] pos) (tMeth C m sp dvs E ta tNil):=by
  intro pins s σ H Q I h
  refine PySem.W.methodCall_KW (pl:=pl) (thn (he pins s σ H _ I h) fun u s1 ⟨x,H1,I1,rx,a,dx,fs,ex,ea,l,q⟩=>?_) ht
  subst ex
  obtain rfl:u=Value.ref a:=rx
  refine getmeth_ok I1 ea c hm l ?_
  exact PySem.W.callWith_K0 (first:=[.ref a]) I1.kIn hm.kp (run_fn (us:=[.ref a]) (vs:=[.ref a]) F hr hb hd hx I1 (.cons rfl .nil) q)
structure Mk (K:PySem.W.Frag) (C f:Addr):Prop where
  makes:PySem.W.makesIn K C=true
  init:PySem.W.findIn K (.ref C) "__init__" = some (some (.ref f))
  fn:PySem.W.isFn K (.ref f)=true
  kp:PySem.W.keepIn K (.ref C)=true
theorem run_make {pins:List (Addr × Obj)} {σ:St} {H:Hp} {s:Shared} {Q:VK} {us:List Value} {vs:List V} (M:Mk X.K C f) (F:FnOk X.prog X.w X.K X.mg X.base CX k f fd ps sp) (hr:Room (k + 1) X.A) (hb:Binds X.K fd ps ds) (hd:Vals dvs ds)
    (hx:Passes CX X E) (I:Inv X pins σ H s) (r:Vals vs us)
    (h:∀ x dx,H x=none->H dx=none->dx ≠ x->sp (.ref x :: (vs ++ dvs)) (upd (upd H dx (.own x)) x (.ins C dx [])) (fun v H2=>v = .non/\Q (.ref x) H2) E) :
    wpAny (model X.prog X.w) X.A (call (.ref C) us) (EP X pins σ Q) X.xe s:=by
  have hq:=h (s.heap.objs.size + 1) s.heap.objs.size (I.hok.fresh (Nat.le_succ _)) (I.hok.fresh (Nat.le_refl _)) (Nat.ne_of_lt (Nat.lt_succ_self _))
  have I2:=Inv.made (C:=C) I
  have r2:Vals (V.ref (s.heap.objs.size + 1) :: (vs ++ dvs)) (Value.ref (s.heap.objs.size + 1) :: (us ++ ds)):=.cons rfl (r.append hd)
  have hl:(Value.ref (s.heap.objs.size + 1) :: us ++ ds).length=ps.length:=by
    have e:=r2.length
    rw [F.len _ _ _ _ hq] at e
    exact e.symm
  refine wpAny_call (make_map (f:=f) I.kIn M.makes M.init (beq_iff_eq.mp M.fn) (codeAny_mono (F.run _ X.stack _ _ ⟨Value.ref (s.heap.objs.size + 1) :: us,[]⟩ (Value.ref (s.heap.objs.size + 1) :: (us ++ ds)) _ _ E (hr.make C us [])
    (I2.env0.make C us []) (hb _ (Value.ref (s.heap.objs.size + 1) :: us) I2.kIn hl) r2 hq) fun r s' hq'=>?_))
  cases r with
  | error e=>exact hx pins σ _ _ e s' I2 hq'
  | ok fl =>
    cases fl with
    | ret u =>
      obtain ⟨v,H',I3,rv,ev,q3⟩:=I2.after hq'
      subst ev
      exact ⟨rv,⟨V.ref (s.heap.objs.size + 1),H',I3,rfl,q3⟩⟩
    | next=>exact False.elim hq'
    | brk=>exact False.elim hq'
    | cont=>exact False.elim hq'
theorem pe_make0 (M:Mk X.K C f) (F:FnOk X.prog X.w X.K X.mg X.base CX k f fd ps sp) (hr:Room (k + 1) X.A) (hg:Gl X x) (hm:X.mg x=some (.ref C)) (hb:Binds X.K fd ps ds) (hd:Vals dvs ds) (hx:Passes CX X E)
    (hdb:(x == ("__debug__" : Str))=false:=by decide):PE X (.Call (.Name x p) [] [] pos) (tMake C sp dvs E tNil):=by
  intro pins s σ H Q I h
  refine wpAny_Call_Name_kw (ld_glob I hg hm ?_ hdb)
  exact PySem.W.callWith_K0 I.kIn M.kp (run_make (us:=[]) M F hr hb hd hx I .nil h)
end
section
variable {X:Cx} {CX:CXT} {k:Nat} {f C:Addr} {fd:FuncData} {ps:List Str} {sp:Sp} {E:XK} {x m:Str} {p pos apos:Pos} {e o:Expr} {es:List Expr} {te ta:TE} {t tk:TA} {nm:Option Str}
variable {g:List Value->List Value->List Value}
end
structure FnScope (N P:List Str) (sc:Scope):Prop where
  kind:sc.kind = .function
  co:sc.isCoroutine=false
  gen:sc.isGenerator=false
  nd:N.Nodup
  pre:N.take P.length=P
  par:∀ x ∈ P,sc.names.lookup x=some .local\/sc.names.lookup x=some .cell
  nofree:∀ y ∈ sc.names,y.2 ≠ .free
theorem bindL_out {kindOf:Str->Option NameKind} {x:Str}:∀ {binds:List (Str × Value)} {m:Str->Option Value},(∀ v,(x,v) ∉ binds)->bindL kindOf binds m x=m x
  | [],_,_=>rfl
  | (n,v) :: r,m,h=>by
    unfold bindL
    rw [bindL_out fun w hw=>h w (List.mem_cons_of_mem _ hw)]
    split
    . have:x ≠ n:=by rintro rfl;exact h v List.mem_cons_self
      simp [this]
    . rfl
theorem bindC_out {kindOf:Str->Option NameKind} {x:Str}:∀ {binds:List (Str × Value)} {m:Str->Option Value},(∀ v,(x,v) ∉ binds)->bindC kindOf binds m x=m x
  | [],_,_=>rfl
  | (n,v) :: r,m,h=>by
    unfold bindC
    rw [bindC_out fun w hw=>h w (List.mem_cons_of_mem _ hw)]
    split
    . rfl
    . have:x ≠ n:=by rintro rfl;exact h v List.mem_cons_self
      simp [this]
theorem bindL_get {kindOf:Str->Option NameKind} {x:Str} {v:Value}:∀ {P:List Str} {vs:List Value} {i:Nat} {m:Str->Option Value},P.Nodup->P[i]?=some x->vs[i]?=some v->kindOf x=some .local ->
    bindL kindOf (P.zip vs) m x=some v
  | [],_,_,_,_,h,_,_=>by simp at h
  | _ :: _,[],_,_,_,_,h,_=>by simp at h
  | p :: P,w :: vs,0,m,nd,h1,h2,hk=>by
    simp at h1 h2;subst h1;subst h2
    show bindL kindOf ((p,w) :: P.zip vs) m p=_
    unfold bindL
    rw [bindL_out fun v hv=>(List.nodup_cons.mp nd).1 (List.of_mem_zip hv).1,if_pos hk]
    simp
  | p :: P,w :: vs,i + 1,m,nd,h1,h2,hk=>by
    show bindL kindOf ((p,w) :: P.zip vs) m x=_
    unfold bindL
    exact bindL_get (i:=i) (List.nodup_cons.mp nd).2 (by simpa using h1) (by simpa using h2) hk
theorem bindC_get {kindOf:Str->Option NameKind} {x:Str} {v:Value}:∀ {P:List Str} {vs:List Value} {i:Nat} {m:Str->Option Value},P.Nodup->P[i]?=some x->vs[i]?=some v->kindOf x ≠ some .local ->
    bindC kindOf (P.zip vs) m x=some v
  | [],_,_,_,_,h,_,_=>by simp at h
  | _ :: _,[],_,_,_,_,h,_=>by simp at h
  | p :: P,w :: vs,0,m,nd,h1,h2,hk=>by
    simp at h1 h2;subst h1;subst h2
    show bindC kindOf ((p,w) :: P.zip vs) m p=_
    unfold bindC
    rw [bindC_out fun v hv=>(List.nodup_cons.mp nd).1 (List.of_mem_zip hv).1,if_neg hk]
    simp
  | p :: P,w :: vs,i + 1,m,nd,h1,h2,hk=>by
    show bindC kindOf ((p,w) :: P.zip vs) m x=_
    unfold bindC
    exact bindC_get (i:=i) (List.nodup_cons.mp nd).2 (by simpa using h1) (by simpa using h2) hk
noncomputable def start (N:List Str) (vs:List V):St:=vs.map some ++ List.replicate (N.length - vs.length) none
noncomputable def cxOf (CX:CXT) (P:Program) (w:World) (K:PySem.W.Frag) (mg:Str->Option Value) (base:Heap) (N:List Str) (qual:Str) (scope:Scope) (f:Addr) (cd:Value) (A:Around) (outer:List Env) (s:Shared) (H:Hp) (E:XK):Cx where
  prog:=P
  w:=w
  K:=K
  mg:=mg
  base:=base
  A:=A.deeper (envOfC qual scope s.heap.objs.size f cd)
  N:=N
  s₀:=s
  H₀:=H
  env:=envOfC qual scope s.heap.objs.size f cd
  outer:=outer
  stack:=envOfC qual scope s.heap.objs.size f cd :: outer
  ex:=[]
  calm:=true
  fn:=fun _=>true
  pn:=[]
  xe:=fun e s'=>wpAny (model P w) (A.deeper (envOfC qual scope s.heap.objs.size f cd)) (leaving (envOfC qual scope s.heap.objs.size f cd) e) (fun _ s''=>CX outer H s E e s'') (fun e' s''=>CX outer H s E e' s'') s'
theorem cell_has {sc:Scope} {n:Nat} {x:Str} (h:sc.names.lookup x=some .cell):∃ c,(cellsFrom n sc.names []).lookup x=some c:=by
  have q:=PySem.W.cellsFrom_some sc.names n [] (.inl h)
  exact Option.isSome_iff_exists.mp q
theorem inv_start {CX : CXT} {P : Program} {w : World} {K : PySem.W.Frag} {mg : Str -> Option Value} {base : Heap} {N ps : List Str} {qual : Str} {scope : Scope} {f : Addr} {cd : Value} {A : Around} {outer : List Env} {s s1 : Shared} {H : Hp} {E : XK} {us : List Value} {vs : List V}
    (S:FnScope N ps scope) (hd:A.handled=none) (e0:Env0 P w K mg base A outer s H) (hl:vs.length=ps.length) (r:Vals vs us)
    (x:InCallC s s.heap.objs.size (bindL (envOfC qual scope s.heap.objs.size f cd).kindOf (ps.zip us) fun _=>none) (cellsFrom (s.heap.objs.size + 1) scope.names []) (bindC (envOfC qual scope s.heap.objs.size f cd).kindOf (ps.zip us) fun _=>none) s1) :
    Inv (cxOf CX P w K mg base N qual scope f cd A outer s H E) [] (start N vs) H s1:=by
  have hpl:ps.length<=N.length:=by have:=congrArg List.length S.pre;rw [List.length_take] at this;omega
  obtain ⟨h1,tk,rfl,hk⟩:=x.done
  have noA:∀ b:Addr,b ∉ (cxOf CX P w K mg base N qual scope f cd A outer s H E).ex:=fun b z=>absurd (show b ∈ ([]:List Addr) from z) (by simp)
  refine ⟨⟨e0.mod,S.kind,rfl,rfl,Nat.le_refl _,fun y z c h1 h2=>?_,fun y hy=>?_,fun y c _ h=>?_,fun _=>hd,Around.frames_deeper e0.frames,.inr ⟨rfl,rfl⟩,fun b z=>absurd z (noA b),e0.bs,e0.bsz,fun b _ _=>noA b,fun b z=>absurd z (noA b),e0.funs,e0.frf⟩,
    rfl,e0.bare,Un.kept hk,⟨_,x.toInCall.ns,fun i y v h1 h2 h3=>?_⟩,fun y c h=>⟨_,x.cell y c h⟩,e0.hok.fresh (Nat.le_refl _),fun y c h=>?_,fun p hp=>absurd (show p ∈ ([]:List (Addr × Obj)) from hp) (by simp),e0.hok.kept hk,?_⟩
  . exact name_of_addr x.apart (PySem.mem_of_lookup h1) (PySem.mem_of_lookup h2)
  . have hy:scope.names.lookup y=some .cell\/scope.names.lookup y=some .free:=hy
    rcases hy with hy | hy
    . exact cell_has hy
    . exact absurd rfl (S.nofree _ (PySem.mem_of_lookup hy))
  . exact Nat.le_of_lt (x.above y c (PySem.mem_of_lookup h))
  . have hi:i < vs.length:=by
      unfold start at h2
      by_cases hi:i < vs.length
      . exact hi
      . rw [List.getElem?_append_right (by simpa using hi)] at h2
        rw [List.getElem?_replicate] at h2
        split at h2 <;> cases h2
    have ha:vs[i]?=some v:=by
      unfold start at h2
      rw [List.getElem?_append_left (by simpa using hi),List.getElem?_map] at h2
      cases e:vs[i]? with
      | none=>rw [e] at h2;cases h2
      | some a=>rw [e] at h2;cases h2;rfl
    obtain ⟨u,hu,rv⟩:=r.get ha
    have hp:ps[i]?=some y:=by
      rw [<- S.pre,List.getElem?_take_of_lt (by omega)];exact h1
    have ndP:ps.Nodup:=by rw [<- S.pre];exact S.nd.sublist (List.take_sublist _ _)
    refine ⟨u,rv,?_⟩
    rcases S.par y (List.mem_of_getElem? hp) with k | k
    . exact .inl ⟨k,bindL_get ndP hp hu k⟩
    . obtain ⟨c,e⟩:=cell_has (n:=s.heap.objs.size + 1) k
      refine .inr ⟨.inl k,c,e,?_⟩
      have q:=x.cell y c e
      rw [bindC_get ndP hp hu (by show scope.names.lookup y ≠ _;rw [k];decide)] at q
      exact q
  . exact e0.hok.fresh (Nat.le_of_lt (x.above y c (PySem.mem_of_lookup h)))
  . unfold start
    show _=N.length
    rw [List.length_append,List.length_map,List.length_replicate]
    omega
theorem fn_of {CX:CXT} {P:Program} {w:World} {K:PySem.W.Frag} {mg:Str->Option Value} {base:Heap} {k:Nat} {f:Addr} {name qual:Str} {params:Arguments} {body:List Stmt} {scope:Scope} {dV kV doc pm cdv ct oc:Value} {an od:Option Addr}
    {osl:Array (Option Value)} {N ps:List Str} {sp:Sp} (lk:K.lookup f=some ⟨oc,od,.func (PySem.W.fnOf name qual params body scope dV kV doc pm an cdv ct),osl⟩) (hcd:PySem.W.codeIn K cdv qual=true) (S:FnScope N ps scope)
    (len:∀ vs H Q E,sp vs H Q E->vs.length=ps.length)
    (hbody:∀ (A:Around) (outer:List Env) (s:Shared) (H:Hp) (vs:List V) (Q:VK) (E:XK),Room k (A.deeper (envOfC qual scope s.heap.objs.size f cdv))->sp vs H Q E ->
      ∃ t,PSs (cxOf CX P w K mg base N qual scope f cdv A outer s H E) body t/\t { nx:=fun _ H'=>Q .non H',rt:=Q } (start N vs) H) :
    FnOk P w K mg base CX (k + 1) f (PySem.W.fnOf name qual params body scope dV kV doc pm an cdv ct) ps sp:=by
  refine ⟨len,fun A outer s H args us vs Q E hr e0 hb r hsp=>?_⟩
  have hl:=len _ _ _ _ hsp
  have KX:K.In s.heap:=e0.mod.kin.keeps fun b o e=>(e0.bs b o e).1
  have lim:s.heap.NoLimit:=e0.mod.nolimit.keeps fun b o e=>(e0.bs b o e).1
  have hkind:∀ y ∈ ps.zip us,scope.names.lookup y.1=some .local\/(scope.names.lookup y.1=some .cell/\((cellsFrom (s.heap.objs.size + 1) scope.names []).lookup y.1).isSome=true):=fun ⟨n,v⟩ hy=>by
    rcases S.par n (List.of_mem_zip hy).1 with q | q
    . exact .inl q
    . exact .inr ⟨q,PySem.W.cellsFrom_some _ _ _ (.inl q)⟩
  refine codeAny_call_function hr.depth (KX _ _ lk) rfl S.co S.gen rfl (PySem.W.codeRec_of KX hcd) (hb _ _ _ _ ?_)
  refine wpAny_newFunctionEnv_cells S.kind hkind fun env he s1 x=>?_
  subst he
  refine ⟨lim.keeps x.toInCall.keep,codeAny_func ?_⟩
  obtain ⟨t,ht,hq⟩:=hbody A outer s H vs Q E (hr.deeper _) hsp
  have I:Inv (cxOf CX P w K mg base N qual scope f cdv A outer s H E) [] (start N vs) H s1:=inv_start S hr.hd e0 hl r x
  refine wpAny_mono (ht [] s1 (start N vs) H _ I hq) (fun fl s' hs=>?_) fun e s' hs=>hs
  have fin:∀ {σ':St} {H':Hp} {v:V} {u:Value},Inv (cxOf CX P w K mg base N qual scope f cdv A outer s H E) [] σ' H' s'->RelV v u->Q v H'->CE outer P w H s Q u s' :=
    fun {σ' H' v u} J rv q=>⟨v,H',J.os,J.bare,J.base,J.hok,rv,q⟩
  cases fl with
  | ret u =>
    obtain ⟨v,σ',H',J,rv,q⟩:=hs
    exact fin J rv q
  | next =>
    obtain ⟨σ',H',J,q⟩:=hs
    exact fin (v:=V.non) (u:=Value.none) J rfl q
  | brk =>
    obtain ⟨_,_,_,q⟩:=hs
    exact False.elim q
  | cont =>
    obtain ⟨_,_,_,q⟩:=hs
    exact False.elim q
end L2
namespace L2
open PySem PySem.Spec PyProof.Rows
section
variable {X:Cx} {x:Str} {p pos:Pos} {e:Expr} {es:List Expr} {t:TA} {id T:String} {r:List V->Hp->VK->Prop}
noncomputable def tCB (r:List V->Hp->VK->Prop) (t:TA):TE:=fun σ H Q=>t σ H fun vs H1=>r vs H1 Q
theorem pe_callB (hc:CallR X (.builtin id) r) (hg:Gl X x) (hm:X.mg x=none) (hv:bootBuiltins x=some (.builtin id)) (ha:PA X (e :: es) t) (hn:x ≠ "__name__" := by decide) (hdb:(x == ("__debug__" : Str))=false:=by decide)
    (he:starEach (e :: es) X.env=(false,eval e X.env) :: starEach es X.env:=by rfl) (hpl:(backTo pos (starEach es X.env)).any (·.1)=false:=by rfl):PE X (.Call (.Name x p) (e :: es) [] pos) (tCB r t):=by
  intro pins s σ H Q I h
  refine wpAny_Call_Name_kw (ld_blt I hg hm hv ?_ hn hdb)
  exact PyProof.Rows.callWith_builtin1 (thn (ha pos pins s σ H _ I h) fun us s1 ⟨vs,H1,I1,r1,q1⟩=>hc pins s1 σ H1 vs us Q I1 r1 q1) he hpl
theorem pe_callTy (hc:CallR X (.type T) r) (hg:Gl X x) (hm:X.mg x=none) (hv:bootBuiltins x=some (.type T)) (ha:PA X (e :: es) t) (hn:x ≠ "__name__" := by decide) (hdb:(x == ("__debug__" : Str))=false:=by decide)
    (he:starEach (e :: es) X.env=(false,eval e X.env) :: starEach es X.env:=by rfl) (hpl:(backTo pos (starEach es X.env)).any (·.1)=false:=by rfl):PE X (.Call (.Name x p) (e :: es) [] pos) (tCB r t):=by
  intro pins s σ H Q I h
  refine wpAny_Call_Name_kw (ld_blt I hg hm hv ?_ hn hdb)
  exact PyProof.Rows.callWith_type1 (thn (ha pos pins s σ H _ I h) fun us s1 ⟨vs,H1,I1,r1,q1⟩=>hc pins s1 σ H1 vs us Q I1 r1 q1) he hpl
end
end L2
namespace HT
open PySem PyProof.Rows
noncomputable def lexLt:List Int->List Int->Bool
  | [],[]=>false
  | [],_ :: _=>true
  | _ :: _,[]=>false
  | x :: xs,y :: ys=>if x=y then lexLt xs ys else decide (x < y)
theorem lexLt_cons (x y:Int) (xs ys:List Int):lexLt (x :: xs) (y :: ys)=if x=y then lexLt xs ys else decide (x < y):=rfl
theorem lexLt_nil_nil:lexLt [] []=false:=rfl
theorem lexLt_nil_cons (y:Int) (ys:List Int):lexLt [] (y :: ys)=true:=rfl
theorem lexLt_cons_nil (x:Int) (xs:List Int):lexLt (x :: xs) []=false:=rfl
theorem eqAt_int (A:Around) (s:Shared) (a:Int) (t:Tok) (c:Int) (u:Tok):∃ e,SeqAt.EqAt A s (.int a t) (.int c u) e/\(e=true ↔ a=c) :=
  ⟨(a == c),SeqAt.EqAt.int_int a t c u,by simp⟩
theorem rcLt_int (A:Around) (s:Shared) (a:Int) (t:Tok) (c:Int) (u:Tok) (prog:Program) (w:World) (E:Value->Shared->Prop) (Q:Value->Shared->Prop) (h:Q (.bool (decide (a < c))) s) :
    wpAny (model prog w) A (richCompare .Lt (.int a t) (.int c u)) Q E s :=
  (PyProof.Rows.lt_int h:wpAny (model prog w) A (compareOp .Lt (.int a t) (.int c u)) Q E s)
section
open PySem.SeqAt
open PySem.AutoSeq1 (wpAny_loadPart')
open PySem.MeetsSeq PySem.MeetsSeq2 PySem.MeetsSeq3
theorem tuple_lt_ints (l b : Addr) (items items2 : Array Value) (n n2 : Nat) (dd dd2 : Option Addr) (sl sl2 : Array (Option Value)) (ns ms : List Int) (hi : IntsAre items.toList ns) (hj : IntsAre items2.toList ms) :
    Meets (Builtin.«tuple.__lt__» ⟨[.ref l,.ref b],[]⟩)
      (fun _ R s=>s.heap.get? l=some { cls:=.type "tuple",dict:=dd,data:=.seq items n,slots:=sl }/\s.heap.get? b=some { cls:=.type "tuple",dict:=dd2,data:=.seq items2 n2,slots:=sl2 } /\
        R (.ok (.ret (.bool (lexLt ns ms)))) s) :=
  .of_wp fun prog w A R s h=>by
    obtain ⟨hp,g,d,tk,os⟩:=s;obtain ⟨hl,hb,h⟩:=h
    have f2:=AutoSeq1.sub_tuple_tuple
    have z1:items.size=ns.length:=by rw [<- hi.length];simp
    have z2:items2.size=ms.length:=by rw [<- hj.length];simp
    wp_walk using wpAny_loadPart' hl,wpAny_loadPart' hb,wpAny_forIn_list _ (fun rest b s'=>b.1=none/\s'=⟨hp,g,d,tk,os⟩/\∃ (vs ws:List Value) (ns' ms':List Int),rest=vs.zip ws /\
      IntsAre vs ns'/\IntsAre ws ms'/\ns'.length + items2.size=ms'.length + items.size/\R (.ok (.ret (.bool (lexLt ns' ms')))) ⟨hp,g,d,tk,os⟩) _
    case turn =>
      rintro ⟨y,x⟩ rest b s' ⟨hb',rfl,vs,ws,ns',ms',hz,hvi,hwi,hlen,hR⟩
      cases hvi with
      | nil=>rw [List.zip_nil_left] at hz;cases hz
      | cons a t hvi' =>
        cases hwi with
        | nil=>rw [List.zip_nil_right] at hz;cases hz
        | cons c u hwi' =>
          rw [List.zip_cons_cons] at hz
          injection hz with hyx hrest
          injection hyx with hy hx
          subst hy hx
          rw [lexLt_cons] at hR
          simp only [List.length_cons] at hlen
          obtain ⟨e,he,hiff⟩:=eqAt_int A.in1 ⟨hp,g,d,tk,os⟩ a t c u
          refine wpAny_bind (he prog w _ _ ?_)
          cases e with
          | true =>
            rw [if_pos (hiff.mp rfl)] at hR
            wp_walk
            exact ⟨rfl,rfl,_,_,_,_,hrest,hvi',hwi',by omega,hR⟩
          | false =>
            rw [if_neg (fun q=>absurd (hiff.mpr q) Bool.false_ne_true)] at hR
            have hri:=rcLt_int A.in1 ⟨hp,g,d,tk,os⟩ a t c u prog w
            wp_walk using hri
            exact ⟨_,rfl,by simpa using hR⟩
    case fin =>
      rintro ⟨b1,b2⟩ s' ⟨hb',rfl,vs,ws,ns',ms',hz,hvi,hwi,hlen,hR⟩
      simp only at hb'
      subst hb'
      have hv:lexLt ns' ms'=decide (items.size < items2.size):=by
        cases hvi with
        | nil =>
          cases hwi with
          | nil =>
            simp only [List.length_nil] at hlen
            rw [lexLt_nil_nil]
            exact (decide_eq_false (by omega)).symm
          | cons c u hw =>
            simp only [List.length_nil,List.length_cons] at hlen
            rw [lexLt_nil_cons]
            exact (decide_eq_true (by omega)).symm
        | cons a t hv =>
          cases hwi with
          | nil =>
            simp only [List.length_nil,List.length_cons] at hlen
            rw [lexLt_cons_nil]
            exact (decide_eq_false (by omega)).symm
          | cons c u hw =>
            rw [List.zip_cons_cons] at hz
            cases hz
      rw [hv] at hR
      wp_walk
      exact ⟨_,rfl,by simpa [Builtin.Tuple.tupleCompareSizes] using hR⟩
    case h =>
      exact ⟨rfl,rfl,items.toList,items2.toList,ns,ms,rfl,hi,hj,by omega,h⟩
end
section
variable {prog:Program} {w:World} {A:Around} {E:Value->Shared->Prop} {s:Shared}
theorem lt_tupInts {l b:Addr} {items items2:Array Value} {ns ms:List Int} {Q:Value->Shared->Prop} (hl:IsTup s.heap l items) (hb:IsTup s.heap b items2) (hi:IntsAre items.toList ns) (hj:IntsAre items2.toList ms)
    (hu:A.units < cLine) (h:Q (.bool (lexLt ns ms)) s):wpAny (model prog w) A (compareOp .Lt (.ref l) (.ref b)) Q E s:=by
  obtain ⟨⟨cls,dd,data,sl⟩,ho,hc,n,hd⟩:=id hl
  obtain ⟨⟨cls2,dd2,data2,sl2⟩,ho2,hc2,n2,hd2⟩:=id hb
  simp only at hc hd hc2 hd2
  subst hc hd hc2 hd2
  exact richCompare_meets_room (op:=.Lt) ⟨_,ho,rfl⟩ ⟨_,ho2,rfl⟩ PySem.F.slot_tuple_lt PySem.F.entry_tuple_lt (PySem.F.args_tuple_lt_2 _ _) (tuple_lt_ints l b items items2 n n2 dd dd2 sl sl2 ns ms hi hj)
    ⟨ho,ho2,show Value.bool (lexLt ns ms) ≠ Value.notImplemented/\Q (.bool (lexLt ns ms)) s from ⟨(fun x=>nomatch x),h⟩⟩ hu
theorem cat_tup {t b:Addr} {vs ws:List Value} {Q:Value->Shared->Prop} (ht:IsTup s.heap t vs.toArray) (hb:IsTup s.heap b ws.toArray) (hv:vs ≠ [])
    (h1:ws=[]->Q (.ref t) s) (h2:ws ≠ []->Q (.ref s.heap.objs.size) { s with heap:=s.heap.push { cls:=.type "tuple",data:=.seq (vs ++ ws).toArray } })
    (hsz:vs.length + ws.length<=sizeLine):wpAny (model prog w) A (binaryOp .Add (.ref t) (.ref b)) Q E s:=by
  obtain ⟨⟨cls,dd,data,sl⟩,ho,hc,n,hd⟩:=id ht
  obtain ⟨⟨cls2,dd2,data2,sl2⟩,ho2,hc2,n2,hd2⟩:=id hb
  simp only at hc hd hc2 hd2
  subst hc hd hc2 hd2
  have e:vs.toArray ++ ws.toArray=(vs ++ ws).toArray:=by simp
  by_cases hw:ws=[]
  . exact concat_meets ⟨_,ho,rfl⟩ ⟨_,ho2,rfl⟩ noFill_tuple_add seq_tuple_add PySem.F.slot_tuple_add PySem.F.entry_tuple_add (PySem.F.args_tuple_add_2 _ _)
      (tuple_addW1 t b vs.toArray ws.toArray n n2 dd dd2 sl sl2 (by simpa using hv) (by simp [hw])) ⟨ho,ho2,h1 hw⟩
  . refine concat_meets ⟨_,ho,rfl⟩ ⟨_,ho2,rfl⟩ noFill_tuple_add seq_tuple_add PySem.F.slot_tuple_add PySem.F.entry_tuple_add (PySem.F.args_tuple_add_2 _ _)
      (tuple_addW2 t b vs.toArray ws.toArray n n2 dd dd2 sl sl2 (by simpa using hv) (by simpa using hw) (by rw [List.size_toArray,List.size_toArray];exact hsz)) ⟨ho,ho2,?_⟩
    rw [e]
    exact h2 hw
noncomputable def sIx (n d:Nat):Option Int->Nat
  | none=>d
  | some v=>if v < 0 then (v + (n:Int)).toNat else min v.toNat n
theorem sIx_none (n d:Nat):sIx n d none=d:=rfl
theorem sIx_nat (n d k:Nat):sIx n d (some (k:Int))=min k n:=by
  show (if (k:Int) < 0 then ((k:Int) + (n:Int)).toNat else min (k:Int).toNat n)=min k n
  rw [if_neg (by omega),Int.toNat_natCast]
theorem sIx_le (n d:Nat) (hd:d<=n) (o:Option Int):sIx n d o<=n:=by
  cases o with
  | none=>exact hd
  | some v =>
    show (if v < 0 then (v + (n:Int)).toNat else min v.toNat n)<=n
    by_cases hv:v < 0
    . rw [if_pos hv];omega
    . rw [if_neg hv];exact Nat.min_le_right _ _
theorem clip_ofmin (a b:Nat):((min a b:Nat):Int)=min (a:Int) (b:Int):=by
  rcases Nat.le_total a b with h | h
  . rw [Nat.min_eq_left h,Int.min_eq_left (Int.ofNat_le.mpr h)]
  . rw [Nat.min_eq_right h,Int.min_eq_right (Int.ofNat_le.mpr h)]
theorem clip_two (i:Int) (n d:Nat):max 0 (min (if i < 0 then i + (n:Int) else i) (n:Int))=((HT.sIx n d (some i):Nat):Int):=by
  show _=(((if i < 0 then (i + (n:Int)).toNat else min i.toNat n):Nat):Int)
  by_cases hv:i < 0
  . rw [if_pos hv,if_pos hv,Int.toNat_eq_max,Int.min_eq_left (by omega),Int.max_comm]
  . rw [if_neg hv,if_neg hv,clip_ofmin,Int.toNat_of_nonneg (Int.not_lt.mp hv),Int.max_eq_right]
    exact Int.le_min.mpr ⟨Int.not_lt.mp hv,Int.natCast_nonneg n⟩
theorem clip_eq (v:Int) (n d:Nat):(if v < 0 then max (v + (n:Int)) 0 else min v (n:Int))=((sIx n d (some v):Nat):Int):=by
  show (if v < 0 then max (v + (n:Int)) 0 else min v (n:Int))=(((if v < 0 then (v + (n:Int)).toNat else min v.toNat n):Nat):Int)
  by_cases hv:v < 0
  . rw [if_pos hv,if_pos hv,Int.toNat_eq_max]
  . rw [if_neg hv,if_neg hv,clip_ofmin,Int.toNat_of_nonneg (Int.not_lt.mp hv)]
theorem adjust_gen (lo hi:Option Int) (n:Nat):Builtin.Slice.sliceAdjust lo hi 1 (n:Int)=(((sIx n 0 lo:Nat):Int),((sIx n n hi:Nat):Int)):=by
  have h1:¬ ((1:Int) < 0):=by omega
  unfold Builtin.Slice.sliceAdjust
  simp only [h1,if_false]
  refine Prod.ext ?_ ?_
  . cases lo with
    | none=>rfl
    | some v=>exact clip_eq v n 0
  . cases hi with
    | none=>rfl
    | some v=>exact clip_eq v n n
theorem places_gen (i j:Nat):Builtin.Slice.slicePlaces (i:Int) (j:Int) 1=j - i:=by
  unfold Builtin.Slice.slicePlaces
  have h1:(1:Int) > 0:=by omega
  simp only [h1,if_true,Int.ediv_one]
  split <;> omega
theorem slicePart_ {v:Value} {o:Option Int} {Q:Option Int->Shared->Prop} (p:IsPart v o) (h:Q o s):wpAny (model prog w) A (Builtin.Slice.slicePartIndex v) Q E s:=by
  cases p with
  | none=>exact slicePart_none h
  | int i t=>exact slicePart_int h
theorem sliceApplied_gen {sl:Addr} {vl vu:Value} {lo hi:Option Int} {n:Nat} {Q:Int × Int × Nat->Shared->Prop} (hs:s.heap.IsSliceOf sl vl vu .none) (pl:IsPart vl lo) (pu:IsPart vu hi)
    (h:Q (((sIx n 0 lo:Nat):Int),1,sIx n n hi - sIx n 0 lo) s):wpAny (model prog w) A (Builtin.Slice.sliceApplied (.ref sl) (pure (n:Int))) Q E s:=by
  obtain ⟨os,hos,hcs,hds⟩:=id hs
  unfold Builtin.Slice.sliceApplied Builtin.Slice.sliceFields
  refine wpAny_bind (wpAny_bind (wpAny_field hos hds (x:=vl) rfl (wpAny_bind (wpAny_field hos hds (x:=vu) rfl (wpAny_bind (wpAny_field hos hds (x:=.none) rfl (wpAny_pure ?_)))))))
  refine wpAny_bind (slicePart_none ?_)
  show wpAny _ _ (if ((1:Int) == 0)=true then _ else _) _ _ s
  rw [if_neg (by decide)]
  refine wpAny_bind (slicePart_ pl (wpAny_bind (slicePart_ pu (wpAny_bind (wpAny_pure ?_)))))
  show wpAny _ _ (match Builtin.Slice.sliceAdjust lo hi 1 (n:Int) with | (lo,hi)=>pure (lo,(1:Int),Builtin.Slice.slicePlaces lo hi 1)) _ _ s
  rw [adjust_gen lo hi n]
  show wpAny _ _ (pure (((sIx n 0 lo:Nat):Int),(1:Int),Builtin.Slice.slicePlaces ((sIx n 0 lo:Nat):Int) ((sIx n n hi:Nat):Int) 1)) _ _ s
  rw [places_gen]
  exact wpAny_pure h
theorem pick_gen (xs:Array Value) (i k:Nat):((List.range k).filterMap fun (m:Nat)=>xs[((i:Int) + (m:Int) * 1).toNat]?).toArray=((xs.toList.drop i).take k).toArray:=by
  have e:(fun (m:Nat)=>xs[((i:Int) + (m:Int) * 1).toNat]?)=fun m=>xs[i + m]?:=by
    funext m
    have:((i:Int) + (m:Int) * 1).toNat=i + m:=by omega
    rw [this]
  rw [e]
  have:=pick_run xs i k
  rw [List.filterMap_map] at this
  have e2:((fun x=>xs[x]?) ∘ fun x=>i + x)=fun m=>xs[i + m]?:=rfl
  rw [e2] at this
  rw [this]
theorem getItem_tuple_cut {t sl:Addr} {items:Array Value} {vl vu:Value} {lo hi:Option Int} {Q:Value->Shared->Prop} (ht:IsTup s.heap t items) (hs:s.heap.IsSliceOf sl vl vu .none) (pl:IsPart vl lo) (pu:IsPart vu hi)
    (hw:¬ (sIx items.size 0 lo=0/\sIx items.size items.size hi=items.size))
    (h:Q (.ref s.heap.objs.size) { s with heap:=s.heap.push { cls:=.type "tuple",data:=.seq ((items.toList.drop (sIx items.size 0 lo)).take (sIx items.size items.size hi - sIx items.size 0 lo)).toArray } })
    (hsz:items.size<=sizeLine):wpAny (model prog w) A (getItem (.ref t) (.ref sl)) Q E s:=by
  have htake:sizeOk (.seq ((items.toList.drop (sIx items.size 0 lo)).take (sIx items.size items.size hi - sIx items.size 0 lo)).toArray):=by
    show ((items.toList.drop (sIx items.size 0 lo)).take (sIx items.size items.size hi - sIx items.size 0 lo)).toArray.size<=sizeLine
    rw [List.size_toArray,List.length_take,List.length_drop,Array.length_toList]
    omega
  have hj:sIx items.size items.size hi<=items.size:=sIx_le _ _ (Nat.le_refl _) hi
  obtain ⟨os,hos,hcs,hds⟩:=id hs
  have hTs:s.TypeIs (.ref sl) "slice" := ⟨os,hos,hcs⟩
  unfold getItem
  try with_reducible refine wpAny_holding ?_
  first | refine wpAny_bind (wpAny_pure ?_) | skip
  refine wpAny_bind (wpAny_sequenceKey ht.typeIs (by decide) ?_)
  refine wpAny_bind (wpAny_callSpecial?_slot (name:=Str.ofString "__getitem__") ht.typeIs PyProof.Rows.slot_tuple_getitem
    (wpAny_call_entry PyProof.Rows.slot_tuple_getitem ht.typeIs entry_tuple_getitem ?_ (args_tuple_getitem _ _)))
  show wpAny _ _ (Builtin.Tuple.tupleItemsOf (.ref t) >>= _) _ _ s
  refine wpAny_bind (tupleItemsOf_ ht ?_)
  refine wpAny_bind (wpAny_typeOf hTs ?_)
  rw [if_pos (by decide)]
  refine wpAny_bind (sliceApplied_gen hs pl pu ?_)
  have hno:¬ ((((sIx items.size 0 lo:Nat):Int) == 0 && (1:Int) == 1 && (sIx items.size items.size hi - sIx items.size 0 lo) == items.size)=true):=by
    intro q
    rw [Bool.and_eq_true,Bool.and_eq_true] at q
    have q1:((sIx items.size 0 lo:Nat):Int)=0:=eq_of_beq q.1.1
    have q2:sIx items.size items.size hi - sIx items.size 0 lo=items.size:=eq_of_beq q.2
    exact hw ⟨by omega,by omega⟩
  show wpAny _ _ (if (((sIx items.size 0 lo:Nat):Int) == 0 && (1:Int) == 1 && (sIx items.size items.size hi - sIx items.size 0 lo) == items.size)=true then _ else _) _ _ s
  rw [if_neg hno,pick_gen]
  first
    | exact wpAny_bind (m:=Builtin.Tuple.tupleExact _) (wpAny_newObj_type (wpAny_pure ⟨_,rfl,wpAny_pure h⟩) htake)
    | exact wpAny_bind (m:=Builtin.Tuple.tupleExact _) (wpAny_newObj_type (wpAny_bind (wpAny_pure (wpAny_pure ⟨_,rfl,wpAny_pure h⟩))) htake)
    | exact wpAny_bind (wpAny_bind (m:=Builtin.Tuple.tupleExact _) (wpAny_newObj_type (wpAny_pure (wpAny_pure ⟨_,rfl,wpAny_pure h⟩)) htake))
    | exact wpAny_bind (wpAny_bind (m:=Builtin.Tuple.tupleExact _) (wpAny_newObj_type (wpAny_pure ⟨_,rfl,wpAny_pure h⟩) htake))
end
end HT
namespace L2
open PySem PySem.Spec PyProof.Rows
noncomputable abbrev TO:=St->Hp->(Option Int->Hp->Prop)->Prop
noncomputable def PO (X:Cx) (e:Option Expr) (t:TO):Prop :=
  ∀ (pins:List (Addr × Obj)) (s:Shared) (σ:St) (H:Hp) (Q:Option Int->Hp->Prop),Inv X pins σ H s->t σ H Q ->
    wpAny (model X.prog X.w) X.A (evalPart e X.env) (fun u s'=>∃ o H',Inv X pins σ H' s'/\IsPart u o/\Q o H') X.xe s
noncomputable def tNoPart:TO:=fun _ H Q=>Q none H
noncomputable def tPart (t:TE):TO:=fun σ H Q=>t σ H fun x H1=>∃ i,x = .int i/\Q (some i) H1
theorem intsAre_of {ns:List Int}:∀ {us:List Value},Vals (ns.map V.int) us->IntsAre us ns:=by
  induction ns with
  | nil=>intro us r;rw [List.map_nil] at r;cases r;exact .nil
  | cons n ns ih =>
    intro us r
    rw [List.map_cons] at r
    cases r with
    | cons r1 r2 =>
      obtain ⟨t,e⟩:=r1
      subst e
      exact .cons n t (ih r2)
section
variable {X:Cx} {e:Expr} {te:TE} {lo hi:Option Expr} {tl th:TO} {pos p2:Pos}
theorem po_none:PO X none tNoPart:=by
  intro pins s σ H Q I h
  rw [evalPart_none]
  exact wpAny_pure ⟨none,H,I,.none,h⟩
theorem po_some (h:PE X e te):PO X (some e) (tPart te):=by
  intro pins s σ H Q I hw
  rw [evalPart_some]
  refine thn (h pins s σ H _ I hw) fun u s1 ⟨x,H1,I1,r1,q1⟩=>?_
  obtain ⟨i,rfl,q⟩:=q1
  obtain ⟨t,rfl⟩:=r1
  exact ⟨some i,H1,I1,.int i t,q⟩
noncomputable def SlR (X:Cx) (r:V->Option Int->Option Int->Hp->VK->Prop):Prop :=
  ∀ (pins:List (Addr × Obj)) (s:Shared) (σ:St) (H:Hp) (x:V) (v vl vu:Value) (lo hi:Option Int) (sl:Addr) (Q:VK),Inv X pins σ H s->RelV x v->s.heap.IsSliceOf sl vl vu .none->IsPart vl lo->IsPart vu hi->r x lo hi H Q ->
    ∃ T id,typeLookup (.type T) "__getitem__" = pure (some (.builtin id))/\s.TypeIs v T/\wpAny (model X.prog X.w) X.A (getItem v (.ref sl)) (EP X pins σ Q) X.xe s
theorem SlR.or {r r':V->Option Int->Option Int->Hp->VK->Prop} (h:SlR X r) (h':SlR X r'):SlR X (fun x lo hi H Q=>r x lo hi H Q\/r' x lo hi H Q):=by
  intro pins s σ H x v vl vu lo hi sl Q I rx hs pl pu q
  rcases q with q | q
  . exact h pins s σ H x v vl vu lo hi sl Q I rx hs pl pu q
  . exact h' pins s σ H x v vl vu lo hi sl Q I rx hs pl pu q
noncomputable def tSl (r:V->Option Int->Option Int->Hp->VK->Prop) (te:TE) (tl th:TO):TE:=fun σ H Q=>te σ H fun x H1=>tl σ H1 fun l H2=>th σ H2 fun u H3=>r x l u H3 Q
theorem pe_slice {r:V->Option Int->Option Int->Hp->VK->Prop} (hr:SlR X r) (he:PE X e te) (hl:PO X lo tl) (hu:PO X hi th):PE X (.Subscript e (.Slice lo hi none p2) pos) (tSl r te tl th):=by
  intro pins s σ H Q I h
  refine Subscript_ (thn (he pins s σ H _ I h) fun v s1 ⟨x,H1,I1,r1,q1⟩=>?_)
  refine wpAny_Slice (thn (hl pins s1 σ H1 _ I1 q1) fun vl s2 ⟨l,H2,I2,pl,q2⟩=>thn (hu pins s2 σ H2 _ I2 q2) fun vu s3 ⟨u,H3,I3,pu,q3⟩=>?_)
  rw [evalPart_none]
  refine wpAny_pure ?_
  have I4:Inv X pins σ H3 { s3 with heap:=s3.heap.push { cls:=.type "slice",data:=.fields #[vl,vu,.none] } }:=I3.kept (t':=s3.toks) fun b ob q=>Heap.get?_push_of_some _ q
  obtain ⟨T,id,hT,ht,hg⟩:=hr pins { s3 with heap:=s3.heap.push { cls:=.type "slice",data:=.fields #[vl,vu,.none] } } σ H3 x v vl vu l u s3.heap.objs.size Q I4 r1 (Heap.IsSliceOf.new ..) pl pu q3
  show wpAny (model X.prog X.w) X.A (subscriptTail e (.Slice lo hi none p2) v (.ref s3.heap.objs.size)) (EP X pins σ Q) X.xe { s3 with heap:=s3.heap.push { cls:=.type "slice",data:=.fields #[vl,vu,.none] } }
  exact tail_any (ops:=[.ref s3.heap.objs.size,v]) ht hT hg (by with_unfolding_all rfl)
noncomputable def cutV (xs:List V) (lo hi:Option Int):List V:=(xs.drop (HT.sIx xs.length 0 lo)).take (HT.sIx xs.length xs.length hi - HT.sIx xs.length 0 lo)
theorem cutV_length (xs:List V) (lo hi:Option Int):(cutV xs lo hi).length<=xs.length:=by
  unfold cutV
  rw [List.length_take,List.length_drop]
  omega
noncomputable def rSlT (K:PySem.W.Frag):V->Option Int->Option Int->Hp->VK->Prop:=fun x lo hi H Q=>∃ a xs,x = .ref a/\SqT K H a xs /\
  ¬ (HT.sIx xs.length 0 lo=0/\HT.sIx xs.length xs.length hi=xs.length)/\∀ p,H p=none->Q (.ref p) (upd H p (.tup (cutV xs lo hi)))
theorem sl_tup:SlR X (rSlT X.K):=by
  intro pins s σ H x v vl vu lo hi sl Q I rx hs pl pu h
  obtain ⟨a,xs,rfl,hx,hw,q⟩:=h
  cases rx
  obtain ⟨its,r,ht,hz⟩:=I.tuple hx
  have hlen:its.toArray.size=xs.length:=by rw [List.size_toArray];exact r.length.symm
  refine ⟨"tuple",_,PyProof.Rows.slot_tuple_getitem.lookup,ht.typeIs,?_⟩
  refine HT.getItem_tuple_cut ht hs pl pu (by rw [hlen];exact hw) ?_ (by rw [hlen];exact hz)
  rw [hlen]
  refine ⟨.ref s.heap.objs.size,_,I.laid (t':=s.toks) (o:=.tup (cutV xs lo hi)) (fun b ob q=>Heap.get?_push_of_some _ q) (Nat.le_refl _) ?_,rfl,q _ (I.hok.fresh (Nat.le_refl _))⟩
  exact ⟨Nat.le_trans (cutV_length xs lo hi) hz,_,(r.drop (HT.sIx xs.length 0 lo)).take (HT.sIx xs.length xs.length hi - HT.sIx xs.length 0 lo),IsTup.new _ _⟩
noncomputable def rLtT (K:PySem.W.Frag):R2:=fun x y H Q=>∃ a b ns ms,x = .ref a/\y = .ref b/\SqT K H a (ns.map V.int)/\SqT K H b (ms.map V.int)/\Q (.bl (HT.lexLt ns ms)) H
theorem op_ltT (hu:X.A.units < cLine):OpR X (compareOp .Lt) (rLtT X.K):=by
  intro pins s σ H x y v u Q I rx ry h
  obtain ⟨a,b,ns,ms,rfl,rfl,ha,hb,q⟩:=h
  cases rx
  cases ry
  obtain ⟨its,r1,p1,_⟩:=I.tuple ha
  obtain ⟨its2,r2,p2,_⟩:=I.tuple hb
  have i1:IntsAre its.toArray.toList ns:=intsAre_of r1
  have i2:IntsAre its2.toArray.toList ms:=intsAre_of r2
  exact HT.lt_tupInts p1 p2 i1 i2 hu ⟨.bl (HT.lexLt ns ms),H,I,rfl,q⟩
noncomputable def rCatT (K:PySem.W.Frag):R2:=fun x y H Q=>∃ a b xs ys,x = .ref a/\y = .ref b/\SqT K H a xs/\SqT K H b ys/\xs ≠ []/\xs.length + ys.length<=sizeLine /\
  (ys=[]->Q (.ref a) H)/\(ys ≠ []->∀ p,H p=none->Q (.ref p) (upd H p (.tup (xs ++ ys))))
theorem Vals.nil_iff {xs:List V} {us:List Value} (r:Vals xs us):us=[] ↔ xs=[]:=by
  cases r with
  | nil=>simp
  | cons _ _=>simp
theorem op_catT:OpR X (binaryOp .Add) (rCatT X.K):=by
  intro pins s σ H x y v u Q I rx ry h
  obtain ⟨a,b,xs,ys,rfl,rfl,ha,hb,hx,hz,q1,q2⟩:=h
  cases rx
  cases ry
  obtain ⟨its,r1,p1,_⟩:=I.tuple ha
  obtain ⟨its2,r2,p2,_⟩:=I.tuple hb
  refine HT.cat_tup p1 p2 (fun z=>hx (r1.nil_iff.mp z)) (fun z=>⟨.ref a,H,I,rfl,q1 (r2.nil_iff.mp z)⟩) (fun z=>?_) (by rw [<- r1.length, <- r2.length];exact hz)
  refine ⟨.ref s.heap.objs.size,_,I.laid (t':=s.toks) (o:=.tup (xs ++ ys)) (fun b ob q=>Heap.get?_push_of_some _ q) (Nat.le_refl _) ?_,rfl,q2 (fun w=>z (r2.nil_iff.mpr w)) _ (I.hok.fresh (Nat.le_refl _))⟩
  exact ⟨by rw [List.length_append];exact hz,_,r1.append r2,IsTup.new _ _⟩
end
end L2
namespace L2
open PySem PySem.Spec PyProof.Rows
noncomputable def ixN (n:Nat) (i:Int):Option Nat:=if 0<=i then (if i < n then some i.toNat else none) else if -(n:Int)<=i then some (i + n).toNat else none
noncomputable def atI {α:Type} (xs:List α) (i:Int):Option α:=(ixN xs.length i).bind fun j=>xs[j]?
theorem ixN_seq {n:Nat} {i:Int} {j:Nat} (h:ixN n i=some j):seqIndex? i n=some j/\j < n /\ -(n:Int)<=i/\i < n:=by
  unfold ixN at h
  by_cases h0:0<=i
  . rw [if_pos h0] at h
    by_cases h1:i < n
    . rw [if_pos h1] at h
      have e:i.toNat=j:=Option.some.inj h
      exact ⟨by rw [seqIndex_of h0 h1,e],by omega,by omega,h1⟩
    . rw [if_neg h1] at h;cases h
  . rw [if_neg h0] at h
    by_cases h1 : -(n:Int)<=i
    . rw [if_pos h1] at h
      have e:(i + n).toNat=j:=Option.some.inj h
      exact ⟨by rw [seqIndex_neg (by omega) h1,e],by omega,h1,by omega⟩
    . rw [if_neg h1] at h;cases h
theorem atI_get {α:Type} {xs:List α} {i:Int} {v:α} (h:atI xs i=some v):∃ j,seqIndex? i xs.length=some j/\xs[j]?=some v/\j < xs.length /\ -(xs.length:Int)<=i/\i < xs.length:=by
  unfold atI at h
  cases e:ixN xs.length i with
  | none=>rw [e] at h;cases h
  | some j =>
    rw [e] at h
    obtain ⟨h1,h2,h3,h4⟩:=ixN_seq e
    exact ⟨j,h1,h,h2,h3,h4⟩
theorem atI_nat {α:Type} {xs:List α} {j:Nat} {v:α} (h:xs[j]?=some v):atI xs (j:Int)=some v:=by
  have hj:j < xs.length:=(List.getElem?_eq_some_iff.mp h).1
  have e:ixN xs.length (j:Int)=some j:=by
    unfold ixN
    rw [if_pos (by omega),if_pos (by omega)];simp
  unfold atI;rw [e];exact h
noncomputable def PlainIx (b:Expr):Prop:=∀ o i,subscripted b false o i=operate [o,i] (getItem o i)
noncomputable def IxR (X:Cx) (r:R2):Prop :=
  ∀ (value slice:Expr) (pins:List (Addr × Obj)) (s:Shared) (σ:St) (H:Hp) (x y:V) (v u:Value) (Q:VK),Inv X pins σ H s->RelV x v->RelV y u->r x y H Q ->
    subscripted slice false v u=operate [v,u] (getItem v u)->wpAny (model X.prog X.w) X.A (subscriptTail value slice v u) (EP X pins σ Q) X.xe s
noncomputable def MtR (X:Cx) (id:String) (r:V->List V->Hp->VK->Prop):Prop :=
  ∀ (pins:List (Addr × Obj)) (s:Shared) (σ:St) (H:Hp) (x:V) (xs:List V) (v:Value) (us:List Value) (Q:VK),Inv X pins σ H s->RelV x v->Vals xs us->r x xs H Q ->
    wpAny (model X.prog X.w) X.A (call (.builtin id) (v :: us)) (EP X pins σ Q) X.xe s
section
variable {X:Cx} {a b:Expr} {ta tb:TE} {pos:Pos}
theorem pe_ix {r:R2} (hr:IxR X r) (ha:PE X a ta) (hb:PE X b tb) (hs:PlainIx b):PE X (.Subscript a b pos) (tOp r ta tb):=by
  intro pins s σ H Q I h
  exact Subscript_ (binT ha hb I h fun v u s2 x y H2 I2 rx ry q=>hr a b pins s2 σ H2 x y v u Q I2 rx ry q (hs _ _))
noncomputable def rIxL (K:PySem.W.Frag):R2:=fun x y H Q=>∃ p xs i v,x = .ref p/\y = .int i/\SqL K H p xs/\atI xs i=some v/\Q v H
noncomputable def rIxT (K:PySem.W.Frag):R2:=fun x y H Q=>∃ p xs i v,x = .ref p/\y = .int i/\SqT K H p xs/\atI xs i=some v/\Q v H
theorem ix_list:IxR X (rIxL X.K):=by
  intro value slice pins s σ H x y v u Q I rx ry h hs
  obtain ⟨p,xs,i,z,rfl,rfl,hq,he,q⟩:=h
  cases rx
  obtain ⟨t,rfl⟩:=ry
  obtain ⟨its,r,pl,hz⟩:=I.list hq
  obtain ⟨j,h1,h2,h3,h4,h5⟩:=atI_get he
  obtain ⟨w,ew,rw'⟩:=r.get h2
  have hl:=r.length
  have hn:=line63
  have fin:EP X pins σ Q w s:=⟨z,H,I,rw',q⟩
  by_cases h0:0<=i
  . have hj:i.toNat=j:=by
      rw [seqIndex_of h0 h5] at h1
      exact Option.some.inj h1
    exact item_listR pl.isList h0 (by omega) (by rw [hj];simpa using ew) fin hs
  . have hj:(i + (its.toArray.size:Int)).toNat=j:=by
      rw [seqIndex_neg (by omega) h4] at h1
      rw [List.size_toArray, <- hl]
      exact Option.some.inj h1
    exact subscriptTail_builtinR (x:=w) pl.isList.typeIs slot_list_getitem.lookup
      (wpAny_getItem_list_neg (Q:=fun r s'=>r=w/\EP X pins σ Q r s') pl.isList (by omega) (by rw [List.size_toArray] <;> omega) (by omega) (by rw [hj];simpa using ew) ⟨rfl,fin⟩) hs
theorem ix_tup:IxR X (rIxT X.K):=by
  intro value slice pins s σ H x y v u Q I rx ry h hs
  obtain ⟨p,xs,i,z,rfl,rfl,hq,he,q⟩:=h
  cases rx
  obtain ⟨t,rfl⟩:=ry
  obtain ⟨its,r,pl,hz⟩:=I.tuple hq
  obtain ⟨j,h1,h2,h3,h4,h5⟩:=atI_get he
  obtain ⟨w,ew,rw'⟩:=r.get h2
  have hl:=r.length
  have hn:=line63
  have fin:EP X pins σ Q w s:=⟨z,H,I,rw',q⟩
  exact subscriptTail_builtinR (x:=w) pl.typeIs slot_tuple_getitem.lookup
    (getItem_tuple (j:=j) (Q:=fun r s'=>r=w/\EP X pins σ Q r s') pl (by omega) (by omega) (by rw [List.size_toArray, <- hl];exact h1) (by simpa using ew) ⟨rfl,fin⟩) hs
theorem mapSeq_set (its:List Value) (n j:Nat) (u:Value):Obj.mapSeq (·.setIfInBounds j u) { cls:=.type "list",data:=.seq its.toArray n }={ cls:=.type "list",data:=.seq (its.set j u).toArray n }:=by
  simp [Obj.mapSeq]
theorem Inv.lst {pins:List (Addr × Obj)} {σ:St} {H:Hp} {s:Shared} {p:Addr} {xs:List V} (I:Inv X pins σ H s) (h:H p=some (.lst xs)) :
    ∃ (its:List Value) (n:Nat),Vals xs its/\s.heap.get? p=some { cls:=.type "list",data:=.seq its.toArray n }/\xs.length<=sizeLine:=by
  obtain ⟨z,its,n,r,e⟩:=I.hok p _ h
  exact ⟨its,n,r,e,z⟩
theorem Inv.lstUpd {pins:List (Addr × Obj)} {σ:St} {H:Hp} {s:Shared} {p:Addr} {xs ys:List V} {its its':List Value} {n n':Nat} {f:Obj->Obj} (I:Inv X pins σ H s) (h:H p=some (.lst xs))
    (ho:s.heap.get? p=some { cls:=.type "list",data:=.seq its.toArray n }) (hf:f { cls:=.type "list",data:=.seq its.toArray n }={ cls:=.type "list",data:=.seq its'.toArray n' }) (r:Vals ys its') (hz:ys.length<=sizeLine) (t:Nat) :
    Inv X pins σ (upd H p (.lst ys)) { s with heap:=s.heap.update p f,toks:=t }:=by
  have e:(s.heap.update p f).get? p=some { cls:=.type "list",data:=.seq its'.toArray n' }:=by
    rw [Heap.get?_update_self f ho (by rw [hf] <;> rfl),hf]
  refine I.write (x:=p) (e:=p) (by rw [h];trivial) (.inl rfl) (fun b u hb q=>(Heap.get?_update_other _ _ (Ne.symm hb)).trans q) ⟨_,e⟩ ?_
  exact ⟨hz,its',n',r,e⟩
noncomputable def rSetL:V->V->V->Hp->(Hp->Prop)->Prop:=fun o i v H Q=>∃ p xs k j,o = .ref p/\i = .int k/\H p=some (.lst xs)/\ixN xs.length k=some j/\Q (upd H p (.lst (xs.set j v)))
theorem set_list:PSet X rSetL:=by
  intro pins s σ H o i v ov iv u Q I ro ri rv h
  obtain ⟨p,xs,k,j,rfl,rfl,hp,hj,q⟩:=h
  cases ro
  obtain ⟨t,rfl⟩:=ri
  obtain ⟨its,n,r,ho,hz⟩:=I.lst hp
  obtain ⟨h1,h2,h3,h4⟩:=ixN_seq hj
  have hl:=r.length
  have hn:=line63
  have I':Inv X pins σ (upd H p (.lst (xs.set j v))) { s with heap:=s.heap.update p (Obj.mapSeq (·.setIfInBounds j u)) } :=
    I.lstUpd hp ho (mapSeq_set its n j u) (r.set rv j) (by rw [List.length_set];exact hz) s.toks
  by_cases h0:0<=k
  . have hk:k.toNat=j:=by
      rw [seqIndex_of h0 h4] at h1
      exact Option.some.inj h1
    exact PySem.W.ki_setAt ho h0 (by omega) (by rw [List.size_toArray, <- hl];exact h4) (by rw [hk];exact ⟨_,I',q⟩)
  . have hk:(k + (its.toArray.size:Int)).toNat=j:=by
      rw [seqIndex_neg (by omega) h3] at h1
      rw [List.size_toArray, <- hl]
      exact Option.some.inj h1
    exact PySem.W.ki_setBack ho (by omega) (by rw [List.size_toArray, <- hl];exact h3) (by omega) (by rw [hk];exact ⟨_,I',q⟩)
theorem slice_bounds (lo hi:Option Int) (n:Nat):(sliceBounds lo hi none n).1=((HT.sIx n 0 lo:Nat):Int)/\(sliceBounds lo hi none n).2.1=((HT.sIx n n hi:Nat):Int)/\(sliceBounds lo hi none n).2.2=1:=by
  refine ⟨?_,?_,rfl⟩
  . cases lo with
    | none=>rfl
    | some i=>exact HT.clip_two i n 0
  . cases hi with
    | none=>rfl
    | some i=>exact HT.clip_two i n n
theorem slicePick_cut (its:List Value) (lo hi:Option Int):slicePick its.toArray lo hi none=((its.drop (HT.sIx its.length 0 lo)).take (HT.sIx its.length its.length hi - HT.sIx its.length 0 lo)).toArray:=by
  obtain ⟨h1,h2,h3⟩:=slice_bounds lo hi its.toArray.size
  unfold slicePick
  rw [h1,h2,h3]
  simp only [sliceRange_one,pick_run,List.size_toArray] <;> rfl
noncomputable def rSlL (K:PySem.W.Frag):V->Option Int->Option Int->Hp->VK->Prop:=fun x lo hi H Q=>∃ a xs,x = .ref a/\SqL K H a xs/\∀ p,H p=none->Q (.ref p) (upd H p (.lst (cutV xs lo hi)))
theorem sl_list:SlR X (rSlL X.K):=by
  intro pins s σ H x v vl vu lo hi sl Q I rx hs pl pu h
  obtain ⟨a,xs,rfl,hx,q⟩:=h
  cases rx
  obtain ⟨its,r,ht,hz⟩:=I.list hx
  have hlen:=r.length
  refine ⟨"list",_,slot_list_getitem.lookup,ht.isList.typeIs,?_⟩
  refine wpAny_getItem_list_slice ht.isList hs pl pu .none (by simp) ?_ (by rw [List.size_toArray] <;> omega)
  rw [slicePick_cut, <- hlen]
  refine ⟨.ref s.heap.objs.size,_,I.laid (t':=s.toks) (o:=.lst (cutV xs lo hi)) (fun b ob q=>Heap.get?_push_of_some _ q) (Nat.le_refl _) ?_,rfl,q _ (I.hok.fresh (Nat.le_refl _))⟩
  exact ⟨Nat.le_trans (cutV_length xs lo hi) hz,_,0,(r.drop (HT.sIx xs.length 0 lo)).take (HT.sIx xs.length xs.length hi - HT.sIx xs.length 0 lo),Heap.get?_push_size _ rfl⟩
noncomputable def flatV:V->Bool
  | .non=>true
  | .bl _=>true
  | .int _=>true
  | .str _=>true
  | _=>false
noncomputable def eqV:V->V->Bool
  | .non,.non=>true
  | .bl a,.bl b=>a == b
  | .bl a,.int b=>(if a then 1 else 0) == b
  | .int a,.bl b=>a == (if b then 1 else 0)
  | .int a,.int b=>a == b
  | .str a,.str b=>a == b
  | _,_=>false
noncomputable def inV (x:V) (xs:List V):Bool:=xs.any fun y=>eqV y x
theorem call_len_seq:CallR X (.builtin "len") (fun xs H Q=>∃ p ys,xs=[.ref p]/\(SqL X.K H p ys\/SqT X.K H p ys)/\Q (.int ys.length) H):=by
  intro pins s σ H xs us Q I r h
  obtain ⟨p,ys,rfl,hq,q⟩:=h
  obtain ⟨u,rfl,rx⟩:=vals1 r
  cases rx
  have hn:=line63
  rcases hq with hq | hq
  . obtain ⟨its,r',pl,hz⟩:=I.list hq
    have hlen:=r'.length
    exact Calls.call_len_list pl.isList (by simp only [List.size_toArray] <;> omega) ⟨.int ys.length,H,I.tok _,⟨s.toks + 1,by rw [List.size_toArray,hlen]⟩,q⟩
  . obtain ⟨its,r',pl,hz⟩:=I.tuple hq
    have hlen:=r'.length
    exact len_tuple pl (by simp only [List.size_toArray] <;> omega) ⟨.int ys.length,H,I.tok _,⟨s.toks + 1,by rw [List.size_toArray,hlen]⟩,q⟩
theorem call_tuple_of:CallR X (.type "tuple") (fun xs H Q=>∃ p ys,xs=[.ref p]/\((SqL X.K H p ys/\∀ l,H l=none->Q (.ref l) (upd H l (.tup ys)))\/(SqT X.K H p ys/\Q (.ref p) H))):=by
  intro pins s σ H xs us Q I r h
  obtain ⟨p,ys,rfl,h⟩:=h
  obtain ⟨u,rfl,rx⟩:=vals1 r
  cases rx
  rcases h with ⟨hq,q⟩ | ⟨hq,q⟩
  . obtain ⟨its,r',pl,hz⟩:=I.list hq
    have hlen:=r'.length
    refine call_tuple_list pl.isList (fun h' kp=>?_) (by simp only [List.size_toArray] <;> omega)
    have I1:Inv X pins σ H { s with heap:=h' }:=I.kept (t':=s.toks) kp
    have I2:Inv X pins σ (upd H h'.objs.size (.tup ys)) { s with heap:=h'.push { cls:=.type "tuple",data:=.seq its.toArray } } :=
      I1.laid (t':=s.toks) (fun b o e=>Heap.get?_push_of_some _ e) (Nat.le_refl _) (show ObjOk X.prog X.w _ _ _ (.tup ys) from ⟨hz,its,r',IsTup.new _ _⟩)
    exact ⟨.ref h'.objs.size,_,I2,rfl,q _ (I1.hok.fresh (Nat.le_refl _))⟩
  . obtain ⟨its,r',pl,hz⟩:=I.tuple hq
    exact call_tuple_same pl ⟨.ref p,H,I,rfl,q⟩
noncomputable def tyV (K:PySem.W.Frag) (T:String) (x:V) (H:Hp):Prop:=match x with
  | .str _=>T = "str"
  | .int _=>T = "int"
  | .ref p=>(T = "list" /\ ∃ xs,SqL K H p xs)\/(T = "tuple" /\ ∃ o,K.lookup p=some o/\o.cls = .type "tuple" /\ o.dict=none) \/
      (T = "dict" /\ ((∃ kvs,H p=some (.dK kvs))\/∃ kvs,H p=some (.dT kvs)))\/(T = "set" /\ ∃ S n,H p=some (.set S n))
  | _=>False
theorem tyV_is {pins : List (Addr × Obj)} {σ : St} {H : Hp} {s : Shared} {T : String} {x : V} {v : Value} (I : Inv X pins σ H s) (r : RelV x v) (ty : tyV X.K T x H) :
    s.TypeIs v T/\∀ a,v = .ref a->∃ ob,s.heap.get? a=some ob/\ob.dict=none:=by
  cases x with
  | str z =>
    obtain ⟨t,rfl⟩:=r
    cases (show T = "str" from ty)
    exact ⟨typeIs_str s z t,fun _ e=>nomatch e⟩
  | int i =>
    obtain ⟨t,rfl⟩:=r
    cases (show T = "int" from ty)
    exact ⟨typeIs_int s i t,fun _ e=>nomatch e⟩
  | ref p =>
    cases r
    rcases ty with ⟨rfl,xs,hq⟩ | ⟨rfl,o,hk,hc,hd⟩ | ⟨rfl,hk⟩ | ⟨rfl,S,n,hk⟩
    . obtain ⟨its,_,pl,_⟩:=I.list hq
      refine ⟨pl.isList.typeIs,fun a e=>?_⟩
      cases e
      obtain ⟨o,n,e,c,hd,_⟩:=pl
      exact ⟨o,e,hd⟩
    . refine ⟨⟨o,I.kIn p o hk,hc⟩,fun a e=>?_⟩
      cases e
      exact ⟨o,I.kIn _ o hk,hd⟩
    . have z:∃ o,s.heap.get? p=some o/\o.ExactDict:=by
        rcases hk with ⟨kvs,hk⟩ | ⟨kvs,hk⟩
        . obtain ⟨_,_,_,_,o,_,_,e,ex,_⟩:=I.hok p _ hk
          exact ⟨o,e,ex⟩
        . obtain ⟨_,_,_,_,o,_,_,e,ex,_⟩:=I.hok p _ hk
          exact ⟨o,e,ex⟩
      obtain ⟨o,e,ex⟩:=z
      refine ⟨⟨o,e,ex.1⟩,fun a e2=>?_⟩
      cases e2
      exact ⟨o,e,ex.2.1⟩
    . obtain ⟨o,_,_,_,e,ex,_⟩:=I.hok p _ hk
      refine ⟨⟨o,e,ex.1⟩,fun a e2=>?_⟩
      cases e2
      exact ⟨o,e,ex.2.1⟩
  | _=>exact False.elim ty
noncomputable def tBM (K:PySem.W.Frag) (T:String) (r:V->List V->Hp->VK->Prop) (to:TE) (t:TA):TE:=fun σ H Q=>to σ H fun x H1=>tyV K T x H1/\t σ H1 fun xs H2=>r x xs H2 Q
variable {o e:Expr} {es:List Expr} {to:TE} {t:TA} {name:Str} {apos cpos:Pos} {T id:String} {r:V->List V->Hp->VK->Prop}
theorem pe_bm (pa:PlainAttrs T) (slot:Slot T name id) (hty:typeOf (.builtin id)=pure (.type "method_descriptor")) (hm:MtR X id r) (ho:PE X o to) (ha:PA X (e :: es) t)
    (hbase:attributeBase o name X.env (eval o X.env)=eval o X.env:=by rfl)
    (hfew:((backTo cpos (starEach (e :: es) X.env)).all (fun x => !x.1) && (backToKw cpos (keywordEach [] X.env)).all (fun x=>x.1.isSome)
      && decide ((e :: es).length + ([]:List Keyword).length + (if ([]:List Keyword).isEmpty then 0 else 1) < 30))=true:=by rfl)
    (hline:(apos.endLine == cpos.line)=true:=by rfl) (hs:starEach (e :: es) X.env=(false,eval e X.env) :: starEach es X.env:=by rfl) (hplain:(backTo cpos (starEach es X.env)).any (·.1)=false:=by rfl) :
    PE X (.Call (.Attribute o name apos) (e :: es) [] cpos) (tBM X.K T r to t):=by
  intro pins s σ H Q I h
  refine wpAny_Call_method_late hbase hfew hline rfl (thn (ho pins s σ H _ I h) fun v s1 ⟨x,H1,I1,r1,ty,q1⟩=>?_)
  obtain ⟨h1,h2⟩:=tyV_is I1 r1 ty
  refine ⟨T,id,pa,slot,hty,h1,h2,?_⟩
  have hA:=ha cpos pins s1 σ H1 _ I1 q1
  rw [hs] at hA ⊢
  refine Calls.callWith_builtin (by show (false || (backTo cpos (starEach es X.env)).any (·.1))=false;rw [hplain] <;> rfl) (Calls.evalArgs_plain ?_)
  exact thn hA fun us s2 ⟨vs,H2,I2,r2,q2⟩=>hm pins s2 σ H2 x vs v us Q I2 r1 r2 q2
end
end L2
namespace L2
open PySem PySem.Spec PyProof.Rows
noncomputable def MtM (X:Cx) (id:String) (r:V->List V->Hp->VK->Prop):Prop :=
  ∀ (pins:List (Addr × Obj)) (s:Shared) (σ:St) (H:Hp) (x:V) (xs:List V) (v:Value) (us:List Value) (Q:VK),Inv X pins σ H s->RelV x v->Vals xs us->r x xs H Q ->
    wpAny (model X.prog X.w) X.A (call (.builtin id) (v :: us)) (EP X pins σ Q) X.xe s
theorem Vals.one:∀ {x:V} {us:List Value},Vals [x] us->∃ u,us=[u]/\RelV x u
  | _,_,.cons r .nil=>⟨_,rfl,r⟩
theorem Vals.reverse {xs:List V} {us:List Value} (h:Vals xs us):Vals xs.reverse us.reverse:=by
  induction h with
  | nil=>exact .nil
  | cons r t ih=>rw [List.reverse_cons,List.reverse_cons];exact Vals.append ih (.cons r .nil)
theorem Vals.rep {xs:List V} {us:List Value} (h:Vals xs us):∀ k:Nat,Vals (List.replicate k xs).flatten (List.replicate k us).flatten
  | 0=>.nil
  | k + 1=>by
    rw [List.replicate_succ,List.replicate_succ,List.flatten_cons,List.flatten_cons]
    exact Vals.append h (Vals.rep h k)
theorem foldl_rep (its:List Value):∀ (k:Nat) (acc:List Value),
    List.foldl (fun x1 x2=>x1 ++ x2) acc.toArray (List.replicate k its.toArray)=(acc ++ (List.replicate k its).flatten).toArray
  | 0,acc=>by simp
  | k + 1, acc => by
    have e:acc.toArray ++ its.toArray=(acc ++ its).toArray:=by simp
    have e2:(acc ++ its) ++ (List.replicate k its).flatten=acc ++ (List.replicate (k + 1) its).flatten:=by
      rw [List.replicate_succ,List.flatten_cons,List.append_assoc]
    rw [<- e2, <- foldl_rep its k (acc ++ its), <- e,List.replicate_succ,List.foldl_cons]
section
variable {X:Cx} {pins:List (Addr × Obj)} {σ:St} {H:Hp} {s:Shared} {l b:Addr} {xs ys zs:List V}
theorem Inv.lset {its its':List Value} {n:Nat} {f:Array Value->Array Value} {t':Nat} (I:Inv X pins σ H s) (hH:H l=some (.lst xs))
    (e:s.heap.get? l=some { cls:=.type "list",data:=.seq its.toArray n }) (hf:f its.toArray=its'.toArray) (hv:Vals ys its') (hz:ys.length<=sizeLine) :
    Inv X pins σ (upd H l (.lst ys)) { s with heap:=s.heap.update l (Obj.mapSeq f),toks:=t' }:=by
  have q:=PySem.IsL.update e f
  rw [hf] at q
  refine I.write (x:=l) (e:=l) (by rw [hH];exact trivial) (.inl rfl) (fun b' u hb hu=>(Heap.get?_update_other s.heap (Obj.mapSeq f) (Ne.symm hb)).trans hu) ⟨_,q⟩ ?_
  exact ⟨hz,its',_,hv,q⟩
theorem Inv.lnew {its:List Value} {t':Nat} (I:Inv X pins σ H s) (hv:Vals ys its) (hz:ys.length<=sizeLine) :
    Inv X pins σ (upd H s.heap.objs.size (.lst ys)) { s with heap:=s.heap.push { cls:=.type "list",data:=.seq its.toArray },toks:=t' } :=
  I.laid (fun _ _ q=>Heap.get?_push_of_some _ q) (Nat.le_refl _) ⟨hz,its,0,hv,Heap.get?_push_size _ rfl⟩
theorem Inv.fresh (I:Inv X pins σ H s):H s.heap.objs.size=none:=I.hok.fresh (Nat.le_refl _)
theorem Inv.lstM (I:Inv X pins σ H s) (hH:H l=some (.lst xs)):xs.length<=sizeLine/\∃ (its:List Value) (n:Nat),Vals xs its/\xs.length=its.length/\s.heap.get? l=some { cls:=.type "list",data:=.seq its.toArray n }:=by
  obtain ⟨z,its,n,r,e⟩:=I.hok l _ hH
  exact ⟨z,its,n,r,r.length,e⟩
theorem notLongL {n:Nat} (h:n<=sizeLine):Builtin.List.listTooLong n=false:=by
  unfold Builtin.List.listTooLong
  exact decide_eq_false (by omega)
end
section
variable {X:Cx}
noncomputable def rAppend:V->List V->Hp->VK->Prop:=fun x vs H Q=>∃ l xs y,x = .ref l/\vs=[y]/\H l=some (.lst xs)/\xs.length < sizeLine/\Q .non (upd H l (.lst (xs ++ [y])))
theorem mt_append:MtM X "list.append" rAppend:=by
  intro pins s σ H x vs v us Q I rx rv h
  obtain ⟨l,xs,y,rfl,rfl,hH,hz,q⟩:=h
  cases rx
  obtain ⟨u,rfl,ru⟩:=rv.one
  obtain ⟨z,its,n,r,hl,e⟩:=I.lstM hH
  refine call_meets F.slot_list_append ⟨_,e,rfl⟩ F.entry_list_append (F.args_list_append_2 _ _) (PySem.list_append l its.toArray n u (by rw [List.size_toArray];omega)) ⟨e,?_⟩
  refine ⟨.non,_,I.lset (its':=its ++ [u]) hH e (by simp) (r.append (.cons ru .nil)) ?_,rfl,q⟩
  rw [List.length_append,List.length_singleton]
  omega
noncomputable def rExtend:V->List V->Hp->VK->Prop:=fun x vs H Q=>∃ l b xs zs,x = .ref l/\vs=[.ref b]/\H l=some (.lst xs)/\H b=some (.lst zs)/\xs.length + zs.length<=sizeLine/\Q .non (upd H l (.lst (xs ++ zs)))
theorem mt_extend:MtM X "list.extend" rExtend:=by
  intro pins s σ H x vs v us Q I rx rv h
  obtain ⟨l,b,xs,zs,rfl,rfl,hH,hB,hz,q⟩:=h
  cases rx
  obtain ⟨u,rfl,ru⟩:=rv.one
  cases ru
  obtain ⟨z,its,n,r,hl,e⟩:=I.lstM hH
  obtain ⟨z2,its2,n2,r2,hl2,e2⟩:=I.lstM hB
  have hsz:its.toArray.size + its2.toArray.size<=sizeLine:=by rw [List.size_toArray,List.size_toArray];omega
  have hlong:¬ (!its.toArray.isEmpty && Builtin.List.listTooLong (its.toArray.size + its2.toArray.size))=true:=by
    rw [notLongL hsz,Bool.and_false]
    exact Bool.false_ne_true
  refine call_meets F.slot_list_extend ⟨_,e,rfl⟩ F.entry_list_extend (F.args_list_extend_2 _ _)
    (AutoSeq1.list_extend_list_list_0 l its.toArray n b its2.toArray n2 hlong (by rw [List.size_toArray];omega) (by omega)) ⟨e,e2,?_⟩
  refine ⟨.non,_,I.lset (its':=its ++ its2) hH e (by simp) (r.append r2) ?_,rfl,q⟩
  rw [List.length_append]
  omega
noncomputable def rCat:R2:=fun x y H Q=>∃ l b xs zs,x = .ref l/\y = .ref b/\H l=some (.lst xs)/\H b=some (.lst zs)/\xs.length + zs.length<=sizeLine/\∀ p,H p=none->Q (.ref p) (upd H p (.lst (xs ++ zs)))
theorem op_cat:OpR X (binaryOp .Add) rCat:=by
  intro pins s σ H x y v u Q I rx ry h
  obtain ⟨l,b,xs,zs,rfl,rfl,hH,hB,hz,q⟩:=h
  cases rx
  cases ry
  obtain ⟨z,its,n,r,hl,e⟩:=I.lstM hH
  obtain ⟨z2,its2,n2,r2,hl2,e2⟩:=I.lstM hB
  refine PySem.P.add_list e e2 ?_ (by rw [List.size_toArray,List.size_toArray];omega)
  have ea:its.toArray ++ its2.toArray=(its ++ its2).toArray:=by simp
  rw [ea]
  exact ⟨.ref _,_,I.lnew (t':=s.toks) (r.append r2) (by rw [List.length_append];omega),rfl,q _ I.fresh⟩
theorem len_rep {α:Type} (xs:List α) (k:Nat):(List.replicate k xs).flatten.length=k * xs.length:=by
  induction k with
  | zero=>simp
  | succ k ih=>rw [List.replicate_succ,List.flatten_cons,List.length_append,ih,Nat.succ_mul,Nat.add_comm]
end
section
variable {prog:Program} {w:World} {A:Around} {E:Value->Shared->Prop} {s:Shared}
end
section
variable {X:Cx}
end
end L2
namespace Att
open PySem PySem.W PySem.Calls PyProof.Rows
theorem ints_of_wellAll {P:Params} {h:Heap}:∀ (ns:List Int) (vs:List Value),WellAll P h vs (ns.map WData.int)->IntsAre vs ns:=by
  intro ns
  induction ns with
  | nil =>
    intro vs w
    rw [List.map_nil] at w
    cases w
    exact .nil
  | cons n ns ih =>
    intro vs w
    rw [List.map_cons] at w
    cases w with
    | cons a b =>
      cases a
      exact .cons _ _ (ih _ b)
theorem script_of {l:OpenLaw} {n:Nat} (hn:l.most=some n) {P:Params} {h:Heap} {args:List WData} {vals:List Value}
    (hpre:l.row.toRowW.claim.pre args=true) (hwl:WellAll P h vals args) :
    ∃ a vs ns,vals=[Value.ref a]/\args=[WData.list (ns.map WData.int)]/\h.get? a=some { cls:=.type "list",data:=.seq vs.toArray }/\IntsAre vs ns/\ns.length<=n:=by
  have hsh:WShape.hasAll [] args [.list .int]=true:=(pre_splitW hpre).1
  have hc:l.pre.holds [] { args:=args }=true:=(pre_splitW hpre).2
  obtain ⟨d,r,rfl,h1,h2⟩:=hasAllW_cons hsh
  obtain rfl:=hasAllW_nil h2
  obtain ⟨xs,rfl,h3⟩:=hasW_list h1
  obtain ⟨ns,rfl⟩:=items_int h3
  have hlen:ns.length<=n:=by
    unfold OpenLaw.pre at hc
    have h4:(WTm.not (.lt (.lit (.int (n:Int))) (.len (.arg 0)))).holds [] { args:=[.list (ns.map .int)] }=true:=by
      have h4:=(holds_andW hc).1
      rw [hn] at h4
      exact h4
    have h5:=condW_of h4 (w_not (w_lt w_lit (w_len_list (w_arg rfl))))
    rw [List.length_map] at h5
    refine Nat.le_of_not_lt fun q=>?_
    have q':(n:Int) < ((ns.length:Nat):Int):=by omega
    first
      | (rw [decide_eq_true q'] at h5;exact absurd h5 (by decide))
      | (simp at h5;omega)
  cases hwl with
  | cons w1 w2 =>
    cases w2
    cases w1 with
    | list ho hall=>exact ⟨_,_,ns,rfl,rfl,ho,ints_of_wellAll ns _ hall,hlen⟩
theorem post_true (l:OpenLaw) (args:List WData):l.row.toRowW.claim.post args (.bool true) args=true :=
  postW_of (r:=l.row.toRowW) (X:=(true == true))
    (show WShape.has [] (.bool true) .bool=true by first | rfl | decide | simp [WShape.has,WShape.arms,WShape.armsAll])
    (show (WTm.eq .res (.lit (.bool true))).value [] { args:=args,res:=some (.bool true),after:=args }=some (.bool (true == true)) from w_eq_bool (w_res rfl) w_lit) rfl
section
variable {prog:Program} {w:World} {A:Around} {E:Value->Shared->Prop} {s:Shared} {K:Frag}
end
end Att
namespace L2
open PySem PySem.Spec PyProof.Rows
theorem vals_ints:∀ {vs:List Value} {ns:List Int},IntsAre vs ns->Vals (ns.map V.int) vs
  | _,_,.nil=>.nil
  | _,_,.cons n t h=>.cons ⟨t,rfl⟩ (vals_ints h)
noncomputable def Only (H:Hp):Prop:=∀ b,H b=none\/∃ o xs,H b=some (.frz o (.lst xs))
theorem law_call {P : Program} {w : World} {K : PySem.W.Frag} {mg mb : Str -> Option Value} {CX : CXT} {k : Nat} {fa a : Addr} {fd : FuncData} {x : Str} {sp : Sp} {s₁ : Shared} {vs : List Value} {ns : List Int}
    (KX:K.In s₁.heap) (hns:s₁.heap.Ns mainGlobals mg) (hb:s₁.heap.Ns builtinsNs mb) (hbb:∀ x:Str,x ≠ "__name__" -> mb x=bootBuiltins x) (hlim:s₁.heap.NoLimit) (hg:s₁.gens = #[])
    (ha:s₁.heap.get? a=some { cls:=.type "list",data:=.seq vs.toArray }) (hi:IntsAre vs ns) (hl:ns.length<=sizeLine) (hr:Room k callerA)
    (F:∀ base:Heap,K.In base->base.Ns mainGlobals mg->FnOk P w K mg base CX k fa fd [x] sp) (hbind:∀ (s:Shared) (u:Value),BindsTo s fd ⟨[u],[]⟩ [(x,u)])
    (hsp:∀ H:Hp,Only H->SqL K H a (ns.map V.int)->sp [.ref a] H (fun v _=>v = .bl true) fun _ _ _=>False)
    (hCX:∀ H e s',CX [] H s₁ (fun _ _ _=>False) e s'->False) :
    codeAny (model P w) callerA (.call (.ref fa) ⟨[.ref a],[]⟩) (fun r s'=>r = .ok (.ret (.bool true))/\OldK s₁.heap s'.heap/\s'.os=s₁.os/\AllBare s'.gens) s₁:=by
  have rv:=vals_ints hi
  have lenV:=hi.length
  have core : ∀ H : Hp, Only H -> SqL K H a (ns.map V.int) -> HOk P w H s₁.heap -> (∀ b, H b ≠ none -> b = a) -> (H a ≠ none -> K.lookup a = none) ->
      codeAny (model P w) callerA (.call (.ref fa) ⟨[.ref a],[]⟩) (fun r s'=>r = .ok (.ret (.bool true))/\OldK s₁.heap s'.heap/\s'.os=s₁.os/\AllBare s'.gens) s₁:=by
    intro H hO hS hok hA hK
    have base_of:∀ {b:Addr} {o:Obj},s₁.heap.get? b=some o->H b=none->(hidT s₁.heap H).get? b=some o:=fun e n=>hidT_get e n
    have noA:∀ {b:Addr} {o:Obj} {es:Array DictEntry} {ep:Nat},s₁.heap.get? b=some o->o.data = .dict es ep->H b=none:=fun {b o es ep} e d=>by
      cases q:H b with
      | none=>rfl
      | some u =>
        have e':b=a:=hA b (by rw [q];simp)
        subst e'
        rw [ha] at e;cases e
        have d':Data.seq vs.toArray _=Data.dict es ep:=d
        cases d'
    have nsK:∀ {b:Addr} {m:Str->Option Value},s₁.heap.Ns b m->(hidT s₁.heap H).Ns b m:=fun {b m} ⟨o,es,ep,e,d,r⟩=>⟨o,es,ep,base_of e (noA e d),d,r⟩
    have hKb:K.In (hidT s₁.heap H):=fun b o e=>base_of (KX b o e) (by
      cases q:H b with
      | none=>rfl
      | some u =>
        have e':b=a:=hA b (by rw [q];simp)
        subst e'
        rw [hK (by rw [q];simp)] at e;cases e)
    have hM:Mod K mg (hidT s₁.heap H):=⟨hKb,nsK hns,⟨mb,nsK hb,hbb⟩,let ⟨mc,h1,h2⟩:=hlim;⟨mc,nsK h1,h2⟩⟩
    have e0:Env0 P w K mg (hidT s₁.heap H) callerA [] s₁ H:=⟨rfl,hM,fun b o e=>of_hidT e,Nat.le_of_eq (hidT_size _ _),trivial,fun b hb=>absurd (show b ∈ ([]:List Addr) from hb) (by simp),hok,.of_eq hg⟩
    refine codeAny_mono ((F _ hKb (nsK hns)).run callerA [] s₁ H ⟨[.ref a],[]⟩ [.ref a] [.ref a] _ _ hr e0 (hbind s₁ (.ref a)) (.cons rfl .nil) (hsp H hO hS)) fun r s' h=>?_
    cases r with
    | error e=>exact (hCX H e s' h).elim
    | ok fl =>
      cases fl with
      | next=>exact False.elim h
      | brk=>exact False.elim h
      | cont=>exact False.elim h
      | ret u =>
        obtain ⟨v,H',os,bare,un,hok',r',q⟩:=h
        have q':v = .bl true:=q
        subst q'
        obtain rfl:u=Value.bool true:=r'
        refine ⟨rfl,OldK.of_keep fun b o e=>?_,os,bare⟩
        cases q:H b with
        | none=>exact un.keep b o e q (by intro z;exact absurd (show b ∈ ([]:List Addr) from z) (by simp)) (by simp)
        | some u =>
          rcases hO b with z | ⟨ob,xs,z⟩
          . rw [q] at z;cases z
          . have z2:=un.frzs b ob _ z
            obtain ⟨e1,_⟩:=hok b _ z
            obtain ⟨e2,_⟩:=hok' b _ z2
            rw [e] at e1;cases e1
            exact e2
  cases hk:K.lookup a with
  | some o =>
    have e:=KX a o hk
    rw [ha] at e
    cases e
    refine core (fun _=>none) (fun _=>.inl rfl) (.inr ⟨_,vs.toArray,_,hk,rfl,rfl,rfl,by rw [List.size_toArray,lenV];exact hl,by simpa using rv⟩) (fun b u z=>by have z':(none:Option HO)=some u:=z;cases z') (fun b z=>absurd rfl z) fun z=>absurd rfl z
  | none =>
    refine core (fun b=>if b=a then some (.frz { cls:=.type "list",data:=.seq vs.toArray } (.lst (ns.map V.int))) else none) (fun b=>?_) (.inl (.inr ⟨{ cls:=.type "list",data:=.seq vs.toArray },if_pos rfl⟩)) (fun b u z=>?_) (fun b z=>?_) fun _=>hk
    . by_cases hb:b=a
      . exact .inr ⟨_,_,if_pos hb⟩
      . exact .inl (if_neg hb)
    . by_cases hb:b=a
      . have z':=(if_pos hb).symm.trans z
        cases z'
        subst hb
        exact ⟨ha,by rw [List.length_map];exact hl,vs,_,rv,ha⟩
      . have z':=(if_neg hb).symm.trans z
        cases z'
    . by_cases hb:b=a
      . exact hb
      . exact absurd (if_neg hb) z
end L2
namespace L2
open PySem PySem.Spec PyProof.Rows
end L2
namespace L2
open PySem PySem.Spec PyProof.Rows
noncomputable def inClass (s:Stmt) (j:Nat):Stmt:=match s with
  | .ClassDef _ _ _ body _ _ _ _ _ _ _=>body.getD j (.Pass ⟨0,0,0,0⟩)
  | _=>.Pass ⟨0,0,0,0⟩
noncomputable def defArgs (s:Stmt):Arguments:=match s with
  | .FunctionDef _ a _ _ _ _ _ _ _ _=>a
  | _=>{ posonlyargs:=[],args:=[],vararg:=none,kwonlyargs:=[],kw_defaults:=[],kwarg:=none,defaults:=[] }
noncomputable def defBody (s:Stmt):List Stmt:=match s with
  | .FunctionDef _ _ b _ _ _ _ _ _ _=>b
  | _=>[]
noncomputable def defScope (s:Stmt):Scope:=match s with
  | .FunctionDef _ _ _ _ _ _ sc _ _ _=>sc
  | _=>{ kind:=.function,names:=[],isGenerator:=false,isCoroutine:=false }
noncomputable abbrev CX0:CXT:=fun _ _ _ _ _ _=>False
noncomputable abbrev E0:XK:=fun _ _ _=>False
theorem pass0 {X:Cx}:Passes CX0 X E0:=fun _ _ _ _ _ _ _ h=>h.elim
structure Fun (K:PySem.W.Frag) (x qual:Str) (st:Stmt) (f:Addr) (fd:FuncData):Prop where
  ex:∃ (oc:Value) (od:Option Addr) (kV doc pm:Value) (an:Option Addr) (cdv ct:Value) (osl:Array (Option Value)),
    fd=PySem.W.fnOf x qual (defArgs st) (defBody st) (defScope st) .none kV doc pm an cdv ct/\K.lookup f=some ⟨oc,od,.func fd,osl⟩/\PySem.W.codeIn K cdv qual=true
  kp:PySem.W.keepIn K (.ref f)=true
section
variable {P:Program} {w:World} {K:PySem.W.Frag} {mg:Str->Option Value} {base:Heap}
theorem Fun.ok {x qual:Str} {st:Stmt} {f:Addr} {fd:FuncData} {N ps:List Str} {k:Nat} {sp:Sp} (F:Fun K x qual st f fd) (S:FnScope N ps (defScope st)) (len:∀ vs H Q E,sp vs H Q E->vs.length=ps.length)
    (hbody:∀ (cdv:Value) (A:Around) (outer:List Env) (s:Shared) (H:Hp) (vs:List V) (Q:VK) (E:XK),Room k (A.deeper (envOfC qual (defScope st) s.heap.objs.size f cdv))->sp vs H Q E ->
      ∃ t,PSs (cxOf CX0 P w K mg base N qual (defScope st) f cdv A outer s H E).nox (defBody st) t/\t { nx:=fun _ H'=>Q .non H',rt:=Q } (start N vs) H):FnOk P w K mg base CX0 (k + 1) f fd ps sp:=by
  obtain ⟨oc,od,kV,doc,pm,an,cdv,ct,osl,rfl,lk,hcd⟩:=F.ex
  refine fn_of lk hcd S len fun A outer s H vs Q E hr hsp=>?_
  obtain ⟨t,h,q⟩:=hbody cdv A outer s H vs Q E hr hsp
  exact ⟨t,h.nox,q⟩
theorem Fun.binds {x qual:Str} {st:Stmt} {f:Addr} {fd:FuncData} {ps:List Str} (F:Fun K x qual st f fd)
    (h:∀ (kV doc pm:Value) (an:Option Addr) (cdv ct:Value) (us:List Value),us.length=ps.length->bindArgs (PySem.W.fnOf x qual (defArgs st) (defBody st) (defScope st) .none kV doc pm an cdv ct) ⟨us,[]⟩=pure (ps.zip us)):Binds K fd ps []:=by
  obtain ⟨oc,od,kV,doc,pm,an,cdv,ct,osl,rfl,lk,hcd⟩:=F.ex
  exact .all (h kV doc pm an cdv ct)
theorem fun_mk {x qual:Str} {st:Stmt} {f:Addr} {oc:Value} {od an:Option Addr} {osl:Array (Option Value)} {kV doc pm cdv ct:Value} (l:K.lookup f=some ⟨oc,od,.func (PySem.W.fnOf x qual (defArgs st) (defBody st) (defScope st) .none kV doc pm an cdv ct),osl⟩)
    (c:PySem.W.codeIn K cdv qual=true) (k:PySem.W.keepIn K (.ref f)=true):Fun K x qual st f (PySem.W.fnOf x qual (defArgs st) (defBody st) (defScope st) .none kV doc pm an cdv ct):=⟨⟨oc,od,kV,doc,pm,an,cdv,ct,osl,rfl,l,c⟩,k⟩
end
theorem small1000 {n:Nat} (h:n<=1000):n < sizeLine:=Nat.lt_of_le_of_lt h (by decide)
section
variable {X:Cx}
end
theorem ite2 {c A B:Prop} [Decidable c] (h1:c->A) (h2:¬ c->B):if c then A else B:=by
  by_cases h:c
  . rw [if_pos h]
    exact h1 h
  . rw [if_neg h]
    exact h2 h
noncomputable def Same (H H':Hp):Prop:=∀ b o,H b=some o->H' b=some o
theorem Same.refl (H:Hp):Same H H:=fun _ _ h=>h
theorem Same.trans {H H1 H2:Hp} (a:Same H H1) (b:Same H1 H2):Same H H2:=fun c o h=>b c o (a c o h)
theorem Same.free {H H':Hp} (e:Same H H') {l:Addr} (h:H' l=Option.none):H l=Option.none:=by
  cases q:H l with
  | none=>rfl
  | some o =>
    rw [e l o q] at h
    cases h
theorem Same.seq {K:PySem.W.Frag} {H H':Hp} {a:Addr} {xs:List V} (e:Same H H') (h:SqL K H a xs):SqL K H' a xs:=by
  rcases h with (h | ⟨o,h⟩) | h
  . exact .inl (.inl (e _ _ h))
  . exact .inl (.inr ⟨o,e _ _ h⟩)
  . exact .inr h
end L2
end
section
namespace L2
open PySem PySem.Spec PyProof.Rows
section
variable {κ:Type} [DecidableEq κ]
end
section
end
section
variable {X:Cx} {o:Option V}
end
section
variable {X:Cx}
end
section
variable {X:Cx} {o e:Expr}
end
section
variable {X:Cx}
end
structure M1 (X:Cx) (o:Expr) (m:Str) (apos:Pos) (e:Expr) (cpos:Pos):Prop where
  base:attributeBase o m X.env (eval o X.env)=eval o X.env
  few:((backTo cpos (starEach [e] X.env)).all (fun x => !x.1) && (backToKw cpos (keywordEach [] X.env)).all (fun x=>x.1.isSome)
    && decide (([e]:List Expr).length + ([]:List Keyword).length + (if ([]:List Keyword).isEmpty then 0 else 1) < 30))=true
  line:(apos.endLine == cpos.line)=true
  trees:backTo cpos (starEach [e] X.env)=[(false,eval e X.env)]
section
variable {X:Cx} {o:Option V}
end
section
variable {X:Cx} {o e:Expr} {apos cpos:Pos}
end
section
variable {X:Cx}
end
section
variable {X:Cx}
end
end L2
namespace L2
open PySem PySem.Spec PyProof.Rows
section
variable {X:Cx}
end
section
variable {κ:Type} [DecidableEq κ]
end
end L2
end
section
namespace L2
open PySem PySem.Spec PyProof.Rows
section
variable {prog:Program} {w:World} {A:Around} {R:Result->Shared->Prop} {s:Shared}
theorem compLoop_any {elt target iter:Expr} {ifs:List Expr} {scope:Scope} {pos:Pos} {it acc:Value} {env:Env} (I:Nat->Shared->Prop)
    (turn : ∀ n s, I n s -> wpAny (model prog w) A (pyNext it) (fun r s₁ => match r with
      | none=>R (.ok .next) s₁
      | some v=>wpAny (model prog w) A (letOwnedTupleGo target it v) (fun _ s₁=>wpAny (model prog w) A (assign target env v) (fun _ s₂ =>
          wpAny (model prog w) A (forIn ifs true fun c r=>if r=true then do let ok <- isTrue c env (eval c env);pure (ForInStep.yield ok) else pure (ForInStep.yield r)) (fun ok s₃ =>
            if ok=true then wpAny (model prog w) A (eval elt env) (fun x s₄ =>
              wpAny (model prog w) A (call (.builtin "list.append") [acc,x]) (fun _ s₅=>∃ m,m < n/\I m s₅) (fun _ _=>False) s₄) (fun _ _=>False) s₃
            else ∃ m,m < n/\I m s₃) (fun _ _=>False) s₂) (fun _ _=>False) s₁) (fun _ _=>False) s₁) (fun _ _=>False) s)
    (n:Nat) (h:I n s) :
    codeAny (model prog w) A (.compLoop (.ListComp elt [⟨target,iter,ifs,0⟩] scope pos) 0 it acc env) R s:=by
  refine codeAny_loop rfl I (fun n s hI=>?_) n h
  show wpAny _ A ((compTurn (.ListComp elt [⟨target,iter,ifs,0⟩] scope pos) 0 it acc env).onRaise (fun x=>do noteFrame x env;theTreesLotGoes x)) _ _ s
  refine wpAny_noted ?_
  rw [compTurn_list]
  refine wpAny_bind (wpAny_standAt (wpAny_bind (wpAny_mono (turn n s hI) (fun r s₁ h₁=>?_) fun _ _ h'=>h'.elim)))
  cases r with
  | none=>exact wpAny_pure h₁
  | some v =>
    refine wpAny_bind (wpAny_mono h₁ (fun _ s₁ h₁=>?_) fun _ _ h'=>h'.elim)
    refine wpAny_bind (wpAny_mono h₁ (fun _ s₂ h₂=>wpAny_bind (wpAny_mono h₂ (fun ok s₃ h₃=>?_) fun _ _ h'=>h'.elim)) fun _ _ h'=>h'.elim)
    cases ok with
    | false=>exact wpAny_pure ⟨rfl,h₃⟩
    | true =>
      exact wpAny_bind (wpAny_bind (wpAny_mono h₃ (fun x s₄ h₄=>wpAny_bind (wpAny_mono h₄ (fun _ s₅ h₅=>wpAny_pure (wpAny_pure ⟨rfl,h₅⟩)) fun _ _ h'=>h'.elim)) fun _ _ h'=>h'.elim))
end
noncomputable def clOf (cells:List (Str × Addr)):List (Str × NameKind)->List (Str × Addr)->List (Str × Addr)
  | [],acc=>acc
  | (n,k) :: r,acc=>clOf cells r (if k == .free then match cells.lookup n with | some c=>(n,c) :: acc | none=>acc else acc)
theorem closureFor_go {env:Env}:∀ (names:List (Str × NameKind)) (acc:List (Str × Addr)),(∀ y ∈ names,y.2 = .free->∃ c,env.cells.lookup y.1=some c) ->
    (forIn names acc (fun (x:Str × NameKind) (cs:List (Str × Addr))=>(if x.2 == .free then (do let a <- cellOf env x.1;pure (ForInStep.yield ((x.1,a) :: cs))) else pure (ForInStep.yield cs):Sem (ForInStep (List (Str × Addr))))))=pure (clOf env.cells names acc)
  | [],acc,_=>rfl
  | (n,k) :: r,acc,h=>by
    rw [List.forIn_cons]
    have hr:=fun a=>closureFor_go r a fun y hy=>h y (List.mem_cons_of_mem _ hy)
    by_cases hk:k = .free
    . subst hk
      obtain ⟨c,e⟩:=h (n,.free) List.mem_cons_self rfl
      have ec:cellOf env n=pure c:=by unfold cellOf;rw [e]
      simp only [beq_self_eq_true,if_true,ec,clOf,e]
      exact hr _
    . have hb:(k == NameKind.free)=false:=by simpa using hk
      simp only [hb,Bool.false_eq_true,if_false,clOf]
      exact hr _
theorem closureFor_eq {scope:Scope} {env:Env} (h:∀ y ∈ scope.names,y.2 = .free->∃ c,env.cells.lookup y.1=some c):closureFor scope env=pure (clOf env.cells scope.names []):=by
  have q:=closureFor_go (env:=env) scope.names [] h
  unfold closureFor
  show (forIn scope.names [] _ >>= fun cs=>pure cs)=_
  first
    | (rw [show (forIn scope.names [] _:Sem (List (Str × Addr)))=_ from q];rfl)
    | (erw [q];rfl)
end L2
end
section
namespace L2
open PySem PySem.Spec PyProof.Rows
noncomputable def maskS (y:Str):Str:=⟨#[0] ++ y.cps⟩
noncomputable def maskN (own N:List Str):List Str:=own ++ N.map fun y=>if own.contains y then maskS y else y
noncomputable def cxComp (X:Cx) (own:List Str) (scope:Scope) (C:Addr) (fp:List Addr) (s:Shared) (H:Hp):Cx :=
  { X with N:=maskN own X.N,s₀:=s,H₀:=H,env:=compEnvC scope (clOf X.env.cells scope.names []) C X.env,outer:=X.stack,stack:=X.stack,ex:=fp,fn:=fun x=>own.contains x,pn:=[],xe:=fun _ _=>False }
structure CompScope (own N:List Str) (sc scope:Scope):Prop where
  nd:(maskN own N).Nodup
  kind:scope.kind = .function
  nocell:∀ y ∈ scope.names,y.2 ≠ .cell
  loc:∀ y ∈ scope.names,y.2 = .local->scope.names.lookup y.1=some .local
  fr:∀ y ∈ scope.names,y.2 = .free->scope.names.lookup y.1=some .free
  up:∀ y ∈ scope.names,y.2 = .free->sc.names.lookup y.1=some .cell\/sc.names.lookup y.1=some .free
  ow:∀ x ∈ own,scope.names.lookup x=some .local
  mask:∀ x ∈ own,scope.names.lookup (maskS x)=none
  only:∀ y ∈ scope.names,y.2 = .local->y.1 ∈ own\/y.1 ∉ N
theorem lookup_mem {β:Type}:∀ {l:List (Str × β)} {x:Str} {k:β},l.lookup x=some k->(x,k) ∈ l
  | [],_,_,h=>by simp at h
  | (n,k') :: r,x,k,h=>by
    rw [List.lookup_cons] at h
    by_cases e:x=n
    . subst e;simp at h;subst h;exact List.mem_cons_self
    . have:(x == n)=false:=by simpa using e
      rw [this] at h
      exact List.mem_cons_of_mem _ (lookup_mem h)
theorem clOf_spec {cells : List (Str × Addr)} : ∀ (names : List (Str × NameKind)) (acc : List (Str × Addr)) (x : Str) (c : Addr), (clOf cells names acc).lookup x = some c -> (cells.lookup x = some c /\ (x, NameKind.free) ∈ names) \/ acc.lookup x = some c
  | [],acc,x,c,h=>.inr h
  | (n, k) :: r, acc, x, c, h => by
    rw [clOf] at h
    rcases clOf_spec r _ x c h with ⟨h1,h2⟩ | h1
    . exact .inl ⟨h1,List.mem_cons_of_mem _ h2⟩
    . by_cases hk:k = .free
      . subst hk
        simp only [beq_self_eq_true,if_true] at h1
        cases e:cells.lookup n with
        | none=>rw [e] at h1;exact .inr h1
        | some c' =>
          rw [e] at h1
          dsimp only at h1
          rw [List.lookup_cons] at h1
          by_cases ex:x=n
          . subst ex;simp at h1;subst h1;exact .inl ⟨e,List.mem_cons_self⟩
          . have:(x == n)=false:=by simpa using ex
            rw [this] at h1;exact .inr h1
      . have hb:(k == NameKind.free)=false:=by simpa using hk
        rw [hb] at h1;exact .inr h1
theorem clOf_acc {cells : List (Str × Addr)} : ∀ (names : List (Str × NameKind)) (acc : List (Str × Addr)) (x : Str), (acc.lookup x).isSome = true -> ((clOf cells names acc).lookup x).isSome = true
  | [],acc,x,h=>h
  | (n, k) :: r, acc, x, h => by
    rw [clOf]
    refine clOf_acc r _ x ?_
    split
    . split
      . rw [List.lookup_cons];split
        . rfl
        . exact h
      . exact h
    . exact h
theorem clOf_has {cells:List (Str × Addr)}:∀ (names:List (Str × NameKind)) (acc:List (Str × Addr)) (x:Str) (c:Addr),(x,NameKind.free) ∈ names->cells.lookup x=some c->((clOf cells names acc).lookup x).isSome=true
  | (n,k) :: r,acc,x,c,hm,e=>by
    rw [clOf]
    rcases List.mem_cons.mp hm with z | z
    . cases z
      refine clOf_acc r _ _ ?_
      simp [e]
    . exact clOf_has r _ x c z e
section
variable {X:Cx} {own:List Str} {scope:Scope} {C:Addr} {fp:List Addr} {s:Shared} {H:Hp}
theorem relabel_lookup {env : Env} : ∀ {names : List (Str × NameKind)} {x : Str} {k : NameKind},
    (names.map fun (n,k)=>if (k == NameKind.free && env.scope.kind == .function && env.kindOf n == some .cell) then (n,NameKind.cell) else (n,k)).lookup x=some k ->
    ∃ k',names.lookup x=some k'/\(k=k'\/(k = .cell/\k' = .free))
  | [],_,_,h=>by simp at h
  | (n, k0) :: r, x, k, h => by
    have ih:=@relabel_lookup env r x k
    rw [List.map_cons] at h
    by_cases ex:x=n
    . subst ex
      refine ⟨k0,by simp,?_⟩
      dsimp only at h
      split at h
      . rename_i hc
        simp at h
        have:k0 = .free:=by
          simp only [Bool.and_eq_true,beq_iff_eq] at hc
          exact hc.1.1
        exact .inr ⟨h.symm,this⟩
      . simp at h;exact .inl h.symm
    . have hb:(x == n)=false:=by simpa using ex
      have h2:(r.map fun (n,k)=>if (k == NameKind.free && env.scope.kind == .function && env.kindOf n == some .cell) then (n,NameKind.cell) else (n,k)).lookup x=some k:=by
        dsimp only at h
        split at h <;> (rw [List.lookup_cons,hb] at h;exact h)
      obtain ⟨k',e,q⟩:=ih h2
      exact ⟨k',by rw [List.lookup_cons,hb];exact e,q⟩
theorem relabel_local {env:Env} {x:Str}:(relabel scope env).names.lookup x=some .local->scope.names.lookup x=some .local:=fun h=>by
  obtain ⟨k',e,q⟩:=relabel_lookup (env:=env) h
  rcases q with q | ⟨q,_⟩
  . rw [e, <- q]
  . cases q
theorem relabel_cf {env:Env} {x:Str} (nc:∀ y ∈ scope.names,y.2 ≠ .cell):((relabel scope env).names.lookup x=some .cell\/(relabel scope env).names.lookup x=some .free)->scope.names.lookup x=some .free:=fun h=>by
  rcases h with h | h
  . obtain ⟨k',e,q⟩:=relabel_lookup (env:=env) h
    rcases q with q | ⟨_,q⟩
    . rw [<- q] at e;exact absurd rfl (nc _ (lookup_mem e))
    . rw [e,q]
  . obtain ⟨k',e,q⟩:=relabel_lookup (env:=env) h
    rcases q with q | ⟨q,_⟩
    . rw [e, <- q]
    . cases q
theorem cxComp_ok {pins:List (Addr × Obj)} {σ:St} (S:CompScope own X.N X.env.scope scope) (I:Inv X pins σ H s) (hC:s.heap.objs.size<=C) (hf:∀ b ∈ fp,FpOk X pins H b) (ho:∀ b ∈ fp,∃ o,s.heap.get? b=some o):(cxComp X own scope C fp s H).Ok:=by
  have cl:∀ x c,(clOf X.env.cells scope.names []).lookup x=some c->X.env.cells.lookup x=some c/\(x,NameKind.free) ∈ scope.names:=fun x c e=>by
    rcases clOf_spec _ _ _ _ e with q | q
    . exact q
    . simp at q
  refine ⟨I.ok.mod,S.kind,I.ok.glob,I.ok.blt,hC,fun x y c h1 h2=>I.ok.inj x y c (cl x c h1).1 (cl y c h2).1,fun x hx=>?_,fun x c h1 h2=>?_,I.ok.hd,I.ok.frames,.inl rfl,fun b hb=>⟨?_,fun x c e=>(hf b hb).2.2.2.2.1 x c (cl x c e).1⟩,I.bs,Nat.le_trans I.ok.bsz I.sz,fun b o e hb=>?_,fun b hb z=>?_,I.stack,I.stkFree⟩
  . have hx':((relabel scope X.env).names.lookup x=some .cell\/(relabel scope X.env).names.lookup x=some .free):=hx
    have q:=relabel_cf S.nocell hx'
    have m:=lookup_mem q
    obtain ⟨c,e⟩:=I.ok.has x (by rcases S.up _ m rfl with z | z;exact .inl z;exact .inr z)
    exact Option.isSome_iff_exists.mp (clOf_has scope.names [] x c m e)
  . have h1':own.contains x=true:=h1
    have m:=(cl x c h2).2
    have l:=S.ow x (by simpa using h1')
    rw [S.fr _ m rfl] at l;cases l
  . obtain ⟨o,e⟩:=ho b hb
    exact Nat.ne_of_lt (Nat.lt_of_lt_of_le (Heap.lt_size e) hC)
  . rcases (hf b hb).2.2.2.1 with z | z
    . exact I.ok.noex b o e z
    . exact absurd (Nat.lt_of_lt_of_le (Heap.lt_size e) (Nat.le_trans I.ok.bsz z)) (Nat.lt_irrefl _)
  . have z':b ∈ frs X.stack:=z
    rcases List.mem_cons.mp (I.stkSub b z') with q | q
    . exact (hf b hb).2.1 q
    . exact (hf b hb).2.2.1 q
theorem cxComp_inv {pins : List (Addr × Obj)} {σ : St} {h' : Heap} {t' : Nat} {m : Str -> Option Value} {H' : Hp} (S : CompScope own X.N X.env.scope scope) (I : Inv X pins σ H s) (hC : s.heap.objs.size <= C) (hf : ∀ b ∈ fp, FpOk X pins H b) (ho : ∀ b ∈ fp, ∃ o, s.heap.get? b = some o)
    (hk:∀ b o,s.heap.get? b=some o->h'.get? b=some o) (hn:h'.Ns C m) (hU:Un (frs X.stack) fp H H' s.heap h') (hok:HOk X.prog X.w H' h') (hC0:H' C=none) (hle:∀ b,b < s.heap.objs.size->H' b=H b) :
    Inv (cxComp X own scope C fp s H) [] (List.replicate own.length none ++ σ) H' { s with heap:=h',toks:=t' }:=by
  have cl:∀ x c,(clOf X.env.cells scope.names []).lookup x=some c->X.env.cells.lookup x=some c/\(x,NameKind.free) ∈ scope.names:=fun x c e=>by
    rcases clOf_spec _ _ _ _ e with q | q
    . exact q
    . simp at q
  refine ⟨cxComp_ok S I hC hf ho,rfl,I.bare,hU,⟨m,hn,fun i x v h1 h2 h3=>?_⟩,fun x c e=>?_,hC0,fun x c e=>?_,fun p hp=>?_,hok,?_⟩
  . have h1':(maskN own X.N)[i]?=some x:=h1
    by_cases hi:i < own.length
    . rw [List.getElem?_append_left (by simpa using hi),List.getElem?_replicate] at h2
      split at h2 <;> cases h2
    . rw [List.getElem?_append_right (by simpa using hi),List.length_replicate] at h2
      unfold maskN at h1'
      rw [List.getElem?_append_right (by simpa using hi),List.getElem?_map] at h1'
      cases ey:X.N[i - own.length]? with
      | none=>rw [ey] at h1';cases h1'
      | some y =>
        rw [ey] at h1'
        have ex:(if own.contains y then maskS y else y)=x:=by simpa using h1'
        have h3':(relabel scope X.env).names.lookup x=some .local\/(relabel scope X.env).names.lookup x=some .cell\/(relabel scope X.env).names.lookup x=some .free:=h3
        by_cases hyo:own.contains y=true
        . rw [if_pos hyo] at ex
          subst ex
          have none:=S.mask y (by simpa using hyo)
          rcases h3' with z | z
          . rw [relabel_local z] at none;cases none
          . rw [relabel_cf S.nocell z] at none;cases none
        . rw [if_neg hyo] at ex
          subst ex
          rcases h3' with z | z
          . rcases S.only _ (lookup_mem (relabel_local z)) rfl with q | q
            . exact absurd (by simpa using q) hyo
            . exact absurd (List.mem_of_getElem? ey) q
          . have q:=relabel_cf S.nocell z
            have mm:=lookup_mem q
            have up:=S.up _ mm rfl
            obtain ⟨m0,_,hl⟩:=I.loc
            obtain ⟨u,r,l⟩:=hl _ y v ey h2 (.inr up)
            refine ⟨u,r,.inr ⟨z,?_⟩⟩
            rcases l with ⟨k,_⟩ | ⟨k,c,e,ic⟩
            . have k':X.env.scope.names.lookup y=some .local:=k
              rcases up with u1 | u1 <;> (rw [u1] at k';cases k')
            . obtain ⟨c',e'⟩:=Option.isSome_iff_exists.mp (clOf_has scope.names [] y c mm e)
              have e2:=(cl y c' e').1
              rw [e] at e2;cases e2
              obtain ⟨o,g1,g2⟩:=ic
              exact ⟨c,e',o,hk _ _ g1,g2⟩
  . obtain ⟨v,o,g1,g2⟩:=I.cell x c (cl x c e).1
    exact ⟨v,o,hk _ _ g1,g2⟩
  . obtain ⟨v,o,g1,g2⟩:=I.cell x c (cl x c e).1
    rw [hle c (Heap.lt_size g1)]
    exact I.freeC x c (cl x c e).1
  . exact absurd (show p ∈ ([]:List (Addr × Obj)) from hp) (by simp)
  . show (List.replicate own.length none ++ σ).length=(maskN own X.N).length
    unfold maskN
    rw [List.length_append,List.length_append,List.length_replicate,List.length_map,I.len]
theorem Inv.behind {pins:List (Addr × Obj)} {σ σ':St} {pins':List (Addr × Obj)} {H':Hp} {s':Shared} (I:Inv X pins σ H s) (hf:∀ b ∈ fp,FpOk X pins H b) (J:Inv (cxComp X own scope C fp s H) pins' σ' H' s'):Inv X pins σ H' s':=by
  refine I.call' J.os J.base J.hok J.bare fun b hb=>?_
  obtain ⟨h0,h1,h2,h3,h4,h5⟩:=hf b hb
  exact ⟨h3,h1,h4,h5⟩
end
end L2
end
section
namespace L2
open PySem PySem.Spec PyProof.Rows
noncomputable def PTs (Y:Cx) (ifs:List Expr) (t:TT):Prop :=
  ∀ (pins:List (Addr × Obj)) (s:Shared) (σ:St) (H:Hp) (Q:Bool->Hp->Prop),Inv Y pins σ H s->t σ H Q ->
    wpAny (model Y.prog Y.w) Y.A (forIn ifs true fun c r=>if r=true then do let ok <- isTrue c Y.env (eval c Y.env);pure (ForInStep.yield ok) else pure (ForInStep.yield r)) (TP Y pins σ Q) Y.xe s
noncomputable def tAll:TT:=fun _ H Q=>Q true H
theorem pts_nil {Y:Cx}:PTs Y [] tAll:=fun _ _ _ H _ I h=>wpAny_tests_nil ⟨H,I,h⟩
theorem pts_one {Y:Cx} {c:Expr} {t:TT} (h:PT Y c t):PTs Y [c] t:=fun pins s σ H Q I q=>wpAny_tests_one (h pins s σ H Q I q)
noncomputable def CompW (no:Nat) (J:It) (g:TG) (tt:TT) (te:TE) (σ:St) (H1:Hp) (Q:VK):Prop:=∀ D,H1 D=none ->
  ∃ W : Nat -> Nat -> St -> Hp -> Prop, (∃ m, W 0 m (List.replicate no none ++ σ) (upd H1 D (.lst []))) /\ ∀ i m σ' H', W i m σ' H' ->
    (J.stop i H'/\Q (.ref D) H')\/(J.go i H'/\∀ x H2,J.yld i H' x H2->g x σ' H2 fun σ3 H3=>tt σ3 H3 fun b H4 =>
      if b=true then te σ3 H4 fun v H5=>∃ xs,H5 D=some (.lst xs)/\xs.length < sizeLine/\∃ m',m' < m/\W (i + 1) m' σ3 (upd H5 D (.lst (xs ++ [v]))) else ∃ m',m' < m/\W (i + 1) m' σ3 H4)
noncomputable def tCompB (no:Nat) (wi:TI) (g:TG) (tt:TT) (te:TE):TE:=fun σ H Q=>wi σ H fun J H1=>CompW no J g tt te σ H1 Q
section
variable {X:Cx} {own:List Str} {scope:Scope} {elt tg iter:Expr} {ifs:List Expr} {pos:Pos} {wi:TI} {g:TG} {tt:TT} {te:TE}
theorem comp_block {pins : List (Addr × Obj)} {σ : St} {H : Hp} {s : Shared} {it : Addr} {fp : List Addr} {tn : Nat -> Heap -> Prop} {J : It} {Q : VK} {RR : Value -> Addr -> Result -> Shared -> Prop} {E : Value -> Shared -> Prop}
    (hc:X.calm=true) (S:CompScope own X.N X.env.scope scope)
    (hg:∀ C fp s H,PG (cxComp X own scope C fp s H) tg g) (ht:∀ C fp s H,PTs (cxComp X own scope C fp s H) ifs tt) (he:∀ C fp s H,PE (cxComp X own scope C fp s H) elt te)
    (I:Inv X pins σ H s) (T:Turn X.prog X.w X.K tg J fp it tn) (st:tn 0 s.heap) (hf:∀ b ∈ fp,FpOk X pins H b)
    (h:CompW own.length J g tt te σ H Q)
    (hRR:∀ D C s' H' m,Inv X pins σ H' s'->s'.heap.Ns C m->H' C=none->s.heap.objs.size<=C->Q (.ref D) H'->RR (.ref D) C (.ok .next) s') :
    wpAny (model X.prog X.w) X.A (newList []) (fun acc s₃=>wpAny (model X.prog X.w) X.A (newFunctionEnv scope X.env.globals (clOf X.env.cells scope.names []) [] X.env.qual none .none (some X.env)) (fun cenv s₄ =>
      codeAny (model X.prog X.w) X.A (.compStart (.ListComp elt [⟨tg,iter,ifs,0⟩] scope pos) 0 (.ref it) acc { cenv with scope:=relabel scope X.env }) (RR acc cenv.locals) s₄) E s₃) E s:=by
  refine wpAny_newObj_type (wpAny_newFunctionEnv S.nocell (by intro y hy;simp at hy) (fun h₁ hns₁ hsb₁=>?_) S.kind)
  dsimp only at hns₁ hsb₁ ⊢
  generalize hH2:s.heap.push { cls:=.type "list",dict:=none,data:=.seq ([]:List Value).toArray }=H2 at hns₁ hsb₁ ⊢
  have hC:H2.objs.size=s.heap.objs.size + 1:=by rw [<- hH2,Heap.size_push]
  have hDC:s.heap.objs.size ≠ H2.objs.size:=by rw [hC];exact Nat.ne_of_lt (Nat.lt_succ_self _)
  have hCle:s.heap.objs.size<=H2.objs.size:=by rw [hC];exact Nat.le_succ _
  have below:∀ b,b < s.heap.objs.size->b ≠ H2.objs.size:=fun b hb=>by rw [hC];exact Nat.ne_of_lt (Nat.lt_succ_of_lt hb)
  have old:∀ b o,s.heap.get? b=some o->h₁.get? b=some o:=fun b o e=>hsb₁.extBut b o (below b (Heap.lt_size e)) (Heap.get?_push_of_some _ (hH2 ▸ Heap.get?_push_of_some _ e))
  have hacc:h₁.get? s.heap.objs.size=some { cls:=.type "list",dict:=none,data:=.seq ([]:List Value).toArray }:=hsb₁.extBut _ _ hDC (Heap.get?_push_of_some _ (hH2 ▸ Heap.get?_push_size _ rfl))
  have ho:∀ b ∈ fp,∃ o,s.heap.get? b=some o:=fun b hb=>let ⟨o,e,_⟩:=T.obj _ _ st b hb;⟨o,e⟩
  have fresh:∀ a,s.heap.objs.size<=a->H a=none:=fun a ha=>I.hok.fresh ha
  generalize hD:s.heap.objs.size=D at *
  generalize hCC:H2.objs.size=C at *
  have I1:Inv (cxComp X own scope C fp s H) [] (List.replicate own.length none ++ σ) (upd H D (.lst [])) { s with heap:=h₁,toks:=s.toks + ([]:List (Str × Value)).length }:=by
    refine cxComp_inv S I (by rw [hD];exact hCle) hf ho old hns₁ (Un.laid old (by rw [hD];exact Nat.le_refl _) (fresh D (Nat.le_refl _))) (I.hok.laid old (by rw [hD];exact Nat.le_refl _) ?_) ?_ fun b hb=>?_
    . exact ⟨Nat.zero_le _,[],0,.nil,hacc⟩
    . rw [upd_ne (Ne.symm hDC)];exact fresh C hCle
    . rw [hD] at hb;rw [upd_ne (Nat.ne_of_lt hb)]
  obtain ⟨W,⟨m0,w0⟩,turn⟩:=h D (fresh D (Nat.le_refl _))
  have fpY:∀ {H':Hp},(∀ b ∈ fp,H' b=none)->∀ b ∈ fp,FpOk (cxComp X own scope C fp s H) [] H' b:=fun hn b hb=>by
    obtain ⟨q0,q1,q2,q3,q4,q5⟩:=hf b hb
    refine ⟨hn b hb,I1.ok.exf b hb |>.1,I1.ok.exfs b hb,.inl hb,I1.ok.exf b hb |>.2,fun p hp=>absurd (show p ∈ ([]:List (Addr × Obj)) from hp) (by simp)⟩
  have loop:codeAny (model X.prog X.w) X.A (.compLoop (.ListComp elt [⟨tg,iter,ifs,0⟩] scope pos) 0 (.ref it) (.ref D) (compEnvC scope (clOf X.env.cells scope.names []) C X.env)) (RR (.ref D) C) { s with heap:=h₁,toks:=s.toks + ([]:List (Str × Value)).length }:=by
    refine compLoop_any (fun n s'=>∃ i σ' H',Inv (cxComp X own scope C fp s H) [] σ' H' s'/\tn i s'.heap/\(∀ b ∈ fp,H' b=none)/\W i n σ' H') ?_ m0
      ⟨0,_,_,I1,T.keep _ _ _ st fun b _ o e=>old b o e,fun b hb=>?_,w0⟩
    . rintro n s3 ⟨i,σ3,H3,I3,st3,fr3,w3⟩
      rcases turn i n σ3 H3 w3 with ⟨stop,qn⟩ | ⟨go,step⟩
      . refine thn (T.done (cxComp X own scope C fp s H) rfl rfl rfl hc i [] s3 σ3 H3 _ I3 (fpY fr3) st3 stop) fun r s4 ⟨hr,I4⟩=>?_
        subst hr
        obtain ⟨m,hm,_⟩:=I4.loc
        exact hRR D C s4 H3 m (I.behind hf I4) hm I4.free hCle qn
      . refine thn (T.item (cxComp X own scope C fp s H) rfl rfl rfl hc i [] s3 σ3 H3 _ I3 (fpY fr3) st3 go) fun r s4 ⟨u,hr,h4⟩=>?_
        subst hr
        dsimp only
        refine thn h4 fun _ s5 ⟨x,H5,I5,r5,y5,st5,fr5⟩=>?_
        have I5':=I5.pinned (fpY fr5) (T.obj _ _ st5)
        refine thn (hg C fp s H _ s5 σ3 H5 x u _ I5' r5 (step x H5 y5)) fun _ s6 ⟨σ6,H6,I6,q6⟩=>?_
        refine thn (ht C fp s H _ s6 σ6 H6 _ I6 q6) fun b s7 ⟨H7,I7,q7⟩=>?_
        have again:∀ {s8:Shared} {σ7:St} {H7:Hp},Inv (cxComp X own scope C fp s H) ([] ++ pinsAt fp s5.heap) σ7 H7 s8->(∃ m',m' < n/\W (i + 1) m' σ7 H7)->∃ m,m < n/\∃ i σ' H',Inv (cxComp X own scope C fp s H) [] σ' H' s8/\tn i s8.heap/\(∀ b ∈ fp,H' b=none)/\W i m σ' H':=fun {s8 σ7 H7} I7 n7=>by
          obtain ⟨m',hm,w7⟩:=n7
          refine ⟨m',hm,i + 1,σ7,H7,I7.unpinned,T.keep _ _ _ st5 fun b hb o e=>(I7.pin (b,o) (List.mem_append_right _ (List.mem_append_right _ (mem_pinsAt hb e)))).1,fun b hb=>?_,w7⟩
          obtain ⟨o,e,d⟩:=T.obj _ _ st5 b hb
          exact (I7.pin (b,o) (List.mem_append_right _ (List.mem_append_right _ (mem_pinsAt hb e)))).2.1
        cases b with
        | false =>
          rw [if_neg (by simp)] at q7
          exact again I7 q7
        | true =>
          rw [if_pos rfl] at q7 ⊢
          refine thn (he C fp s H _ s7 σ6 H7 _ I7 q7) fun u8 s8 ⟨v,H8,I8,r8,xs,hx,hz,q8⟩=>?_
          refine thn (mt_append (X:=cxComp X own scope C fp s H) _ s8 σ6 H8 (.ref D) [v] (.ref D) [u8] (fun _ H9=>∃ m',m' < n/\W (i + 1) m' σ6 H9) I8 rfl (.cons r8 .nil) ⟨D,xs,v,rfl,rfl,hx,hz,q8⟩) fun _ s9 ⟨_,H9,I9,_,q9⟩=>?_
          exact again I9 q9
    . have lt:b < D:=by
        obtain ⟨o,e⟩:=ho b hb
        exact hD ▸ Heap.lt_size e
      rw [upd_ne (Nat.ne_of_lt lt)]
      exact (hf b hb).1
  exact codeAny_compStart_list loop (T.self _ 0 _ _ _ (T.keep _ _ _ st fun b _ o e=>old b o e) loop)
theorem comp_clos {pins:List (Addr × Obj)} {σ:St} {H:Hp} {s:Shared} (S:CompScope own X.N X.env.scope scope) (I:Inv X pins σ H s):closureFor scope X.env=pure (clOf X.env.cells scope.names []) :=
  closureFor_eq fun y hy hk=>I.ok.has y.1 (by rcases S.up y hy hk with z | z;exact .inl z;exact .inr z)
theorem Inv.letgo {pins:List (Addr × Obj)} {σ:St} {H':Hp} {s':Shared} {h':Heap} {C:Addr} {z:Nat} (I:Inv X pins σ H' s') (hC:H' C=none) (h0:X.s₀.heap.objs.size<=z) (hz:z<=C) (hL:X.env.locals < z) (hcl:∀ x c,X.env.cells.lookup x=some c->c < z) (hp:∀ p ∈ X.pn ++ pins,p.1 < z) (hs:Heap.SameBut C s'.heap h'):Inv X pins σ H' { s' with heap:=h' } :=
  I.turned (t':=s'.toks) (it:=C) (fun b o hb e=>hs.extBut b o hb e) hC (Nat.ne_of_gt (Nat.lt_of_lt_of_le hL hz)) (.inr (Nat.le_trans h0 hz)) (fun x c e=>Nat.ne_of_lt (Nat.lt_of_lt_of_le (hcl x c e) hz)) fun p hq=>Nat.ne_of_lt (Nat.lt_of_lt_of_le (hp p hq) hz)
theorem pe_comp {N0 P0:List Str} {sc:Scope} (S0:FnScope N0 P0 sc) (hc:X.calm=true) (S1:CompScope own N0 sc scope) (hi:PI X tg iter wi)
    (hg:∀ C fp s H,(maskN own N0).Nodup->PG (cxComp X own scope C fp s H) tg g) (ht:∀ C fp s H,PTs (cxComp X own scope C fp s H) ifs tt) (he:∀ C fp s H,PE (cxComp X own scope C fp s H) elt te)
    (hs:∀ x,foldedSetIterable iter X.env x=pure x:=by intro _;rfl) (hN0:X.N=N0:=by rfl) (hsc:X.env.scope=sc:=by rfl):PE X (.ListComp elt [⟨tg,iter,ifs,0⟩] scope pos) (tCompB own.length wi g tt te):=by
  intro pins s σ H Q I h
  subst hN0 hsc
  have S:=S1
  replace hg:=fun C fp s H=>hg C fp s H S1.nd
  rw [eval_ListComp]
  refine wpAny_comprehension_free (use:=none) rfl hs (comp_clos S I) S.kind S.loc (thn (hi pins s σ H _ I h) fun xv s₁ h₁=>thn h₁ fun itv s₂ h₂=>?_)
  obtain ⟨it,fp,tn,J,H2,rfl,I2,T,st2,f2,q2⟩:=h₂
  refine comp_block (Q:=Q) hc S hg ht he I2 T st2 f2 q2 ?_
  intro D C s' H' m I' hm hC hCle q
  refine ⟨m,hm,fun h' hs'=>⟨.ref D,H',?_,rfl,q⟩⟩
  exact I'.letgo hC I2.sz hCle I2.lt (fun x c e=>let ⟨v,z⟩:=I2.cell x c e;z.lt) (fun p hp=>Heap.lt_size (I2.pin p hp).1) hs'
end
end L2
end
section
namespace L2
open PySem PySem.Spec PyProof.Rows
open PySem.W (Dat kqdP kqdPs kqdOk)
section
variable {X:Cx}
theorem op_mulB:OpR X (binaryOp .Mult) (rI IntMulOk fun i j=>.int (i * j)):=opI fun _ _ _ _ _ _ _ hc q=>mul_int q hc
noncomputable def CDivB (i j:Int):Prop:=j ≠ 0/\j.natAbs.log2 < 9000
theorem op_fdivB:OpR X (binaryOp .FloorDiv) (rI CDivB fun i j=>.int (i.fdiv j)):=opI fun _ _ _ _ _ _ _ hc q=>floordiv_int hc.1 q (.inl (PyProof.noPylong_of_log2 hc.2))
end
mutual
inductive Is (K:PySem.W.Frag) (H:Hp):V->Dat->Prop
  | none:Is K H .non .none
  | bool (b:Bool):Is K H (.bl b) (.bool b)
  | int (i:Int):Is K H (.int i) (.int i)
  | str (x:Str):Is K H (.str x) (.str x)
  | tup {a:Addr} {xs:List V} {ds:List Dat}:SqT K H a xs->Iss K H xs ds->Is K H (.ref a) (.tuple ds)
  | lst {a:Addr} {xs:List V} {ds:List Dat}:SqL K H a xs->Iss K H xs ds->Is K H (.ref a) (.list ds)
inductive Iss (K:PySem.W.Frag) (H:Hp):List V->List Dat->Prop
  | nil:Iss K H [] []
  | cons {x:V} {d:Dat} {xs:List V} {ds:List Dat}:Is K H x d->Iss K H xs ds->Iss K H (x :: xs) (d :: ds)
end
theorem Same.tup {K:PySem.W.Frag} {H H':Hp} {a:Addr} {xs:List V} (e:Same H H') (h:SqT K H a xs):SqT K H' a xs:=by
  rcases h with (h | ⟨o,h⟩) | h
  . exact .inl (.inl (e _ _ h))
  . exact .inl (.inr ⟨o,e _ _ h⟩)
  . exact .inr h
theorem Same.new {H:Hp} {p:Addr} (h:H p=Option.none) (o:HO):Same H (upd H p o):=fun b u q=>by rw [upd_ne (ne_of_none q h)];exact q
section
variable {K:PySem.W.Frag} {H H':Hp}
theorem Iss.ints (ns:List Int):Iss K H (ns.map V.int) (ns.map Dat.int):=by
  induction ns with
  | nil=>exact .nil
  | cons n ns ih=>exact .cons (.int n) ih
end
section
variable {X:Cx} {pins:List (Addr × Obj)} {σ:St} {H:Hp} {s:Shared}
mutual
theorem Is.reads (I:Inv X pins σ H s):∀ {v:V} {d:Dat} {u:Value},Is X.K H v d->RelV v u->∃ as,Reads s.heap u (kqdP d) as
  | _,_,_,.none,r=>by cases (show _=Value.none from r);exact ⟨_,.none⟩
  | _,_,_,.bool b,r=>by cases (show _=Value.bool b from r);exact ⟨_,.bool b⟩
  | _,_,_,.int i,r=>by obtain ⟨t,rfl⟩:=r;exact ⟨_,.int i t⟩
  | _,_,_,.str x,r=>by obtain ⟨t,rfl⟩:=r;exact ⟨_,.str x t⟩
  | _,_,_,.tup (a:=a) h q,r=>by
    cases (show _=Value.ref a from r)
    obtain ⟨its,rv,⟨o,e,c,n,d⟩,_⟩:=I.tuple h
    obtain ⟨as,z⟩:=Iss.reads I q rv
    rw [kqdP]
    exact ⟨as,.tuple e c d (by simpa using z)⟩
  | _,_,_,.lst (a:=a) h q,r=>by
    cases (show _=Value.ref a from r)
    obtain ⟨its,rv,⟨o,n,e,c,_,d⟩,_⟩:=I.list h
    obtain ⟨as,z⟩:=Iss.reads I q rv
    rw [kqdP]
    exact ⟨_,.list e c d (by simpa using z)⟩
theorem Iss.reads (I:Inv X pins σ H s):∀ {v:List V} {d:List Dat} {u:List Value},Iss X.K H v d->Vals v u->∃ as,ReadsAll s.heap u (kqdPs d) as
  | _,_,_,.nil,.nil=>⟨_,.nil⟩
  | _,_,_,.cons a r,.cons b t=>by
    obtain ⟨as,p⟩:=Is.reads I a b
    obtain ⟨bs,q⟩:=Iss.reads I r t
    rw [kqdPs]
    exact ⟨_,.cons p q⟩
end
end
open Classical in
noncomputable def deq (d e:Dat):Bool:=decide (d=e)
open Classical in
theorem deq_self (d:Dat):deq d d=true:=decide_eq_true rfl
open Classical in
theorem deq_true {d e:Dat} (h:d=e):deq d e=true:=decide_eq_true h
open Classical in
theorem deq_ne {d e:Dat} (h:d ≠ e):deq d e=false:=decide_eq_false h
noncomputable def rEqD (K:PySem.W.Frag) (n:Bool):R2:=fun x y H Q=>∃ d e,Is K H x d/\Is K H y e/\kqdOk 9 d=true/\kqdOk 9 e=true/\Q (.bl (if n then !deq d e else deq d e)) H
theorem eqv_deq {d e:Dat} (h1:kqdOk 9 d=true) (h2:kqdOk 9 e=true):PyData.eqv (kqdP d) (kqdP e)=deq d e:=by
  have q:=PySem.W.kqd_eqv 9 d e 9 h1 h2
  by_cases z:d=e
  . rw [deq_true z];exact q.mpr z
  . rw [deq_ne z];exact Bool.eq_false_iff.mpr fun x=>z (q.mp x)
theorem shaped9 {d:Dat} (h:kqdOk 9 d=true):SeqAt.shaped (kqdP d)=true:=by
  have l:=PySem.W.kqd_lay 9 d h
  unfold SeqAt.shaped
  rw [l.1,Bool.true_and]
  exact decide_eq_true (Nat.le_trans l.2 (by decide))
section
variable {X:Cx}
theorem op_eqD (hu:X.A.units + 64 < cLine):OpR X (compareOp .Eq) (rEqD X.K false):=by
  intro pins s σ H x y v u Q I rx ry h
  obtain ⟨d,e,hd,he,o1,o2,q⟩:=h
  obtain ⟨as,ra⟩:=hd.reads I rx
  obtain ⟨bs,rb⟩:=he.reads I ry
  refine PyProof.Rows.eq_dataH ra rb (shaped9 o1) (shaped9 o2) hu ?_
  rw [eqv_deq o1 o2]
  exact ⟨.bl _,H,I,rfl,q⟩
theorem op_neD (hu:X.A.units + 64 < cLine):OpR X (compareOp .NotEq) (rEqD X.K true):=by
  intro pins s σ H x y v u Q I rx ry h
  obtain ⟨d,e,hd,he,o1,o2,q⟩:=h
  obtain ⟨as,ra⟩:=hd.reads I rx
  obtain ⟨bs,rb⟩:=he.reads I ry
  refine PyProof.Rows.ne_dataH ra rb (shaped9 o1) (shaped9 o2) hu ?_
  rw [eqv_deq o1 o2]
  exact ⟨.bl _,H,I,rfl,q⟩
theorem call_sumL (hc:X.calm=true):CallR X (.builtin "sum") (fun xs H Q=>∃ (a:Addr) (ns:List Int),xs=[.ref a]/\SqL X.K H a (ns.map V.int)/\Q (.int ns.sum) H):=by
  intro pins s σ H xs us Q I r h
  obtain ⟨a,ns,rfl,hl,q⟩:=h
  cases r with
  | cons r1 r2 =>
    cases r2
    cases (show _=Value.ref a from r1)
    obtain ⟨its,rv,pl,_⟩:=I.list hl
    obtain ⟨m,F⟩:=I.fr
    have hi:IntsAre its ns:=intsAre_of rv
    obtain ⟨xs,hxs⟩:=(IntsAre.allInts hi).items
    have e:numsOf its=ns:=hi.numsOf
    refine sum_intListG (xs:=xs) (I.ok.hd hc) (by rw [<- hxs];exact pl.isList) fun h' tk t' hk=>?_
    refine ⟨.int ns.sum,H,I.kept (t':=tk) hk,⟨t',?_⟩,q⟩
    have e2:numsOf its=(xs.map Prod.fst).toList:=by
      have:=nums_intItems (xs:=xs)
      rw [<- hxs] at this
      simpa using this
    rw [preSum_eq,List.take_of_length_le (by simp)]
    rw [<- e,e2,Array.toList_map]
end
end L2
end
section
namespace L2
open PySem PySem.Spec PyProof.Rows
section
variable {prog:Program} {w:World} {A:Around} {E:Value->Shared->Prop} {s:Shared}
theorem tupNext {it t:Addr} {i:Nat} {its:Array Value} {x:Value} {Q:Value->Shared->Prop} (hit:s.heap.IsTupleIter it t i) (ht:s.heap.IsTuple t its) (hx:its[i]?=some x)
    (k:∀ g,g.IsTupleIter it t (i + 1)->Heap.SameBut it s.heap g->Q x { s with heap:=g }):wpAny (model prog w) A (Builtin.SmallTypes.nextOf (.ref it)) Q E s:=by
  obtain ⟨o,g1,g2,g3⟩:=id hit
  obtain ⟨p,q1,_,n,q2⟩:=ht
  unfold Builtin.SmallTypes.nextOf
  refine wpAny_bind (wpAny_callSpecial?_slot (name:=Str.ofString "__next__") hit.typeIs F.slot_tuple_iterator_next (wpAny_call_entry F.slot_tuple_iterator_next hit.typeIs F.entry_tuple_iterator_next ?_ (F.args_tuple_iterator_next_1 _)))
  show wpAny _ _ (field (.ref it) 0 >>= _) _ _ s;refine wpAny_bind (wpAny_field g1 g3 (x:=.ref t) rfl ?_);show wpAny _ _ (if (Value.ref t == Value.none)=true then _ else _) _ _ s
  rw [if_neg (show ¬ ((Value.ref t == Value.none)=true) from Bool.false_ne_true)];show wpAny _ _ (field (.ref it) 1 >>= _) _ _ s;refine wpAny_bind (wpAny_field g1 g3 (x:=.int i 0) rfl ?_)
  show wpAny _ _ (seqItems? (.ref t) >>= _) _ _ s;refine wpAny_bind (wpAny_seqItems q1 q2 ?_);simp only [Int.toNat_natCast,hx]
  refine wpAny_bind (wpAny_setField g1 g3 (by simp) (wpAny_pure ⟨x,rfl,wpAny_pure (k _ ⟨_,Heap.get?_update_self _ g1 (Obj.isFreed_of_fields (Obj.data_mapFields g3 _)),(Obj.cls_mapFields ..).trans g2,?_⟩ (Heap.SameBut.update ..))⟩))
  rw [Obj.data_mapFields g3];simp [rawInt]
theorem tupEnd {it t:Addr} {i:Nat} {its:Array Value} {Q:Value->Shared->Prop} (hh:A.handled=none) (hit:s.heap.IsTupleIter it t i) (ht:s.heap.IsTuple t its) (hx:its[i]?=none)
    (k:∀ g e,Heap.ExtBut it s.heap g->(∃ o,g.get? e=some o/\o.cls = .type "StopIteration")->E (.ref e) { s with heap:=g }):wpAny (model prog w) A (Builtin.SmallTypes.nextOf (.ref it)) Q E s:=by
  obtain ⟨o,g1,g2,g3⟩:=id hit
  obtain ⟨p,q1,_,n,q2⟩:=ht
  unfold Builtin.SmallTypes.nextOf
  refine wpAny_bind (wpAny_callSpecial?_slot (name:=Str.ofString "__next__") hit.typeIs F.slot_tuple_iterator_next (wpAny_call_entry F.slot_tuple_iterator_next hit.typeIs F.entry_tuple_iterator_next ?_ (F.args_tuple_iterator_next_1 _)))
  show wpAny _ _ (field (.ref it) 0 >>= _) _ _ s;refine wpAny_bind (wpAny_field g1 g3 (x:=.ref t) rfl ?_);show wpAny _ _ (if (Value.ref t == Value.none)=true then _ else _) _ _ s
  rw [if_neg (show ¬ ((Value.ref t == Value.none)=true) from Bool.false_ne_true)];show wpAny _ _ (field (.ref it) 1 >>= _) _ _ s;refine wpAny_bind (wpAny_field g1 g3 (x:=.int i 0) rfl ?_)
  show wpAny _ _ (seqItems? (.ref t) >>= _) _ _ s;refine wpAny_bind (wpAny_seqItems q1 q2 ?_);simp only [Int.toNat_natCast,hx]
  refine wpAny_bind (wpAny_rule (wpAny_bind (wpAny_setField g1 g3 (by simp) ?_)));show wpAny _ _ (newExc (.type "StopIteration") [] >>= _) _ _ _
  refine wpAny_bind ?_;simp only [newExc,newTuple];refine wpAny_bind (wpAny_newObj_type ?_ (by size_fits))
  refine wpAny_bind (m:=firstArgMember _ _) (wpAny_of_eq (a:=Value.none) (by first | rfl | (simp only [firstArgMember];rfl)) ?_);refine wpAny_newObj_type ?_ (by size_fits)
  simp only [raiseNew];refine wpAny_bind (wpAny_handled ?_);first | rw [show A.in1.handled=none from hh] | rw [hh]
  refine wpAny_bind (wpAny_pure (wpAny_throw ?_));exact k _ _ (((Heap.SameBut.update ..).extBut.push _).push _) ⟨_,Heap.get?_push_size _ rfl,rfl⟩
structure ZipAt (h:Heap) (z a b i1 i2 l1 l2:Addr) (xs ys:Array Value) (k:Nat) (f:Value):Prop where
  z:IsZip h z a b f
  a:IsPair h a (.ref i1) (.ref i2)
  b:∃ u v,IsPair h b u v
  i1:h.IsTupleIter i1 l1 k
  i2:h.IsTupleIter i2 l2 k
  l1:h.IsTuple l1 xs
  l2:h.IsTuple l2 ys
theorem zipNext {z a b i1 i2 l1 l2:Addr} {k:Nat} {xs ys:Array Value} {x y:Value} {Q:Option Value->Shared->Prop} (D:ZipApart z a b i1 i2 l1 l2) (Z:ZipAt s.heap z a b i1 i2 l1 l2 xs ys k .none) (hx:xs[k]?=some x) (hy:ys[k]?=some y)
    (kq:∀ g,ZipAt g z a b i1 i2 l1 l2 xs ys (k + 1) (rawInt s.heap.objs.size)->IsPair g s.heap.objs.size x y->(∀ c o,c ≠ z->c ≠ b->c ≠ i1->c ≠ i2->s.heap.get? c=some o->g.get? c=some o)->Q (some (.ref s.heap.objs.size)) { s with heap:=g }) :
    wpAny (model prog w) A (pyNext (.ref z)) Q E s:=by
  obtain ⟨hz,ha,⟨u,v,hb⟩,h1,h2,t1,t2⟩:=Z
  have hT:s.TypeIs (.ref z) "zip" := ⟨_,hz,rfl⟩
  unfold pyNext
  refine wpAny_bind (wpAny_attempt (wpAny_callSpecial?_slot (name:=Str.ofString "__next__") hT F.slot_zip_next (wpAny_call_entry F.slot_zip_next hT F.entry_zip_next ?_ (F.args_zip_next_1 _))))
  show wpAny _ _ (field (.ref z) 2 >>= _) _ _ _;refine wpAny_bind (wpAny_field hz rfl (x:=.bool false) rfl ?_);show wpAny _ _ (field (.ref z) 3 >>= _) _ _ _
  refine wpAny_bind (wpAny_field hz rfl (x:=.ref a) rfl ?_);refine wpAny_bind (wpAny_seqItems ha rfl ?_);show wpAny _ _ (Builtin.SmallTypes.ownedTupleIsFree (.ref z) >>= _) _ _ _
  refine wpAny_bind ?_;unfold Builtin.SmallTypes.ownedTupleIsFree;refine wpAny_bind (wpAny_field hz rfl (x:=.none) rfl (wpAny_pure ?_))
  simp only [if_true];refine wpAny_bind (wpAny_rule ?_);refine wpAny_bind (wpAny_field hz rfl (x:=.ref b) rfl ?_)
  refine wpAny_bind (wpAny_setField_rec hz (by simp) fun g₁ e₁ s₁=>?_)
  replace e₁:IsZip g₁ z a b .ellipsis:=e₁
  refine wpAny_bind ?_;simp only [List.zipIdx_cons,List.zipIdx_nil,List.forIn_cons,List.forIn_nil]
  refine wpAny_bind (wpAny_bind (wpAny_onRaise ?_));show wpAny _ _ (Builtin.SmallTypes.nextOf (.ref i1) >>= _) _ _ _
  refine wpAny_bind (tupNext (h1.extBut s₁.extBut D.i1z) (t1.extBut s₁.extBut D.l1z) hx fun g₂ f₂ s₂=>wpAny_pure ?_)
  have b₂:IsPair g₂ b u v:=s₂.extBut _ _ D.TOi1 (s₁.extBut _ _ D.TOz hb)
  refine wpAny_bind (wpAny_seqItems b₂ rfl ?_);refine wpAny_bind (wpAny_updateSeq_pair b₂ fun g₃ b₃ s₃=>?_)
  replace b₃:IsPair g₃ b x v:=b₃
  refine wpAny_bind (wpAny_letGo (wpAny_pure ?_));refine wpAny_bind (wpAny_bind (wpAny_onRaise ?_));show wpAny _ _ (Builtin.SmallTypes.nextOf (.ref i2) >>= _) _ _ _
  refine wpAny_bind (tupNext (((h2.extBut s₁.extBut D.i2z).extBut s₂.extBut D.i12.symm).extBut s₃.extBut D.TOi2.symm) (((t2.extBut s₁.extBut D.l2z).extBut s₂.extBut D.l2i1).extBut s₃.extBut D.l2TO) hy fun g₄ f₄ s₄=>wpAny_pure ?_)
  have b₄:IsPair g₄ b x v:=s₄.extBut _ _ D.TOi2 b₃
  refine wpAny_bind (wpAny_seqItems b₄ rfl ?_);refine wpAny_bind (wpAny_updateSeq_pair b₄ fun g₅ b₅ s₅=>?_)
  replace b₅:IsPair g₅ b x y:=b₅
  refine wpAny_bind (wpAny_letGo (wpAny_pure (wpAny_pure ?_)));refine wpAny_bind (wpAny_seqItems b₅ rfl ?_);refine wpAny_bind (wpAny_newTuple ?_)
  have sz:g₅.objs.size=s.heap.objs.size:=by rw [s₅.1,s₄.1,s₃.1,s₂.1,s₁.1]
  have e₅:IsZip g₅ z a b .ellipsis:=s₅.extBut _ _ D.TOz.symm (s₄.extBut _ _ D.i2z.symm (s₃.extBut _ _ D.TOz.symm (s₂.extBut _ _ D.i1z.symm e₁)))
  have k₅:∀ c o,c ≠ z->c ≠ b->c ≠ i1->c ≠ i2->s.heap.get? c=some o->g₅.get? c=some o:=fun c o c1 c2 c3 c4 e=>s₅.extBut _ _ c2 (s₄.extBut _ _ c4 (s₃.extBut _ _ c2 (s₂.extBut _ _ c3 (s₁.extBut _ _ c1 e))))
  have m₁:g₅.IsTupleIter i1 l1 (k + 1):=((f₂.extBut s₃.extBut D.TOi1.symm).extBut s₄.extBut D.i12).extBut s₅.extBut D.TOi1.symm
  have m₂:g₅.IsTupleIter i2 l2 (k + 1):=f₄.extBut s₅.extBut D.TOi2.symm
  have lz:z < g₅.objs.size:=Heap.lt_size e₅
  show wpAny _ _ (Builtin.SmallTypes.ownedTupleHandOut (.ref z) (.ref g₅.objs.size) >>= _) _ _ _;refine wpAny_bind ?_;unfold Builtin.SmallTypes.ownedTupleHandOut
  have e₆:IsZip (g₅.push { cls:=.type "tuple",data:=.seq #[x,y] }) z a b .ellipsis:=Heap.get?_push_of_some _ e₅
  refine wpAny_bind (wpAny_setField_rec e₆ (by simp) fun g₇ e₇ s₇=>?_)
  replace e₇:IsZip g₇ z a b (rawInt g₅.objs.size):=e₇
  refine wpAny_setField_rec e₇ (by simp) fun g₈ e₈ s₈=>?_
  replace e₈:IsZip g₈ z a b (rawInt g₅.objs.size):=e₈
  have up:∀ c o,c ≠ z->g₅.get? c=some o->g₈.get? c=some o:=fun c o c1 e=>s₈.extBut _ _ c1 (s₇.extBut _ _ c1 (Heap.get?_push_of_some _ e))
  have p₈:IsPair g₈ g₅.objs.size x y:=s₈.extBut _ _ (Nat.ne_of_gt lz) (s₇.extBut _ _ (Nat.ne_of_gt lz) (Heap.get?_push_size _ rfl))
  rw [sz] at e₈ p₈
  refine wpAny_pure ⟨_,rfl,wpAny_pure ?_⟩
  show Q (some (.ref g₅.objs.size)) _;rw [sz]
  have all:∀ c o,c ≠ z->c ≠ b->c ≠ i1->c ≠ i2->s.heap.get? c=some o->g₈.get? c=some o:=fun c o c1 c2 c3 c4 e=>up c o c1 (k₅ c o c1 c2 c3 c4 e)
  exact kq g₈ ⟨e₈,all _ _ D.TIz D.TITO D.TIi1 D.TIi2 ha,⟨_,_,up _ _ D.TOz b₅⟩,m₁.at fun o e=>up _ o D.i1z e,m₂.at fun o e=>up _ o D.i2z e,t1.at fun o e=>all _ o D.l1z D.l1TO D.l1i1 D.l1i2 e,t2.at fun o e=>all _ o D.l2z D.l2TO D.l2i1 D.l2i2 e⟩ p₈ all
theorem zipEnd {z a b i1 i2 l1 l2:Addr} {k:Nat} {xs ys:Array Value} {Q:Option Value->Shared->Prop} (hh:A.handled=none) (D:ZipApart z a b i1 i2 l1 l2) (Z:ZipAt s.heap z a b i1 i2 l1 l2 xs ys k .none) (hx:xs[k]?=none)
    (kq:∀ g,(∀ c o,c ≠ z->c ≠ b->c ≠ i1->c ≠ i2->s.heap.get? c=some o->g.get? c=some o)->Q none { s with heap:=g }):wpAny (model prog w) A (pyNext (.ref z)) Q E s:=by
  obtain ⟨hz,ha,⟨u,v,hb⟩,h1,h2,t1,t2⟩:=Z
  have hT:s.TypeIs (.ref z) "zip" := ⟨_,hz,rfl⟩
  unfold pyNext
  refine wpAny_bind (wpAny_attempt (wpAny_callSpecial?_slot (name:=Str.ofString "__next__") hT F.slot_zip_next (wpAny_call_entry F.slot_zip_next hT F.entry_zip_next ?_ (F.args_zip_next_1 _))))
  show wpAny _ _ (field (.ref z) 2 >>= _) _ _ _;refine wpAny_bind (wpAny_field hz rfl (x:=.bool false) rfl ?_);show wpAny _ _ (field (.ref z) 3 >>= _) _ _ _
  refine wpAny_bind (wpAny_field hz rfl (x:=.ref a) rfl ?_);refine wpAny_bind (wpAny_seqItems ha rfl ?_);show wpAny _ _ (Builtin.SmallTypes.ownedTupleIsFree (.ref z) >>= _) _ _ _
  refine wpAny_bind ?_;unfold Builtin.SmallTypes.ownedTupleIsFree;refine wpAny_bind (wpAny_field hz rfl (x:=.none) rfl (wpAny_pure ?_))
  simp only [if_true];refine wpAny_bind (wpAny_rule ?_);refine wpAny_bind (wpAny_field hz rfl (x:=.ref b) rfl ?_)
  refine wpAny_bind (wpAny_setField_rec hz (by simp) fun g₁ e₁ s₁=>?_)
  replace e₁:IsZip g₁ z a b .ellipsis:=e₁
  refine wpAny_bind ?_;simp only [List.zipIdx_cons,List.zipIdx_nil,List.forIn_cons,List.forIn_nil]
  refine wpAny_bind (wpAny_bind (wpAny_onRaise ?_));show wpAny _ _ (Builtin.SmallTypes.nextOf (.ref i1) >>= _) _ _ _
  refine wpAny_bind (tupEnd hh (h1.extBut s₁.extBut D.i1z) (t1.extBut s₁.extBut D.l1z) hx fun g₂ e s₂ he=>?_)
  obtain ⟨oe,he1,he2⟩:=he
  have e₂:IsZip g₂ z a b .ellipsis:=s₂ _ _ D.i1z.symm e₁
  have hez:e ≠ z:=fun x=>by subst x;rw [e₂] at he1;cases he1;simp at he2
  refine wpAny_setField_rec e₂ (by simp) fun g₃ _ s₃=>?_
  refine wpAny_bind (wpAny_isInstance (T := "StopIteration") (b:=true) ⟨oe,s₃.extBut _ _ hez he1,he2⟩ isSubtype_stop ?_)
  exact wpAny_pure (kq _ fun c o c1 _ c3 _ x=>s₃.extBut _ _ c1 (s₂ _ _ c3 (s₁.extBut _ _ c1 x)))
noncomputable abbrev zh (h:Heap) (l:Addr):Heap:=h.push { cls:=.type "tuple_iterator",data:=.fields #[.ref l,.int 0 0] }
theorem zipNewMeets (l1 l2:Addr) (xs ys:Array Value) :
    Meets (Builtin.«zip.__new__» ⟨[.type "zip",.ref l1,.ref l2],[]⟩) (fun _ R s=>s.heap.IsTuple l1 xs/\s.heap.IsTuple l2 ys/\∀ g,g=(((zh (zh s.heap l1) l2).push { cls:=.type "tuple",data:=.seq #[.ref s.heap.objs.size,.ref (zh s.heap l1).objs.size] }).push { cls:=.type "tuple",data:=.seq #[.none,.none] }) ->
      R (.ok (.ret (.ref g.objs.size))) { s with heap:=g.push { cls:=.type "zip",data:=.fields #[.none,.bool false,.bool false,.ref (zh (zh s.heap l1) l2).objs.size,.ref ((zh (zh s.heap l1) l2).push { cls:=.type "tuple",data:=.seq #[.ref s.heap.objs.size,.ref (zh s.heap l1).objs.size] }).objs.size] } }) :=
  .of_wp fun prog w A R s h=>by
    obtain ⟨hp,g,d,tk,os⟩:=s;obtain ⟨q1,q2,h⟩:=h
    have hsub:=sub_zip
    have L1:Heap.IsTuple (Shared.heap ⟨hp,g,d,tk,os⟩) l1 xs:=q1
    have L2:Heap.IsTuple (Shared.heap ⟨zh hp l1,g,d,tk,os⟩) l2 ys:=q2.at fun o e=>Heap.get?_push_of_some _ e
    wp_walk using wpAny_pyIter_tuple L1,wpAny_pyIter_tuple L2
    exact ⟨_,rfl,h _ rfl⟩
theorem callZip {l1 l2:Addr} {xs ys:Array Value} {Q:Value->Shared->Prop} (h1:s.heap.IsTuple l1 xs) (h2:s.heap.IsTuple l2 ys)
    (k:∀ g,ZipAt g (s.heap.objs.size + 4) (s.heap.objs.size + 2) (s.heap.objs.size + 3) s.heap.objs.size (s.heap.objs.size + 1) l1 l2 xs ys 0 .none->(∀ c o,s.heap.get? c=some o->g.get? c=some o)->Q (.ref (s.heap.objs.size + 4)) { s with heap:=g }) :
    wpAny (model prog w) A (call (.type "zip") [.ref l1,.ref l2]) Q E s:=by
  refine callType_new F.called_zip (by decide) (F.typeCall_zip_2 _ _) (F.newCall_zip_2 _ _) (fun obj=>F.args_object_init_3 obj _ _) F.entry_zip_new (zipNewMeets l1 l2 xs ys) ⟨h1,h2,fun g hg=>?_⟩
  generalize e1:zh s.heap l1=a1 at *
  generalize e2:zh a1 l2=a2 at *
  generalize e3:a2.push { cls:=.type "tuple",data:=.seq #[.ref s.heap.objs.size,.ref a1.objs.size] }=a3 at *
  have n1:a1.objs.size=s.heap.objs.size + 1:=by rw [<- e1];exact Heap.size_push ..
  have n2:a2.objs.size=s.heap.objs.size + 2:=by rw [<- e2,Heap.size_push,n1]
  have n3:a3.objs.size=s.heap.objs.size + 3:=by rw [<- e3,Heap.size_push,n2]
  have n4:g.objs.size=s.heap.objs.size + 4:=by rw [hg,Heap.size_push,n3]
  have up1:∀ c o,s.heap.get? c=some o->a1.get? c=some o:=fun c o x=>e1 ▸ Heap.get?_push_of_some _ x
  have up2:∀ c o,a1.get? c=some o->a2.get? c=some o:=fun c o x=>e2 ▸ Heap.get?_push_of_some _ x
  have up3:∀ c o,a2.get? c=some o->a3.get? c=some o:=fun c o x=>e3 ▸ Heap.get?_push_of_some _ x
  have up4:∀ c o,a3.get? c=some o->g.get? c=some o:=fun c o x=>hg ▸ Heap.get?_push_of_some _ x
  have x1:a1.get? s.heap.objs.size=some { cls:=.type "tuple_iterator",data:=.fields #[.ref l1,.int 0 0] }:=e1 ▸ Heap.get?_push_size _ rfl
  have x2:a2.get? (s.heap.objs.size + 1)=some { cls:=.type "tuple_iterator",data:=.fields #[.ref l2,.int 0 0] }:=by rw [<- n1];exact e2 ▸ Heap.get?_push_size _ rfl
  have x3:a3.get? (s.heap.objs.size + 2)=some { cls:=.type "tuple",data:=.seq #[.ref s.heap.objs.size,.ref a1.objs.size] }:=by rw [<- n2];exact e3 ▸ Heap.get?_push_size _ rfl
  have x4:g.get? (s.heap.objs.size + 3)=some { cls:=.type "tuple",data:=.seq #[.none,.none] }:=by rw [<- n3];exact hg ▸ Heap.get?_push_size _ rfl
  have x5:(g.push { cls:=.type "zip",data:=.fields #[.none,.bool false,.bool false,.ref a2.objs.size,.ref a3.objs.size] }).get? (s.heap.objs.size + 4)=some { cls:=.type "zip",data:=.fields #[.none,.bool false,.bool false,.ref a2.objs.size,.ref a3.objs.size] }:=by rw [<- n4];exact Heap.get?_push_size _ rfl
  rw [n2,n3] at x5
  rw [n1] at x3
  show _/\_
  rw [n4,n2,n3]
  have all:∀ c o,s.heap.get? c=some o->(g.push { cls:=.type "zip",data:=.fields #[.none,.bool false,.bool false,.ref (s.heap.objs.size + 2),.ref (s.heap.objs.size + 3)] }).get? c=some o:=fun c o x=>Heap.get?_push_of_some _ (up4 _ _ (up3 _ _ (up2 _ _ (up1 _ _ x))))
  refine ⟨⟨_,x5,rfl⟩,k _ ⟨x5,Heap.get?_push_of_some _ (up4 _ _ x3),⟨_,_,Heap.get?_push_of_some _ x4⟩,⟨_,Heap.get?_push_of_some _ (up4 _ _ (up3 _ _ (up2 _ _ x1))),rfl,rfl⟩,⟨_,Heap.get?_push_of_some _ (up4 _ _ (up3 _ _ x2)),rfl,rfl⟩,h1.at fun o e=>all _ o e,h2.at fun o e=>all _ o e⟩ all⟩
end
end L2
end
section
namespace L2
open PySem PySem.Spec PyProof.Rows
noncomputable def Itz (K:PySem.W.Frag) (l1 l2:Addr):It :=
  ⟨fun i H=>∃ xs ys x y,SqT K H l1 xs/\SqT K H l2 ys/\xs[i]?=some x/\ys[i]?=some y,
   fun i H v H'=>∃ p,H p=none/\v = .ref p/\∀ xs ys x y,SqT K H l1 xs->SqT K H l2 ys->xs[i]?=some x->ys[i]?=some y->H'=upd H p (.tup [x,y]),
   fun i H=>∃ xs,SqT K H l1 xs/\xs.length<=i/\∃ ys,SqT K H l2 ys⟩
noncomputable def znt (z a b i1 i2 l1 l2:Addr) (i:Nat) (h:Heap):Prop:=IsZip h z a b .none/\IsPair h a (.ref i1) (.ref i2)/\(∃ u v,IsPair h b u v)/\h.IsTupleIter i1 l1 i/\h.IsTupleIter i2 l2 i
theorem turn_zip {P : Program} {w : World} {K : PySem.W.Frag} {elts : List Expr} {x1} {pos : Pos} {z a b i1 i2 l1 l2 : Addr} (D : ZipApart z a b i1 i2 l1 l2) : Turn P w K (.Tuple elts x1 pos) (Itz K l1 l2) [z, a, b, i1, i2] z (znt z a b i1 i2 l1 l2) where
  mem:=by simp
  obj:=fun i h st c hc=>by
    obtain ⟨h1,h2,⟨u,v,h3⟩,⟨o4,h4,_,d4⟩,⟨o5,h5,_,d5⟩⟩:=st
    simp only [List.mem_cons,List.mem_nil_iff,or_false] at hc
    rcases hc with rfl | rfl | rfl | rfl | rfl
    . exact ⟨_,h1,fun v z=>by cases z⟩
    . exact ⟨_,h2,fun v z=>by cases z⟩
    . exact ⟨_,h3,fun v z=>by cases z⟩
    . exact ⟨_,h4,fun v z=>by rw [d4] at z;cases z⟩
    . exact ⟨_,h5,fun v z=>by rw [d5] at z;cases z⟩
  keep:=fun i h h' st k=>by
    obtain ⟨h1,h2,⟨u,v,h3⟩,h4,h5⟩:=st
    exact ⟨k _ (by simp) _ h1,k _ (by simp) _ h2,⟨u,v,k _ (by simp) _ h3⟩,h4.at fun o e=>k _ (by simp) o e,h5.at fun o e=>k _ (by simp) o e⟩
  item := by
    intro X hP hw hK hc i pins s σ H E I hf st hg
    subst hP hw hK
    obtain ⟨xs,ys,x,y,q1,q2,hx,hy⟩:=hg
    obtain ⟨its,rv,p,hz⟩:=I.tuple q1
    obtain ⟨its',rv',p',hz'⟩:=I.tuple q2
    obtain ⟨u,hu,ru⟩:=rv.get hx
    obtain ⟨u',hu',ru'⟩:=rv'.get hy
    obtain ⟨h1,h2,h3,h4,h5⟩:=id st
    refine zipNext D ⟨h1,h2,h3,h4,h5,p,p'⟩ (x:=u) (y:=u') (by simpa using hu) (by simpa using hu') fun g Z pr all=>⟨_,rfl,?_⟩
    refine wpAny_letOwnedTupleGo_zip (s:={ s with heap:=g }) Z.z fun g2 e2 s2=>?_
    have hn:H s.heap.objs.size=none:=I.hok.fresh (Nat.le_refl _)
    have lt:∀ c ∈ [z,a,b,i1,i2],c < s.heap.objs.size:=fun c hc=>by
      have:=(hf c hc)
      obtain ⟨w1,w2,⟨_,_,w3⟩,⟨_,w4,_⟩,⟨_,w5,_⟩⟩:=st
      simp only [List.mem_cons,List.mem_nil_iff,or_false] at hc
      rcases hc with rfl | rfl | rfl | rfl | rfl
      . exact Heap.lt_size w1
      . exact Heap.lt_size w2
      . exact Heap.lt_size w3
      . exact Heap.lt_size w4
      . exact Heap.lt_size w5
    have kp:∀ c o,c ∉ [z,a,b,i1,i2]->s.heap.get? c=some o->g2.get? c=some o:=fun c o hc e=>by
      simp only [List.mem_cons,List.mem_nil_iff,or_false,not_or] at hc
      exact s2.extBut _ _ hc.1 (all c o hc.1 hc.2.2.1 hc.2.2.2.1 hc.2.2.2.2 e)
    have trk:∀ c u,H c=some u->c ∉ [z,a,b,i1,i2]:=fun c u e hc=>by rw [(hf c hc).1] at e;cases e
    have pr2:g2.get? s.heap.objs.size=some { cls:=.type "tuple",data:=.seq #[u,u'] }:=s2.extBut _ _ (Nat.ne_of_gt (lt z (by simp))) pr
    have I2:Inv X pins σ (upd H s.heap.objs.size (.tup [x,y])) { s with heap:=g2 }:=by
      refine I.step (g':=s.gens) (d':=s.drawn) (t':=s.toks) (ch:=[z,a,b,i1,i2]) (fun c hc=>?_) (fun c o _ _ hc e _=>kp c o hc e) (fun c o _ _ hc e _=>⟨o.slots,kp c o hc e⟩) (fun c o _ e n=>?_)
        (fun c o hc e=>⟨o,kp c o hc e⟩) (fun c vs e=>?_) (fun c o vs e=>?_) (fun c ps e=>⟨#[],?_⟩) (fun m hm=>?_) (fun c v e=>?_) I.bare
      . obtain ⟨f0,f1,f2,f3,f4,f5⟩:=hf c hc
        exact ⟨f3,f1,f4,f5⟩
      . rw [upd_ne (Nat.ne_of_lt (Heap.lt_size e))];exact n
      . rw [upd_ne (ne_of_none e hn)];exact e
      . rw [upd_ne (ne_of_none e hn)];exact e
      . rw [upd_ne (ne_of_none e hn),e];simp
      . obtain ⟨o,es,ep,ho,r⟩:=hm
        exact ⟨o,es,ep,kp _ o (fun hc=>(hf _ hc).2.1 rfl) ho,r⟩
      . by_cases hb:c=s.heap.objs.size
        . subst hb
          rw [upd_same] at e;cases e
          exact ⟨by show 2<=sizeLine;decide,[u,u'],.cons ru (.cons ru' .nil),⟨_,pr2,rfl,_,rfl⟩⟩
        . rw [upd_ne hb] at e
          refine (I.hok c v e).stay (fun d o hd q=>kp d o ?_ q) (fun d q=>by rw [upd_ne (ne_of_none q hn)];exact q) fun d ts q=>by rw [upd_ne (ne_of_none q hn)];exact q
          rcases hd with rfl | hd
          . exact trk _ _ e
          . exact trk _ _ hd
    refine ⟨.ref s.heap.objs.size,_,I2,rfl,⟨_,hn,rfl,fun xs' ys' x' y' a1 a2 a3 a4=>?_⟩,⟨e2,s2.extBut _ _ D.TIz Z.a,?_,Z.i1.extBut s2.extBut D.i1z,Z.i2.extBut s2.extBut D.i2z⟩,fun c hc=>?_⟩
    . rw [I.tuple_inj a1 q1,hx] at a3
      rw [I.tuple_inj a2 q2,hy] at a4
      cases a3;cases a4;rfl
    . obtain ⟨v1,v2,e3⟩:=Z.b
      exact ⟨v1,v2,s2.extBut _ _ D.TOz e3⟩
    . rw [upd_ne (Nat.ne_of_lt (lt c hc))];exact (hf c hc).1
  done:=by
    intro X hP hw hK hc i pins s σ H E I hf st hg
    subst hP hw hK
    obtain ⟨xs,q1,hx,ys,q2⟩:=hg
    obtain ⟨its,rv,p,hz⟩:=I.tuple q1
    obtain ⟨its',rv',p',hz'⟩:=I.tuple q2
    obtain ⟨h1,h2,h3,h4,h5⟩:=id st
    have hl:=rv.length
    refine zipEnd (I.ok.hd hc) D ⟨h1,h2,h3,h4,h5,p,p'⟩ (by simp;omega) fun g all=>⟨rfl,?_⟩
    have kp:∀ c o,c ∉ [z,a,b,i1,i2]->s.heap.get? c=some o->g.get? c=some o:=fun c o hc e=>by
      simp only [List.mem_cons,List.mem_nil_iff,or_false,not_or] at hc
      exact all c o hc.1 hc.2.2.1 hc.2.2.2.1 hc.2.2.2.2 e
    have trk:∀ c u,H c=some u->c ∉ [z,a,b,i1,i2]:=fun c u e hc=>by rw [(hf c hc).1] at e;cases e
    refine I.step (g':=s.gens) (d':=s.drawn) (t':=s.toks) (ch:=[z,a,b,i1,i2]) (fun c hc=>?_) (fun c o _ _ hc e _=>kp c o hc e) (fun c o _ _ hc e _=>⟨o.slots,kp c o hc e⟩) (fun c o _ e n=>n)
        (fun c o hc e=>⟨o,kp c o hc e⟩) (fun c vs e=>e) (fun c o vs e=>e) (fun c ps e=>⟨#[],by rw [e];simp⟩) (fun m hm=>?_) (fun c v e=>?_) I.bare
    . obtain ⟨f0,f1,f2,f3,f4,f5⟩:=hf c hc
      exact ⟨f3,f1,f4,f5⟩
    . obtain ⟨o,es,ep,ho,r⟩:=hm
      exact ⟨o,es,ep,kp _ o (fun hc=>(hf _ hc).2.1 rfl) ho,r⟩
    . refine (I.hok c v e).stay (fun d o hd q=>kp d o ?_ q) (fun d q=>q) fun d ts q=>q
      rcases hd with rfl | hd
      . exact trk _ _ e
      . exact trk _ _ hd
  self:=fun _ _ _ _ _ st h=>wpAny_pyIter_zip st.1 h
section
variable {X:Cx}
noncomputable def iZip (K:PySem.W.Frag) (ta:TA):TI:=fun σ H R=>ta σ H fun vs H1=>∃ l1 l2,vs=[.ref l1,.ref l2]/\(∃ xs,SqT K H1 l1 xs)/\(∃ ys,SqT K H1 l2 ys)/\R (Itz K l1 l2) H1
theorem pi_zip {a b : Expr} {ta : TA} {p pos pt : Pos} {elts : List Expr} {x1} (hg : Gl X "zip") (hm : X.mg "zip" = none) (ha : PA X [a, b] ta) (hs : starEach [a, b] X.env = [(false, eval a X.env), (false, eval b X.env)] := by rfl) (hs2 : starEach [b] X.env = [(false, eval b X.env)] := by rfl) :
    PI X (.Tuple elts x1 pt) (.Call (.Name "zip" p) [a,b] [] pos) (iZip X.K ta):=by
  intro pins s σ H R I h
  refine Call_ (ld_blt I hg hm boot_zip (PyProof.Rows.callWith_type1 (thn (ha pos pins s σ H _ I h) fun us s1 ⟨vs,H1,I1,r1,q1⟩=>?_) (by rw [hs,hs2]) (by rw [hs2];rfl)))
  obtain ⟨l1,l2,e,⟨xs,q1⟩,⟨ys,q2⟩,q⟩:=q1
  subst e
  cases r1 with
  | cons r rr =>
    cases rr with
    | cons r' rr =>
      cases rr
      cases (show _=Value.ref l1 from r)
      cases (show _=Value.ref l2 from r')
      obtain ⟨its,rv,p1,_⟩:=I1.tuple q1
      obtain ⟨its',rv',p2,_⟩:=I1.tuple q2
      have a1:l1 < s1.heap.objs.size:=by obtain ⟨_,e,_⟩:=p1;exact Heap.lt_size e
      have a2:l2 < s1.heap.objs.size:=by obtain ⟨_,e,_⟩:=p2;exact Heap.lt_size e
      refine callZip (show s1.heap.IsTuple l1 its.toArray from p1) (show s1.heap.IsTuple l2 its'.toArray from p2) fun g Z all=>?_
      refine wpAny_pyIter_zip (s:={ s1 with heap:=g }) Z.z ?_
      refine ⟨_,_,_,_,H1,rfl,I1.kept (t':=s1.toks) all,turn_zip (PyProof.Rows.zipApart_new a1 a2),⟨Z.z,Z.a,Z.b,Z.i1,Z.i2⟩,fun b hb=>?_,q⟩
      have ge:s1.heap.objs.size<=b:=by
        simp only [List.mem_cons,List.mem_nil_iff,or_false] at hb
        rcases hb with rfl | rfl | rfl | rfl | rfl
        . exact Nat.le_add_right _ 4
        . exact Nat.le_add_right _ 2
        . exact Nat.le_add_right _ 3
        . exact Nat.le_refl _
        . exact Nat.le_add_right _ 1
      exact I1.fpOk ge (I1.hok.fresh ge)
end
end L2
end
section
namespace L2
open PySem PySem.Spec PyProof.Rows
theorem weight_in:∀ (ns:List Int) (n:Int),n ∈ ns->PySem.W.WData.weight (.int n)<=PySem.W.WData.weightAll (ns.map PySem.W.WData.int)
  | m :: ns, n, h => by
    rw [List.map_cons,PySem.W.WData.weightAll]
    rcases List.mem_cons.mp h with rfl | h
    . omega
    . have:=weight_in ns n h
      omega
theorem walkB {l:PySem.W.OpenLaw} {n k:Nat} {q:Program} {loose:List Str} {XP:(Str->Option Value)->Heap->Prop} {YP:World->Heap->Prop} {d:DefRec} {K:Params->PySem.W.Frag} {sp:PySem.W.Frag->Sp} {x:Str}
    (hn:l.most=some n) (hn2:n<=sizeLine) (hdf:d.params.defaults=[]) (hr:Room k callerA) (hY:∀ (w:World) (h:Heap),YP w h->(K w.params).In h)
    (F:∀ (w:World) (mg:Str->Option Value) (fa:Addr) (h:Heap),(K w.params).In h->h.Ns mainGlobals mg->mg d.name=some (.ref fa) ->
      ∃ fd:FuncData,(∀ (s:Shared) (u:Value),BindsTo s fd ⟨[u],[]⟩ [(x,u)])/\∀ base:Heap,(K w.params).In base->base.Ns mainGlobals mg->FnOk l.prog w (K w.params) mg base CX0 k fa fd [x] (sp (K w.params)))
    (hsp:∀ (K:PySem.W.Frag) (H:Hp) (a:Addr) (ns:List Int),ns.length<=n->(∀ v ∈ ns,Builtin.Int.intBits v<=2 ^ 20)->SqL K H a (ns.map V.int)->sp K [.ref a] H (fun v _=>v = .bl true) fun _ _ _=>False) :
    PySem.W.WalkO q loose XP YP l.row.toRowW d [] (fun f vs=>PySem.call f vs):=by
  intro w s₀ s₁ mg mb G Y fa o pm cd doc dV kV ho hd hcd hD hmg hg args vals as hpre hlay hrd hwl hlo
  obtain rfl:dV = .none:=PySem.W.Dflts.none hD hdf
  obtain rfl:kV = .none:=PySem.W.Dflts.noKw hD
  obtain ⟨a,vs,ns,rfl,rfl,hobj,hints,hlen⟩:=Att.script_of hn hpre hwl
  have bits:∀ v ∈ ns,Builtin.Int.intBits v<=2 ^ 20:=fun v hv=>by
    have h1:PySem.W.WData.layable (.list (ns.map PySem.W.WData.int))=true:=by
      have h2:[PySem.W.WData.list (ns.map PySem.W.WData.int)].all PySem.W.WData.layable=true:=hlay
      simpa only [List.all_cons,List.all_nil,Bool.and_true] using h2
    have h3:=(PySem.W.layableW_iff.mp h1).2.2
    have h4:=weight_in ns v hv
    rw [PySem.W.WData.weight] at h3
    have h5:PySem.W.WData.weight (.int v)=Builtin.Int.intBits v:=by first | rfl | simp only [PySem.W.WData.weight,Builtin.Int.intBits]
    omega
  have KX:=hY w _ Y
  obtain ⟨fd,hb,hF⟩:=F w mg fa _ KX G.T.g hmg
  have call:=law_call KX G.T.g G.T.b G.T.builtins G.T.nolimit hg hobj hints (Nat.le_trans hlen hn2) hr hF hb (fun H hO hS=>hsp (K w.params) H a ns hlen bits hS) fun H e s' z=>z
  refine PySem.W.enter_call (codeAny_mono call fun r s' hq=>?_)
  obtain ⟨rfl,h2,h3,h4⟩:=hq
  exact ⟨.inl ⟨.bool true,.bool true,[],rfl,fun _=>rfl,.bool true,Att.post_true l _,fun _=>⟨List.Pairwise.nil,fun _ hm=>(nomatch hm)⟩⟩,h2,h3,h4⟩
end L2
end
section
namespace L2
open PySem PySem.Spec PyProof.Rows
open PySem.W (Dat kqdP kqdPs kqdOk)
noncomputable def Tm (H H':Hp):Prop:=∀ (K:PySem.W.Frag) (a:Addr) (xs:List V),SqT K H a xs->SqT K H' a xs
theorem Tm.refl (H:Hp):Tm H H:=fun _ _ _ h=>h
theorem Tm.trans {H H1 H2:Hp} (a:Tm H H1) (b:Tm H1 H2):Tm H H2:=fun K c o h=>b K c o (a K c o h)
theorem Same.tm {H H':Hp} (e:Same H H'):Tm H H':=fun _ _ _ h=>e.tup h
theorem Tm.lst {H:Hp} {D:Addr} {ys:List V} (h:H D=some (.lst ys)) (o:HO):Tm H (upd H D o):=fun K a xs q=>by
  rcases q with (q | ⟨ob,q⟩) | q
  . exact .inl (.inl (by rw [upd_ne (ne_of q h (fun z=>by cases z))];exact q))
  . exact .inl (.inr ⟨ob,by rw [upd_ne (ne_of q h (fun z=>by cases z))];exact q⟩)
  . exact .inr q
noncomputable def SB (p:Addr) (H H':Hp):Prop:=∀ b o,b ≠ p->H b=some o->H' b=some o
theorem SB.refl (p:Addr) (H:Hp):SB p H H:=fun _ _ _ h=>h
theorem SB.trans {p:Addr} {H H1 H2:Hp} (a:SB p H H1) (b:SB p H1 H2):SB p H H2:=fun c o n h=>b c o n (a c o n h)
theorem SB.upd {p:Addr} {H:Hp} {o:HO}:SB p H (upd H p o):=fun b u n h=>by rw [upd_ne n];exact h
theorem SB.tm {p:Addr} {H H':Hp} {ys:List V} (e:SB p H H') (h:H p=some (.lst ys)):Tm H H':=fun K a xs q=>by
  rcases q with (q | ⟨ob,q⟩) | q
  . exact .inl (.inl (e _ _ (ne_of q h (fun z=>by cases z)) q))
  . exact .inl (.inr ⟨ob,e _ _ (ne_of q h (fun z=>by cases z)) q⟩)
  . exact .inr q
theorem Same.snoc {H H5:Hp} {D:Addr} {o:HO} (h:Same H H5) (hn:H D=Option.none):Same H (upd H5 D o):=fun b u e=>by rw [upd_ne (ne_of_none e hn)];exact h b u e
mutual
inductive Fz (K:PySem.W.Frag) (H:Hp):V->Dat->Prop
  | none:Fz K H .non .none
  | bool (b:Bool):Fz K H (.bl b) (.bool b)
  | int (i:Int):Fz K H (.int i) (.int i)
  | str (x:Str):Fz K H (.str x) (.str x)
  | tup {a:Addr} {xs:List V} {ds:List Dat}:SqT K H a xs->Fzs K H xs ds->Fz K H (.ref a) (.tuple ds)
inductive Fzs (K:PySem.W.Frag) (H:Hp):List V->List Dat->Prop
  | nil:Fzs K H [] []
  | cons {x:V} {d:Dat} {xs:List V} {ds:List Dat}:Fz K H x d->Fzs K H xs ds->Fzs K H (x :: xs) (d :: ds)
end
section
variable {K:PySem.W.Frag} {H H':Hp}
mutual
theorem Fz.tm (e:Tm H H'):∀ {v:V} {d:Dat},Fz K H v d->Fz K H' v d
  | _,_,.none=>.none
  | _,_,.bool b=>.bool b
  | _,_,.int i=>.int i
  | _,_,.str x=>.str x
  | _,_,.tup h r=>.tup (e _ _ _ h) (Fzs.tm e r)
theorem Fzs.tm (e:Tm H H'):∀ {v:List V} {d:List Dat},Fzs K H v d->Fzs K H' v d
  | _,_,.nil=>.nil
  | _,_,.cons h r=>.cons (Fz.tm e h) (Fzs.tm e r)
end
theorem Fzs.length:∀ {v:List V} {d:List Dat},Fzs K H v d->v.length=d.length
  | _,_,.nil=>rfl
  | _,_,.cons _ r=>by rw [List.length_cons,List.length_cons,Fzs.length r]
theorem Fzs.snoc:∀ {v:List V} {d:List Dat} {x:V} {e:Dat},Fzs K H v d->Fz K H x e->Fzs K H (v ++ [x]) (d ++ [e])
  | _,_,_,_,.nil,h=>.cons h .nil
  | _,_,_,_,.cons a r,h=>.cons a (Fzs.snoc r h)
theorem Fzs.ints_inv:∀ {vs:List V} {ns:List Int},Fzs K H vs (ns.map Dat.int)->vs=ns.map V.int
  | _,[],h=>by cases h;rfl
  | _,n :: ns,h=>by
    cases h with
    | cons a r =>
      cases a
      rw [Fzs.ints_inv r];rfl
end
section
variable {K:PySem.W.Frag} {te:TE} {σ:St} {H:Hp} {Q:VK}
theorem comp_by {J:It} {g:TG} {no n:Nat} (ds:List Dat) (hn:ds.length=n) (hz:n<=sizeLine) {Pσ:Nat->St->Prop} (h0:Pσ 0 (List.replicate no none ++ σ))
    (stop:∀ H',Same H H'->J.stop n H') (go:∀ i H',i < n->Same H H'->J.go i H')
    (turn:∀ i σ' H' d,ds[i]?=some d->Same H H'->Pσ i σ'->∀ x H2,J.yld i H' x H2->g x σ' H2 fun σ3 H3=>te σ3 H3 fun v H5=>Pσ (i + 1) σ3/\Same H' H5/\Fz K H5 v d)
    (mono:∀ x σ' H2 Q1 Q2,(∀ σ3 H3,Q1 σ3 H3->Q2 σ3 H3)->g x σ' H2 Q1->g x σ' H2 Q2) (monoE:∀ σ' H2 Q1 Q2,(∀ v H3,Q1 v H3->Q2 v H3)->te σ' H2 Q1->te σ' H2 Q2)
    (fin:∀ D H' ys,Same H H'->H' D=some (.lst ys)->H D=Option.none->Fzs K H' ys ds->Q (.ref D) H') :
    CompW no (J) g tAll te σ H Q:=by
  intro D hD
  refine ⟨fun i m σ' H'=>m=n - i/\i<=n/\Pσ i σ'/\Same H H'/\∃ ys,H' D=some (.lst ys)/\Fzs K H' ys (ds.take i),⟨n,by omega,Nat.zero_le _,h0,Same.new hD _,[],upd_same,.nil⟩,?_⟩
  rintro i m σ' H' ⟨rfl,hi,hp,hs,ys,hy,hf⟩
  by_cases hlt:i < n
  . refine .inr ⟨go i H' hlt hs,fun x H2 hy2=>?_⟩
    obtain ⟨d,hd⟩:∃ d,ds[i]?=some d:=⟨ds[i],by simp⟩
    refine mono _ _ _ _ _ (fun σ3 H3 h3=>?_) (turn i σ' H' d hd hs hp x H2 hy2)
    unfold tAll
    dsimp only
    rw [if_pos rfl]
    refine monoE _ _ _ _ (fun v H5 h5=>?_) h3
    obtain ⟨p5,s5,f5⟩:=h5
    have l:ys.length=i:=by rw [hf.length,List.length_take];omega
    refine ⟨ys,s5 _ _ hy,by omega,n - (i + 1),by omega,rfl,hlt,p5,(hs.trans s5).snoc hD,ys ++ [v],upd_same,?_⟩
    have tm:=Tm.lst (s5 _ _ hy) (.lst (ys ++ [v]))
    rw [List.take_add_one,hd]
    exact ((hf.tm s5.tm).tm tm).snoc (f5.tm tm)
  . have e:i=n:=by omega
    subst e
    refine .inl ⟨stop H' hs,fin D H' ys hs hy hD ?_⟩
    rw [<- hn,List.take_length] at hf
    exact hf
theorem gName_mono {i:Nat}:∀ x σ' H2 Q1 Q2,(∀ σ3 H3,Q1 σ3 H3->Q2 σ3 H3)->gName i x σ' H2 Q1->gName i x σ' H2 Q2:=fun _ _ _ _ _ h q=>h _ _ q
theorem comp_tup {a:Addr} {xs:List V} (ds:List Dat) (hS:SqT K H a xs) (hn:ds.length=xs.length) (hz:xs.length<=sizeLine)
    (turn:∀ (i:Nat) x H' d,xs[i]?=some x->ds[i]?=some d->Same H H'->te (some x :: σ) H' fun v H5=>Same H' H5/\Fz K H5 v d)
    (monoE:∀ σ' H2 Q1 Q2,(∀ v H3,Q1 v H3->Q2 v H3)->te σ' H2 Q1->te σ' H2 Q2)
    (fin:∀ D H' ys,Same H H'->H' D=some (.lst ys)->H D=Option.none->Fzs K H' ys ds->Q (.ref D) H') :
    CompW 1 (Itt K a) (gName 0) tAll te σ H Q:=by
  refine comp_by (J:=Itt K a) (K:=K) ds hn hz (Pσ:=fun _ σ'=>∃ o,σ'=o :: σ) ⟨none,rfl⟩ (fun H' s=>⟨xs,s.tup hS,Nat.le_refl _⟩) (fun i H' hi s=>⟨xs,xs[i],s.tup hS,by simp [hi]⟩) ?_ gName_mono monoE fin
  rintro i σ' H' d hd s ⟨o,rfl⟩ x H2 ⟨rfl,hy⟩
  have hx:=hy xs (s.tup hS)
  refine monoE _ _ _ _ (fun v H3 h=>?_) (turn i x H2 d hx hd s)
  exact ⟨⟨_,rfl⟩,h⟩
noncomputable def gPair (K:PySem.W.Frag):TG:=gTup K 2 (gCons (gName 0) (gCons (gName 1) gNil))
theorem comp_zip {l1 l2:Addr} {xs ys:List V} (ds:List Dat) (h1:SqT K H l1 xs) (h2:SqT K H l2 ys) (hl:ys.length=xs.length) (hn:ds.length=xs.length) (hz:xs.length<=sizeLine)
    (turn:∀ (i:Nat) x y H' d,xs[i]?=some x->ys[i]?=some y->ds[i]?=some d->Same H H'->te (some x :: some y :: σ) H' fun v H5=>Same H' H5/\Fz K H5 v d)
    (monoE:∀ σ' H2 Q1 Q2,(∀ v H3,Q1 v H3->Q2 v H3)->te σ' H2 Q1->te σ' H2 Q2)
    (fin:∀ D H' ys,Same H H'->H' D=some (.lst ys)->H D=Option.none->Fzs K H' ys ds->Q (.ref D) H') :
    CompW 2 (Itz K l1 l2) (gPair K) tAll te σ H Q:=by
  refine comp_by (J:=Itz K l1 l2) (K:=K) ds hn hz (Pσ:=fun _ σ'=>∃ o p,σ'=o :: p :: σ) ⟨none,none,rfl⟩ (fun H' s=>⟨xs,s.tup h1,Nat.le_refl _,ys,s.tup h2⟩) (fun i H' hi s=>⟨xs,ys,xs[i],ys[i],s.tup h1,s.tup h2,by simp [hi],by simp [hl,hi]⟩) ?_ ?_ monoE fin
  . rintro i σ' H' d hd s ⟨o,o',rfl⟩ x H2 ⟨p,hp,rfl,hy⟩
    have hi:i < xs.length:=by
      have:=(List.getElem?_eq_some_iff.mp hd).1
      omega
    have ex:xs[i]?=some xs[i]:=by simp [hi]
    have ey:ys[i]?=some (ys[i]'(by omega)):=by simp [hl,hi]
    have e2:=hy xs ys _ _ (s.tup h1) (s.tup h2) ex ey
    subst e2
    have s2:Same H' (upd H' p (.tup [xs[i],ys[i]'(by omega)])):=Same.new hp _
    refine ⟨p,_,rfl,SqT.of upd_same,rfl,_,_,rfl,_,_,rfl,rfl,?_⟩
    refine monoE _ _ _ _ (fun v H3 h=>?_) (turn i _ _ _ d ex ey hd (s.trans s2))
    exact ⟨⟨_,_,rfl⟩,s2.trans h.1,h.2⟩
  . rintro x σ' H2 Q1 Q2 hq ⟨a,vs,e1,e2,e3,v1,r1,e4,v2,r2,e5,e6,q⟩
    exact ⟨a,vs,e1,e2,e3,v1,r1,e4,v2,r2,e5,e6,hq _ _ q⟩
theorem pg_pair {X:Cx} {own:List Str} {scope:Scope} {C:Addr} {fp:List Addr} {s:Shared} {H:Hp} {x y:Str} {px py pos:Pos} {k:Nat} (hc:X.calm=true) (nd:(cxComp X own scope C fp s H).N.Nodup) (h0:(cxComp X own scope C fp s H).N[0]?=some x) (h1:(cxComp X own scope C fp s H).N[1]?=some y)
    (l0:(cxComp X own scope C fp s H).env.scope.names.lookup x=some .local) (l1:(cxComp X own scope C fp s H).env.scope.names.lookup y=some .local):PG (cxComp X own scope C fp s H) (.Tuple [.Name x px,.Name y py] k pos) (gPair X.K) :=
  pg_tup (X:=cxComp X own scope C fp s H) (n:=2) hc (pgs_cons (pg_name (i:=0) nd h0 (Or.inl l0) (Or.inr l0)) (pgs_cons (pg_name (i:=1) nd h1 (Or.inl l1) (Or.inr l1)) pgs_nil))
end
end L2
end
section
namespace L2
open PySem PySem.Spec PyProof.Rows
section
variable {X:Cx} {es:List Expr} {t:TA} {te:TE}
theorem pa_i {i:Int} {j:Nat} {p:Pos} (hr:PA X es t):PA X (.Constant (.int i) j p :: es) (tCons (tC (.int i)) t):=pa_cons pe_int hr rfl
theorem pa_n {x:Str} {p:Pos} (ha:PE X (.Name x p) te) (hr:PA X es t):PA X (.Name x p :: es) (tCons te t):=pa_cons ha hr rfl
theorem pa_b {a b:Expr} {op:Operator} {p:Pos} (ha:PE X (.BinOp a op b p) te) (hr:PA X es t):PA X (.BinOp a op b p :: es) (tCons te t):=pa_cons ha hr rfl
theorem pa_u {a:Expr} {op:UnaryOp} {p:Pos} (ha:PE X (.UnaryOp op a p) te) (hr:PA X es t):PA X (.UnaryOp op a p :: es) (tCons te t):=pa_cons ha hr rfl
theorem pa_s {a b:Expr} {p:Pos} (ha:PE X (.Subscript a b p) te) (hr:PA X es t):PA X (.Subscript a b p :: es) (tCons te t):=pa_cons ha hr rfl
theorem pa_c {f:Expr} {a:List Expr} {k:List Keyword} {p:Pos} (ha:PE X (.Call f a k p) te) (hr:PA X es t):PA X (.Call f a k p :: es) (tCons te t):=pa_cons ha hr rfl
theorem pa_t {a:List Expr} {p:Pos} {k:Nat} (ha:PE X (.Tuple a k p) te) (hr:PA X es t):PA X (.Tuple a k p :: es) (tCons te t):=pa_cons ha hr rfl
theorem pix_call {f:Expr} {a:List Expr} {k:List Keyword} {p:Pos}:PlainIx (.Call f a k p):=fun _ _=>rfl
theorem sw_sub {a b:Expr} {p:Pos} {t:Option Expr} {l:Nat} {env:Env}:swapsWith (.Subscript a b p) t l env=pure false:=rfl
end
end L2
end
section
namespace L2
open PySem PySem.Spec PyProof.Rows
open PySem.W (Dat)
noncomputable def Src (J:It) (H:Hp) (xs:List V):Prop:=∀ H',Same H H'->J.stop xs.length H'/\∀ i x,xs[i]?=some x->J.go i H'/\∀ y H2,J.yld i H' y H2->H'=H2/\x=y
section
variable {K:PySem.W.Frag} {H:Hp} {J:It} {xs:List V}
theorem src_tup {a:Addr} (h:SqT K H a xs):Src (Itt K a) H xs:=fun H' s=>⟨⟨xs,s.tup h,Nat.le_refl _⟩,fun i x hx=>⟨⟨xs,x,s.tup h,hx⟩,fun y H2 ⟨e,q⟩=>⟨e.symm,by
  have:=q xs (s.tup h)
  rw [hx] at this;cases this;rfl⟩⟩⟩
end
theorem kqd_ints (ns:List Int) (n:Nat):(ns.map Dat.int).all (PySem.W.kqdOk n)=true:=by
  rw [List.all_map,List.all_eq_true]
  intro x _
  cases n <;> rfl
theorem kqd_tup {ns:List Int}:PySem.W.kqdOk 9 (.tuple (ns.map .int))=true:=kqd_ints ns 8
theorem map_int_inj {ns ms:List Int} (h:ns.map Dat.int=ms.map Dat.int):ns=ms:=by
  induction ns generalizing ms with
  | nil=>cases ms with
    | nil=>rfl
    | cons b r=>cases h
  | cons a r ih=>cases ms with
    | nil=>cases h
    | cons b r' =>
      rw [List.map_cons,List.map_cons] at h
      injection h with h1 h2
      injection h1 with h1
      rw [h1,ih h2]
theorem deq_tup {ns ms:List Int}:deq (.tuple (ns.map .int)) (.tuple (ms.map .int))=decide (ns=ms):=by
  by_cases h:ns=ms
  . subst h;rw [deq_self,decide_eq_true rfl]
  . rw [decide_eq_false h]
    exact deq_ne fun z=>h (map_int_inj (by injection z))
end L2
end
section
namespace L2
open PySem PySem.Spec PyProof.Rows
noncomputable def DefAt (K:PySem.W.Frag) (x:Str) (st:Stmt):Prop:=∃ (f:Addr) (oc:Value) (od:Option Addr) (kV dc pm:Value) (an:Option Addr) (cd ct:Value) (sl:Array (Option Value)),
  PySem.W.nsIn K mainGlobals x=some (some (.ref f))/\K.lookup f=some ⟨oc,od,.func (PySem.W.fnOf x x (defArgs st) (defBody st) (defScope st) .none kV dc pm an cd ct),sl⟩/\PySem.W.codeIn K cd x=true/\PySem.W.keepIn K (.ref f)=true
theorem DefAt.mk {K:PySem.W.Frag} {x:Str} {st:Stmt} {f:Addr} {oc:Value} {od:Option Addr} {kV dc pm:Value} {an:Option Addr} {cd ct:Value} {sl:Array (Option Value)} (a:PySem.W.nsIn K mainGlobals x=some (some (.ref f)))
    (l:K.lookup f=some ⟨oc,od,.func (PySem.W.fnOf x x (defArgs st) (defBody st) (defScope st) .none kV dc pm an cd ct),sl⟩) (c:PySem.W.codeIn K cd x=true) (k:PySem.W.keepIn K (.ref f)=true):DefAt K x st:=⟨f,oc,od,kV,dc,pm,an,cd,ct,sl,a,l,c,k⟩
theorem DefAt.get {K:PySem.W.Frag} {x:Str} {st:Stmt} {h:Heap} {mg:Str->Option Value} (d:DefAt K x st) (X:K.In h) (G:h.Ns mainGlobals mg):∃ (f:Addr) (fd:FuncData),Fun K x x st f fd/\mg x=some (.ref f)/\PySem.W.keepIn K (.ref f)=true:=by
  obtain ⟨f,oc,od,kV,dc,pm,an,cd,ct,sl,a,l,c,k⟩:=d
  exact ⟨f,_,fun_mk l c k,PySem.W.mg_of X G a,k⟩
theorem DefAt.law {K:PySem.W.Frag} {x y:Str} {st:Stmt} {h:Heap} {mg:Str->Option Value} {fa:Addr} (d:DefAt K x st) (X:K.In h) (G:h.Ns mainGlobals mg) (hfa:mg x=some (.ref fa))
    (hb:∀ (kV doc pm:Value) (an:Option Addr) (cdv ct:Value) (u:Value),bindArgs (PySem.W.fnOf x x (defArgs st) (defBody st) (defScope st) .none kV doc pm an cdv ct) ⟨[u],[]⟩=pure [(y,u)]):∃ (fd:FuncData),Fun K x x st fa fd/\∀ (s:Shared) (v:Value),BindsTo s fd ⟨[v],[]⟩ [(y,v)]:=by
  obtain ⟨f,oc,od,kV,dc,pm,an,cd,ct,sl,a,l,c,k⟩:=d
  have e:=hfa.symm.trans (PySem.W.mg_of X G a)
  cases e
  exact ⟨_,fun_mk l c k,fun s v=>.of_eq (hb kV dc pm an cd ct v)⟩
end L2
end
section
namespace L2
open PySem PySem.Spec PyProof.Rows
structure ZE (X:Cx) (e:Expr) (t:TE):Prop where out:PE X e t
structure ZT (X:Cx) (e:Expr) (t:TT):Prop where out:PT X e t
structure ZW (X:Cx) (e:Expr) (t:TT):Prop where out:PW X e t
structure ZA (X:Cx) (es:List Expr) (t:TA):Prop where out:PA X es t
structure ZS (X:Cx) (st:Stmt) (t:TS):Prop where out:PS X st t
structure ZSs (X:Cx) (st:List Stmt) (t:TS):Prop where out:PSs X st t
structure ZG (X:Cx) (e:Expr) (t:TG):Prop where out:PG X e t
structure ZGs (X:Cx) (es:List Expr) (t:TGs):Prop where out:PGs X es t
structure ZI (X:Cx) (tg iter:Expr) (wi:TI):Prop where out:PI X tg iter wi
structure ZTs (X:Cx) (es:List Expr) (t:TT):Prop where out:PTs X es t
structure ZO (X:Cx) (e:Option Expr) (t:TO):Prop where out:PO X e t
section
variable {X:Cx} {a b c e tg:Expr} {es:List Expr} {te ta tb tc:TE} {t:TA} {pos p p2:Pos} {x:Str}
theorem zss_nil:ZSs X [] tNext:=⟨pss_nil⟩
theorem zss_cons {st:Stmt} {rest:List Stmt} {t u:TS} (h1:ZS X st t) (h2:ZSs X rest u):ZSs X (st :: rest) (tSeq t u):=⟨pss_cons h1.out h2.out⟩
theorem zss_one {st:Stmt} {t:TS} (h1:ZS X st t):ZSs X [st] t:=⟨pss_one h1.out⟩
theorem zs_set {i:Nat} {pos':Pos} (hN:X.N.Nodup) (hi:X.N[i]?=some x) (hx:Loc X.env.scope x) (he:ZE X e te) (hs:swapsWith e (some (.Name x pos')) pos.line X.env=pure false:=by rfl) (hf:X.fn x=true\/X.env.scope.names.lookup x=some .local:=by first | exact .inl rfl | exact .inr rfl | assumption) :
    ZS X (.Assign [.Name x pos'] e pos) (tAsg te (gName i)):=⟨ps_set hN hi hx he.out hs hf⟩
theorem zs_for {iter:Expr} {body:List Stmt} {wi:TI} {g:TG} {tb:TS} (hp:PassesOwn (model X.prog X.w) X.A X.env X.xe) (hc:X.calm=true) (hi:ZI X tg iter wi) (hg:ZG X tg g) (hb:ZSs X body tb)
    (hs:∀ x,foldedSetIterable iter X.env x=pure x:=by intro _;rfl):ZS X (.For tg iter body [] pos) (tFor wi g tb):=⟨ps_for hp hc hi.out hg.out hb.out hs⟩
theorem zs_while {body:List Stmt} {tc:TT} {tb:TS} (hp:PassesOwn (model X.prog X.w) X.A X.env X.xe) (hc:ZT X c tc) (hb:ZSs X body tb):ZS X (.While c body [] pos) (tWhile tc tb):=⟨ps_while hp hc.out hb.out⟩
theorem zs_if {l m:List Stmt} {tc:TT} {t u:TS} (hc:ZT X c tc) (ha:ZSs X l t) (hb:ZSs X m u):ZS X (.If c l m pos) (tIfS tc t u):=⟨ps_if hc.out ha.out hb.out⟩
theorem zs_ret (he:ZE X e te):ZS X (.Return (some e) pos) (tRet te):=⟨ps_ret he.out⟩
theorem zs_expr (he:ZE X e te) (hs:swapsWith e none pos.line X.env=pure false:=by rfl):ZS X (.Expr e pos) (tDrop te):=⟨ps_expr he.out hs⟩
theorem zs_asg {g:TG} (he:ZE X e te) (hg:ZG X tg g) (hs:swapsWithSole [tg] e pos.line X.env=pure false:=by rfl) (hw:swappedStores [tg] e X.env=pure none:=by rfl)
    (h1:(assignEach [tg] X.env).map (·.2)=[assign tg X.env]:=by rfl):ZS X (.Assign [tg] e pos) (tAsg te g):=⟨ps_asg he.out hg.out hs hw h1⟩
theorem zs_par {i j:Nat} {y:Str} {ta:TA} {px py pt:Pos} {kt k2 pt2} (hc:X.calm=true) (hN:X.N.Nodup) (hi:X.N[i]?=some x) (hj:X.N[j]?=some y) (hij:i ≠ j)
    (hx:X.env.scope.names.lookup x=some .local) (hy:X.env.scope.names.lookup y=some .local) (ha:ZA X [a,b] ta)
    (hw:swappedStores [.Tuple [.Name x px,.Name y py] kt pt] (.Tuple [a,b] k2 pt2) X.env=pure (some [x,y]))
    (hs:swapsWithSole [.Tuple [.Name x px,.Name y py] kt pt] (.Tuple [a,b] k2 pt2) pos.line X.env=pure false:=by rfl) :
    ZS X (.Assign [.Tuple [.Name x px,.Name y py] kt pt] (.Tuple [a,b] k2 pt2) pos) (tPar i j ta):=⟨ps_par hc hN hi hj hij hx hy ha.out hw hs⟩
theorem ze_int {i j}:ZE X (.Constant (.int i) j pos) (tC (.int i)):=⟨pe_int⟩
theorem ze_bl {b j}:ZE X (.Constant (.bool b) j pos) (tC (.bl b)):=⟨pe_bl⟩
theorem zv (i:Nat) (hN:X.N[i]?=some x:=by rfl) (hv:Vis X.env.scope x:=by first | exact Or.inl rfl | exact Or.inr (Or.inl rfl) | exact Or.inr (Or.inr rfl)) (hd:(x == ("__debug__" : Str))=false:=by decide)
    (hcd:(x == ("__classdict__" : Str))=false:=by decide):ZE X (.Name x pos) (tVar i):=⟨pe_var hN hv hd hcd⟩
theorem ze_glob {v:V} {u:Value} (hg:Gl X x) (hm:X.mg x=some u) (r:RelV v u) (hd:(x == ("__debug__" : Str))=false:=by decide):ZE X (.Name x pos) (tC v):=⟨pe_glob hg hm r hd⟩
theorem ze_op {op:Operator} {r:R2} (ho:OpR X (binaryOp op) r) (ha:ZE X a ta) (hb:ZE X b tb):ZE X (.BinOp a op b pos) (tOp r ta tb):=⟨pe_op ho ha.out hb.out⟩
theorem ze_un {op:UnaryOp} {r:V->Hp->VK->Prop} (ho:UnR X (unaryOp op) r) (ha:ZE X a ta):ZE X (.UnaryOp op a pos) (tUn r ta):=⟨pe_un ho ha.out⟩
theorem ze_cmpR {op:CmpOp} {r:R2} (ho:OpR X (compareOp op) r) (ha:ZE X a ta) (hb:ZE X b tb) (hm:behindInMarks op b=false):ZE X (.Compare a [op] [b] pos) (tOp r ta tb):=⟨pe_cmpR ho ha.out hb.out hm⟩
theorem zt_cmpR {op:CmpOp} {r:R2} (ho:OpR X (compareOp op) r) (ha:ZE X a ta) (hb:ZE X b tb) (hm:behindInMarks op b=false):ZT X (.Compare a [op] [b] pos) (tTest (tOp r ta tb)):=⟨pt_cmpR ho ha.out hb.out hm⟩
theorem zt_val {t:TE} (h:ZE X e t) (he:∀ whole,isTrue e X.env whole=(do let v <- whole;standAt e.pos;holding [v] (truthy v)):=by intro _;rfl):ZT X e (tB t):=⟨pt_val h.out he⟩
theorem zt_not {tA:TT} (ha:ZT X a tA):ZT X (.UnaryOp .Not a pos) (tNot tA):=⟨pt_not ha.out⟩
theorem ZW.pt {t:TT} (h:ZW X e t):ZT X e t:=⟨h.out.pt⟩
theorem zw_or1 {tA:TT} (ha:ZT X a tA):ZW X (.BoolOp .Or [a] pos) tA:=⟨pw_or1 ha.out⟩
theorem zw_or {tA tB':TT} (ha:ZT X a tA) (hb:ZW X (.BoolOp .Or (b :: es) pos) tB'):ZW X (.BoolOp .Or (a :: b :: es) pos) (tOr tA tB'):=⟨pw_or ha.out hb.out⟩
theorem ze_one {op} (h:ZE X a ta):ZE X (.BoolOp op [a] pos) ta:=⟨pe_one h.out⟩
theorem ze_and (ha:ZE X a ta) (hb:ZE X (.BoolOp .And (b :: es) pos) tb):ZE X (.BoolOp .And (a :: b :: es) pos) (tAndV ta tb):=⟨pe_and ha.out hb.out⟩
theorem ze_ix {r:R2} (hr:IxR X r) (ha:ZE X a ta) (hb:ZE X b tb) (hs:PlainIx b):ZE X (.Subscript a b pos) (tOp r ta tb):=⟨pe_ix hr ha.out hb.out hs⟩
theorem ze_slice {lo hi:Option Expr} {tl th:TO} {r:V->Option Int->Option Int->Hp->VK->Prop} (hr:SlR X r) (he:ZE X e te) (hl:ZO X lo tl) (hu:ZO X hi th):ZE X (.Subscript e (.Slice lo hi none p2) pos) (tSl r te tl th):=⟨pe_slice hr he.out hl.out hu.out⟩
theorem zo_none:ZO X none tNoPart:=⟨po_none⟩
theorem zo_some (h:ZE X e te):ZO X (some e) (tPart te):=⟨po_some h.out⟩
theorem ze_lst (h:ZA X es t):ZE X (.List es pos) (tLst t):=⟨pe_lst h.out⟩
theorem ze_tup {x1} (h:ZA X es t):ZE X (.Tuple es x1 pos) (tTup t):=⟨pe_tup h.out⟩
theorem ze_call {CX:CXT} {k:Nat} {f:Addr} {fd:FuncData} {ps:List Str} {sp:Sp} {ds:List Value} {dvs:List V} {E:XK} (F:FnOk X.prog X.w X.K X.mg X.base CX k f fd ps sp) (hr:Room k X.A) (hg:Gl X x) (hm:X.mg x=some (.ref f)) (hk:PySem.W.keepIn X.K (.ref f)=true) (hb:Binds X.K fd ps ds) (hd:Vals dvs ds) (hx:Passes CX X E)
    (ha:ZA X (e :: es) t) (hdb:(x == ("__debug__" : Str))=false:=by decide) (he:starEach (e :: es) X.env=(false,eval e X.env) :: starEach es X.env:=by rfl) (hpl:(backTo pos (starEach es X.env)).any (·.1)=false:=by rfl) :
    ZE X (.Call (.Name x p) (e :: es) [] pos) (tCall sp dvs E t):=⟨pe_call F hr hg hm hk hb hd hx ha.out hdb he hpl⟩
theorem ze_callB {id:String} {r:List V->Hp->VK->Prop} (hc:CallR X (.builtin id) r) (hg:Gl X x) (hm:X.mg x=none) (hv:bootBuiltins x=some (.builtin id)) (ha:ZA X (e :: es) t) (hn:x ≠ "__name__" := by decide) (hdb:(x == ("__debug__" : Str))=false:=by decide)
    (he:starEach (e :: es) X.env=(false,eval e X.env) :: starEach es X.env:=by rfl) (hpl:(backTo pos (starEach es X.env)).any (·.1)=false:=by rfl):ZE X (.Call (.Name x p) (e :: es) [] pos) (tCB r t):=⟨pe_callB hc hg hm hv ha.out hn hdb he hpl⟩
theorem ze_callTy {T:String} {r:List V->Hp->VK->Prop} (hc:CallR X (.type T) r) (hg:Gl X x) (hm:X.mg x=none) (hv:bootBuiltins x=some (.type T)) (ha:ZA X (e :: es) t) (hn:x ≠ "__name__" := by decide) (hdb:(x == ("__debug__" : Str))=false:=by decide)
    (he:starEach (e :: es) X.env=(false,eval e X.env) :: starEach es X.env:=by rfl) (hpl:(backTo pos (starEach es X.env)).any (·.1)=false:=by rfl):ZE X (.Call (.Name x p) (e :: es) [] pos) (tCB r t):=⟨pe_callTy hc hg hm hv ha.out hn hdb he hpl⟩
theorem za_nil:ZA X [] tNil:=⟨pa_nil⟩
theorem za_cons (ha:ZE X e te) (hr:ZA X es t) (hs:starEach (e :: es) X.env=(false,eval e X.env) :: starEach es X.env:=by rfl):ZA X (e :: es) (tCons te t):=⟨pa_cons ha.out hr.out hs⟩
theorem za_i {i:Int} {j:Nat} (hr:ZA X es t):ZA X (.Constant (.int i) j p :: es) (tCons (tC (.int i)) t):=⟨pa_i hr.out⟩
theorem za_n (ha:ZE X (.Name x p) te) (hr:ZA X es t):ZA X (.Name x p :: es) (tCons te t):=⟨pa_n ha.out hr.out⟩
theorem za_b {op:Operator} (ha:ZE X (.BinOp a op b p) te) (hr:ZA X es t):ZA X (.BinOp a op b p :: es) (tCons te t):=⟨pa_b ha.out hr.out⟩
theorem za_u {op:UnaryOp} (ha:ZE X (.UnaryOp op a p) te) (hr:ZA X es t):ZA X (.UnaryOp op a p :: es) (tCons te t):=⟨pa_u ha.out hr.out⟩
theorem za_s (ha:ZE X (.Subscript a b p) te) (hr:ZA X es t):ZA X (.Subscript a b p :: es) (tCons te t):=⟨pa_s ha.out hr.out⟩
theorem za_c {f:Expr} {l:List Expr} {k:List Keyword} (ha:ZE X (.Call f l k p) te) (hr:ZA X es t):ZA X (.Call f l k p :: es) (tCons te t):=⟨pa_c ha.out hr.out⟩
theorem za_t {l:List Expr} {k:Nat} (ha:ZE X (.Tuple l k p) te) (hr:ZA X es t):ZA X (.Tuple l k p :: es) (tCons te t):=⟨pa_t ha.out hr.out⟩
theorem zg_name {i:Nat} (hN:X.N.Nodup) (hi:X.N[i]?=some x) (hx:Loc X.env.scope x) (hf:X.fn x=true\/X.env.scope.names.lookup x=some .local:=by first | exact .inl rfl | exact .inr rfl | assumption):ZG X (.Name x pos) (gName i):=⟨pg_name hN hi hx hf⟩
theorem zg_sub {o i:Expr} {to ti:TE} {t:TSet} (ho:ZE X o to) (hi:ZE X i ti) (hs:PSet X t) (ha:∀ v,assign (.Subscript o i pos) X.env v=(do
      let ov <- holding [v] (eval o X.env)
      let iv <- holding [v,ov] (eval i X.env)
      standAt pos
      holding [v,ov,iv] (setItem ov iv v)
      release [v,ov,iv] []):=by intro _;rfl):ZG X (.Subscript o i pos) (gSub to ti t):=⟨pg_sub ho.out hi.out hs ha⟩
theorem zgs_nil:ZGs X [] gNil:=⟨pgs_nil⟩
theorem zgs_cons {t:TG} {u:TGs} (h1:ZG X e t) (h2:ZGs X es u) (hs:(assignEach (e :: es) X.env).map (·.2)=assign e X.env :: (assignEach es X.env).map (·.2):=by rfl):ZGs X (e :: es) (gCons t u):=⟨pgs_cons h1.out h2.out hs⟩
theorem zg_tup {k:Nat} {t:TGs} {n:Nat} (hc:X.calm=true) (h:ZGs X es t) (hn:(assignEach es X.env).length=n:=by rfl) (hst:(assignEach es X.env).findIdx? (·.1)=none:=by rfl):ZG X (.Tuple es k pos) (gTup X.K n t):=⟨pg_tup hc h.out hn hst⟩
theorem zi_list (hl:ZE X e te):ZI X tg e (iList X.K te):=⟨pi_list hl.out⟩
theorem zi_tup (hl:ZE X e te):ZI X tg e (iTup X.K te):=⟨pi_tup hl.out⟩
theorem zi_range1 {ta:TA} (hg:Gl X "range") (hm:X.mg "range" = none) (ha:ZA X [a] ta) (hs:starEach [a] X.env=[(false,eval a X.env)]:=by rfl):ZI X tg (.Call (.Name "range" p) [a] [] pos) (iRng1 ta):=⟨pi_range1 hg hm ha.out hs⟩
theorem zi_range2 {ta:TA} (hg:Gl X "range") (hm:X.mg "range" = none) (ha:ZA X [a,b] ta) (hs:starEach [a,b] X.env=[(false,eval a X.env),(false,eval b X.env)]:=by rfl) (hs2:starEach [b] X.env=[(false,eval b X.env)]:=by rfl) :
    ZI X tg (.Call (.Name "range" p) [a,b] [] pos) (iRng2 ta):=⟨pi_range2 hg hm ha.out hs hs2⟩
theorem zts_nil:ZTs X [] tAll:=⟨pts_nil⟩
theorem zts_one {t:TT} (h:ZT X c t):ZTs X [c] t:=⟨pts_one h.out⟩
theorem ze_comp {own:List Str} {scope sc:Scope} {iter elt:Expr} {ifs:List Expr} {wi:TI} {g:TG} {tt:TT} {N0 P0:List Str} (S0:FnScope N0 P0 sc) (hc:X.calm=true) (S1:CompScope own N0 sc scope) (hi:ZI X tg iter wi)
    (hg:∀ C fp s H,(maskN own N0).Nodup->ZG (cxComp X own scope C fp s H) tg g) (ht:∀ C fp s H,ZTs (cxComp X own scope C fp s H) ifs tt) (he:∀ C fp s H,ZE (cxComp X own scope C fp s H) elt te)
    (hs:∀ x,foldedSetIterable iter X.env x=pure x:=by intro _;rfl) (hN0:X.N=N0:=by rfl) (hsc:X.env.scope=sc:=by rfl):ZE X (.ListComp elt [⟨tg,iter,ifs,0⟩] scope pos) (tCompB own.length wi g tt te) :=
  ⟨pe_comp S0 hc S1 hi.out (fun C fp s H n=>(hg C fp s H n).out) (fun C fp s H=>(ht C fp s H).out) (fun C fp s H=>(he C fp s H).out) hs hN0 hsc⟩
theorem zi_zip {ta:TA} {pt:Pos} {elts:List Expr} {x1} (hg:Gl X "zip") (hm:X.mg "zip" = none) (ha:ZA X [a,b] ta) (hs:starEach [a,b] X.env=[(false,eval a X.env),(false,eval b X.env)]:=by rfl) (hs2:starEach [b] X.env=[(false,eval b X.env)]:=by rfl) :
    ZI X (.Tuple elts x1 pt) (.Call (.Name "zip" p) [a,b] [] pos) (iZip X.K ta):=⟨pi_zip hg hm ha.out hs hs2⟩
theorem zg_pair {own:List Str} {scope:Scope} {C:Addr} {fp:List Addr} {s:Shared} {H:Hp} {x y:Str} {px py:Pos} {k:Nat} (hc:X.calm=true) (nd:(cxComp X own scope C fp s H).N.Nodup) (h0:(cxComp X own scope C fp s H).N[0]?=some x) (h1:(cxComp X own scope C fp s H).N[1]?=some y)
    (l0:(cxComp X own scope C fp s H).env.scope.names.lookup x=some .local) (l1:(cxComp X own scope C fp s H).env.scope.names.lookup y=some .local):ZG (cxComp X own scope C fp s H) (.Tuple [.Name x px,.Name y py] k pos) (gPair X.K):=⟨pg_pair hc nd h0 h1 l0 l1⟩
end
section
variable {P:Program} {w:World} {K:PySem.W.Frag} {mg:Str->Option Value} {base:Heap}
theorem Fun.okZ {x qual:Str} {st:Stmt} {f:Addr} {fd:FuncData} {N ps:List Str} {k:Nat} {sp:Sp} (F:Fun K x qual st f fd) (S:FnScope N ps (defScope st)) (len:∀ vs H Q E,sp vs H Q E->vs.length=ps.length)
    (hbody:∀ (cdv:Value) (A:Around) (outer:List Env) (s:Shared) (H:Hp) (vs:List V) (Q:VK) (E:XK),Room k (A.deeper (envOfC qual (defScope st) s.heap.objs.size f cdv))->sp vs H Q E ->
      ∃ t,ZSs (cxOf CX0 P w K mg base N qual (defScope st) f cdv A outer s H E).nox (defBody st) t/\t { nx:=fun _ H'=>Q .non H',rt:=Q } (start N vs) H):FnOk P w K mg base CX0 (k + 1) f fd ps sp :=
  F.ok S len fun cdv A outer s H vs Q E hr h=>let ⟨t,b,q⟩:=hbody cdv A outer s H vs Q E hr h;⟨t,b.out,q⟩
end
end L2
end
section
namespace L2
open PySem PySem.Spec PyProof.Rows
open PySem.W (Dat)
noncomputable def NL (H H':Hp):Prop:=∀ b o,(∀ ys,o ≠ HO.lst ys)->H b=some o->H' b=some o
theorem Same.nl {H H':Hp} (e:Same H H'):NL H H':=fun b o _ h=>e b o h
theorem NL.upd {H:Hp} {D:Addr} {ys:List V} {o:HO} (h:H D=some (.lst ys)):NL H (L2.upd H D o):=fun b u n q=>by
  rw [upd_ne (fun z=>?_)]
  . exact q
  . subst z;rw [h] at q;cases q;exact n ys rfl
theorem NL.trans {H H1 H2:Hp} (a:NL H H1) (b:NL H1 H2):NL H H2:=fun c o n h=>b c o n (a c o n h)
section
variable {K:PySem.W.Frag} {H:Hp} {σ:St} {te:TE} {Q:VK} {J:It} {xs:List V}
theorem comp_pos (S : Src J H xs) (hz : xs.length <= sizeLine) (Pd : Nat -> V -> Hp -> Prop) (hst : ∀ i v H H', NL H H' -> Pd i v H -> Pd i v H')
    (turn:∀ i x,xs[i]?=some x->∀ H',Same H H'->∀ R:VK,(∀ v H5,Same H' H5->Pd i v H5->R v H5)->te (some x :: σ) H' R)
    (fin:∀ D H' ys,Same H H'->H' D=some (.lst ys)->H D=none->ys.length=xs.length->(∀ i v,ys[i]?=some v->Pd i v H')->Q (.ref D) H') :
    CompW 1 J (gName 0) tAll te σ H Q:=by
  intro D hD
  refine ⟨fun i m σ' H'=>m=xs.length - i/\i<=xs.length/\(∃ o,σ'=o :: σ)/\Same H H'/\∃ ys,H' D=some (.lst ys)/\ys.length=i/\∀ j v,ys[j]?=some v->Pd j v H',⟨xs.length,by omega,Nat.zero_le _,⟨_,rfl⟩,Same.new hD _,[],upd_same,rfl,fun j v e=>by simp at e⟩,?_⟩
  rintro i m σ' H' ⟨rfl,hi,⟨o,rfl⟩,hs,ys,hy,hl,hf⟩
  obtain ⟨stop,each⟩:=S H' hs
  by_cases hlt:i < xs.length
  . have hx:xs[i]?=some xs[i]:=by simp [hlt]
    obtain ⟨go,yl⟩:=each i xs[i] hx
    refine .inr ⟨go,fun y H2 q=>?_⟩
    obtain ⟨rfl,rfl⟩:=yl y H2 q
    unfold gName tAll
    dsimp only
    rw [if_pos rfl]
    show te (some xs[i] :: σ) H' _
    refine turn i _ hx H' hs _ fun v H5 s5 f5=>?_
    have hy5:=s5 _ _ hy
    refine ⟨ys,hy5,by omega,xs.length - (i + 1),by omega,rfl,hlt,⟨_,rfl⟩,(hs.trans s5).snoc hD,ys ++ [v],upd_same,by rw [List.length_append,hl];rfl,fun j u e=>?_⟩
    have nl:=NL.upd (o:=.lst (ys ++ [v])) hy5
    by_cases hj:j < ys.length
    . rw [List.getElem?_append_left hj] at e
      exact hst _ _ _ _ (s5.nl.trans nl) (hf j u e)
    . rw [List.getElem?_append_right (by omega)] at e
      have ej:j - ys.length=0:=by
        have:=(List.getElem?_eq_some_iff.mp e).1
        simp at this;omega
      rw [ej] at e
      cases e
      have:j=i:=by omega
      subst this
      exact hst _ _ _ _ nl f5
  . have e:i=xs.length:=by omega
    subst e
    exact .inl ⟨stop,fin D H' ys hs hy hD hl hf⟩
theorem get3 {α:Type} {x1 x2 x3 x:α} {i:Nat} (h:[x1,x2,x3][i]?=some x):(i=0/\x1=x)\/(i=1/\x2=x)\/(i=2/\x3=x):=by
  match i,h with
  | 0,h=>exact .inl ⟨rfl,by simpa using h⟩
  | 1,h=>exact .inr (.inl ⟨rfl,by simpa using h⟩)
  | 2,h=>exact .inr (.inr ⟨rfl,by simpa using h⟩)
theorem three_of {α:Type} {ys:List α} (h:ys.length=3):∃ a b c,ys=[a,b,c]:=by
  match ys,h with
  | [a,b,c],_=>exact ⟨a,b,c,rfl⟩
theorem comp3 {x1 x2 x3:V} {n1 n2 n3:Int} (S:Src J H [x1,x2,x3])
    (t1:∀ H',Same H H'->∀ R:VK,(∀ H5,Same H' H5->R (.int n1) H5)->te (some x1 :: σ) H' R)
    (t2:∀ H',Same H H'->∀ R:VK,(∀ H5,Same H' H5->R (.int n2) H5)->te (some x2 :: σ) H' R)
    (t3:∀ H',Same H H'->∀ R:VK,(∀ H5,Same H' H5->R (.int n3) H5)->te (some x3 :: σ) H' R)
    (fin:∀ D H',Same H H'->H' D=some (.lst ([n1,n2,n3].map V.int))->H D=none->Q (.ref D) H') :
    CompW 1 J (gName 0) tAll te σ H Q:=by
  refine comp_pos S (show 3<=sizeLine by decide) (fun i v _=>[V.int n1,.int n2,.int n3][i]?=some v) (fun _ _ _ _ _ h=>h) (fun i x hx H' s R k=>?_) fun D H' ys s h n l p=>?_
  . rcases get3 hx with ⟨rfl,rfl⟩ | ⟨rfl,rfl⟩ | ⟨rfl,rfl⟩
    . exact t1 H' s R fun H5 s5=>k _ _ s5 rfl
    . exact t2 H' s R fun H5 s5=>k _ _ s5 rfl
    . exact t3 H' s R fun H5 s5=>k _ _ s5 rfl
  . obtain ⟨a,b,c,rfl⟩:=three_of l
    have e1:=p 0 a rfl
    have e2:=p 1 b rfl
    have e3:=p 2 c rfl
    cases e1;cases e2;cases e3
    exact fin D H' s h n
end
section
variable {X:Cx} {e o:Expr} {to te:TE} {apos cpos:Pos}
theorem ze_append (ho:ZE X o to) (ha:ZE X e te) (hbase:attributeBase o "append" X.env (eval o X.env)=eval o X.env:=by rfl)
    (hfew:((backTo cpos (starEach [e] X.env)).all (fun x => !x.1) && (backToKw cpos (keywordEach [] X.env)).all (fun x=>x.1.isSome)
      && decide ([e].length + ([]:List Keyword).length + (if ([]:List Keyword).isEmpty then 0 else 1) < 30))=true:=by rfl)
    (hline:(apos.endLine == cpos.line)=true:=by rfl) (hs:starEach [e] X.env=(false,eval e X.env) :: starEach [] X.env:=by rfl) :
    ZE X (.Call (.Attribute o "append" apos) [e] [] cpos) (tBM X.K "list" rAppend to (tCons te tNil)) :=
  ⟨pe_bm PySem.F.plainAttrs_list slot_list_append (by rfl) mt_append ho.out (pa_cons ha.out pa_nil hs) hbase hfew hline hs⟩
end
section
variable {X:Cx} {own:List Str} {scope:Scope} {C:Addr} {fp:List Addr} {s:Shared} {H:Hp}
theorem ix_tupC:IxR (cxComp X own scope C fp s H) (rIxT X.K):=ix_tup
end
noncomputable def rCatW (K:PySem.W.Frag):R2:=fun x y H Q=>∃ a b xs ys,x = .ref a/\y = .ref b/\SqT K H a xs/\SqT K H b ys/\xs.length + ys.length<=sizeLine/\∀ p H',Same H H'->SqT K H' p (xs ++ ys)->Q (.ref p) H'
section
variable {X:Cx}
theorem op_catW:OpR X (binaryOp .Add) (rCatW X.K):=by
  intro pins s σ H x y v u Q I rx ry h
  obtain ⟨a,b,xs,ys,rfl,rfl,ha,hb,hz,q⟩:=h
  by_cases hx:xs=[]
  . subst hx
    cases rx
    cases ry
    obtain ⟨its,r1,p1,_⟩:=I.tuple ha
    obtain ⟨its2,r2,p2,_⟩:=I.tuple hb
    obtain ⟨m,F⟩:=I.fr
    have e:its=[]:=r1.nil_iff.mpr rfl
    refine add_tuples (news:=[]) F (fun p hp=>by simp at hp) p1 p2 (fun _=>⟨.ref b,H,I,rfl,q b H (Same.refl _) (by simpa using hb)⟩) (fun n=>absurd e n) (fun n=>absurd e n) ?_
    rw [<- r1.length, <- r2.length];exact hz
  . refine op_catT pins s σ H _ _ v u Q I rx ry ⟨a,b,xs,ys,rfl,rfl,ha,hb,hx,hz,fun e=>?_,fun e p hp=>?_⟩
    . subst e;exact q a H (Same.refl _) (by rw [List.append_nil];exact ha)
    . exact q p _ (Same.new hp _) (SqT.of upd_same)
end
end L2
end
section
namespace Num
noncomputable def gcdN (ns:List Int):Nat:=ns.foldl (fun d n=>Nat.gcd d n.natAbs) 0
theorem gcdN_snoc (ns:List Int) (n:Int):gcdN (ns ++ [n])=Nat.gcd (gcdN ns) n.natAbs:=by
  unfold gcdN;rw [List.foldl_append];rfl
theorem foldl_gcd (ns:List Int):∀ d:Nat,ns.foldl (fun d n=>Nat.gcd d n.natAbs) d=Nat.gcd d (gcdN ns):=by
  induction ns with
  | nil=>intro d;simp [gcdN]
  | cons n ns ih =>
    intro d
    unfold gcdN
    rw [List.foldl_cons,List.foldl_cons,ih,ih,Nat.gcd_assoc,Nat.gcd_zero_left]
theorem gcdN_cons (n:Int) (ns:List Int):gcdN (n :: ns)=Nat.gcd n.natAbs (gcdN ns):=by
  show List.foldl _ _ _=_
  rw [List.foldl_cons,foldl_gcd,Nat.gcd_zero_left]
theorem gcdN_dvd:∀ {ns:List Int} {n:Int},n ∈ ns->(gcdN ns:Int) ∣ n
  | m :: ns,n,h=>by
    rw [gcdN_cons]
    rcases List.mem_cons.mp h with rfl | h
    . exact Int.ofNat_dvd_left.mpr (Nat.gcd_dvd_left _ _)
    . exact Int.dvd_trans (Int.natCast_dvd_natCast.mpr (Nat.gcd_dvd_right _ _)) (gcdN_dvd h)
theorem gcdN_zero:∀ {ns:List Int},gcdN ns=0->∀ n ∈ ns,n=0
  | m :: ns,h,n,hn=>by
    rw [gcdN_cons] at h
    obtain ⟨h1,h2⟩:=Nat.gcd_eq_zero_iff.mp h
    rcases List.mem_cons.mp hn with rfl | hn
    . omega
    . exact gcdN_zero h2 n hn
theorem gcdN_pos {ns:List Int} (h:∃ n ∈ ns,n ≠ 0):0 < gcdN ns:=by
  obtain ⟨n,hn,h0⟩:=h
  rcases Nat.eq_zero_or_pos (gcdN ns) with z | z
  . exact absurd (gcdN_zero z n hn) h0
  . exact z
theorem gcdN_mul (c:Int) (ns:List Int):gcdN (ns.map (c * ·))=c.natAbs * gcdN ns:=by
  induction ns with
  | nil=>simp [gcdN]
  | cons n ns ih=>rw [List.map_cons,gcdN_cons,gcdN_cons,ih,Int.natAbs_mul,Nat.gcd_mul_left]
theorem gcdN_le {ns:List Int} {n:Int} (h:n ∈ ns) (h0:n ≠ 0):gcdN ns<=n.natAbs:=Nat.le_of_dvd (by omega) (Int.ofNat_dvd_left.mp (gcdN_dvd h))
noncomputable def fst0:List Int->Int
  | []=>0
  | x :: r=>if x=0 then fst0 r else x
theorem fst0_mul (c:Int):∀ ns:List Int,fst0 (ns.map (c * ·))=c * fst0 ns
  | []=>by simp [fst0]
  | x :: r => by
    rw [List.map_cons,fst0,fst0,fst0_mul c r]
    by_cases hc:c=0
    . subst hc;simp
    . by_cases hx:x=0
      . simp [hx]
      . rw [if_neg (Int.mul_ne_zero hc hx),if_neg hx]
theorem fst0_ne:∀ {ns:List Int},(∃ n ∈ ns,n ≠ 0)->fst0 ns ≠ 0
  | x :: r, ⟨n, hn, h0⟩ => by
    rw [fst0]
    split
    . rename_i hx
      rcases List.mem_cons.mp hn with rfl | hn
      . exact absurd hx h0
      . exact fst0_ne ⟨n,hn,h0⟩
    . assumption
noncomputable def unit (ns:List Int):Int:=if fst0 ns < 0 then -(gcdN ns:Int) else gcdN ns
noncomputable def pl (ns:List Int):List Int:=ns.map fun n=>n / unit ns
theorem unit_ne {ns:List Int} (h:∃ n ∈ ns,n ≠ 0):unit ns ≠ 0:=by
  have:=gcdN_pos h
  unfold unit;split <;> omega
theorem unit_dvd {ns:List Int} {n:Int} (h:n ∈ ns):unit ns ∣ n:=by
  unfold unit;split
  . exact Int.neg_dvd.mpr (gcdN_dvd h)
  . exact gcdN_dvd h
theorem pl_mul {ns:List Int}:(pl ns).map (unit ns * ·)=ns:=by
  unfold pl
  rw [List.map_map]
  conv=>rhs;rw [<- List.map_id ns]
  refine List.map_congr_left fun n hn=>?_
  show unit ns * (n / unit ns)=n
  exact Int.mul_ediv_cancel' (unit_dvd hn)
theorem unit_natAbs (ns:List Int):(unit ns).natAbs=gcdN ns:=by
  unfold unit;split <;> omega
theorem gcd_pl {ns:List Int} (h:∃ n ∈ ns,n ≠ 0):gcdN (pl ns)=1:=by
  have e:=gcdN_mul (unit ns) (pl ns)
  rw [pl_mul,unit_natAbs] at e
  have p:=gcdN_pos h
  exact Nat.eq_of_mul_eq_mul_left p (by omega)
theorem fst_pl {ns:List Int} (h:∃ n ∈ ns,n ≠ 0):0 < fst0 (pl ns):=by
  have e:=fst0_mul (unit ns) (pl ns)
  rw [pl_mul] at e
  have p:=gcdN_pos h
  have f:=fst0_ne h
  by_cases hn:fst0 ns < 0
  . have u:unit ns = -(gcdN ns:Int):=if_pos hn
    rw [u] at e
    refine Int.not_le.mp fun z=>?_
    have:0 <= -(gcdN ns:Int) * fst0 (pl ns):=Int.mul_nonneg_of_nonpos_of_nonpos (by omega) z
    omega
  . have u:unit ns=(gcdN ns:Int):=if_neg hn
    rw [u] at e
    refine Int.not_le.mp fun z=>?_
    have:(gcdN ns:Int) * fst0 (pl ns)<=0:=Int.mul_nonpos_of_nonneg_of_nonpos (by omega) z
    omega
theorem nz_pl {ns:List Int} (h:∃ n ∈ ns,n ≠ 0):∃ n ∈ pl ns,n ≠ 0:=by
  obtain ⟨n,hn,h0⟩:=h
  refine ⟨n / unit ns,List.mem_map.mpr ⟨n,hn,rfl⟩,fun z=>h0 ?_⟩
  have:=Int.mul_ediv_cancel' (unit_dvd hn)
  rw [z] at this;omega
theorem pl_of_mul {ms:List Int} {c:Int} (hc:c ≠ 0) (hg:gcdN ms=1) (hf:0 < fst0 ms):pl (ms.map (c * ·))=ms:=by
  have u:unit (ms.map (c * ·))=c:=by
    unfold unit
    rw [gcdN_mul,hg,fst0_mul]
    by_cases h:c < 0
    . rw [if_pos (Int.mul_neg_of_neg_of_pos h hf)];omega
    . rw [if_neg (by have:=Int.mul_pos (show 0 < c by omega) hf;omega)];omega
  unfold pl
  rw [u,List.map_map]
  conv=>rhs;rw [<- List.map_id ms]
  refine List.map_congr_left fun n hn=>?_
  show c * n / c=n
  exact Int.mul_ediv_cancel_left n hc
theorem pl_scale {ns:List Int} {c:Int} (hc:c ≠ 0) (h:∃ n ∈ ns,n ≠ 0):pl (ns.map (c * ·))=pl ns:=by
  have e:ns.map (c * ·)=(pl ns).map ((c * unit ns) * ·):=by
    conv=>lhs;rw [<- pl_mul (ns:=ns)]
    rw [List.map_map]
    refine List.map_congr_left fun n _=>?_
    show c * (unit ns * n)=c * unit ns * n
    rw [Int.mul_assoc]
  rw [e]
  exact pl_of_mul (Int.mul_ne_zero hc (unit_ne h)) (gcd_pl h) (fst_pl h)
theorem pl_length (ns:List Int):(pl ns).length=ns.length:=List.length_map _
theorem pl_le {ns:List Int} (h:∃ n ∈ ns,n ≠ 0) {m:Int} (hm:m ∈ pl ns):∃ n ∈ ns,m.natAbs<=n.natAbs:=by
  obtain ⟨n,hn,rfl⟩:=List.mem_map.mp hm
  refine ⟨n,hn,?_⟩
  have e:=Int.mul_ediv_cancel' (unit_dvd hn)
  have e2:=congrArg Int.natAbs e
  rw [Int.natAbs_mul,unit_natAbs] at e2
  have p:=gcdN_pos h
  calc (n / unit ns).natAbs=1 * (n / unit ns).natAbs:=by omega
    _<=gcdN ns * (n / unit ns).natAbs:=Nat.mul_le_mul_right _ p
    _=n.natAbs:=e2
end Num
end
section
namespace Num
noncomputable def qm:List Int->List Int->List Int
  | [a,b,c,d],[e,f,g,h]=>[a * e - b * f - c * g - d * h,a * f + b * e + c * h - d * g,a * g - b * h + c * e + d * f,a * h + b * g - c * f + d * e]
  | _,_=>[]
noncomputable def cj:List Int->List Int
  | [a,b,c,d]=>[a, -b, -c, -d]
  | _=>[]
noncomputable def nrm:List Int->Int
  | [a,b,c,d]=>a * a + b * b + c * c + d * d
  | _=>0
theorem four_of {ns:List Int} (h:ns.length=4):∃ a b c d,ns=[a,b,c,d]:=by
  match ns,h with
  | [a,b,c,d],_=>exact ⟨a,b,c,d,rfl⟩
theorem euler (a b c d e f g h:Int):(a * e - b * f - c * g - d * h) * (a * e - b * f - c * g - d * h) + (a * f + b * e + c * h - d * g) * (a * f + b * e + c * h - d * g) + (a * g - b * h + c * e + d * f) * (a * g - b * h + c * e + d * f) + (a * h + b * g - c * f + d * e) * (a * h + b * g - c * f + d * e)=(a * a + b * b + c * c + d * d) * (e * e + f * f + g * g + h * h):=by
  grind
theorem qm_len {ns ms:List Int} (h:ns.length=4) (h2:ms.length=4):(qm ns ms).length=4:=by
  obtain ⟨a,b,c,d,rfl⟩:=four_of h
  obtain ⟨e,f,g,i,rfl⟩:=four_of h2
  rfl
theorem nrm_qm {ns ms:List Int} (h:ns.length=4) (h2:ms.length=4):nrm (qm ns ms)=nrm ns * nrm ms:=by
  obtain ⟨a,b,c,d,rfl⟩:=four_of h
  obtain ⟨e,f,g,i,rfl⟩:=four_of h2
  exact euler a b c d e f g i
theorem sq_nn (a:Int):0<=a * a:=by
  rcases Int.le_total 0 a with h | h
  . exact Int.mul_nonneg h h
  . exact Int.mul_nonneg_of_nonpos_of_nonpos h h
theorem sq_pos {a:Int} (h:a ≠ 0):0 < a * a:=by
  have:=sq_nn a
  have:a * a ≠ 0:=Int.mul_ne_zero h h
  omega
theorem nrm_pos {ns:List Int} (h:ns.length=4) (hz:∃ n ∈ ns,n ≠ 0):0 < nrm ns:=by
  obtain ⟨a,b,c,d,rfl⟩:=four_of h
  obtain ⟨n,hn,h0⟩:=hz
  have ha:=sq_nn a
  have hb:=sq_nn b
  have hc:=sq_nn c
  have hd:=sq_nn d
  have hp:=sq_pos h0
  show 0 < a * a + b * b + c * c + d * d
  simp only [List.mem_cons,List.mem_nil_iff,or_false] at hn
  rcases hn with rfl | rfl | rfl | rfl <;> omega
theorem nz_nrm {ns : List Int} (h : ns.length = 4) (hz : 0 < nrm ns) : ∃ n ∈ ns, n ≠ 0 := by
  obtain ⟨a,b,c,d,rfl⟩:=four_of h
  by_cases ha:a=0
  . by_cases hb:b=0
    . by_cases hc:c=0
      . by_cases hd:d=0
        . subst ha hb hc hd;exact absurd hz (by decide)
        . exact ⟨d,by simp,hd⟩
      . exact ⟨c,by simp,hc⟩
    . exact ⟨b,by simp,hb⟩
  . exact ⟨a,by simp,ha⟩
theorem nz_qm {ns ms:List Int} (h:ns.length=4) (h2:ms.length=4) (hz:∃ n ∈ ns,n ≠ 0) (hz2:∃ n ∈ ms,n ≠ 0):∃ n ∈ qm ns ms,n ≠ 0:=by
  refine nz_nrm (qm_len h h2) ?_
  rw [nrm_qm h h2]
  exact Int.mul_pos (nrm_pos h hz) (nrm_pos h2 hz2)
theorem qm_mulL {ns ms:List Int} {k:Int} (h:ns.length=4) (h2:ms.length=4):qm (ns.map (k * ·)) ms=(qm ns ms).map (k * ·):=by
  obtain ⟨a,b,c,d,rfl⟩:=four_of h
  obtain ⟨e,f,g,i,rfl⟩:=four_of h2
  simp only [List.map_cons,List.map_nil,qm]
  congr 1
  . grind
  congr 1
  . grind
  congr 1
  . grind
  congr 1
  . grind
theorem qm_mulR {ns ms:List Int} {k:Int} (h:ns.length=4) (h2:ms.length=4):qm ns (ms.map (k * ·))=(qm ns ms).map (k * ·):=by
  obtain ⟨a,b,c,d,rfl⟩:=four_of h
  obtain ⟨e,f,g,i,rfl⟩:=four_of h2
  simp only [List.map_cons,List.map_nil,qm]
  congr 1
  . grind
  congr 1
  . grind
  congr 1
  . grind
  congr 1
  . grind
theorem qm_oneL {ns:List Int} (h:ns.length=4):qm [1,0,0,0] ns=ns:=by
  obtain ⟨a,b,c,d,rfl⟩:=four_of h
  simp [qm]
theorem qm_oneR {ns:List Int} (h:ns.length=4):qm ns [1,0,0,0]=ns:=by
  obtain ⟨a,b,c,d,rfl⟩:=four_of h
  simp [qm]
theorem qm_assoc {ns ms ks:List Int} (h:ns.length=4) (h2:ms.length=4) (h3:ks.length=4):qm (qm ns ms) ks=qm ns (qm ms ks):=by
  obtain ⟨a,b,c,d,rfl⟩:=four_of h
  obtain ⟨e,f,g,i,rfl⟩:=four_of h2
  obtain ⟨x,y,z,u,rfl⟩:=four_of h3
  simp only [qm]
  congr 1
  . grind
  congr 1
  . grind
  congr 1
  . grind
  congr 1
  . grind
theorem pl_qmL {ns ms:List Int} (h:ns.length=4) (h2:ms.length=4) (hz:∃ n ∈ ns,n ≠ 0) (hz2:∃ n ∈ ms,n ≠ 0):pl (qm (pl ns) ms)=pl (qm ns ms):=by
  have hp:(pl ns).length=4:=by rw [pl_length];exact h
  have e:qm ns ms=(qm (pl ns) ms).map (unit ns * ·):=by
    rw [<- qm_mulL hp h2,pl_mul]
  rw [e,pl_scale (unit_ne hz) (nz_qm hp h2 (nz_pl hz) hz2)]
theorem pl_qmR {ns ms:List Int} (h:ns.length=4) (h2:ms.length=4) (hz:∃ n ∈ ns,n ≠ 0) (hz2:∃ n ∈ ms,n ≠ 0):pl (qm ns (pl ms))=pl (qm ns ms):=by
  have hp:(pl ms).length=4:=by rw [pl_length];exact h2
  have e:qm ns ms=(qm ns (pl ms)).map (unit ms * ·):=by
    rw [<- qm_mulR h hp,pl_mul]
  rw [e,pl_scale (unit_ne hz2) (nz_qm h hp hz (nz_pl hz2))]
noncomputable def Bd (b:Nat) (ns:List Int):Prop:=∀ n ∈ ns,n.natAbs<=b
theorem bd_qm {ns ms:List Int} {x y:Nat} (h:ns.length=4) (h2:ms.length=4) (hx:Bd x ns) (hy:Bd y ms):Bd (4 * (x * y)) (qm ns ms):=by
  obtain ⟨a,b,c,d,rfl⟩:=four_of h
  obtain ⟨e,f,g,i,rfl⟩:=four_of h2
  have q:∀ {p r:Int},p ∈ [a,b,c,d]->r ∈ [e,f,g,i]->(p * r).natAbs<=x * y:=fun {p r} hp hr=>by
    rw [Int.natAbs_mul];exact Nat.mul_le_mul (hx p hp) (hy r hr)
  have ad:∀ {u v:Int} {m n:Nat},u.natAbs<=m->v.natAbs<=n->(u + v).natAbs<=m + n:=fun hu hv=>Nat.le_trans (Int.natAbs_add_le _ _) (Nat.add_le_add hu hv)
  have sb:∀ {u v:Int} {m n:Nat},u.natAbs<=m->v.natAbs<=n->(u - v).natAbs<=m + n:=fun hu hv=>Nat.le_trans (Int.natAbs_sub_le _ _) (Nat.add_le_add hu hv)
  have e4:4 * (x * y)=x * y + x * y + x * y + x * y:=by
    rw [show 4=1 + 1 + 1 + 1 from rfl,Nat.add_mul,Nat.add_mul,Nat.add_mul,Nat.one_mul]
  have m1:a ∈ [a,b,c,d]:=.head _
  have m2:b ∈ [a,b,c,d]:=.tail _ (.head _)
  have m3:c ∈ [a,b,c,d]:=.tail _ (.tail _ (.head _))
  have m4:d ∈ [a,b,c,d]:=.tail _ (.tail _ (.tail _ (.head _)))
  have k1:e ∈ [e,f,g,i]:=.head _
  have k2:f ∈ [e,f,g,i]:=.tail _ (.head _)
  have k3:g ∈ [e,f,g,i]:=.tail _ (.tail _ (.head _))
  have k4:i ∈ [e,f,g,i]:=.tail _ (.tail _ (.tail _ (.head _)))
  intro n hn
  rw [e4]
  simp only [qm,List.mem_cons,List.mem_nil_iff,or_false] at hn
  rcases hn with rfl | rfl | rfl | rfl
  . exact sb (sb (sb (q m1 k1) (q m2 k2)) (q m3 k3)) (q m4 k4)
  . exact sb (ad (ad (q m1 k2) (q m2 k1)) (q m3 k4)) (q m4 k3)
  . exact ad (ad (sb (q m1 k3) (q m2 k4)) (q m3 k1)) (q m4 k2)
  . exact ad (sb (ad (q m1 k4) (q m2 k3)) (q m3 k2)) (q m4 k1)
theorem bd_pl {ns:List Int} {x:Nat} (hz:∃ n ∈ ns,n ≠ 0) (hx:Bd x ns):Bd x (pl ns):=fun m hm=>let ⟨n,hn,hle⟩:=pl_le hz hm;Nat.le_trans hle (hx n hn)
end Num
end
section
namespace K0
open PySem L2 Num
section
variable {K:PySem.W.Frag}
noncomputable def spCD (K:PySem.W.Frag):Sp:=fun vs H Q _=>∃ (a:Addr) (ns:List Int),vs=[.ref a]/\SqT K H a (ns.map V.int)/\Q (.int (gcdN ns)) H
theorem gcd_step {a b:Int} (ha:0<=a) (hb:0 < b):Nat.gcd b.toNat (a % b).toNat=Nat.gcd a.toNat b.toNat:=by
  have h1:(a % b).toNat=a.toNat % b.toNat:=by
    have e:=Int.toNat_emod ha (Int.le_of_lt hb)
    exact e
  rw [h1,Nat.gcd_comm, <- Nat.gcd_rec,Nat.gcd_comm]
noncomputable def Sm (ns:List Int):Prop:=∀ n ∈ ns,n.natAbs < 2 ^ 9000
noncomputable def spT (K:PySem.W.Frag) (pre:List Int->Prop) (fn:List Int->List Int):Sp:=fun vs H Q _=>∃ (a:Addr) (ns:List Int),vs=[.ref a]/\SqT K H a (ns.map V.int)/\ns.length<=1000/\pre ns /\
  ∀ (r:Addr) (H':Hp),Same H H'->H' r=some (.tup ((fn ns).map V.int))->Q (.ref r) H'
noncomputable def red (ns:List Int):List Int:=ns.map fun n=>n / (gcdN ns:Int)
theorem gcd_small {ns:List Int} (h:∃ n ∈ ns,n ≠ 0) (hs:Sm ns):((gcdN ns:Nat):Int).natAbs.log2 < 9000:=by
  obtain ⟨n,hn,h0⟩:=h
  have h1:=gcdN_le hn h0
  have h2:=hs n hn
  have h3:((gcdN ns:Nat):Int).natAbs < 2 ^ 9000:=by
    rw [Int.natAbs_natCast]
    exact Nat.lt_of_le_of_lt h1 h2
  exact (Nat.log2_lt (by have:=gcdN_pos ⟨n,hn,h0⟩;omega)).mpr h3
noncomputable def sop (ns ms:List Int):Int:=(List.zipWith (· * ·) ns ms).sum
theorem mulOk_of {i j : Int} (hi : i.natAbs < 2 ^ 100000) (hj : j.natAbs < 2 ^ 100000) : IntMulOk i j := by
  have b:∀ k:Int,k.natAbs < 2 ^ 100000->Builtin.Int.intBits k<=2 ^ 20:=fun k hk=>by
    unfold Builtin.Int.intBits
    split
    . exact Nat.zero_le _
    . rename_i h0
      have hne:k.natAbs ≠ 0:=by
        intro z
        apply h0
        have:k=0:=by omega
        simp [this]
      have:=(Nat.log2_lt hne).mpr hk
      omega
  exact IntMulOk.of_bits (b i hi) (b j hj)
theorem pow_lift {n:Nat} (h:n < 2 ^ 9000):n < 2 ^ 100000:=Nat.lt_of_lt_of_le h (Nat.pow_le_pow_right (by decide) (by decide))
noncomputable def spSop (K:PySem.W.Frag):Sp:=fun vs H Q _=>∃ (a b:Addr) (ns ms:List Int),vs=[.ref a,.ref b]/\SqT K H a (ns.map V.int)/\SqT K H b (ms.map V.int)/\ns.length<=1000/\ms.length=ns.length/\Sm ns/\Sm ms /\
  ∀ (H':Hp),Same H H'->Q (.int (sop ns ms)) H'
noncomputable def spSize (K:PySem.W.Frag):Sp:=fun vs H Q _=>∃ (a:Addr) (ns:List Int),vs=[.ref a]/\SqT K H a (ns.map V.int)/\ns.length<=1000/\Sm ns/\∀ (H':Hp),Same H H'->Q (.int (sop ns ns)) H'
theorem lex_fst0:∀ {l:List Int} {n:Nat},l.length=n->HT.lexLt l (List.replicate n 0)=decide (fst0 l < 0)
  | [],n,h=>by subst h;rfl
  | x :: r,n,h=>by
    subst h
    rw [List.length_cons,List.replicate_succ,HT.lexLt_cons,fst0,lex_fst0 rfl]
    by_cases hx:x=0
    . rw [if_pos hx,if_pos hx]
    . rw [if_neg hx,if_neg hx]
theorem red_mul (ns:List Int):(red ns).map ((gcdN ns:Int) * ·)=ns:=by
  unfold red
  rw [List.map_map]
  conv=>rhs;rw [<- List.map_id ns]
  refine List.map_congr_left fun n hn=>?_
  exact Int.mul_ediv_cancel' (gcdN_dvd hn)
theorem plain_eq {ns:List Int} (h:∃ n ∈ ns,n ≠ 0):(if fst0 (red ns) < 0 then (red ns).map (fun n => -n) else red ns)=pl ns:=by
  have e:=fst0_mul (gcdN ns) (red ns)
  rw [red_mul] at e
  have p:=gcdN_pos h
  by_cases hn:fst0 (red ns) < 0
  . rw [if_pos hn]
    have u:unit ns = -(gcdN ns:Int):=if_pos (by rw [e];exact Int.mul_neg_of_pos_of_neg (by omega) hn)
    unfold pl red
    rw [u,List.map_map]
    refine List.map_congr_left fun n _=>?_
    show -(n / (gcdN ns:Int))=n / -(gcdN ns:Int)
    rw [Int.ediv_neg]
  . rw [if_neg hn]
    have u:unit ns=(gcdN ns:Int):=if_neg (by rw [e];have:=Int.mul_nonneg (show (0:Int)<=gcdN ns by omega) (show 0<=fst0 (red ns) by omega);omega)
    unfold pl red
    rw [u]
noncomputable def PlainPre (ns:List Int):Prop:=ns.length=4/\(∃ n ∈ ns,n ≠ 0)/\Sm ns
noncomputable def Pu (H:Hp) (p:Addr):Prop:=∃ a b:Int,H p=some (.lst [.int a,.int b])
noncomputable def spDraw:Sp:=fun vs H Q _=>∃ (p:Addr) (m:Int),vs=[.ref p,.int m]/\Pu H p/\0 < m/\m < 2 ^ 200/\∀ (d:Int) (H':Hp),0<=d->d < m->SB p H H'->Pu H' p->Q (.int d) H'
noncomputable def spPurse (K:PySem.W.Frag):Sp:=fun vs H Q _=>∃ (a:Addr) (ns:List Int),vs=[.ref a]/\SqL K H a (ns.map V.int)/\ns.length<=63/\(∀ v ∈ ns,Builtin.Int.intBits v<=2 ^ 20)/\∀ (p:Addr) (H':Hp),H p=none->Same H H'->Pu H' p->Q (.ref p) H'
theorem cut63 {ns:List Int} (h:ns.length<=63):cutV (ns.map V.int) none (some 63)=ns.map V.int:=by
  have h2:HT.sIx (ns.map V.int).length (ns.map V.int).length (some 63)=(ns.map V.int).length:=by
    rw [List.length_map]
    unfold HT.sIx
    dsimp only
    rw [if_neg (by decide)]
    omega
  unfold cutV
  rw [h2]
  show List.take ((ns.map V.int).length - 0) (List.drop 0 (ns.map V.int))=_
  rw [List.drop_zero,Nat.sub_zero,List.take_length]
theorem at_draw {ms:List Int} {d:Int} (h0:0<=d) (h1:d < (ms.length:Int)):∃ m ∈ ms,atI (ms.map V.int) d=some (.int m):=by
  obtain ⟨j,rfl⟩:=Int.eq_ofNat_of_zero_le h0
  have hj:j < ms.length:=by omega
  refine ⟨ms[j],List.getElem_mem hj,?_⟩
  exact atI_nat (by rw [List.getElem?_map];simp [hj])
theorem Pu.same {H H':Hp} {p:Addr} (h:Pu H p) (s:Same H H'):Pu H' p:=by
  obtain ⟨a,b,e⟩:=h;exact ⟨a,b,s _ _ e⟩
noncomputable def spDiv:Sp:=fun vs H Q _=>∃ (a b:Int),vs=[.int a,.int b]/\Q (.int ((Nat.gcd a.natAbs b.natAbs:Nat):Int)) H
noncomputable def spLaw (K:PySem.W.Frag):Sp:=fun vs H Q _=>∃ (a:Addr) (ns:List Int),vs=[.ref a]/\SqL K H a (ns.map V.int)/\ns.length<=63/\(∀ v ∈ ns,Builtin.Int.intBits v<=2 ^ 20)/\∀ (H':Hp),Q (.bl true) H'
theorem sm_bd {ns:List Int} {b:Nat} (h:Bd b ns) (hb:b < 2 ^ 9000):Sm ns:=fun n hn=>Nat.lt_of_le_of_lt (h n hn) hb
theorem mulSm {ns ms:List Int} (h:Sm ns) (h2:Sm ms) {a b:Int} (ha:a ∈ ns) (hb:b ∈ ms):IntMulOk a b:=mulOk_of (pow_lift (h a ha)) (pow_lift (h2 b hb))
noncomputable def sp2 (K:PySem.W.Frag) (fn:List Int->List Int->List Int):Sp:=fun vs H Q _=>∃ (x y:Addr) (ns ms:List Int),vs=[.ref x,.ref y]/\SqT K H x (ns.map V.int)/\SqT K H y (ms.map V.int)/\ns.length=4/\ms.length=4/\Sm ns/\Sm ms /\
  ∀ (r:Addr) (H':Hp),Same H H'->H' r=some (.tup ((fn ns ms).map V.int))->Q (.ref r) H'
noncomputable def spThen (K:PySem.W.Frag):Sp:=fun vs H Q _=>∃ (x y:Addr) (ns ms:List Int),vs=[.ref x,.ref y]/\SqT K H x (ns.map V.int)/\SqT K H y (ms.map V.int)/\ns.length=4/\ms.length=4/\(∃ n ∈ ns,n ≠ 0)/\(∃ n ∈ ms,n ≠ 0)/\Bd (2 ^ 4000) ns/\Bd (2 ^ 4000) ms /\
  ∀ (r:Addr) (H':Hp),Same H H'->H' r=some (.tup ((pl (qm ms ns)).map V.int))->Q (.ref r) H'
theorem bd_mono {ns:List Int} {a b:Nat} (h:Bd a ns) (hab:a<=b):Bd b ns:=fun n hn=>Nat.le_trans (h n hn) hab
theorem two4000:(2:Nat) ^ 4000 < 2 ^ 9000:=Nat.pow_lt_pow_right (by decide) (by decide)
theorem two8002:4 * ((2:Nat) ^ 4000 * 2 ^ 4000) < 2 ^ 9000:=by
  have e:4 * ((2:Nat) ^ 4000 * 2 ^ 4000)=2 ^ 8002:=by
    rw [<- Nat.pow_add,show (4:Nat)=2 ^ 2 from rfl, <- Nat.pow_add]
  rw [e]
  exact Nat.pow_lt_pow_right (by decide) (by decide)
theorem sm4000 {ns:List Int} (h:Bd (2 ^ 4000) ns):Sm ns:=sm_bd h two4000
theorem at40 {a b c d:Int}:atI ([a,b,c,d].map V.int) 0=some (.int a):=rfl
theorem at41 {a b c d:Int}:atI ([a,b,c,d].map V.int) 1=some (.int b):=rfl
theorem at42 {a b c d:Int}:atI ([a,b,c,d].map V.int) 2=some (.int c):=rfl
theorem at43 {a b c d:Int}:atI ([a,b,c,d].map V.int) 3=some (.int d):=rfl
theorem at30 {a b c:Int}:atI ([a,b,c].map V.int) 0=some (.int a):=rfl
theorem at31 {a b c:Int}:atI ([a,b,c].map V.int) 1=some (.int b):=rfl
theorem at32 {a b c:Int}:atI ([a,b,c].map V.int) 2=some (.int c):=rfl
theorem at20 {a b:Int}:atI ([a,b].map V.int) 0=some (.int a):=rfl
theorem at21 {a b:Int}:atI ([a,b].map V.int) 1=some (.int b):=rfl
end
end K0
end
section
namespace K0
open PySem L2 Num
theorem red_scale {ns:List Int} {c:Int} (hc:0 < c):red (ns.map (c * ·))=red ns:=by
  unfold red
  rw [List.map_map,gcdN_mul]
  refine List.map_congr_left fun n _=>?_
  show c * n / ((c.natAbs * gcdN ns:Nat):Int)=n / (gcdN ns:Int)
  rw [Int.natCast_mul,Int.natAbs_of_nonneg (Int.le_of_lt hc),Int.mul_ediv_mul_of_pos _ _ hc]
noncomputable def fr (t b:Int):List Int:=red [t,b]
theorem fr_eq {t b t' b':Int} (hb:0 < b) (hb':0 < b') (h:t * b'=t' * b):fr t b=fr t' b':=by
  unfold fr
  rw [<- red_scale (ns:=[t,b]) hb', <- red_scale (ns:=[t',b']) hb]
  simp only [List.map_cons,List.map_nil]
  rw [Int.mul_comm b' t,h,Int.mul_comm b t',Int.mul_comm b' b]
theorem fr_two (t b:Int):∃ t' b',fr t b=[t',b']:=⟨_,_,rfl⟩
theorem fr_pos {t b t' b':Int} (hb:0 < b) (h:fr t b=[t',b']):0 < b'/\b'.natAbs<=b.natAbs/\t'.natAbs<=t.natAbs/\t * b'=t' * b/\Nat.gcd t'.natAbs b'.natAbs=1:=by
  have hg:0 < gcdN [t,b]:=gcdN_pos ⟨b,by simp,by omega⟩
  have d1:(gcdN [t,b]:Int) ∣ t:=gcdN_dvd (by simp)
  have d2:(gcdN [t,b]:Int) ∣ b:=gcdN_dvd (by simp)
  have e1:t'=t / (gcdN [t,b]:Int):=by injection h with h1 _;exact h1.symm
  have e2:b'=b / (gcdN [t,b]:Int):=by injection h with _ h2;injection h2 with h2 _;exact h2.symm
  obtain ⟨u,hu⟩:=d1
  obtain ⟨v,hv⟩:=d2
  have hgi:(0:Int) < (gcdN [t,b]:Int):=by omega
  have eg:gcdN [t,b]=gcdN [t,b] * Nat.gcd u.natAbs v.natAbs:=by
    have:gcdN ([u,v].map ((gcdN [t,b]:Int) * ·))=gcdN [t,b] * gcdN [u,v]:=by rw [gcdN_mul,Int.natAbs_natCast]
    rw [List.map_cons,List.map_cons,List.map_nil, <- hu, <- hv] at this
    have e:gcdN [u,v]=Nat.gcd u.natAbs v.natAbs:=by rw [gcdN_cons,gcdN_cons];simp [gcdN]
    rw [e] at this
    exact this
  generalize gcdN [t,b]=g at *
  have eu:t'=u:=by rw [e1,hu,Int.mul_ediv_cancel_left _ (by omega)]
  have ev:b'=v:=by rw [e2,hv,Int.mul_ediv_cancel_left _ (by omega)]
  subst eu ev
  have vp:0 < b':=by
    rcases Int.lt_trichotomy b' 0 with z | z | z
    . have:=Int.mul_neg_of_pos_of_neg hgi z;omega
    . subst z;simp at hv;omega
    . exact z
  refine ⟨vp,?_,?_,?_,?_⟩
  . rw [hv,Int.natAbs_mul,Int.natAbs_natCast];exact Nat.le_mul_of_pos_left _ hg
  . rw [hu,Int.natAbs_mul,Int.natAbs_natCast];exact Nat.le_mul_of_pos_left _ hg
  . rw [hu,hv,Int.mul_assoc,Int.mul_left_comm]
  . have:g * 1=g * Nat.gcd t'.natAbs b'.natAbs:=by omega
    exact (Nat.eq_of_mul_eq_mul_left hg this).symm
structure Pt (H:Hp) (p:Addr) (f1 f2 f3:List Int):Prop where
  ex:∃ p1 p2 p3,H p=some (.tup [.ref p1,.ref p2,.ref p3])/\H p1=some (.tup (f1.map V.int))/\H p2=some (.tup (f2.map V.int))/\H p3=some (.tup (f3.map V.int))
noncomputable def Bt (n:Int) (k:Nat):Prop:=n.natAbs<=2 ^ k
theorem Bt.mul {a b:Int} {x y:Nat} (ha:Bt a x) (hb:Bt b y):Bt (a * b) (x + y):=by
  unfold Bt at *
  rw [Int.natAbs_mul,Nat.pow_add];exact Nat.mul_le_mul ha hb
theorem Bt.add {a b:Int} {x:Nat} (ha:Bt a x) (hb:Bt b x):Bt (a + b) (x + 1):=by
  unfold Bt at *
  rw [Nat.pow_succ,Nat.mul_two]
  exact Nat.le_trans (Int.natAbs_add_le a b) (Nat.add_le_add ha hb)
theorem Bt.sub {a b:Int} {x:Nat} (ha:Bt a x) (hb:Bt b x):Bt (a - b) (x + 1):=by
  unfold Bt at *
  rw [Nat.pow_succ,Nat.mul_two]
  exact Nat.le_trans (Int.natAbs_sub_le a b) (Nat.add_le_add ha hb)
theorem Bt.up {a:Int} {x y:Nat} (h:Bt a x) (hxy:x<=y):Bt a y:=Nat.le_trans h (Nat.pow_le_pow_right (by decide) hxy)
theorem Bt.lt {a:Int} {x:Nat} (h:Bt a x) (hx:x < 9000):a.natAbs < 2 ^ 9000:=Nat.lt_of_le_of_lt h (Nat.pow_lt_pow_right (by decide) hx)
theorem Bt.mulOk {a b:Int} {x y:Nat} (ha:Bt a x) (hb:Bt b y) (hx:x < 9000:=by decide) (hy:y < 9000:=by decide):IntMulOk a b:=mulOk_of (pow_lift (ha.lt hx)) (pow_lift (hb.lt hy))
theorem Bt.log {a:Int} {x:Nat} (h:Bt a x) (h0:a ≠ 0) (hx:x < 9000:=by decide):a.natAbs.log2 < 9000:=(Nat.log2_lt (by omega)).mpr (h.lt hx)
theorem sm2 {a b:Int} {x:Nat} (ha:Bt a x) (hb:Bt b x) (hx:x < 9000:=by decide):Sm [a,b]:=fun n hn=>by
  simp only [List.mem_cons,List.mem_nil_iff,or_false] at hn
  rcases hn with rfl | rfl
  . exact ha.lt hx
  . exact hb.lt hx
theorem sm3 {a b c:Int} {x:Nat} (ha:Bt a x) (hb:Bt b x) (hc:Bt c x) (hx:x < 9000:=by decide):Sm [a,b,c]:=fun n hn=>by
  simp only [List.mem_cons,List.mem_nil_iff,or_false] at hn
  rcases hn with rfl | rfl | rfl
  . exact ha.lt hx
  . exact hb.lt hx
  . exact hc.lt hx
noncomputable def spCM (K:PySem.W.Frag):Sp:=fun vs H Q _=>∃ (a:Addr) (bs:List Int) (C:Int),vs=[.ref a]/\SqL K H a (bs.map V.int)/\(∀ b ∈ bs,0 < b/\b ∣ C)/\0 < C/\Bt C 3000 /\
  ∀ (L:Int) (H':Hp),Same H H'->0 < L->(∀ b ∈ bs,b ∣ L)->L ∣ C->Q (.int L) H'
theorem bt_dvd {a C:Int} {k:Nat} (h:a ∣ C) (hC:0 < C) (b:Bt C k):Bt a k:=by
  obtain ⟨u,hu⟩:=h
  refine Nat.le_trans ?_ b
  have:u ≠ 0:=fun z=>by subst z;simp at hu;omega
  rw [hu,Int.natAbs_mul];exact Nat.le_mul_of_pos_right _ (by omega)
noncomputable def rw1 (a b c d:Int):List Int:=[a * a + b * b - c * c - d * d,2 * (b * c - a * d),2 * (b * d + a * c)]
noncomputable def rw2 (a b c d:Int):List Int:=[2 * (b * c + a * d),a * a - b * b + c * c - d * d,2 * (c * d - a * b)]
noncomputable def rw3 (a b c d:Int):List Int:=[2 * (b * d - a * c),2 * (c * d + a * b),a * a - b * b - c * c + d * d]
noncomputable def spWT (K:PySem.W.Frag):Sp:=fun vs H Q _=>∃ (x:Addr) (a b c d:Int),vs=[.ref x]/\SqT K H x ([a,b,c,d].map V.int)/\Bd (2 ^ 1000) [a,b,c,d] /\
  ∀ (r:Addr) (H':Hp),Same H H'->Pt H' r (rw1 a b c d) (rw2 a b c d) (rw3 a b c d)->Q (.ref r) H'
noncomputable def spLT (K:PySem.W.Frag):Sp:=fun vs H Q _=>∃ (x p q:Addr) (a b c d n1 n2 n3 m:Int),vs=[.ref x,.ref p]/\SqT K H x ([a,b,c,d].map V.int)/\Bd (2 ^ 1000) [a,b,c,d]/\SqT K H p [.ref q,.int m]/\SqT K H q ([n1,n2,n3].map V.int)/\Bt n1 6000/\Bt n2 6000/\Bt n3 6000/\Bt m 3000 /\
  ∀ (r q':Addr) (H':Hp),Same H H'->H' r=some (.tup [.ref q',.int (m * sop [a,b,c,d] [a,b,c,d])])->H' q'=some (.tup ([sop (rw1 a b c d) [n1,n2,n3],sop (rw2 a b c d) [n1,n2,n3],sop (rw3 a b c d) [n1,n2,n3]].map V.int))->Q (.ref r) H'
theorem gcdN2' (t b:Int):gcdN [t,b]=Nat.gcd t.natAbs b.natAbs:=by rw [gcdN_cons,gcdN_cons];simp [gcdN]
theorem cm_step {m n C:Int} (hm:0 < m) (hn:0 < n) (hC:0 < C) (dm:m ∣ C) (dn:n ∣ C) (bC:Bt C 3000):((gcdN [m,n]:Nat):Int) ≠ 0/\((gcdN [m,n]:Nat):Int).natAbs.log2 < 9000/\Bt (m.fdiv (gcdN [m,n]:Nat)) 3000 /\
    0 < m.fdiv (gcdN [m,n]:Nat) * n/\m ∣ m.fdiv (gcdN [m,n]:Nat) * n/\n ∣ m.fdiv (gcdN [m,n]:Nat) * n/\m.fdiv (gcdN [m,n]:Nat) * n ∣ C:=by
  have hg:0 < gcdN [m,n]:=gcdN_pos ⟨n,by simp,by omega⟩
  have hl:gcdN [m,n]<=n.natAbs:=gcdN_le (by simp) (by omega)
  have d1:(gcdN [m,n]:Int) ∣ m:=gcdN_dvd (by simp)
  have d2:(gcdN [m,n]:Int) ∣ n:=gcdN_dvd (by simp)
  have bn:=bt_dvd dn hC bC
  have bm:=bt_dvd dm hC bC
  have bg:Bt ((gcdN [m,n]:Nat):Int) 3000:=by unfold Bt;rw [Int.natAbs_natCast];exact Nat.le_trans hl bn
  have lc:m.fdiv (gcdN [m,n]:Nat) * n ∣ C:=by
    rw [Int.fdiv_eq_ediv_of_dvd d1]
    obtain ⟨M,rfl⟩:=Int.eq_ofNat_of_zero_le (Int.le_of_lt hm)
    obtain ⟨N,rfl⟩:=Int.eq_ofNat_of_zero_le (Int.le_of_lt hn)
    obtain ⟨c,rfl⟩:=Int.eq_ofNat_of_zero_le (Int.le_of_lt hC)
    rw [gcdN2',Int.natAbs_natCast,Int.natAbs_natCast]
    have e:((M:Int) / (Nat.gcd M N:Nat) * (N:Int))=((Nat.lcm M N:Nat):Int):=by
      rw [<- Int.natCast_ediv, <- Int.natCast_mul]
      congr 1
      unfold Nat.lcm
      rw [Nat.div_mul_right_comm (Nat.gcd_dvd_left M N)]
    rw [e]
    exact Int.natCast_dvd_natCast.mpr (Nat.lcm_dvd (Int.natCast_dvd_natCast.mp dm) (Int.natCast_dvd_natCast.mp dn))
  rw [Int.fdiv_eq_ediv_of_dvd d1] at lc ⊢
  obtain ⟨u,hu⟩:=d1
  obtain ⟨v,hv⟩:=d2
  generalize gcdN [m,n]=g at *
  have eu:m / (g:Int)=u:=by rw [hu,Int.mul_ediv_cancel_left _ (by omega)]
  rw [eu] at lc ⊢
  have up:0 < u:=by
    rcases Int.lt_trichotomy u 0 with z | z | z
    . have:=Int.mul_neg_of_pos_of_neg (show (0:Int) < g by omega) z;omega
    . subst z;simp at hu;omega
    . exact z
  refine ⟨by omega,bg.log (by omega),?_,Int.mul_pos up hn,⟨v,?_⟩,⟨u,Int.mul_comm _ _⟩,lc⟩
  . refine Nat.le_trans ?_ bm
    rw [hu,Int.natAbs_mul,Int.natAbs_natCast];exact Nat.le_mul_of_pos_left _ hg
  . rw [hu,hv];grind
theorem lev_part {L b:Int} (hb:0 < b) (hL:0 < L) (hd:b ∣ L) (bL:Bt L 3000):L.fdiv b * b=L/\Bt (L.fdiv b) 3000:=by
  rw [Int.fdiv_eq_ediv_of_dvd hd]
  obtain ⟨u,hu⟩:=hd
  have e:L / b=u:=by rw [hu,Int.mul_ediv_cancel_left _ (by omega)]
  rw [e]
  refine ⟨by rw [hu,Int.mul_comm],Nat.le_trans ?_ bL⟩
  rw [hu,Int.natAbs_mul];exact Nat.le_mul_of_pos_left _ (by omega)
theorem atA {x y:V}:atI [x,y] 0=some x:=rfl
theorem atB {x y:V}:atI [x,y] 1=some y:=rfl
theorem sop3 (a b c d e f:Int):sop [a,b,c] [d,e,f]=a * d + b * e + c * f:=by
  simp only [sop,List.zipWith_cons_cons,List.zipWith_nil_right,List.sum_cons,List.sum_nil];omega
theorem sop4 (a b c d:Int):sop [a,b,c,d] [a,b,c,d]=nrm [a,b,c,d]:=by
  simp only [sop,nrm,List.zipWith_cons_cons,List.zipWith_nil_right,List.sum_cons,List.sum_nil];omega
theorem two1:Bt 2 1:=by unfold Bt;decide
theorem sq3 {a b c d:Int} (ha:Bt a 2000) (hb:Bt b 2000) (hc:Bt c 2000) (hd:Bt d 2000):Bt (a + b - c - d) 2003:=((ha.add hb).sub (hc.up (by decide))).sub (hd.up (by decide))
theorem sq3' {a b c d:Int} (ha:Bt a 2000) (hb:Bt b 2000) (hc:Bt c 2000) (hd:Bt d 2000):Bt (a - b + c - d) 2003:=((ha.sub hb).add (hc.up (by decide))).sub (hd.up (by decide))
theorem sq3'' {a b c d:Int} (ha:Bt a 2000) (hb:Bt b 2000) (hc:Bt c 2000) (hd:Bt d 2000):Bt (a - b - c + d) 2003:=((ha.sub hb).sub (hc.up (by decide))).add (hd.up (by decide))
theorem tw {a b:Int} (ha:Bt a 2000) (hb:Bt b 2000):Bt (2 * (a - b)) 2003:=(two1.mul (ha.sub hb)).up (by decide)
theorem tw' {a b:Int} (ha:Bt a 2000) (hb:Bt b 2000):Bt (2 * (a + b)) 2003:=(two1.mul (ha.add hb)).up (by decide)
theorem rows_bt {a b c d:Int} (h:Bd (2 ^ 1000) [a,b,c,d]):(∀ n ∈ rw1 a b c d,Bt n 2003)/\(∀ n ∈ rw2 a b c d,Bt n 2003)/\(∀ n ∈ rw3 a b c d,Bt n 2003):=by
  have ha:Bt a 1000:=h a (by simp)
  have hb:Bt b 1000:=h b (by simp)
  have hc:Bt c 1000:=h c (by simp)
  have hd:Bt d 1000:=h d (by simp)
  have m:∀ {x y:Int},Bt x 1000->Bt y 1000->Bt (x * y) 2000:=fun hx hy=>hx.mul hy
  refine ⟨fun n hn=>?_,fun n hn=>?_,fun n hn=>?_⟩
  . simp only [rw1,List.mem_cons,List.mem_nil_iff,or_false] at hn
    rcases hn with rfl | rfl | rfl
    . exact sq3 (m ha ha) (m hb hb) (m hc hc) (m hd hd)
    . exact tw (m hb hc) (m ha hd)
    . exact tw' (m hb hd) (m ha hc)
  . simp only [rw2,List.mem_cons,List.mem_nil_iff,or_false] at hn
    rcases hn with rfl | rfl | rfl
    . exact tw' (m hb hc) (m ha hd)
    . exact sq3' (m ha ha) (m hb hb) (m hc hc) (m hd hd)
    . exact tw (m hc hd) (m ha hb)
  . simp only [rw3,List.mem_cons,List.mem_nil_iff,or_false] at hn
    rcases hn with rfl | rfl | rfl
    . exact tw (m hb hd) (m ha hc)
    . exact tw' (m hc hd) (m ha hb)
    . exact sq3'' (m ha ha) (m hb hb) (m hc hc) (m hd hd)
theorem nrm_bt {a b c d:Int} (h:Bd (2 ^ 1000) [a,b,c,d]):Bt (nrm [a,b,c,d]) 2003:=by
  have ha:Bt a 1000:=h a (by simp)
  have hb:Bt b 1000:=h b (by simp)
  have hc:Bt c 1000:=h c (by simp)
  have hd:Bt d 1000:=h d (by simp)
  exact (((ha.mul ha).add (hb.mul hb)).add ((hc.mul hc).up (by decide))).add ((hd.mul hd).up (by decide))
theorem bts {ns:List Int} {k:Nat} (h:∀ n ∈ ns,Bt n k) (hk:k < 9000:=by decide):Sm ns:=fun n hn=>(h n hn).lt hk
theorem gcdN2 (t b:Int):gcdN [t,b]=Nat.gcd t.natAbs b.natAbs:=by rw [gcdN_cons,gcdN_cons];simp [gcdN]
noncomputable def ptD (f1 f2 f3:List Int):PySem.W.Dat:=.tuple [.tuple (f1.map .int),.tuple (f2.map .int),.tuple (f3.map .int)]
theorem kqd_pt {f1 f2 f3:List Int}:PySem.W.kqdOk 9 (ptD f1 f2 f3)=true:=by
  show List.all [_,_,_] (PySem.W.kqdOk 8)=true
  have e:∀ f:List Int,PySem.W.kqdOk 8 (.tuple (f.map .int))=true:=fun f=>kqd_ints f 7
  simp only [List.all_cons,List.all_nil,Bool.and_true,e]
end K0
end
section
namespace K0
open PySem L2 Num
noncomputable def qv (t b:Int):Rat:=(t:Rat) / (b:Rat)
theorem cast_ne {b:Int} (h:b ≠ 0):(b:Rat) ≠ 0:=fun z=>h (by exact_mod_cast z)
theorem fr_qv {t b t' b':Int} (hb:0 < b) (hb':0 < b') (h:qv t b=qv t' b'):fr t b=fr t' b':=by
  refine fr_eq hb hb' ?_
  have h1:=cast_ne (show b ≠ 0 by omega)
  have h2:=cast_ne (show b' ≠ 0 by omega)
  unfold qv at h
  have:(t:Rat) * b'=t' * b:=by grind
  exact_mod_cast this
theorem qv_of {t b t' b':Int} (hb:b ≠ 0) (hb':b' ≠ 0) (h:t * b'=t' * b):qv t b=qv t' b':=by
  have h1:=cast_ne hb
  have h2:=cast_ne hb'
  unfold qv
  have:(t:Rat) * b'=t' * b:=by exact_mod_cast h
  grind
noncomputable def R1 (a b c d x y z:Rat):Rat:=(a * a + b * b - c * c - d * d) * x + 2 * (b * c - a * d) * y + 2 * (b * d + a * c) * z
noncomputable def R2 (a b c d x y z:Rat):Rat:=2 * (b * c + a * d) * x + (a * a - b * b + c * c - d * d) * y + 2 * (c * d - a * b) * z
noncomputable def R3 (a b c d x y z:Rat):Rat:=2 * (b * d - a * c) * x + 2 * (c * d + a * b) * y + (a * a - b * b - c * c + d * d) * z
noncomputable def N4 (a b c d:Rat):Rat:=a * a + b * b + c * c + d * d
theorem R1_mul (a b c d e f g h x y z:Rat):R1 e f g h (R1 a b c d x y z) (R2 a b c d x y z) (R3 a b c d x y z)=R1 (e * a - f * b - g * c - h * d) (e * b + f * a + g * d - h * c) (e * c - f * d + g * a + h * b) (e * d + f * c - g * b + h * a) x y z:=by
  unfold R1 R2 R3
  grind
theorem R2_mul (a b c d e f g h x y z:Rat):R2 e f g h (R1 a b c d x y z) (R2 a b c d x y z) (R3 a b c d x y z)=R2 (e * a - f * b - g * c - h * d) (e * b + f * a + g * d - h * c) (e * c - f * d + g * a + h * b) (e * d + f * c - g * b + h * a) x y z:=by
  unfold R1 R2 R3
  grind
theorem R3_mul (a b c d e f g h x y z:Rat):R3 e f g h (R1 a b c d x y z) (R2 a b c d x y z) (R3 a b c d x y z)=R3 (e * a - f * b - g * c - h * d) (e * b + f * a + g * d - h * c) (e * c - f * d + g * a + h * b) (e * d + f * c - g * b + h * a) x y z:=by
  unfold R1 R2 R3
  grind
structure Lo (k:Nat) (t b:Int) (x:Rat):Prop where
  pos:0 < b
  low:Nat.gcd t.natAbs b.natAbs=1
  bt:Bt t k
  bb:Bt b k
  val:qv t b=x
theorem Lo.fr {k:Nat} {t b:Int} {x:Rat} (h:Lo k t b x):fr t b=[t,b]:=by
  unfold K0.fr red
  rw [gcdN2,h.low]
  simp
theorem Lo.eq {k k':Nat} {t b t' b':Int} {x:Rat} (h:Lo k t b x) (h':Lo k' t' b' x):[t,b]=[t',b']:=by
  rw [<- h.fr, <- h'.fr]
  exact fr_qv h.pos h'.pos (by rw [h.val,h'.val])
theorem Lo.of {k:Nat} {T B t b:Int} {x:Rat} (hB:0 < B) (hT:Bt T k) (hb:Bt B k) (h:K0.fr T B=[t,b]) (hv:qv T B=x):Lo k t b x:=by
  obtain ⟨h1,h2,h3,h4,h5⟩:=fr_pos hB h
  refine ⟨h1,h5,Nat.le_trans h3 hT,Nat.le_trans h2 hb,?_⟩
  rw [<- hv]
  exact (qv_of (by omega) (by omega) h4).symm
theorem rows_btG {m:Nat} {a b c d:Int} (h:Bd (2 ^ m) [a,b,c,d]):(∀ n ∈ rw1 a b c d,Bt n (2 * m + 3))/\(∀ n ∈ rw2 a b c d,Bt n (2 * m + 3))/\(∀ n ∈ rw3 a b c d,Bt n (2 * m + 3)):=by
  have ha:Bt a m:=h a (by simp)
  have hb:Bt b m:=h b (by simp)
  have hc:Bt c m:=h c (by simp)
  have hd:Bt d m:=h d (by simp)
  have q:∀ {x y:Int},Bt x m->Bt y m->Bt (x * y) (2 * m):=fun hx hy=>(hx.mul hy).up (by omega)
  have s1:∀ {w x y z:Int},Bt w (2 * m)->Bt x (2 * m)->Bt y (2 * m)->Bt z (2 * m)->Bt (w + x - y - z) (2 * m + 3):=fun hw hx hy hz=>((hw.add hx).sub (hy.up (by omega))).sub (hz.up (by omega))
  have s2:∀ {w x y z:Int},Bt w (2 * m)->Bt x (2 * m)->Bt y (2 * m)->Bt z (2 * m)->Bt (w - x + y - z) (2 * m + 3):=fun hw hx hy hz=>((hw.sub hx).add (hy.up (by omega))).sub (hz.up (by omega))
  have s3:∀ {w x y z:Int},Bt w (2 * m)->Bt x (2 * m)->Bt y (2 * m)->Bt z (2 * m)->Bt (w - x - y + z) (2 * m + 3):=fun hw hx hy hz=>((hw.sub hx).sub (hy.up (by omega))).add (hz.up (by omega))
  have d1:∀ {x y:Int},Bt x (2 * m)->Bt y (2 * m)->Bt (2 * (x - y)) (2 * m + 3):=fun hx hy=>(two1.mul (hx.sub hy)).up (by omega)
  have d2:∀ {x y:Int},Bt x (2 * m)->Bt y (2 * m)->Bt (2 * (x + y)) (2 * m + 3):=fun hx hy=>(two1.mul (hx.add hy)).up (by omega)
  refine ⟨fun n hn=>?_,fun n hn=>?_,fun n hn=>?_⟩
  . simp only [rw1,List.mem_cons,List.mem_nil_iff,or_false] at hn
    rcases hn with rfl | rfl | rfl
    . exact s1 (q ha ha) (q hb hb) (q hc hc) (q hd hd)
    . exact d1 (q hb hc) (q ha hd)
    . exact d2 (q hb hd) (q ha hc)
  . simp only [rw2,List.mem_cons,List.mem_nil_iff,or_false] at hn
    rcases hn with rfl | rfl | rfl
    . exact d2 (q hb hc) (q ha hd)
    . exact s2 (q ha ha) (q hb hb) (q hc hc) (q hd hd)
    . exact d1 (q hc hd) (q ha hb)
  . simp only [rw3,List.mem_cons,List.mem_nil_iff,or_false] at hn
    rcases hn with rfl | rfl | rfl
    . exact d1 (q hb hd) (q ha hc)
    . exact d2 (q hc hd) (q ha hb)
    . exact s3 (q ha ha) (q hb hb) (q hc hc) (q hd hd)
theorem nrm_btG {m:Nat} {a b c d:Int} (h:Bd (2 ^ m) [a,b,c,d]):Bt (nrm [a,b,c,d]) (2 * m + 3):=by
  have ha:Bt a m:=h a (by simp)
  have hb:Bt b m:=h b (by simp)
  have hc:Bt c m:=h c (by simp)
  have hd:Bt d m:=h d (by simp)
  have q:∀ {x y:Int},Bt x m->Bt y m->Bt (x * y) (2 * m):=fun hx hy=>(hx.mul hy).up (by omega)
  exact (((q ha ha).add (q hb hb)).add ((q hc hc).up (by omega))).add ((q hd hd).up (by omega))
theorem bdm {m:Nat} {ns:List Int} (h:Bd (2 ^ m) ns) (hm:m<=1000:=by decide):Bd (2 ^ 1000) ns:=bd_mono h (Nat.pow_le_pow_right (by decide) hm)
theorem N4_scale (u p q r s:Rat):N4 (u * p) (u * q) (u * r) (u * s)=u * u * N4 p q r s:=by unfold N4;grind
theorem N4_mul (a b c d e f g h:Rat):N4 (e * a - f * b - g * c - h * d) (e * b + f * a + g * d - h * c) (e * c - f * d + g * a + h * b) (e * d + f * c - g * b + h * a)=N4 e f g h * N4 a b c d:=by unfold N4;grind
theorem N4_ne {ns:List Int} {a b c d:Int} (e:ns=[a,b,c,d]) (hz:∃ n ∈ ns,n ≠ 0):N4 a b c d ≠ 0:=by
  subst e
  have np:=nrm_pos (ns:=[a,b,c,d]) rfl hz
  have cN:((nrm [a,b,c,d]:Int):Rat)=N4 a b c d:=by unfold nrm N4;push_cast;rfl
  rw [<- cN]
  exact cast_ne (by omega)
theorem div_help {x y n m u X:Rat} (hu:u ≠ 0) (hn:n ≠ 0) (hm:m ≠ 0) (h1:u * u * x=X) (h2:u * u * n=m):x / n=X / m:=by
  subst h1 h2
  grind
theorem R1_scale (u p q r s x y z:Rat):R1 (u * p) (u * q) (u * r) (u * s) x y z=u * u * R1 p q r s x y z:=by unfold R1;grind
theorem R1_div (p q r s x y z n:Rat):R1 p q r s (x / n) (y / n) (z / n)=R1 p q r s x y z / n:=by unfold R1;grind
theorem R1_then {a b c d e f g h p q r s:Int} {x y z:Rat} (hp:pl (qm [e,f,g,h] [a,b,c,d])=[p,q,r,s]) (z1:∃ n ∈ [a,b,c,d],n ≠ 0) (z2:∃ n ∈ [e,f,g,h],n ≠ 0) :
    R1 e f g h (R1 a b c d x y z / N4 a b c d) (R2 a b c d x y z / N4 a b c d) (R3 a b c d x y z / N4 a b c d) / N4 e f g h=R1 p q r s x y z / N4 p q r s:=by
  have zq:=nz_qm (ns:=[e,f,g,h]) (ms:=[a,b,c,d]) rfl rfl z2 z1
  have hu:=cast_ne (unit_ne zq)
  have n1:=N4_ne rfl z1
  have n2:=N4_ne rfl z2
  have n3:=N4_ne hp (nz_pl zq)
  have em:=pl_mul (ns:=qm [e,f,g,h] [a,b,c,d])
  rw [hp] at em
  generalize unit (qm [e,f,g,h] [a,b,c,d])=u at *
  simp only [List.map_cons,List.map_nil,qm,List.cons.injEq,and_true] at em
  obtain ⟨m1,m2,m3,m4⟩:=em
  have k1:(u:Rat) * p=e * a - f * b - g * c - h * d:=by exact_mod_cast m1
  have k2:(u:Rat) * q=e * b + f * a + g * d - h * c:=by exact_mod_cast m2
  have k3:(u:Rat) * r=e * c - f * d + g * a + h * b:=by exact_mod_cast m3
  have k4:(u:Rat) * s=e * d + f * c - g * b + h * a:=by exact_mod_cast m4
  have A:=R1_scale u p q r s x y z
  have B:=N4_scale u p q r s
  rw [k1,k2,k3,k4] at A B
  rw [R1_div,R1_mul,A]
  rw [N4_mul] at B
  have n12:(N4 e f g h:Rat) * N4 a b c d ≠ 0:=by grind
  rw [div_help (X:=u * u * R1 p q r s x y z) hu n3 n12 rfl B.symm (y:=0)]
  grind
theorem R2_scale (u p q r s x y z:Rat):R2 (u * p) (u * q) (u * r) (u * s) x y z=u * u * R2 p q r s x y z:=by unfold R2;grind
theorem R2_div (p q r s x y z n:Rat):R2 p q r s (x / n) (y / n) (z / n)=R2 p q r s x y z / n:=by unfold R2;grind
theorem R2_then {a b c d e f g h p q r s:Int} {x y z:Rat} (hp:pl (qm [e,f,g,h] [a,b,c,d])=[p,q,r,s]) (z1:∃ n ∈ [a,b,c,d],n ≠ 0) (z2:∃ n ∈ [e,f,g,h],n ≠ 0) :
    R2 e f g h (R1 a b c d x y z / N4 a b c d) (R2 a b c d x y z / N4 a b c d) (R3 a b c d x y z / N4 a b c d) / N4 e f g h=R2 p q r s x y z / N4 p q r s:=by
  have zq:=nz_qm (ns:=[e,f,g,h]) (ms:=[a,b,c,d]) rfl rfl z2 z1
  have hu:=cast_ne (unit_ne zq)
  have n1:=N4_ne rfl z1
  have n2:=N4_ne rfl z2
  have n3:=N4_ne hp (nz_pl zq)
  have em:=pl_mul (ns:=qm [e,f,g,h] [a,b,c,d])
  rw [hp] at em
  generalize unit (qm [e,f,g,h] [a,b,c,d])=u at *
  simp only [List.map_cons,List.map_nil,qm,List.cons.injEq,and_true] at em
  obtain ⟨m1,m2,m3,m4⟩:=em
  have k1:(u:Rat) * p=e * a - f * b - g * c - h * d:=by exact_mod_cast m1
  have k2:(u:Rat) * q=e * b + f * a + g * d - h * c:=by exact_mod_cast m2
  have k3:(u:Rat) * r=e * c - f * d + g * a + h * b:=by exact_mod_cast m3
  have k4:(u:Rat) * s=e * d + f * c - g * b + h * a:=by exact_mod_cast m4
  have A:=R2_scale u p q r s x y z
  have B:=N4_scale u p q r s
  rw [k1,k2,k3,k4] at A B
  rw [R2_div,R2_mul,A]
  rw [N4_mul] at B
  have n12:(N4 e f g h:Rat) * N4 a b c d ≠ 0:=by grind
  rw [div_help (X:=u * u * R2 p q r s x y z) hu n3 n12 rfl B.symm (y:=0)]
  grind
theorem R3_scale (u p q r s x y z:Rat):R3 (u * p) (u * q) (u * r) (u * s) x y z=u * u * R3 p q r s x y z:=by unfold R3;grind
theorem R3_div (p q r s x y z n:Rat):R3 p q r s (x / n) (y / n) (z / n)=R3 p q r s x y z / n:=by unfold R3;grind
theorem R3_then {a b c d e f g h p q r s:Int} {x y z:Rat} (hp:pl (qm [e,f,g,h] [a,b,c,d])=[p,q,r,s]) (z1:∃ n ∈ [a,b,c,d],n ≠ 0) (z2:∃ n ∈ [e,f,g,h],n ≠ 0) :
    R3 e f g h (R1 a b c d x y z / N4 a b c d) (R2 a b c d x y z / N4 a b c d) (R3 a b c d x y z / N4 a b c d) / N4 e f g h=R3 p q r s x y z / N4 p q r s:=by
  have zq:=nz_qm (ns:=[e,f,g,h]) (ms:=[a,b,c,d]) rfl rfl z2 z1
  have hu:=cast_ne (unit_ne zq)
  have n1:=N4_ne rfl z1
  have n2:=N4_ne rfl z2
  have n3:=N4_ne hp (nz_pl zq)
  have em:=pl_mul (ns:=qm [e,f,g,h] [a,b,c,d])
  rw [hp] at em
  generalize unit (qm [e,f,g,h] [a,b,c,d])=u at *
  simp only [List.map_cons,List.map_nil,qm,List.cons.injEq,and_true] at em
  obtain ⟨m1,m2,m3,m4⟩:=em
  have k1:(u:Rat) * p=e * a - f * b - g * c - h * d:=by exact_mod_cast m1
  have k2:(u:Rat) * q=e * b + f * a + g * d - h * c:=by exact_mod_cast m2
  have k3:(u:Rat) * r=e * c - f * d + g * a + h * b:=by exact_mod_cast m3
  have k4:(u:Rat) * s=e * d + f * c - g * b + h * a:=by exact_mod_cast m4
  have A:=R3_scale u p q r s x y z
  have B:=N4_scale u p q r s
  rw [k1,k2,k3,k4] at A B
  rw [R3_div,R3_mul,A]
  rw [N4_mul] at B
  have n12:(N4 e f g h:Rat) * N4 a b c d ≠ 0:=by grind
  rw [div_help (X:=u * u * R3 p q r s x y z) hu n3 n12 rfl B.symm (y:=0)]
  grind
theorem pl_prop {ns ms:List Int} {k l:Int} (hk:k ≠ 0) (hl:l ≠ 0) (h:ns.map (k * ·)=ms.map (l * ·)) (z1:∃ n ∈ ns,n ≠ 0) (z2:∃ n ∈ ms,n ≠ 0):pl ns=pl ms:=by
  rw [<- pl_scale hk z1,h,pl_scale hl z2]
end K0
end
section
namespace K0
open PySem L2 Num
structure PC (H:Hp) (r:Addr) (c:Nat) (x y z:Rat):Prop where
  ex:∃ t1 b1 t2 b2 t3 b3,Pt H r [t1,b1] [t2,b2] [t3,b3]/\Lo c t1 b1 x/\Lo c t2 b2 y/\Lo c t3 b3 z/\∃ C T1 T2 T3:Int,0 < C/\Bt C c/\Bt T1 c/\Bt T2 c/\Bt T3 c/\qv T1 C=x/\qv T2 C=y/\qv T3 C=z
theorem qv_cross {t b t' b':Int} (hb:b ≠ 0) (hb':b' ≠ 0) (h:qv t b=qv t' b'):t * b'=t' * b:=by
  have h1:=cast_ne hb
  have h2:=cast_ne hb'
  unfold qv at h
  have:(t:Rat) * b'=t' * b:=by grind
  exact_mod_cast this
theorem low_dvd {k:Nat} {t b T C:Int} {x:Rat} (h:Lo k t b x) (hC:0 < C) (hv:qv T C=x):b ∣ C:=by
  have hb:=h.pos
  have e:=qv_cross (by omega) (by omega) (h.val.trans hv.symm)
  have d:b.natAbs ∣ t.natAbs * C.natAbs:=by
    rw [<- Int.natAbs_mul,e,Int.natAbs_mul];exact Nat.dvd_mul_left _ _
  have co:Nat.Coprime b.natAbs t.natAbs:=by unfold Nat.Coprime;rw [Nat.gcd_comm];exact h.low
  exact Int.natAbs_dvd_natAbs.mp (co.dvd_of_dvd_mul_left d)
noncomputable def bk (n:List Int):List Int:=pl (cj n)
end K0
end
section
namespace K0
open PySem L2 Num
theorem okL {i j:Int} (h1 : -(2 ^ 64) < i) (h2:i < 2 ^ 64):IntMulOk i j:=CMul.ok (.inl ⟨h1,h2⟩)
theorem okR {i j:Int} (h1 : -(2 ^ 64) < j) (h2:j < 2 ^ 64):IntMulOk i j:=CMul.ok (.inr ⟨h1,h2⟩)
end K0
end
section
namespace L2
open PySem PySem.Spec PyProof.Rows
end L2
namespace K0
open PySem L2 Num
open PySem.W (Dat)
noncomputable def rs (ns:List Int):List Int:=match ns with | [a,_,_,_]=>fr (a * a) (nrm ns) | _=>[]
noncomputable def spAbout (K:PySem.W.Frag):Sp:=fun vs H Q _=>∃ (x y:Addr) (p t u k l:Int),vs=[.ref x,.ref y]/\SqT K H x ([p,t,u].map V.int)/\SqT K H y ([k,l].map V.int)/\(∃ n ∈ [l,k * p,k * t,k * u],n ≠ 0)/\Bd (2 ^ 1000) [p,t,u]/\Bd (2 ^ 1000) [k,l] /\
  ∀ (r:Addr) (H':Hp),Same H H'->H' r=some (.tup ((pl [l,k * p,k * t,k * u]).map V.int))->Q (.ref r) H'
theorem nz_about {k l a b c:Int} (hk:k ≠ 0\/l ≠ 0) (nz:∃ n ∈ [a,b,c],n ≠ 0):∃ n ∈ [l,k * a,k * b,k * c],n ≠ 0:=by
  by_cases hl:l=0
  . have hk':k ≠ 0:=by omega
    obtain ⟨n,hn,h0⟩:=nz
    refine ⟨k * n,?_,Int.mul_ne_zero hk' h0⟩
    simp only [List.mem_cons,List.mem_nil_iff,or_false] at hn
    rcases hn with rfl | rfl | rfl <;> simp
  . exact ⟨l,by simp,hl⟩
noncomputable def cr (a b c d e f:Int):List Int:=[b * f - c * e,c * d - a * f,a * e - b * d]
noncomputable def ps (k l:Int):List Int:=[k / unit [l,k],l / unit [l,k]]
theorem gcd2 (k l:Int):Nat.gcd k.natAbs l.natAbs=gcdN [l,k]:=by
  show _=Nat.gcd (Nat.gcd 0 l.natAbs) k.natAbs
  rw [Nat.gcd_zero_left,Nat.gcd_comm]
theorem unit2 (k l:Int):unit [l,k]=if l < 0\/(l=0/\k < 0) then -(gcdN [l,k]:Int) else gcdN [l,k]:=by
  unfold unit
  have e:fst0 [l,k] < 0 ↔ l < 0\/(l=0/\k < 0):=by
    simp only [fst0]
    split
    . split <;> omega
    . omega
  by_cases h:fst0 [l,k] < 0
  . rw [if_pos h,if_pos (e.mp h)]
  . rw [if_neg h,if_neg (fun y=>h (e.mpr y))]
theorem ps_red {k l:Int} (h:∃ n ∈ [l,k],n ≠ 0):(l / (gcdN [k,l]:Int) < 0\/(k / (gcdN [k,l]:Int) = -1/\l / (gcdN [k,l]:Int)=0)) ↔ (l < 0\/(l=0/\k < 0)):=by
  have h':∃ n ∈ [k,l],n ≠ 0:=by
    obtain ⟨n,hn,h0⟩:=h
    exact ⟨n,by simp at hn ⊢;omega,h0⟩
  have gp:=gcdN_pos h'
  have e:Nat.gcd l.natAbs k.natAbs=gcdN [k,l]:=gcd2 l k
  obtain ⟨a,ha⟩:=gcdN_dvd (ns:=[k,l]) (n:=k) (by simp)
  obtain ⟨b,hb⟩:=gcdN_dvd (ns:=[k,l]) (n:=l) (by simp)
  generalize gcdN [k,l]=g at *
  have gp':(0:Int) < g:=by omega
  have ka:k / (g:Int)=a:=by rw [ha];exact Int.mul_ediv_cancel_left _ (by omega)
  have lb:l / (g:Int)=b:=by rw [hb];exact Int.mul_ediv_cancel_left _ (by omega)
  rw [ka,lb]
  have n1:b < 0 ↔ l < 0:=by
    rw [hb]
    constructor
    . intro y;exact Int.mul_neg_of_pos_of_neg gp' y
    . intro y
      apply Decidable.byContradiction
      intro z
      have:=Int.mul_nonneg (Int.le_of_lt gp') (show 0<=b by omega)
      omega
  have n2:b=0 ↔ l=0:=by
    rw [hb]
    constructor
    . intro y;rw [y,Int.mul_zero]
    . intro y
      rcases Int.mul_eq_zero.mp y with y | y
      . omega
      . exact y
  have n3:l=0->(a = -1 ↔ k < 0):=fun l0=>by
    rw [l0] at e
    have e2:k.natAbs=g:=by rw [<- e];simp
    constructor
    . intro y;rw [y] at ha;omega
    . intro y
      have:k = -(g:Int):=by omega
      rw [this] at ha
      have z:(g:Int) * (a + 1)=0:=by rw [Int.mul_add, <- ha];omega
      rcases Int.mul_eq_zero.mp z with y | y <;> omega
  constructor
  . rintro (y | ⟨y,z⟩)
    . exact .inl (n1.mp y)
    . exact .inr ⟨n2.mp z,(n3 (n2.mp z)).mp y⟩
  . rintro (y | ⟨y,z⟩)
    . exact .inl (n1.mpr y)
    . exact .inr ⟨(n3 y).mpr z,n2.mpr y⟩
theorem gcd_swap (k l:Int):gcdN [k,l]=gcdN [l,k]:=by rw [<- gcd2 l k,Nat.gcd_comm,gcd2]
theorem ps_pos {k l:Int} (h:l < 0\/(l=0/\k < 0)):(red [k,l]).map (fun n => -n)=ps k l:=by
  show [-(k / (gcdN [k,l]:Int)), -(l / (gcdN [k,l]:Int))]=[_,_]
  rw [unit2,if_pos h,gcd_swap,Int.ediv_neg,Int.ediv_neg]
theorem ps_neg {k l:Int} (h:¬ (l < 0\/(l=0/\k < 0))):red [k,l]=ps k l:=by
  show [(k / (gcdN [k,l]:Int)),(l / (gcdN [k,l]:Int))]=[_,_]
  rw [unit2,if_neg h,gcd_swap]
noncomputable def spPS2 (K:PySem.W.Frag):Sp:=fun vs H Q _=>∃ (x:Addr) (k l:Int),vs=[.ref x]/\SqT K H x ([k,l].map V.int)/\(∃ n ∈ [l,k],n ≠ 0)/\Sm [l,k]/\∀ (r:Addr) (H':Hp),Same H H'->H' r=some (.tup ((ps k l).map V.int))->Q (.ref r) H'
end K0
end
section
namespace D
open PySem L2 K0
open PySem.W (Dat)
noncomputable def SqN (N:Addr->Prop) (K:PySem.W.Frag) (H:Hp) (a:Addr) (xs:List V):Prop:=(N a/\Rd H a (.lst xs))\/SqL K (fun _=>none) a xs
theorem SqN.sq {N:Addr->Prop} {K:PySem.W.Frag} {H:Hp} {a:Addr} {xs:List V} (h:SqN N K H a xs):SqL K H a xs:=by
  rcases h with ⟨_,h⟩ | (h | ⟨o,h⟩) | h
  . exact .inl h
  . cases h
  . cases h
  . exact .inr h
mutual
inductive Dz (N:Addr->Prop) (K:PySem.W.Frag) (H:Hp):V->Dat->Prop
  | none:Dz N K H .non .none
  | bool (b:Bool):Dz N K H (.bl b) (.bool b)
  | int (i:Int):Dz N K H (.int i) (.int i)
  | str (x:Str):Dz N K H (.str x) (.str x)
  | tup {a:Addr} {xs:List V} {ds:List Dat}:SqT K H a xs->Dzs N K H xs ds->Dz N K H (.ref a) (.tuple ds)
  | lst {a:Addr} {xs:List V} {ds:List Dat}:SqN N K H a xs->Dzs N K H xs ds->Dz N K H (.ref a) (.list ds)
inductive Dzs (N:Addr->Prop) (K:PySem.W.Frag) (H:Hp):List V->List Dat->Prop
  | nil:Dzs N K H [] []
  | cons {x:V} {d:Dat} {xs:List V} {ds:List Dat}:Dz N K H x d->Dzs N K H xs ds->Dzs N K H (x :: xs) (d :: ds)
end
structure Ev (W:Addr->Prop) (H H':Hp):Prop where
  keep:∀ b o,¬ W b->H b=some o->H' b=some o
  tm:Tm H H'
theorem Ev.refl {W:Addr->Prop} {H:Hp}:Ev W H H:=⟨fun _ _ _ h=>h,Tm.refl _⟩
theorem Ev.trans {W:Addr->Prop} {H H1 H2:Hp} (a:Ev W H H1) (b:Ev W H1 H2):Ev W H H2:=⟨fun c o n h=>b.keep c o n (a.keep c o n h),a.tm.trans b.tm⟩
theorem Ev.of {W:Addr->Prop} {H H':Hp} (s:Same H H'):Ev W H H':=⟨fun c o _ h=>s c o h,s.tm⟩
theorem Ev.mono {W W':Addr->Prop} {H H':Hp} (a:Ev W H H') (m:∀ b,W b->W' b):Ev W' H H':=⟨fun c o n h=>a.keep c o (fun z=>n (m c z)) h,a.tm⟩
structure Own where
  R:(Addr->Prop)->PySem.W.Frag->Hp->Addr->List Addr->Prop
  ev:∀ {N W:Addr->Prop} {K:PySem.W.Frag} {H H':Hp} {a:Addr} {l:List Addr},R N K H a l->Ev W H H'->(∀ a,N a->¬ W a)->(∀ b o,b ∈ l->H b=some o->H' b=some o)->R N K H' a l
  wide:∀ {N N':Addr->Prop} {K:PySem.W.Frag} {H:Hp} {a:Addr} {l:List Addr},R N K H a l->(∀ a o,N a->H a=some o->N' a)->R N' K H a l
  al:∀ {N:Addr->Prop} {K:PySem.W.Frag} {H:Hp} {a:Addr} {l:List Addr},R N K H a l->∀ b,b ∈ l->∃ o,H b=some o
inductive Sl where
  | un | dat (d:Dat) | pu | own (ds:List Dat) | vw (ds:List Dat) | dt (o:Own)
section
variable {N N':Addr->Prop} {K:PySem.W.Frag} {H H':Hp}
mutual
theorem Dz.ev {W:Addr->Prop} (e:Ev W H H') (nw:∀ a,N a->¬ W a):∀ {v:V} {d:Dat},Dz N K H v d->Dz N K H' v d
  | _,_,.none=>.none
  | _,_,.bool b=>.bool b
  | _,_,.int i=>.int i
  | _,_,.str x=>.str x
  | _,_,.tup h r=>.tup (e.tm _ _ _ h) (Dzs.ev e nw r)
  | _,_,.lst h r=>.lst (by
      rcases h with ⟨n,h | ⟨o,h⟩⟩ | h
      . exact .inl ⟨n,.inl (e.keep _ _ (nw _ n) h)⟩
      . exact .inl ⟨n,.inr ⟨o,e.keep _ _ (nw _ n) h⟩⟩
      . exact .inr h) (Dzs.ev e nw r)
theorem Dzs.ev {W:Addr->Prop} (e:Ev W H H') (nw:∀ a,N a->¬ W a):∀ {v:List V} {d:List Dat},Dzs N K H v d->Dzs N K H' v d
  | _,_,.nil=>.nil
  | _,_,.cons h r=>.cons (Dz.ev e nw h) (Dzs.ev e nw r)
end
mutual
theorem Dz.mono (m:∀ a,N a->N' a):∀ {v:V} {d:Dat},Dz N K H v d->Dz N' K H v d
  | _,_,.none=>.none
  | _,_,.bool b=>.bool b
  | _,_,.int i=>.int i
  | _,_,.str x=>.str x
  | _,_,.tup h r=>.tup h (Dzs.mono m r)
  | _,_,.lst h r=>.lst (h.elim (fun z=>.inl ⟨m _ z.1,z.2⟩) .inr) (Dzs.mono m r)
theorem Dzs.mono (m:∀ a,N a->N' a):∀ {v:List V} {d:List Dat},Dzs N K H v d->Dzs N' K H v d
  | _,_,.nil=>.nil
  | _,_,.cons h r=>.cons (Dz.mono m h) (Dzs.mono m r)
end
mutual
theorem Dz.is:∀ {v:V} {d:Dat},Dz N K H v d->Is K H v d
  | _,_,.none=>.none
  | _,_,.bool b=>.bool b
  | _,_,.int i=>.int i
  | _,_,.str x=>.str x
  | _,_,.tup h r=>.tup h (Dzs.is r)
  | _,_,.lst h r=>.lst h.sq (Dzs.is r)
theorem Dzs.is:∀ {v:List V} {d:List Dat},Dzs N K H v d->Iss K H v d
  | _,_,.nil=>.nil
  | _,_,.cons h r=>.cons (Dz.is h) (Dzs.is r)
end
theorem Dzs.len:∀ {v:List V} {d:List Dat},Dzs N K H v d->v.length=d.length
  | _,_,.nil=>rfl
  | _,_,.cons _ r=>by rw [List.length_cons,List.length_cons,Dzs.len r]
theorem Dzs.app:∀ {v v':List V} {d d':List Dat},Dzs N K H v d->Dzs N K H v' d'->Dzs N K H (v ++ v') (d ++ d')
  | _,_,_,_,.nil,h=>h
  | _,_,_,_,.cons a r,h=>.cons a (Dzs.app r h)
theorem Dzs.get:∀ {v:List V} {d:List Dat} {i:Nat} {e:Dat},Dzs N K H v d->d[i]?=some e->∃ x,v[i]?=some x/\Dz N K H x e
  | _,_,_,_,.nil,h=>by simp at h
  | _,_,0,_,.cons a r,h=>by simp at h;subst h;exact ⟨_,rfl,a⟩
  | _,_,i + 1,e,.cons a r,h=>by
    obtain ⟨x,q,z⟩:=Dzs.get (i:=i) r (by simpa using h)
    exact ⟨x,by simpa using q,z⟩
theorem Dzs.drop:∀ {v:List V} {d:List Dat} (n:Nat),Dzs N K H v d->Dzs N K H (v.drop n) (d.drop n)
  | _,_,0,h=>h
  | _,_,n + 1,.nil=>.nil
  | _,_,n + 1,.cons a r=>by simpa using Dzs.drop n r
theorem Dzs.take:∀ {v:List V} {d:List Dat} (n:Nat),Dzs N K H v d->Dzs N K H (v.take n) (d.take n)
  | _,_,0,h=>by simpa using Dzs.nil
  | _,_,n + 1,.nil=>.nil
  | _,_,n + 1,.cons a r=>by simpa using Dzs.cons a (Dzs.take n r)
theorem Dzs.ints (ns:List Int):Dzs N K H (ns.map V.int) (ns.map Dat.int):=by
  induction ns with
  | nil=>exact .nil
  | cons n ns ih=>exact .cons (.int n) ih
theorem Dzs.inv:∀ {vs:List V} {ns:List Int},Dzs N K H vs (ns.map Dat.int)->vs=ns.map V.int
  | _,[],h=>by cases h;rfl
  | _,n :: ns,h=>by
    cases h with
    | cons a r=>cases a;rw [Dzs.inv r];rfl
end
mutual
noncomputable def noL:Dat->Bool
  | .tuple ds=>noLs ds
  | .list _=>false
  | .none=>true
  | .bool _=>true
  | .int _=>true
  | .str _=>true
  | _=>false
noncomputable def noLs:List Dat->Bool
  | []=>true
  | d :: r=>noL d && noLs r
end
section
variable {N N':Addr->Prop} {K:PySem.W.Frag} {H H':Hp}
mutual
theorem Dz.free:∀ {v:V} {d:Dat},Dz N K H v d->noL d=true->Dz N' K H v d
  | _,_,.none,_=>.none
  | _,_,.bool b,_=>.bool b
  | _,_,.int i,_=>.int i
  | _,_,.str x,_=>.str x
  | _,_,.tup h r,z=>.tup h (Dzs.free r (by rw [noL] at z;exact z))
  | _,_,.lst h r,z=>by rw [noL] at z;cases z
theorem Dzs.free:∀ {v:List V} {d:List Dat},Dzs N K H v d->noLs d=true->Dzs N' K H v d
  | _,_,.nil,_=>.nil
  | _,_,.cons h r,z=>by
    rw [noLs,Bool.and_eq_true] at z
    exact .cons (Dz.free h z.1) (Dzs.free r z.2)
end
end
theorem noLs_ints (ns:List Int):noLs (ns.map .int)=true:=by
  induction ns with
  | nil=>rw [List.map_nil,noLs]
  | cons n r ih=>rw [List.map_cons,noLs,ih,noL];rfl
section
variable {N N':Addr->Prop} {K:PySem.W.Frag} {H:Hp}
end
structure Ok (p:Option Addr) (W:Addr->Prop) (H:Hp):Prop where
  pu:∀ q,p=some q->Pu H q/\W q
  al:∀ a,W a->∃ ys,H a=some ys
inductive Rs (p:Option Addr) (W:Addr->Prop) (K:PySem.W.Frag) (H:Hp):List Addr->St->List Sl->Prop
  | nil:Rs p W K H [] [] []
  | un {L:List Addr} {σ:St} {τ:List Sl} {o:Option V}:Rs p W K H L σ τ->Rs p W K H L (o :: σ) (.un :: τ)
  | dat {L:List Addr} {σ:St} {τ:List Sl} {v:V} {d:Dat}:Dz (fun a=>¬ W a) K H v d->Rs p W K H L σ τ->Rs p W K H L (some v :: σ) (.dat d :: τ)
  | pu {L:List Addr} {σ:St} {τ:List Sl} {q:Addr}:p=some q->Rs p W K H L σ τ->Rs p W K H L (some (.ref q) :: σ) (.pu :: τ)
  | own {L:List Addr} {σ:St} {τ:List Sl} {a:Addr} {vs:List V} {ds:List Dat}:W a->p ≠ some a->a ∉ L->H a=some (.lst vs)->Dzs (fun a=>¬ W a) K H vs ds->Rs p W K H L σ τ->Rs p W K H (a :: L) (some (.ref a) :: σ) (.own ds :: τ)
  | dt {L l:List Addr} {σ:St} {τ:List Sl} {a:Addr} {o:Own}:(∀ b,b ∈ l->W b)->(∀ b,b ∈ l->p ≠ some b)->(∀ b,b ∈ l->b ∉ L)->o.R (fun a=>¬ W a) K H a l->Rs p W K H L σ τ->Rs p W K H (l ++ L) (some (.ref a) :: σ) (.dt o :: τ)
noncomputable def Rv (p:Option Addr) (W:Addr->Prop) (K:PySem.W.Frag) (H H':Hp) (v:V):Sl->Prop
  | .un=>True
  | .dat d=>Dz (fun a=>¬ W a) K H' v d
  | .pu=>∃ q,p=some q/\v = .ref q
  | .own ds=>∃ a vs,v = .ref a/\H a=none/\H' a=some (.lst vs)/\Dzs (fun a=>¬ W a) K H' vs ds
  | .dt o=>∃ a l,v = .ref a/\(∀ b,b ∈ l->H b=none)/\o.R (fun a=>¬ W a) K H' a l
  | .vw ds=>∃ a vs,v = .ref a/\SqN (fun a=>p ≠ some a) K H' a vs/\Dzs (fun a=>¬ W a) K H' vs ds
inductive Rvs (p:Option Addr) (W:Addr->Prop) (K:PySem.W.Frag) (H H':Hp):List V->List Sl->Prop
  | nil:Rvs p W K H H' [] []
  | cons {v:V} {s:Sl} {vs:List V} {ss:List Sl}:Rv p W K H H' v s->Rvs p W K H H' vs ss->Rvs p W K H H' (v :: vs) (s :: ss)
noncomputable def Pp (p:Option Addr):Addr->Prop:=fun a=>p=some a
section
variable {p:Option Addr} {W:Addr->Prop} {K:PySem.W.Frag} {H H1 H':Hp} {σ:St} {τ:List Sl} {L:List Addr} {v:V} {s:Sl}
theorem Ok.ev (o:Ok p W H) (e:Ev (Pp p) H H') (q:∀ q,p=some q->Pu H' q):Ok p W H':=⟨fun a ha=>⟨q a ha,(o.pu a ha).2⟩,fun a ha=>by
  by_cases z:p=some a
  . obtain ⟨x,y,h⟩:=q a z;exact ⟨_,h⟩
  . obtain ⟨ys,h⟩:=o.al a ha;exact ⟨ys,e.keep _ _ z h⟩⟩
theorem Rs.ev (r:Rs p W K H L σ τ) (e:Ev (Pp p) H H') (pw:∀ q,p=some q->W q):Rs p W K H' L σ τ:=by
  have nw:∀ a,¬ W a->¬ Pp p a:=fun a n z=>n (pw a z)
  induction r with
  | nil=>exact .nil
  | un _ ih=>exact .un ih
  | dat h _ ih=>exact .dat (h.ev e nw) ih
  | pu h _ ih=>exact .pu h ih
  | own h1 h2 h3 h4 h5 _ ih=>exact .own h1 h2 h3 (e.keep _ _ h2 h4) (h5.ev e nw) ih
  | dt h1 h2 h3 h4 _ ih=>exact .dt h1 h2 h3 (Own.ev _ h4 e nw fun b o hb h=>e.keep _ _ (h2 b hb) h) ih
theorem Rs.get_dat (r:Rs p W K H L σ τ):∀ {i:Nat} {d:Dat},τ[i]?=some (.dat d)->∃ v,σ[i]?=some (some v)/\Dz (fun a=>¬ W a) K H v d:=by
  induction r with
  | nil=>intro i d h;simp at h
  | un _ ih =>
    intro i d h
    match i,h with
    | 0,h=>simp at h
    | i + 1,h=>exact ih (i:=i) (by simpa using h)
  | dat z _ ih =>
    intro i d h
    match i,h with
    | 0,h=>simp at h;subst h;exact ⟨_,rfl,z⟩
    | i + 1,h=>exact ih (i:=i) (by simpa using h)
  | pu _ _ ih =>
    intro i d h
    match i,h with
    | 0,h=>simp at h
    | i + 1,h=>exact ih (i:=i) (by simpa using h)
  | own _ _ _ _ _ _ ih =>
    intro i d h
    match i,h with
    | 0,h=>simp at h
    | i + 1,h=>exact ih (i:=i) (by simpa using h)
  | dt _ _ _ _ _ ih =>
    intro i d h
    match i,h with
    | 0,h=>simp at h
    | i + 1,h=>exact ih (i:=i) (by simpa using h)
theorem Rs.get_pu (r:Rs p W K H L σ τ):∀ {i:Nat},τ[i]?=some .pu->∃ q,p=some q/\σ[i]?=some (some (.ref q)):=by
  induction r with
  | nil=>intro i h;simp at h
  | un _ ih =>
    intro i h
    match i,h with
    | 0,h=>simp at h
    | i + 1,h=>exact ih (i:=i) (by simpa using h)
  | dat z _ ih =>
    intro i h
    match i,h with
    | 0,h=>simp at h
    | i + 1,h=>exact ih (i:=i) (by simpa using h)
  | pu z _ ih =>
    intro i h
    match i,h with
    | 0,h=>exact ⟨_,z,rfl⟩
    | i + 1,h=>exact ih (i:=i) (by simpa using h)
  | own _ _ _ _ _ _ ih =>
    intro i h
    match i,h with
    | 0,h=>simp at h
    | i + 1,h=>exact ih (i:=i) (by simpa using h)
  | dt _ _ _ _ _ ih =>
    intro i h
    match i,h with
    | 0,h=>simp at h
    | i + 1,h=>exact ih (i:=i) (by simpa using h)
theorem Rs.get_own (r:Rs p W K H L σ τ):∀ {i:Nat} {ds:List Dat},τ[i]?=some (.own ds)->∃ a vs,σ[i]?=some (some (.ref a))/\W a/\p ≠ some a/\a ∈ L/\H a=some (.lst vs)/\Dzs (fun a=>¬ W a) K H vs ds:=by
  induction r with
  | nil=>intro i ds h;simp at h
  | un _ ih =>
    intro i ds h
    match i,h with
    | 0,h=>simp at h
    | i + 1,h=>exact ih (i:=i) (by simpa using h)
  | dat z _ ih =>
    intro i ds h
    match i,h with
    | 0,h=>simp at h
    | i + 1,h=>exact ih (i:=i) (by simpa using h)
  | pu z _ ih =>
    intro i ds h
    match i,h with
    | 0,h=>simp at h
    | i + 1,h=>exact ih (i:=i) (by simpa using h)
  | own h1 h2 h3 h4 h5 _ ih =>
    intro i ds h
    match i,h with
    | 0,h=>simp at h;subst h;exact ⟨_,_,rfl,h1,h2,List.mem_cons_self,h4,h5⟩
    | i + 1,h =>
      obtain ⟨a,vs,e1,e2,e3,e4,e5⟩:=ih (i:=i) (by simpa using h)
      exact ⟨a,vs,by simpa using e1,e2,e3,List.mem_cons_of_mem _ e4,e5⟩
  | dt h1 h2 h3 h4 _ ih =>
    intro i ds h
    match i,h with
    | 0,h=>simp at h
    | i + 1,h =>
      obtain ⟨a,vs,e1,e2,e3,e4,e5⟩:=ih (i:=i) (by simpa using h)
      exact ⟨a,vs,by simpa using e1,e2,e3,List.mem_append_right _ e4,e5⟩
theorem Rs.set (r:Rs p W K H L σ τ) {v:V} {s:Sl} (hs:(s = .un)\/(∃ d,s = .dat d/\Dz (fun a=>¬ W a) K H v d)\/(s = .pu/\∃ q,p=some q/\v = .ref q)):∀ (i:Nat),∃ L',(∀ a,a ∈ L'->a ∈ L)/\Rs p W K H L' (σ.set i (some v)) (τ.set i s):=by
  induction r with
  | nil=>intro i;exact ⟨[],fun _ h=>h,.nil⟩
  | un r ih =>
    intro i
    match i with
    | 0 =>
      rcases hs with rfl | ⟨d,rfl,z⟩ | ⟨rfl,q,z,rfl⟩
      . exact ⟨_,fun _ h=>h,.un r⟩
      . exact ⟨_,fun _ h=>h,.dat z r⟩
      . exact ⟨_,fun _ h=>h,.pu z r⟩
    | i + 1=>obtain ⟨L',h1,h2⟩:=ih i;exact ⟨L',h1,.un h2⟩
  | dat y r ih =>
    intro i
    match i with
    | 0 =>
      rcases hs with rfl | ⟨d,rfl,z⟩ | ⟨rfl,q,z,rfl⟩
      . exact ⟨_,fun _ h=>h,.un r⟩
      . exact ⟨_,fun _ h=>h,.dat z r⟩
      . exact ⟨_,fun _ h=>h,.pu z r⟩
    | i + 1=>obtain ⟨L',h1,h2⟩:=ih i;exact ⟨L',h1,.dat y h2⟩
  | pu y r ih =>
    intro i
    match i with
    | 0 =>
      rcases hs with rfl | ⟨d,rfl,z⟩ | ⟨rfl,q,z,rfl⟩
      . exact ⟨_,fun _ h=>h,.un r⟩
      . exact ⟨_,fun _ h=>h,.dat z r⟩
      . exact ⟨_,fun _ h=>h,.pu z r⟩
    | i + 1=>obtain ⟨L',h1,h2⟩:=ih i;exact ⟨L',h1,.pu y h2⟩
  | own h1 h2 h3 h4 h5 r ih =>
    intro i
    match i with
    | 0 =>
      rcases hs with rfl | ⟨d,rfl,z⟩ | ⟨rfl,q,z,rfl⟩
      . exact ⟨_,fun _ h=>List.mem_cons_of_mem _ h,.un r⟩
      . exact ⟨_,fun _ h=>List.mem_cons_of_mem _ h,.dat z r⟩
      . exact ⟨_,fun _ h=>List.mem_cons_of_mem _ h,.pu z r⟩
    | i + 1 =>
      obtain ⟨L',g1,g2⟩:=ih i
      refine ⟨_ :: L',fun b hb=>?_,.own h1 h2 (fun z=>h3 (g1 _ z)) h4 h5 g2⟩
      rcases List.mem_cons.mp hb with rfl | hb
      . exact List.mem_cons_self
      . exact List.mem_cons_of_mem _ (g1 b hb)
  | dt h1 h2 h3 h4 r ih =>
    intro i
    match i with
    | 0 =>
      rcases hs with rfl | ⟨d,rfl,z⟩ | ⟨rfl,q,z,rfl⟩
      . exact ⟨_,fun _ h=>List.mem_append_right _ h,.un r⟩
      . exact ⟨_,fun _ h=>List.mem_append_right _ h,.dat z r⟩
      . exact ⟨_,fun _ h=>List.mem_append_right _ h,.pu z r⟩
    | i + 1 =>
      obtain ⟨L',g1,g2⟩:=ih i
      exact ⟨_ ++ L',fun b hb=>(List.mem_append.mp hb).elim (List.mem_append_left _) (fun z=>List.mem_append_right _ (g1 b z)),.dt h1 h2 (fun b hb z=>h3 b hb (g1 _ z)) h4 g2⟩
theorem Rs.wide {W':Addr->Prop} (r:Rs p W K H L σ τ) (m:∀ a,W a->W' a) (n:∀ a,W' a->¬ W a->H a=none):Rs p W' K H L σ τ:=by
  induction r with
  | nil=>exact .nil
  | un _ ih=>exact .un ih
  | dat h _ ih=>exact .dat (wideZ h) ih
  | pu h _ ih=>exact .pu h ih
  | own h1 h2 h3 h4 h5 _ ih=>exact .own (m _ h1) h2 h3 h4 (wideZs h5) ih
  | dt h1 h2 h3 h4 _ ih=>exact .dt (fun b hb=>m _ (h1 b hb)) h2 h3 (Own.wide _ h4 fun a o na ha wa=>by rw [n a wa na] at ha;cases ha) ih
where
  wideZ : ∀ {v : V} {d : Dat}, Dz (fun a => ¬ W a) K H v d -> Dz (fun a => ¬ W' a) K H v d
    | _,_,.none=>.none
    | _,_,.bool b=>.bool b
    | _,_,.int i=>.int i
    | _,_,.str x=>.str x
    | _,_,.tup h r=>.tup h (wideZs r)
    | _,_,.lst h r=>.lst (by
        rcases h with ⟨nn,h⟩ | h
        . refine .inl ⟨fun z=>?_,h⟩
          have e1:=n _ z nn
          rcases h with h | ⟨o,h⟩
          . rw [e1] at h;cases h
          . rw [e1] at h;cases h
        . exact .inr h) (wideZs r)
  wideZs:∀ {v:List V} {d:List Dat},Dzs (fun a=>¬ W a) K H v d->Dzs (fun a=>¬ W' a) K H v d
    | _,_,.nil=>.nil
    | _,_,.cons h r=>.cons (wideZ h) (wideZs r)
end
end D
end
section
namespace D
open PySem L2 K0
open PySem.W (Dat)
section
variable (p:Option Addr) (K:PySem.W.Frag)
noncomputable def E (te:TE) (τ:List Sl) (C:Sl->Prop):Prop:=∀ (W:Addr->Prop) (L:List Addr) (σ:St) (H:Hp) (Q:VK),Rs p W K H L σ τ->Ok p W H->(∀ v H' s,C s->Ev (Pp p) H H'->Ok p W H'->Rv p W K H H' v s->Q v H')->te σ H Q
noncomputable def E1 (te:TE) (τ:List Sl) (s:Sl):Prop:=E p K te τ (fun x=>s=x)
noncomputable def A (ta:TA) (τ:List Sl) (C:List Sl->Prop):Prop:=∀ (W:Addr->Prop) (L:List Addr) (σ:St) (H:Hp) (Q:List V->Hp->Prop),Rs p W K H L σ τ->Ok p W H->(∀ vs H' ss,C ss->Ev (Pp p) H H'->Ok p W H'->Rvs p W K H H' vs ss->Q vs H')->ta σ H Q
noncomputable def A1 (ta:TA) (τ:List Sl) (ss:List Sl):Prop:=A p K ta τ (fun x=>ss=x)
noncomputable def T (tt:TT) (τ:List Sl) (C:Bool->Prop):Prop:=∀ (W:Addr->Prop) (L:List Addr) (σ:St) (H:Hp) (Q:Bool->Hp->Prop),Rs p W K H L σ τ->Ok p W H->(∀ b H',C b->Ev (Pp p) H H'->Ok p W H'->Q b H')->tt σ H Q
noncomputable def T1 (tt:TT) (τ:List Sl) (b:Bool):Prop:=T p K tt τ (fun x=>b=x)
end
section
variable {p:Option Addr} {K:PySem.W.Frag} {W:Addr->Prop} {L:List Addr} {σ:St} {H H0 H1 H2:Hp} {τ:List Sl} {ta tb te:TE} {tas:TA} {v:V} {s:Sl}
theorem Ok.pw (o:Ok p W H):∀ q,p=some q->W q:=fun q h=>(o.pu q h).2
theorem Ok.nw (o:Ok p W H):∀ a,¬ W a->¬ Pp p a:=fun a n z=>n (o.pw a z)
theorem Ok.same (o:Ok p W H) (s:Same H H1):Ok p W H1:=o.ev (Ev.of s) fun q h=>(o.pu q h).1.same s
theorem Ok.back (o:Ok p W H1) (e:Ev (Pp p) H H1) {a:Addr} (h:H1 a=none):H a=none:=by
  cases q:H a with
  | none=>rfl
  | some u =>
    by_cases z:p=some a
    . obtain ⟨x,y,e2⟩:=(o.pu a z).1;rw [h] at e2;cases e2
    . rw [e.keep _ _ z q] at h;cases h
theorem Ok.fresh (o:Ok p W H) {a:Addr} (h:H a=none):¬ W a:=fun z=>by
  obtain ⟨ys,e⟩:=o.al a z;rw [h] at e;cases e
theorem Ok.np (o:Ok p W H) {a:Addr} (h:H a=none):p ≠ some a:=fun z=>o.fresh h (o.pw a z)
theorem Rv.ev (h:Rv p W K H0 H v s) (e:Ev (Pp p) H H1) (o:Ok p W H) (o0:Ok p W H0):Rv p W K H0 H1 v s:=by
  cases s with
  | un=>trivial
  | dat d=>exact Dz.ev e o.nw h
  | pu=>exact h
  | own ds =>
    obtain ⟨a,vs,rfl,h1,h2,h3⟩:=h
    exact ⟨a,vs,rfl,h1,e.keep _ _ (o0.np h1) h2,h3.ev e o.nw⟩
  | dt ds =>
    obtain ⟨a,l,rfl,h1,h2⟩:=h
    exact ⟨a,l,rfl,h1,Own.ev _ h2 e o.nw fun b u hb h=>e.keep _ _ (o0.np (h1 b hb)) h⟩
  | vw ds =>
    obtain ⟨a,vs,rfl,h2,h3⟩:=h
    refine ⟨a,vs,rfl,?_,h3.ev e o.nw⟩
    rcases h2 with ⟨z,h2 | ⟨u,h2⟩⟩ | h2
    . exact .inl ⟨z,.inl (e.keep _ _ z h2)⟩
    . exact .inl ⟨z,.inr ⟨u,e.keep _ _ z h2⟩⟩
    . exact .inr h2
theorem Rv.base (h:Rv p W K H1 H v s) (e:Ev (Pp p) H0 H1) (o1:Ok p W H1):Rv p W K H0 H v s:=by
  cases s with
  | own ds=>obtain ⟨a,vs,rfl,h1,h2⟩:=h;exact ⟨a,vs,rfl,o1.back e h1,h2⟩
  | dt ds=>obtain ⟨a,vs,rfl,h1,h2⟩:=h;exact ⟨a,vs,rfl,fun b hb=>o1.back e (h1 b hb),h2⟩
  | _=>exact h
theorem Rvs.base {vs:List V} {ss:List Sl} (h:Rvs p W K H1 H vs ss) (e:Ev (Pp p) H0 H1) (o1:Ok p W H1):Rvs p W K H0 H vs ss:=by
  induction h with
  | nil=>exact .nil
  | cons a _ ih=>exact .cons (a.base e o1) ih
theorem E.mono {C C':Sl->Prop} (h:E p K te τ C) (m:∀ s,C s->C' s):E p K te τ C':=fun W L σ H Q r o q=>h W L σ H Q r o fun v H' s c=>q v H' s (m s c)
theorem E1.var {i:Nat} {d:Dat} (h:τ[i]?=some (.dat d)):E1 p K (tVar i) τ (.dat d):=fun W L σ H Q r o q=>by
  obtain ⟨v,e,z⟩:=r.get_dat h
  exact ⟨v,e,q v H _ rfl Ev.refl o z⟩
theorem E1.varP {i:Nat} (h:τ[i]?=some .pu):E1 p K (tVar i) τ .pu:=fun W L σ H Q r o q=>by
  obtain ⟨a,e,z⟩:=r.get_pu h
  exact ⟨_,z,q _ H _ rfl Ev.refl o ⟨a,e,rfl⟩⟩
theorem E1.varO {i:Nat} {ds:List Dat} (h:τ[i]?=some (.own ds)):E1 p K (tVar i) τ (.vw ds):=fun W L σ H Q r o q=>by
  obtain ⟨a,vs,e,w,n,_,h1,z⟩:=r.get_own h
  exact ⟨_,e,q _ H _ rfl Ev.refl o ⟨a,vs,rfl,.inl ⟨n,.inl h1⟩,z⟩⟩
theorem E1.varL {i:Nat} {ds:List Dat} (h:τ[i]?=some (.dat (.list ds))):E1 p K (tVar i) τ (.vw ds):=fun W L σ H Q r o q=>by
  obtain ⟨v,e,z⟩:=r.get_dat h
  cases z with
  | lst h1 h2=>exact ⟨_,e,q _ H _ rfl Ev.refl o ⟨_,_,rfl,h1.elim (fun z=>.inl ⟨fun y=>z.1 (o.pw _ y),z.2⟩) .inr,h2⟩⟩
theorem E1.int {i:Int}:E1 p K (tC (.int i)) τ (.dat (.int i)):=fun W L σ H Q r o q=>q _ H _ rfl Ev.refl o (.int i)
theorem E1.bl {i:Bool}:E1 p K (tC (.bl i)) τ (.dat (.bool i)):=fun W L σ H Q r o q=>q _ H _ rfl Ev.refl o (.bool i)
theorem E1.frz {ds:List Dat} (h:E1 p K te τ (.own ds)):E1 p K te τ (.dat (.list ds)):=fun W L σ H Q r o q=>h W L σ H Q r o fun v H' s e ev o' rv=>by
  subst e
  obtain ⟨a,vs,rfl,h1,h2,h3⟩:=rv
  exact q _ H' _ rfl ev o' (.lst (.inl ⟨o.fresh h1,.inl h2⟩) h3)
theorem E1.vwo {ds:List Dat} (h:E1 p K te τ (.own ds)):E1 p K te τ (.vw ds):=fun W L σ H Q r o q=>h W L σ H Q r o fun v H' s e ev o' rv=>by
  subst e
  obtain ⟨a,vs,rfl,h1,h2,h3⟩:=rv
  exact q _ H' _ rfl ev o' ⟨a,vs,rfl,.inl ⟨o.np h1,.inl h2⟩,h3⟩
theorem E1.vwd {ds:List Dat} (h:E1 p K te τ (.dat (.list ds))):E1 p K te τ (.vw ds):=fun W L σ H Q r o q=>h W L σ H Q r o fun v H' s e ev o' rv=>by
  subst e
  cases rv with
  | lst h1 h2=>exact q _ H' _ rfl ev o' ⟨_,_,rfl,h1.elim (fun z=>.inl ⟨fun y=>z.1 (o.pw _ y),z.2⟩) .inr,h2⟩
theorem E.op2 {r:R2} {A B C:Sl->Prop} {B':Sl->Sl->Prop} (ha:E p K ta τ A) (hb:∀ s,A s->E p K tb τ (B' s))
    (hr:∀ s t,A s->B' s t->∀ (W:Addr->Prop) (H0 H:Hp) (x y:V) (Q:VK),Ok p W H0->Ok p W H->Rv p W K H0 H x s->Rv p W K H0 H y t->(∀ v H' u,C u->Ev (Pp p) H H'->Ok p W H'->Rv p W K H0 H' v u->Q v H')->r x y H Q):E p K (tOp r ta tb) τ C :=
  fun W L σ H Q rs o q=>ha W L σ H _ rs o fun x H1 s cs e1 o1 rv1=>hb s cs W L σ H1 _ (rs.ev e1 o.pw) o1 fun y H2 t ct e2 o2 rv2 =>
    hr s t cs ct W H H2 x y _ o o2 (rv1.ev e2 o1 o) (rv2.base e1 o1) fun v H' u cu e3 o3 rv3=>q v H' u cu ((e1.trans e2).trans e3) o3 rv3
theorem E1.op2 {r:R2} {a b c:Sl} (ha:E1 p K ta τ a) (hb:E1 p K tb τ b)
    (hr:∀ (W:Addr->Prop) (H0 H:Hp) (x y:V) (Q:VK),Ok p W H0->Ok p W H->Rv p W K H0 H x a->Rv p W K H0 H y b->(∀ v H',Ev (Pp p) H H'->Ok p W H'->Rv p W K H0 H' v c->Q v H')->r x y H Q):E1 p K (tOp r ta tb) τ c :=
  E.op2 (B:=fun _=>True) (B':=fun _ x=>b=x) ha (fun _ _=>hb) fun s t hs ht W H0 H x y Q o0 o r1 r2 q=>by
    subst hs ht
    exact hr W H0 H x y Q o0 o r1 r2 fun v H'=>q v H' c rfl
theorem Rv.int_inv {i:Int} (h:Rv p W K H0 H v (.dat (.int i))):v = .int i:=by cases h;rfl
theorem Rv.bl_inv {i:Bool} (h:Rv p W K H0 H v (.dat (.bool i))):v = .bl i:=by cases h;rfl
theorem E1.opI0 {g:Int->Int->V} {i j:Int} {d:Dat} (ha:E1 p K ta τ (.dat (.int i))) (hb:E1 p K tb τ (.dat (.int j))) (hd:∀ (N:Addr->Prop) (K:PySem.W.Frag) (H:Hp),Dz N K H (g i j) d):E1 p K (tOp (rI0 g) ta tb) τ (.dat d) :=
  E1.op2 ha hb fun W H0 H x y Q o0 o r1 r2 q=>⟨i,j,r1.int_inv,r2.int_inv,q _ H Ev.refl o (hd _ K H)⟩
theorem E1.opI {g:Int->Int->V} {Cn:Int->Int->Prop} {i j:Int} {d:Dat} (ha:E1 p K ta τ (.dat (.int i))) (hb:E1 p K tb τ (.dat (.int j))) (hc:Cn i j) (hd:∀ (N:Addr->Prop) (K:PySem.W.Frag) (H:Hp),Dz N K H (g i j) d):E1 p K (tOp (rI Cn g) ta tb) τ (.dat d) :=
  E1.op2 ha hb fun W H0 H x y Q o0 o r1 r2 q=>⟨i,j,r1.int_inv,r2.int_inv,hc,q _ H Ev.refl o (hd _ K H)⟩
section
variable {i j:Int} (ha:E1 p K ta τ (.dat (.int i))) (hb:E1 p K tb τ (.dat (.int j)))
include ha hb
theorem E1.add:E1 p K (tOp (rI0 fun i j=>.int (i + j)) ta tb) τ (.dat (.int (i + j))):=E1.opI0 ha hb fun _ _ _=>.int _
theorem E1.sub:E1 p K (tOp (rI0 fun i j=>.int (i - j)) ta tb) τ (.dat (.int (i - j))):=E1.opI0 ha hb fun _ _ _=>.int _
theorem E1.mul (hc:IntMulOk i j):E1 p K (tOp (rI IntMulOk fun i j=>.int (i * j)) ta tb) τ (.dat (.int (i * j))):=E1.opI ha hb hc fun _ _ _=>.int _
theorem E1.fdiv (hc:CDivB i j):E1 p K (tOp (rI CDivB fun i j=>.int (i.fdiv j)) ta tb) τ (.dat (.int (i.fdiv j))):=E1.opI ha hb hc fun _ _ _=>.int _
theorem E1.pow (hc:CPow i j):E1 p K (tOp (rI CPow fun i j=>.int (i ^ j.toNat)) ta tb) τ (.dat (.int (i ^ j.toNat))):=E1.opI ha hb hc fun _ _ _=>.int _
theorem E1.lt:E1 p K (tOp (rI0 fun i j=>.bl (decide (i < j))) ta tb) τ (.dat (.bool (decide (i < j)))):=E1.opI0 ha hb fun _ _ _=>.bool _
theorem E1.ge:E1 p K (tOp (rI0 fun i j=>.bl (decide (j<=i))) ta tb) τ (.dat (.bool (decide (j<=i)))):=E1.opI0 ha hb fun _ _ _=>.bool _
theorem E1.eq:E1 p K (tOp rEq ta tb) τ (.dat (.bool (decide (i=j)))):=E1.op2 ha hb fun W H0 H x y Q o0 o r1 r2 q=>by
  cases r1.int_inv;cases r2.int_inv
  refine ⟨rfl,q _ H Ev.refl o ?_⟩
  have e:decide (V.int i=V.int j)=decide (i=j):=by rw [decide_eq_decide];exact ⟨fun h=>by injection h,fun h=>by rw [h]⟩
  rw [e];exact .bool _
theorem E1.ne:E1 p K (tOp rNe ta tb) τ (.dat (.bool (!decide (i=j)))):=E1.op2 ha hb fun W H0 H x y Q o0 o r1 r2 q=>by
  cases r1.int_inv;cases r2.int_inv
  refine ⟨rfl,q _ H Ev.refl o ?_⟩
  have e:decide (V.int i=V.int j)=decide (i=j):=by rw [decide_eq_decide];exact ⟨fun h=>by injection h,fun h=>by rw [h]⟩
  rw [e];exact .bool _
end
theorem E1.neg {i:Int} (ha:E1 p K ta τ (.dat (.int i))):E1 p K (tUn (rU fun i=>.int (-i)) ta) τ (.dat (.int (-i))):=fun W L σ H Q rs o q=>ha W L σ H _ rs o fun x H1 s e e1 o1 rv=>by
  subst e;cases rv.int_inv
  exact ⟨i,rfl,q _ H1 _ rfl e1 o1 (.int _)⟩
noncomputable def datOf:Sl->Option Dat
  | .dat d=>some d
  | .vw ds=>some (.list ds)
  | .own ds=>some (.list ds)
  | _=>none
theorem Rv.isD {d:Dat} (h:Rv p W K H0 H v s) (e:datOf s=some d):Is K H v d:=by
  cases s with
  | un=>cases e
  | pu=>cases e
  | dat d'=>cases e;exact Dz.is h
  | own ds=>cases e;obtain ⟨a,vs,rfl,_,h2,h3⟩:=h;exact .lst (SqL.of h2) h3.is
  | dt ds=>cases e
  | vw ds=>cases e;obtain ⟨a,vs,rfl,h2,h3⟩:=h;exact .lst h2.sq h3.is
theorem E1.eqD {a b:Sl} {d e:Dat} (ha:E1 p K ta τ a) (hb:E1 p K tb τ b) (ea:datOf a=some d) (eb:datOf b=some e) (k1:PySem.W.kqdOk 9 d=true) (k2:PySem.W.kqdOk 9 e=true):E1 p K (tOp (rEqD K false) ta tb) τ (.dat (.bool (deq d e))) :=
  E1.op2 ha hb fun W H0 H x y Q o0 o r1 r2 q=>⟨d,e,r1.isD ea,r2.isD eb,k1,k2,q _ H Ev.refl o (.bool _)⟩
theorem E1.neD {a b:Sl} {d e:Dat} (ha:E1 p K ta τ a) (hb:E1 p K tb τ b) (ea:datOf a=some d) (eb:datOf b=some e) (k1:PySem.W.kqdOk 9 d=true) (k2:PySem.W.kqdOk 9 e=true):E1 p K (tOp (rEqD K true) ta tb) τ (.dat (.bool (!deq d e))) :=
  E1.op2 ha hb fun W H0 H x y Q o0 o r1 r2 q=>⟨d,e,r1.isD ea,r2.isD eb,k1,k2,q _ H Ev.refl o (.bool _)⟩
theorem atI_dz {N:Addr->Prop} {xs:List V} {ds:List Dat} {i:Int} {d:Dat} (h:Dzs N K H xs ds) (e:atI ds i=some d):∃ x,atI xs i=some x/\Dz N K H x d:=by
  unfold atI at e ⊢
  rw [h.len]
  cases q:ixN ds.length i with
  | none=>rw [q] at e;cases e
  | some j =>
    rw [q] at e
    obtain ⟨x,e1,e2⟩:=h.get (i:=j) (by simpa using e)
    exact ⟨x,by simpa using e1,e2⟩
theorem E1.ixT {ds:List Dat} {i:Int} {d:Dat} (ha:E1 p K ta τ (.dat (.tuple ds))) (hb:E1 p K tb τ (.dat (.int i))) (h:atI ds i=some d):E1 p K (tOp (rIxT K) ta tb) τ (.dat d) :=
  E1.op2 ha hb fun W H0 H x y Q o0 o r1 r2 q=>by
    cases r2.int_inv
    cases r1 with
    | tup h1 h2 =>
      obtain ⟨x,e1,e2⟩:=atI_dz h2 h
      exact ⟨_,_,i,x,rfl,rfl,h1,e1,q _ H Ev.refl o e2⟩
theorem E1.ixL {ds:List Dat} {i:Int} {d:Dat} (ha:E1 p K ta τ (.vw ds)) (hb:E1 p K tb τ (.dat (.int i))) (h:atI ds i=some d):E1 p K (tOp (rIxL K) ta tb) τ (.dat d) :=
  E1.op2 ha hb fun W H0 H x y Q o0 o r1 r2 q=>by
    cases r2.int_inv
    obtain ⟨a,vs,rfl,h1,h2⟩:=r1
    obtain ⟨x,e1,e2⟩:=atI_dz h2 h
    exact ⟨_,_,i,x,rfl,rfl,h1.sq,e1,q _ H Ev.refl o e2⟩
theorem A1.nil:A1 p K tNil τ []:=fun W L σ H Q rs o q=>q [] H _ rfl Ev.refl o .nil
theorem A.cons {C1:Sl->Prop} {C2:Sl->List Sl->Prop} {C:List Sl->Prop} (ha:E p K te τ C1) (hr:∀ s,C1 s->A p K tas τ (C2 s)) (m:∀ s ss,C1 s->C2 s ss->C (s :: ss)):A p K (tCons te tas) τ C:=fun W L σ H Q rs o q =>
  ha W L σ H _ rs o fun x H1 s c1 e1 o1 rv1=>hr s c1 W L σ H1 _ (rs.ev e1 o.pw) o1 fun xs H2 ss c2 e2 o2 rv2=>q _ H2 _ (m s ss c1 c2) (e1.trans e2) o2 (.cons (rv1.ev e2 o1 o) (rv2.base e1 o1))
theorem A1.cons {ss:List Sl} (ha:E1 p K te τ s) (hr:A1 p K tas τ ss):A1 p K (tCons te tas) τ (s :: ss):=A.cons (C2:=fun _ x=>ss=x) ha (fun _ _=>hr) fun s ss h1 h2=>by rw [h1,h2]
theorem Rvs.dats {ds:List Dat} {vs:List V} (h:Rvs p W K H0 H vs (ds.map .dat)):Dzs (fun a=>¬ W a) K H vs ds:=by
  induction ds generalizing vs with
  | nil=>cases h;exact .nil
  | cons d r ih =>
    cases h with
    | cons a t=>exact .cons a (ih t)
theorem Rvs.len {ss:List Sl} {vs:List V} (h:Rvs p W K H0 H vs ss):vs.length=ss.length:=by
  induction h with
  | nil=>rfl
  | cons _ _ ih=>rw [List.length_cons,List.length_cons,ih]
theorem E1.tup {ds:List Dat} (h:A1 p K tas τ (ds.map .dat)) (hz:ds.length<=sizeLine):E1 p K (tTup tas) τ (.dat (.tuple ds)):=fun W L σ H Q rs o q =>
  h W L σ H _ rs o fun vs H1 ss e e1 o1 rv=>by
    subst e
    refine ⟨by rw [rv.len,List.length_map];exact hz,fun a ha=>?_⟩
    have s1:=Same.new ha (.tup vs)
    exact q _ _ _ rfl (e1.trans (Ev.of s1)) (o1.same s1) (.tup (SqT.of upd_same) (rv.dats.ev (W:=Pp p) (Ev.of s1) o1.nw))
theorem E1.lst {ds:List Dat} (h:A1 p K tas τ (ds.map .dat)) (hz:ds.length<=sizeLine):E1 p K (tLst tas) τ (.own ds):=fun W L σ H Q rs o q =>
  h W L σ H _ rs o fun vs H1 ss e e1 o1 rv=>by
    subst e
    refine ⟨by rw [rv.len,List.length_map];exact hz,fun a ha=>?_⟩
    have s1:=Same.new ha (.lst vs)
    exact q _ _ _ rfl (e1.trans (Ev.of s1)) (o1.same s1) ⟨a,vs,rfl,o1.back e1 ha,upd_same,rv.dats.ev (W:=Pp p) (Ev.of s1) o1.nw⟩
theorem E1.to {s':Sl} (h:E1 p K te τ s) (e:s=s'):E1 p K te τ s':=e ▸ h
theorem T1.test {b:Bool} (h:E1 p K te τ (.dat (.bool b))):T1 p K (tTest te) τ b:=fun W L σ H Q rs o q=>h W L σ H _ rs o fun v H' s e e1 o1 rv=>by
  subst e;cases rv.bl_inv;exact ⟨b,rfl,q b H' rfl e1 o1⟩
theorem T1.val {b:Bool} (h:E1 p K te τ (.dat (.bool b))):T1 p K (tB te) τ b:=fun W L σ H Q rs o q=>h W L σ H _ rs o fun v H' s e e1 o1 rv=>by
  subst e;cases rv.bl_inv;exact ⟨b,rfl,q b H' rfl e1 o1⟩
theorem T1.not {tt:TT} {b:Bool} (h:T1 p K tt τ b):T1 p K (tNot tt) τ (!b):=fun W L σ H Q rs o q=>h W L σ H _ rs o fun v H' e e1 o1=>by
  subst e;exact q _ H' rfl e1 o1
theorem T.or {tt tu:TT} {C D:Bool->Prop} (h:T p K tt τ C) (ht:C true->D true) (hf:C false->T p K tu τ D):T p K (tOr tt tu) τ D:=fun W L σ H Q rs o q=>h W L σ H _ rs o fun v H' c e1 o1=>by
  cases v with
  | false=>rw [if_neg (by decide)];exact hf c W L σ H' _ (rs.ev e1 o.pw) o1 fun b H2 d e2=>q b H2 d (e1.trans e2)
  | true=>rw [if_pos rfl];exact q _ H' (ht c) e1 o1
theorem T1.orF {tt tu:TT} (h:T1 p K tt τ false) (h2:T1 p K tu τ false):T1 p K (tOr tt tu) τ false:=T.or h (fun z=>by cases z) fun _=>h2
theorem E1.andV {b c:Bool} (h:E1 p K ta τ (.dat (.bool b))) (h2:b=true->E1 p K tb τ (.dat (.bool c))) (hc:b=false->c=false):E1 p K (tAndV ta tb) τ (.dat (.bool c)):=fun W L σ H Q rs o q=>h W L σ H _ rs o fun v H' s e e1 o1 rv=>by
  subst e;cases rv.bl_inv
  refine ⟨b,rfl,?_⟩
  cases b with
  | true=>rw [if_pos rfl];exact h2 rfl W L σ H' _ (rs.ev e1 o.pw) o1 fun v H2 s e e2 o2 rv=>q v H2 s e (e1.trans e2) o2 (rv.base e1 o1)
  | false=>rw [if_neg (by decide)];rw [hc rfl] at q;exact q _ H' _ rfl e1 o1 (.bool _)
end
end D
end
section
namespace D
open PySem L2 K0
open PySem.W (Dat)
noncomputable def Rr (p:Option Addr) (W:Addr->Prop) (K:PySem.W.Frag) (L:List Addr) (H H':Hp) (v:V):Sl->Prop
  | .own ds=>∃ a vs,v = .ref a/\(a ∈ L\/H a=none)/\H' a=some (.lst vs)/\Dzs (fun a=>¬ W a) K H' vs ds
  | .dt o=>∃ a l,v = .ref a/\(∀ b,b ∈ l->b ∈ L\/H b=none)/\o.R (fun a=>¬ W a) K H' a l
  | s=>Rv p W K H H' v s
section
variable (p:Option Addr) (K:PySem.W.Frag)
noncomputable def S (ts:TS) (τ:List Sl) (nx:List Sl->Prop) (rt:Sl->Prop):Prop:=∀ (W:Addr->Prop) (L:List Addr) (σ:St) (H:Hp) (D:Ends),Rs p W K H L σ τ->Ok p W H ->
  (∀ (W':Addr->Prop) (L':List Addr) σ' H' τ',nx τ'->Ev W H H'->Ok p W' H'->(∀ a,W a->∃ ys,H' a=some ys)->(∀ a,W' a->W a\/H a=none)->(∀ a,a ∈ L'->a ∈ L\/H a=none)->Rs p W' K H' L' σ' τ'->D.nx σ' H') ->
  (∀ (W':Addr->Prop) H' v s,rt s->Ev W H H'->Ok p W' H'->(∀ a,W a->∃ ys,H' a=some ys)->(∀ a,W' a->W a\/H a=none)->Rr p W' K L H H' v s->D.rt v H')->ts D σ H
end
section
variable {p:Option Addr} {K:PySem.W.Frag} {W:Addr->Prop} {L:List Addr} {σ:St} {H H0 H1 H2:Hp} {τ:List Sl} {te:TE} {v:V} {s:Sl} {nx:List Sl->Prop} {rt:Sl->Prop} {t u:TS}
theorem Rv.rr (h:Rv p W K H0 H v s):Rr p W K L H0 H v s:=by
  cases s with
  | own ds=>obtain ⟨a,vs,e,h1,h2⟩:=h;exact ⟨a,vs,e,.inr h1,h2⟩
  | dt ds=>obtain ⟨a,vs,e,h1,h2⟩:=h;exact ⟨a,vs,e,fun b hb=>.inr (h1 b hb),h2⟩
  | _=>exact h
theorem Rr.base {L':List Addr} (h:Rr p W K L' H1 H v s) (hn:∀ a,H1 a=none->H0 a=none) (hl:∀ a,a ∈ L'->a ∈ L\/H0 a=none):Rr p W K L H0 H v s:=by
  cases s with
  | own ds=>obtain ⟨a,vs,e,h1,h2⟩:=h;exact ⟨a,vs,e,h1.elim (hl a) fun z=>.inr (hn a z),h2⟩
  | dt ds=>obtain ⟨a,vs,e,h1,h2⟩:=h;exact ⟨a,vs,e,fun b hb=>(h1 b hb).elim (hl b) fun z=>.inr (hn b z),h2⟩
  | _=>exact h
theorem Ev.ofP (e:Ev (Pp p) H H1) (o:Ok p W H):Ev W H H1:=e.mono o.pw
theorem Ev.chain {W W':Addr->Prop} (e:Ev W H H1) (e2:Ev W' H1 H2) (n:∀ a,W' a->W a\/H a=none):Ev W H H2:=⟨fun b o nb h=>e2.keep b o (fun z=>by
  rcases n b z with y | y
  . exact nb y
  . rw [h] at y;cases y) (e.keep b o nb h),e.tm.trans e2.tm⟩
theorem Ev.none (e:Ev W H H1) (al:∀ a,W a->∃ ys,H1 a=some ys) {a:Addr} (h:H1 a=none):H a=none:=by
  cases q:H a with
  | none=>rfl
  | some u =>
    by_cases z:W a
    . obtain ⟨ys,e2⟩:=al a z;rw [h] at e2;cases e2
    . rw [e.keep _ _ z q] at h;cases h
theorem al_chain {W W1:Addr->Prop} (w1:∀ a,W a->∃ ys,H1 a=some ys) (w2:∀ a,W1 a->∃ ys,H2 a=some ys) (e2:Ev W1 H1 H2):∀ a,W a->∃ ys,H2 a=some ys:=fun a ha=>by
  by_cases z:W1 a
  . exact w2 a z
  . obtain ⟨ys,h⟩:=w1 a ha;exact ⟨ys,e2.keep _ _ z h⟩
theorem S.seq {M : List Sl -> Prop} (h1 : S p K t τ M rt) (h2 : ∀ τ', M τ' -> S p K u τ' nx rt) : S p K (tSeq t u) τ nx rt := fun W L σ H D r o q1 q2 =>
  h1 W L σ H _ r o (fun W1 L1 σ1 H1 τ1 m e1 o1 w1 n1 l1 r1=>by
    have hn:∀ a,H1 a=none->H a=none:=fun a ha=>e1.none w1 ha
    exact h2 τ1 m W1 L1 σ1 H1 D r1 o1 (fun W2 L2 σ2 H2 τ2 c e2 o2 w2 n2 l2 r2=>q1 W2 L2 σ2 H2 τ2 c (e1.chain e2 n1) o2 (al_chain w1 w2 e2)
        (fun a ha=>(n2 a ha).elim (n1 a) fun z=>.inr (hn a z)) (fun a ha=>(l2 a ha).elim (l1 a) fun z=>.inr (hn a z)) r2)
      fun W2 H2 v s c e2 o2 w2 n2 rv=>q2 W2 H2 v s c (e1.chain e2 n1) o2 (al_chain w1 w2 e2) (fun a ha=>(n2 a ha).elim (n1 a) fun z=>.inr (hn a z)) (rv.base hn l1)) q2
theorem S.next (h:nx τ):S p K tNext τ nx rt:=fun W L σ H D r o q1 q2=>q1 W L σ H τ h Ev.refl o o.al (fun _ h=>.inl h) (fun _ h=>.inl h) r
theorem S.ret {C:Sl->Prop} (h:E p K te τ C) (m:∀ s,C s->rt s):S p K (tRet te) τ nx rt:=fun W L σ H D r o q1 q2=>h W L σ H _ r o fun v H' s c e o' rv=>q2 W H' v s (m s c) (e.ofP o) o' o'.al (fun _ h=>.inl h) rv.rr
theorem S.ret1 (h:E1 p K te τ s) (m:rt s):S p K (tRet te) τ nx rt:=S.ret h fun x e=>e ▸ m
theorem S.retO {i:Nat} {ds:List Dat} (h:τ[i]?=some (.own ds)) (m:rt (.own ds)):S p K (tRet (tVar i)) τ nx rt:=fun W L σ H D r o q1 q2=>by
  obtain ⟨a,vs,e,w,n,l,h1,z⟩:=r.get_own h
  exact ⟨_,e,q2 W H _ _ m Ev.refl o o.al (fun _ h=>.inl h) ⟨a,vs,rfl,.inl l,h1,z⟩⟩
theorem S.iff {tc:TT} {C:Bool->Prop} (h:T p K tc τ C) (ht:C true->S p K t τ nx rt) (hf:C false->S p K u τ nx rt):S p K (tIfS tc t u) τ nx rt:=fun W L σ H D r o q1 q2=>h W L σ H _ r o fun b H1 c e o1=>by
  have e1:=e.ofP o
  have hn:∀ a,H1 a=none->H a=none:=fun a ha=>e1.none (fun a h=>o1.al a h) ha
  have go:∀ {t:TS},S p K t τ nx rt->t D σ H1:=fun h=>h W L σ H1 D (r.ev e o.pw) o1 (fun W2 L2 σ2 H2 τ2 c e2 o2 w2 n2 l2 r2=>q1 W2 L2 σ2 H2 τ2 c (e1.trans e2) o2 (al_chain o1.al w2 e2) (fun a ha=>(n2 a ha).elim .inl fun z=>.inr (hn a z)) (fun a ha=>(l2 a ha).elim .inl fun z=>.inr (hn a z)) r2)
      fun W2 H2 v s c e2 o2 w2 n2 rv=>q2 W2 H2 v s c (e1.trans e2) o2 (al_chain o1.al w2 e2) (fun a ha=>(n2 a ha).elim .inl fun z=>.inr (hn a z)) (rv.base hn fun _ h=>.inl h)
  cases b with
  | true=>rw [if_pos rfl];exact go (ht c)
  | false=>rw [if_neg (by decide)];exact go (hf c)
theorem S.if1 {tc:TT} {b:Bool} (h:T1 p K tc τ b) (ht:b=true->S p K t τ nx rt) (hf:b=false->S p K u τ nx rt):S p K (tIfS tc t u) τ nx rt:=S.iff h ht hf
theorem S.ifF {tc:TT} (h:T1 p K tc τ false) (hf:S p K u τ nx rt):S p K (tIfS tc t u) τ nx rt:=S.iff h (fun z=>by cases z) fun _=>hf
theorem S.ifs {tc:TT} {b:Bool} (h:T1 p K tc τ b) (ht:b=true->S p K t τ (fun τ'=>S p K u τ' nx rt) rt) (hf:b=false->S p K u τ nx rt):S p K (tSeq (tIfS tc t tNext) u) τ nx rt :=
  S.seq (M:=fun τ'=>S p K u τ' nx rt) (S.if1 h ht fun z=>S.next (hf z)) fun _ h=>h
theorem S.ifsF {tc:TT} (h:T1 p K tc τ false) (hf:S p K u τ nx rt):S p K (tSeq (tIfS tc t tNext) u) τ nx rt:=S.ifs h (fun z=>by cases z) fun _=>hf
theorem S.ifsC {tc:TT} {C:Bool->Prop} (h:T p K tc τ C) (ht:C true->S p K t τ (fun τ'=>S p K u τ' nx rt) rt) (hf:C false->S p K u τ nx rt):S p K (tSeq (tIfS tc t tNext) u) τ nx rt :=
  S.seq (M:=fun τ'=>S p K u τ' nx rt) (S.iff h ht fun z=>S.next (hf z)) fun _ h=>h
noncomputable def flat:Sl->Bool
  | .own _=>false
  | .dt _=>false
  | .vw _=>false
  | _=>true
theorem S.asg {C:Sl->Prop} {i:Nat} (h:E p K te τ C) (hf:∀ s,C s->flat s=true) (m:∀ s,C s->nx (τ.set i s)):S p K (tAsg te (gName i)) τ nx rt:=fun W L σ H D r o q1 q2=>h W L σ H _ r o fun v H1 s c e o1 rv=>by
  have z:=hf s c
  obtain ⟨L',l,r'⟩:=(r.ev e o.pw).set (v:=v) (s:=s) (by
    cases s with
    | un=>exact .inl rfl
    | dat d=>exact .inr (.inl ⟨d,rfl,rv⟩)
    | pu=>exact .inr (.inr ⟨rfl,rv⟩)
    | own ds=>cases z
    | dt ds=>cases z
    | vw ds=>cases z) i
  exact q1 W L' _ H1 _ (m s c) (e.ofP o) o1 o1.al (fun _ h=>.inl h) (fun a ha=>.inl (l a ha)) r'
theorem S.letC {C:Sl->Prop} {i:Nat} (h:E p K te τ C) (hf:∀ s,C s->flat s=true) (m:∀ s,C s->S p K u (τ.set i s) nx rt):S p K (tSeq (tAsg te (gName i)) u) τ nx rt :=
  S.seq (M:=fun τ'=>∃ s,C s/\τ'=τ.set i s) (S.asg h hf fun s c=>⟨s,c,rfl⟩) fun τ' ⟨s,c,e⟩=>e ▸ m s c
theorem S.let1 {i:Nat} {τ':List Sl} (h:E1 p K te τ s) (m:S p K u τ' nx rt) (e:τ.set i s=τ':=by rfl) (hf:flat s=true:=by rfl):S p K (tSeq (tAsg te (gName i)) u) τ nx rt :=
  S.letC h (fun x y=>y ▸ hf) fun x y=>by subst y;rw [e];exact m
theorem S.asg1 {i:Nat} {τ':List Sl} (h:E1 p K te τ s) (m:nx τ') (e:τ.set i s=τ':=by rfl) (hf:flat s=true:=by rfl):S p K (tAsg te (gName i)) τ nx rt :=
  S.asg h (fun x y=>y ▸ hf) fun x y=>by subst y;rw [e];exact m
theorem Rs.setO (r : Rs p W K H L σ τ) {a : Addr} {vs : List V} {ds : List Dat} (wa : W a) (np : p ≠ some a) (nl : a ∉ L) (h : H a = some (.lst vs)) (z : Dzs (fun a => ¬ W a) K H vs ds) : ∀ (i : Nat), ∃ L', (∀ b, b ∈ L' -> b = a \/ b ∈ L) /\ Rs p W K H L' (σ.set i (some (.ref a))) (τ.set i (.own ds)) := by
  induction r with
  | nil=>intro i;exact ⟨[],fun _ h=>.inr h,.nil⟩
  | un r ih =>
    intro i
    match i with
    | 0=>exact ⟨_,fun b hb=>by simpa using hb,.own wa np nl h z r⟩
    | i + 1=>obtain ⟨L',h1,h2⟩:=ih nl i;exact ⟨L',h1,.un h2⟩
  | dat y r ih =>
    intro i
    match i with
    | 0=>exact ⟨_,fun b hb=>by simpa using hb,.own wa np nl h z r⟩
    | i + 1=>obtain ⟨L',h1,h2⟩:=ih nl i;exact ⟨L',h1,.dat y h2⟩
  | pu y r ih =>
    intro i
    match i with
    | 0=>exact ⟨_,fun b hb=>by simpa using hb,.own wa np nl h z r⟩
    | i + 1=>obtain ⟨L',h1,h2⟩:=ih nl i;exact ⟨L',h1,.pu y h2⟩
  | own g1 g2 g3 g4 g5 r ih =>
    intro i
    have nl':=fun y=>nl (List.mem_cons_of_mem _ y)
    match i with
    | 0=>exact ⟨_,fun b hb=>(List.mem_cons.mp hb).imp id (List.mem_cons_of_mem _),.own wa np nl' h z r⟩
    | i + 1 =>
      obtain ⟨L',h1,h2⟩:=ih nl' i
      refine ⟨_ :: L',fun b hb=>?_,.own g1 g2 (fun y=>?_) g4 g5 h2⟩
      . rcases List.mem_cons.mp hb with rfl | hb
        . exact .inr List.mem_cons_self
        . exact (h1 b hb).imp id (List.mem_cons_of_mem _)
      . rcases h1 _ y with y | y
        . exact nl (y ▸ List.mem_cons_self)
        . exact g3 y
  | dt g1 g2 g3 g4 r ih =>
    intro i
    have nl':=fun y=>nl (List.mem_append_right _ y)
    match i with
    | 0=>exact ⟨_,fun b hb=>(List.mem_cons.mp hb).imp id (List.mem_append_right _),.own wa np nl' h z r⟩
    | i + 1 =>
      obtain ⟨L',h1,h2⟩:=ih nl' i
      refine ⟨_ ++ L',fun b hb=>?_,.dt g1 g2 (fun b hb y=>?_) g4 h2⟩
      . rcases List.mem_append.mp hb with hb | hb
        . exact .inr (List.mem_append_left _ hb)
        . exact (h1 b hb).imp id (List.mem_append_right _)
      . rcases h1 _ y with y | y
        . exact nl (y ▸ List.mem_append_left _ hb)
        . exact g3 b hb y
theorem Rs.own_in (r:Rs p W K H L σ τ):∀ a,a ∈ L->∃ vs,H a=some vs:=by
  induction r with
  | nil=>intro a h;cases h
  | un _ ih=>exact ih
  | dat _ _ ih=>exact ih
  | pu _ _ ih=>exact ih
  | own _ _ _ h4 _ _ ih => intro a h; rcases List.mem_cons.mp h with rfl | h
                           . exact ⟨_,h4⟩
                           . exact ih a h
  | dt _ _ _ h4 _ ih =>
    intro a h;rcases List.mem_append.mp h with h | h
    . exact Own.al _ h4 a h
    . exact ih a h
theorem Dzs.wide {W W':Addr->Prop} {vs:List V} {ds:List Dat} (h:Dzs (fun a=>¬ W a) K H vs ds) (n:∀ a,W' a->¬ W a->H a=none):Dzs (fun a=>¬ W' a) K H vs ds:=by
  exact go n h
where
  go {W W':Addr->Prop} (n:∀ a,W' a->¬ W a->H a=none):∀ {vs:List V} {ds:List Dat},Dzs (fun a=>¬ W a) K H vs ds->Dzs (fun a=>¬ W' a) K H vs ds
    | _,_,.nil=>.nil
    | _,_,.cons h r=>.cons (go1 n h) (go n r)
  go1 {W W':Addr->Prop} (n:∀ a,W' a->¬ W a->H a=none):∀ {v:V} {d:Dat},Dz (fun a=>¬ W a) K H v d->Dz (fun a=>¬ W' a) K H v d
    | _,_,.none=>.none
    | _,_,.bool b=>.bool b
    | _,_,.int i=>.int i
    | _,_,.str x=>.str x
    | _,_,.tup h r=>.tup h (go n r)
    | _,_,.lst h r=>.lst (by
        rcases h with ⟨nn,h⟩ | h
        . refine .inl ⟨fun z=>?_,h⟩
          have e1:=n _ z nn
          rcases h with h | ⟨o,h⟩
          . rw [e1] at h;cases h
          . rw [e1] at h;cases h
        . exact .inr h) (go n r)
theorem Dzs.old {W W':Addr->Prop} {H H':Hp} (e:Ev W H H') (n:∀ a,W' a->W a\/H a=none):∀ {vs:List V} {ds:List Dat},Dzs (fun a=>¬ W a) K H vs ds->Dzs (fun a=>¬ W' a) K H' vs ds
    | _,_,.nil=>.nil
    | _,_,.cons h r=>.cons (go1 h) (Dzs.old e n r)
where
  go1 : ∀ {v : V} {d : Dat}, Dz (fun a => ¬ W a) K H v d -> Dz (fun a => ¬ W' a) K H' v d
    | _,_,.none=>.none
    | _,_,.bool b=>.bool b
    | _,_,.int i=>.int i
    | _,_,.str x=>.str x
    | _,_,.tup h r=>.tup (e.tm _ _ _ h) (Dzs.old e n r)
    | _, _, .lst h r => .lst (by
        rcases h with ⟨nn,h⟩ | h
        . refine .inl ⟨fun z=>?_,?_⟩
          . have e1:=(n _ z).resolve_left nn
            rcases h with h | ⟨o,h⟩
            . rw [e1] at h;cases h
            . rw [e1] at h;cases h
          . exact h.imp (e.keep _ _ nn) fun ⟨o,h⟩=>⟨o,e.keep _ _ nn h⟩
        . exact .inr h) (Dzs.old e n r)
theorem dz_old {W W':Addr->Prop} {H H':Hp} (e:Ev W H H') (n:∀ a,W' a->W a\/H a=none) {v:V} {d:Dat} (h:Dz (fun a=>¬ W a) K H v d):Dz (fun a=>¬ W' a) K H' v d:=by
  cases Dzs.old e n (.cons h .nil) with
  | cons a _=>exact a
theorem S.letOC {C:List Dat->Prop} {i:Nat} (h:E p K te τ (fun s=>∃ ds,s = .own ds/\noLs ds=true/\C ds)) (m:∀ ds,C ds->S p K u (τ.set i (.own ds)) nx rt):S p K (tSeq (tAsg te (gName i)) u) τ nx rt:=by
  refine S.seq (M:=fun τ'=>∃ ds,C ds/\τ'=τ.set i (.own ds)) (fun W L σ H D r o q1 q2=>?_) fun τ' ⟨ds,c,e⟩=>e ▸ m ds c
  refine h W L σ H _ r o fun v H1 s c e o1 rv=>?_
  obtain ⟨ds,rfl,nl,cd⟩:=c
  obtain ⟨a,vs,rfl,h1,h2,h3⟩:=rv
  have nw:=o.fresh h1
  have wid:∀ b,(W b\/b=a)->¬ W b->H b=none:=fun b hb nb=>(hb.resolve_left nb) ▸ h1
  have r1:Rs p (fun b=>W b\/b=a) K H1 L σ τ:=(r.wide (fun _ h=>.inl h) wid).ev e fun q hq=>.inl (o.pw q hq)
  have al:a ∉ L:=fun z=>by obtain ⟨_,y⟩:=r.own_in a z;rw [h1] at y;cases y
  obtain ⟨L',l,r2⟩:=r1.setO (.inr rfl) (o.np h1) al h2 (h3.free nl) i
  refine q1 _ L' _ H1 _ ⟨ds,cd,rfl⟩ (e.ofP o) ⟨fun q hq=>⟨(o1.pu q hq).1,.inl (o1.pw q hq)⟩,fun b hb=>?_⟩ o1.al (fun b hb=>hb.imp id fun (z:b=a)=>by rw [z];exact h1) (fun b hb=>?_) r2
  . rcases hb with hb | rfl
    . exact o1.al b hb
    . exact ⟨_,h2⟩
  . rcases l b hb with rfl | hb
    . exact .inr h1
    . exact .inl hb
theorem S.letO {ds:List Dat} {i:Nat} {τ':List Sl} (h:E1 p K te τ (.own ds)) (nl:noLs ds=true) (m:S p K u τ' nx rt) (e:τ.set i (.own ds)=τ':=by rfl):S p K (tSeq (tAsg te (gName i)) u) τ nx rt :=
  S.letOC (C:=fun x=>ds=x) (E.mono h fun s hs=>⟨ds,hs.symm,nl,rfl⟩) fun x hx=>by subst hx;rw [e];exact m
theorem Rs.chg (r:Rs p W K H L σ τ) {a:Addr} {vs0 vs:List V} (ha:W a) (h0:H a=some (.lst vs0)):a ∉ L->Rs p W K (upd H a (.lst vs)) L σ τ:=by
  have ev:Ev (fun b=>b=a) H (upd H a (.lst vs)):=⟨fun b o n h=>by rw [upd_ne n];exact h,Tm.lst h0 _⟩
  have nw:∀ b,¬ W b->¬ b=a:=fun b n z=>n (z ▸ ha)
  induction r with
  | nil=>intro _;exact .nil
  | un _ ih=>intro h;exact .un (ih h)
  | dat h _ ih=>intro n;exact .dat (h.ev ev nw) (ih n)
  | pu h _ ih=>intro n;exact .pu h (ih n)
  | own h1 h2 h3 h4 h5 _ ih =>
    intro n
    refine .own h1 h2 h3 ?_ (h5.ev ev nw) (ih fun z=>n (List.mem_cons_of_mem _ z))
    rw [upd_ne (fun z=>n (by rw [<- z];exact List.mem_cons_self))];exact h4
  | dt h1 h2 h3 h4 _ ih =>
    intro n
    exact .dt h1 h2 h3 (Own.ev _ h4 ev nw fun b o hb h=>by rw [upd_ne (fun (z:b=a)=>n (z ▸ List.mem_append_left _ hb))];exact h) (ih fun z=>n (List.mem_append_right _ z))
theorem Rs.chgO {a:Addr} {vs0 vs:List V} {ds:List Dat} (ha:W a) (h0:H a=some (.lst vs0)) (hz:Dzs (fun a=>¬ W a) K (upd H a (.lst vs)) vs ds):∀ {L:List Addr} {σ:St} {τ:List Sl},Rs p W K H L σ τ->∀ {i:Nat} {ds0:List Dat},τ[i]?=some (.own ds0)->σ[i]?=some (some (.ref a))->Rs p W K (upd H a (.lst vs)) L σ (τ.set i (.own ds)):=by
  have ev:Ev (fun b=>b=a) H (upd H a (.lst vs)):=⟨fun b o n h=>by rw [upd_ne n];exact h,Tm.lst h0 _⟩
  have nw:∀ b,¬ W b->¬ b=a:=fun b n z=>n (z ▸ ha)
  intro L σ τ r
  induction r with
  | nil=>intro i ds0 h;simp at h
  | un r ih =>
    intro i ds0 h e
    match i,h,e with
    | 0,h,_=>simp at h
    | i + 1,h,e=>exact .un (ih (i:=i) (by simpa using h) (by simpa using e))
  | dat y r ih =>
    intro i ds0 h e
    match i,h,e with
    | 0,h,_=>simp at h
    | i + 1,h,e=>exact .dat (y.ev ev nw) (ih (i:=i) (by simpa using h) (by simpa using e))
  | pu y r ih =>
    intro i ds0 h e
    match i,h,e with
    | 0,h,_=>simp at h
    | i + 1,h,e=>exact .pu y (ih (i:=i) (by simpa using h) (by simpa using e))
  | own h1 h2 h3 h4 h5 r ih =>
    intro i ds0 h e
    match i,h,e with
    | 0,h,e =>
      simp at e;subst e
      exact .own h1 h2 h3 upd_same hz (r.chg h1 h4 h3)
    | i + 1,h,e =>
      have e':_:=e
      simp only [List.getElem?_cons_succ] at e'
      obtain ⟨a',vs',g1,g2,g3,g4,g5,g6⟩:=r.get_own (i:=i) (by simpa using h)
      rw [e'] at g1;cases g1
      refine .own h1 h2 h3 ?_ (h5.ev ev nw) (ih (i:=i) (by simpa using h) e')
      rw [upd_ne (fun z=>h3 (by rw [z];exact g4))];exact h4
  | dt h1 h2 h3 h4 r ih =>
    intro i ds0 h e
    match i,h,e with
    | 0,h,e =>
      simp at h
    | i + 1,h,e =>
      have e':_:=e
      simp only [List.getElem?_cons_succ] at e'
      obtain ⟨a',vs',g1,g2,g3,g4,g5,g6⟩:=r.get_own (i:=i) (by simpa using h)
      rw [e'] at g1;cases g1
      exact .dt h1 h2 h3 (Own.ev _ h4 ev nw fun b o hb h=>by rw [upd_ne (fun (z:b=a)=>h3 b hb (z ▸ g4))];exact h) (ih (i:=i) (by simpa using h) e')
theorem S.append {i:Nat} {ds:List Dat} {C:Dat->Prop} (h:τ[i]?=some (.own ds)) (he:E p K te τ (fun s=>∃ d,s = .dat d/\noL d=true/\C d)) (hz:ds.length < sizeLine) (m:∀ d,C d->nx (τ.set i (.own (ds ++ [d])))):S p K (tDrop (tBM K "list" rAppend (tVar i) (tCons te tNil))) τ nx rt:=fun W L σ H D r o q1 q2=>by
  obtain ⟨a,vs,e,w,n,l,h1,z⟩:=r.get_own h
  refine ⟨_,e,.inl ⟨rfl,_,SqL.of h1⟩,he W L σ H _ r o fun v H1 s c e1 o1 rv=>?_⟩
  obtain ⟨d,rfl,nl,cd⟩:=c
  have r1:=r.ev e1 o.pw
  obtain ⟨a',vs',e',w',n',l',h1',z'⟩:=r1.get_own h
  rw [e] at e';cases e'
  have ev:Ev (fun b=>b=a) H1 (upd H1 a (.lst (vs' ++ [v]))):=⟨fun b o n h=>by rw [upd_ne n];exact h,Tm.lst h1' _⟩
  have nw:∀ b,¬ W b->¬ b=a:=fun b n z=>n (z ▸ w)
  refine ⟨a,vs',v,rfl,rfl,h1',by rw [z'.len];exact hz,?_⟩
  refine q1 W L σ _ _ (m d cd) ((e1.ofP o).trans (ev.mono fun b hb=>hb ▸ w)) ⟨fun q hq=>⟨?_,o1.pw q hq⟩,fun b hb=>?_⟩ ?_ (fun _ h=>.inl h) (fun _ h=>.inl h) (Rs.chgO w h1' ((z'.app (.cons rv .nil)).ev ev nw) r1 h e)
  . obtain ⟨x,y,u⟩:=(o1.pu q hq).1
    exact ⟨x,y,by rw [upd_ne (fun z=>n' (by rw [<- z];exact hq))];exact u⟩
  all_goals
    first
    | (by_cases z:b=a
       . subst z;exact ⟨_,upd_same⟩
       . rw [upd_ne z];exact o1.al b hb)
    | (intro b hb
       by_cases z:b=a
       . subst z;exact ⟨_,upd_same⟩
       . rw [upd_ne z];exact o1.al b hb)
theorem S.append1 {i:Nat} {ds:List Dat} {d:Dat} {τ':List Sl} (h:τ[i]?=some (.own ds)) (he:E1 p K te τ (.dat d)) (nl:noL d=true) (hz:ds.length < sizeLine) (m:nx τ') (e:τ.set i (.own (ds ++ [d]))=τ':=by rfl):S p K (tDrop (tBM K "list" rAppend (tVar i) (tCons te tNil))) τ nx rt :=
  S.append (C:=fun x=>d=x) h (E.mono he fun s hs=>⟨d,hs.symm,nl,rfl⟩) hz fun x hx=>by subst hx;rw [e];exact m
end
end D
end
section
namespace D
open PySem L2 K0
open PySem.W (Dat)
noncomputable def Jd (W:Addr->Prop) (K:PySem.W.Frag) (J:It) (H:Hp) (ds:List Dat):Prop:=∀ (W':Addr->Prop) (H':Hp),Ev W H H'->(∀ a,W' a->W a\/H a=none)->J.stop ds.length H'/\∀ i d,ds[i]?=some d->J.go i H'/\∀ y H2,J.yld i H' y H2->Same H' H2/\Dz (fun a=>¬ W' a) K H2 y d
section
variable (p:Option Addr) (K:PySem.W.Frag)
noncomputable def Wk (wi:TI) (τ:List Sl) (ds:List Dat):Prop:=∀ (W:Addr->Prop) (L:List Addr) (σ:St) (H:Hp) (R:It->Hp->Prop),Rs p W K H L σ τ->Ok p W H->(∀ J H1,Ev (Pp p) H H1->Ok p W H1->Jd W K J H1 ds->R J H1)->wi σ H R
noncomputable def Gd (g:TG) (d:Dat) (τ τ':List Sl):Prop:=∀ (W:Addr->Prop) (L:List Addr) (σ:St) (H:Hp) (v:V) (Q:St->Hp->Prop),Rs p W K H L σ τ->Dz (fun a=>¬ W a) K H v d->(∀ L' σ',(∀ a,a ∈ L'->a ∈ L)->Rs p W K H L' σ' τ'->Q σ' H)->g v σ H Q
end
section
variable {p:Option Addr} {K:PySem.W.Frag} {W:Addr->Prop} {L:List Addr} {σ:St} {H H1 H2:Hp} {τ τ':List Sl} {tb te:TE} {tas:TA} {v:V} {s:Sl} {nx:List Sl->Prop} {rt:Sl->Prop} {t u:TS} {ds:List Dat} {wi:TI}
theorem Wk.tup (h:E1 p K te τ (.dat (.tuple ds))):Wk p K (iTup K te) τ ds:=fun W L σ H R r o q=>h W L σ H _ r o fun v H1 s e e1 o1 rv=>by
  subst e
  cases rv with
  | tup h1 h2 =>
    rename_i a xs
    refine ⟨a,rfl,⟨xs,h1⟩,q _ H1 e1 o1 fun W' H' ev n=>?_⟩
    have h1':=ev.tm _ _ _ h1
    have h2':=Dzs.old ev n h2
    refine ⟨⟨xs,h1',by rw [h2.len];exact Nat.le_refl _⟩,fun i d hd=>?_⟩
    obtain ⟨x,ex,zx⟩:=h2'.get hd
    exact ⟨⟨xs,x,h1',ex⟩,fun y H2 ⟨e,q⟩=>by
      subst e
      have:=q xs h1'
      rw [ex] at this;cases this
      exact ⟨Same.refl _,zx⟩⟩
theorem Wk.lst (h:E1 p K te τ (.dat (.list ds))):Wk p K (iList K te) τ ds:=fun W L σ H R r o q=>h W L σ H _ r o fun v H1 s e e1 o1 rv=>by
  subst e
  cases rv with
  | lst h1 h2 =>
    rename_i a xs
    refine ⟨a,rfl,⟨xs,h1.sq⟩,q _ H1 e1 o1 fun W' H' ev n=>?_⟩
    have h1':SqL K H' a xs:=by
      rcases h1 with ⟨nn,h1⟩ | h1
      . exact .inl (h1.imp (ev.keep _ _ nn) fun ⟨o,h⟩=>⟨o,ev.keep _ _ nn h⟩)
      . exact SqN.sq (N:=fun _=>True) (.inr h1)
    have h2':=Dzs.old ev n h2
    refine ⟨⟨xs,h1',by rw [h2.len];exact Nat.le_refl _⟩,fun i d hd=>?_⟩
    obtain ⟨x,ex,zx⟩:=h2'.get hd
    exact ⟨⟨xs,x,h1',ex⟩,fun y H2 ⟨e,q⟩=>by
      subst e
      have:=q xs h1'
      rw [ex] at this;cases this
      exact ⟨Same.refl _,zx⟩⟩
noncomputable def rangeD (lo:Int) (n:Nat):List Dat:=(List.range n).map fun (i:Nat)=>.int (lo + i)
theorem rangeD_get {lo:Int} {n i:Nat} {d:Dat} (h:(rangeD lo n)[i]?=some d):i < n/\d = .int (lo + i):=by
  unfold rangeD at h
  rw [List.getElem?_map] at h
  cases e:(List.range n)[i]? with
  | none=>rw [e] at h;cases h
  | some j =>
    rw [e] at h;cases h
    have hi:i < n:=by simpa using (List.getElem?_eq_some_iff.mp e).1
    have hj:j=i:=by
      have:=(List.getElem?_eq_some_iff.mp e).2
      simpa using this.symm
    subst hj
    exact ⟨hi,rfl⟩
theorem rangeD_len {lo:Int} {n:Nat}:(rangeD lo n).length=n:=by unfold rangeD;simp
theorem jd_rng {lo:Int} {n:Nat}:Jd W K (Itr lo n) H (rangeD lo n):=fun W' H' ev nn=>⟨by show n<=_;rw [rangeD_len];exact Nat.le_refl _,fun i d hd=>by
  obtain ⟨hi,rfl⟩:=rangeD_get hd
  exact ⟨hi,fun y H2 ⟨e1,e2⟩=>by subst e1 e2;exact ⟨Same.refl _,.int _⟩⟩⟩
theorem Wk.rng {j:Int} {n:Nat} (h:A1 p K tas τ [.dat (.int j)]) (hn:j.toNat=n) (h1 : -(2 ^ 62)<=j:=by decide) (h2:j < 2 ^ 62:=by decide):Wk p K (iRng1 tas) τ (rangeD 0 n):=fun W L σ H R r o q=>h W L σ H _ r o fun vs H1 ss e e1 o1 rv=>by
  subst e hn
  cases rv with
  | cons a t =>
    cases t
    cases a.int_inv
    exact ⟨j,rfl,h1,h2,q _ H1 e1 o1 jd_rng⟩
theorem Wk.rng2 {i j:Int} {n:Nat} (h:A1 p K tas τ [.dat (.int i),.dat (.int j)]) (hn:(j - i).toNat=n) (h1 : -(2 ^ 62)<=i/\i < 2 ^ 62 /\ -(2 ^ 62)<=j/\j < 2 ^ 62:=by decide):Wk p K (iRng2 tas) τ (rangeD i n):=fun W L σ H R r o q=>h W L σ H _ r o fun vs H1 ss e e1 o1 rv=>by
  subst e hn
  cases rv with
  | cons a t =>
    cases t with
    | cons b t =>
      cases t
      cases a.int_inv
      cases b.int_inv
      exact ⟨i,j,rfl,h1,q _ H1 e1 o1 jd_rng⟩
noncomputable def zipD:List Dat->List Dat->List Dat:=List.zipWith fun x y=>.tuple [x,y]
theorem zipD_get:∀ {xs ys:List Dat} {i:Nat} {d:Dat},(zipD xs ys)[i]?=some d->∃ x y,xs[i]?=some x/\ys[i]?=some y/\d = .tuple [x,y]:=by
  intro xs ys i d h
  unfold zipD at h
  rw [List.getElem?_zipWith] at h
  cases e1:xs[i]? with
  | none=>rw [e1] at h;simp at h
  | some x =>
    cases e2:ys[i]? with
    | none=>rw [e1,e2] at h;simp at h
    | some y=>rw [e1,e2] at h;simp at h;exact ⟨x,y,rfl,rfl,h.symm⟩
theorem Wk.zip {xs ys : List Dat} (h : A1 p K tas τ [.dat (.tuple xs), .dat (.tuple ys)]) (hl : ys.length = xs.length) : Wk p K (iZip K tas) τ (zipD xs ys) := fun W L σ H R r o q => h W L σ H _ r o fun vs H1 ss e e1 o1 rv => by
  subst e
  cases rv with
  | cons a t =>
    cases t with
    | cons b t =>
      cases t
      cases a with
      | tup h1 h2 =>
        cases b with
        | tup h3 h4 =>
          rename_i a1 x1 a2 x2
          refine ⟨a1,a2,rfl,⟨_,h1⟩,⟨_,h3⟩,q _ H1 e1 o1 fun W' H' ev n=>?_⟩
          have g1:=ev.tm _ _ _ h1
          have g3:=ev.tm _ _ _ h3
          have g2:=Dzs.old ev n h2
          have g4:=Dzs.old ev n h4
          have ll:(zipD xs ys).length=xs.length:=by unfold zipD;rw [List.length_zipWith,hl,Nat.min_self]
          refine ⟨⟨_,g1,by rw [g2.len,ll];exact Nat.le_refl _,_,g3⟩,fun i d hd=>?_⟩
          obtain ⟨x,y,ex,ey,rfl⟩:=zipD_get hd
          obtain ⟨vx,ux,zx⟩:=g2.get ex
          obtain ⟨vy,uy,zy⟩:=g4.get ey
          refine ⟨⟨_,_,vx,vy,g1,g3,ux,uy⟩,fun z H2 ⟨a,ha,e,q⟩=>?_⟩
          have:=q _ _ _ _ g1 g3 ux uy
          subst this e
          have s:=Same.new ha (.tup [vx,vy])
          have e:Ev (fun _=>False) H' (upd H' a (.tup [vx,vy])):=Ev.of s
          exact ⟨s,.tup (SqT.of upd_same) (.cons (zx.ev e fun _ _ h=>h) (.cons (zy.ev e fun _ _ h=>h) .nil))⟩
theorem Gd.name {i:Nat} {d:Dat} (e:τ.set i (.dat d)=τ':=by rfl):Gd p K (gName i) d τ τ':=fun W L σ H v Q r z q=>by
  obtain ⟨L',l,r'⟩:=r.set (v:=v) (s:=.dat d) (.inr (.inl ⟨d,rfl,z⟩)) i
  rw [e] at r'
  exact q L' _ l r'
theorem Gd.pair {i j : Nat} {x y : Dat} (e : (τ.set i (.dat x)).set j (.dat y) = τ' := by rfl) : Gd p K (gTup K 2 (gCons (gName i) (gCons (gName j) gNil))) (.tuple [x, y]) τ τ' := fun W L σ H v Q r z q => by
  cases z with
  | tup h1 h2 =>
    cases h2 with
    | cons za t =>
      cases t with
      | cons zb t =>
        cases t
        obtain ⟨L1,l1,r1⟩:=r.set (s:=.dat x) (.inr (.inl ⟨x,rfl,za⟩)) i
        obtain ⟨L2,l2,r2⟩:=r1.set (s:=.dat y) (.inr (.inl ⟨y,rfl,zb⟩)) j
        rw [e] at r2
        exact ⟨_,_,rfl,h1,rfl,_,_,rfl,_,_,rfl,rfl,q L2 _ (fun a h=>l1 a (l2 a h)) r2⟩
theorem Gd.tri {i j k : Nat} {x y z : Dat} (e : ((τ.set i (.dat x)).set j (.dat y)).set k (.dat z) = τ' := by rfl) : Gd p K (gTup K 3 (gCons (gName i) (gCons (gName j) (gCons (gName k) gNil)))) (.tuple [x, y, z]) τ τ' := fun W L σ H v Q r zz q => by
  cases zz with
  | tup h1 h2 =>
    cases h2 with
    | cons za t =>
      cases t with
      | cons zb t =>
        cases t with
        | cons zc t =>
          cases t
          obtain ⟨L1,l1,r1⟩:=r.set (s:=.dat x) (.inr (.inl ⟨x,rfl,za⟩)) i
          obtain ⟨L2,l2,r2⟩:=r1.set (s:=.dat y) (.inr (.inl ⟨y,rfl,zb⟩)) j
          obtain ⟨L3,l3,r3⟩:=r2.set (s:=.dat z) (.inr (.inl ⟨z,rfl,zc⟩)) k
          rw [e] at r3
          exact ⟨_,_,rfl,h1,rfl,_,_,rfl,_,_,rfl,_,_,rfl,rfl,q L3 _ (fun a h=>l1 a (l2 a (l3 a h))) r3⟩
theorem S.asgG {g:TG} {d:Dat} (h:E1 p K te τ (.dat d)) (hg:Gd p K g d τ τ') (m:nx τ'):S p K (tAsg te g) τ nx rt:=fun W L σ H D r o q1 q2=>h W L σ H _ r o fun v H1 s e e1 o1 rv=>by
  subst e
  exact hg W L σ H1 v _ (r.ev e1 o.pw) rv fun L' σ' l r'=>q1 W L' σ' H1 _ m (e1.ofP o) o1 o1.al (fun _ h=>.inl h) (fun a h=>.inl (l a h)) r'
theorem S.letG {g:TG} {d:Dat} (h:E1 p K te τ (.dat d)) (hg:Gd p K g d τ τ') (m:S p K u τ' nx rt):S p K (tSeq (tAsg te g) u) τ nx rt:=S.seq (M:=fun x=>τ'=x) (S.asgG h hg rfl) fun x e=>e ▸ m
theorem S.for {g:TG} {tb:TS} (hw:Wk p K wi τ ds) (I:Nat->List Sl->Prop) (h0:I 0 τ) (turn:∀ i d τ1,ds[i]?=some d->I i τ1->∃ τ2,Gd p K g d τ1 τ2/\S p K tb τ2 (I (i + 1)) rt) (done:∀ τ1,I ds.length τ1->nx τ1):S p K (tFor wi g tb) τ nx rt:=fun W L σ H D r o q1 q2=>by
  refine hw W L σ H _ r o fun J H1 e1 o1 jd=>?_
  have ew:=e1.ofP o
  have hn:∀ a,H1 a=none->H a=none:=fun a ha=>ew.none o1.al ha
  refine ⟨fun i m σ' H'=>m=ds.length - i/\i<=ds.length/\∃ (W':Addr->Prop) (L':List Addr) (τ1:List Sl),I i τ1/\Ev W H1 H'/\Ok p W' H'/\(∀ a,W a->∃ ys,H' a=some ys)/\(∀ a,W' a->W a\/H1 a=none)/\(∀ a,a ∈ L'->a ∈ L\/H1 a=none)/\Rs p W' K H' L' σ' τ1,
    ⟨ds.length,by omega,Nat.zero_le _,W,L,τ,h0,Ev.refl,o1,o1.al,fun _ h=>.inl h,fun _ h=>.inl h,r.ev e1 o.pw⟩,?_⟩
  rintro i m σ' H' ⟨rfl,hi,W',L',τ1,hI,ev,ok,al,nn,ll,rs⟩
  obtain ⟨stop,each⟩:=jd W' H' ev nn
  by_cases hlt:i < ds.length
  . have hd:ds[i]?=some ds[i]:=by simp [hlt]
    obtain ⟨go,yl⟩:=each i _ hd
    obtain ⟨τ2,hg,hb⟩:=turn i _ τ1 hd hI
    refine .inr ⟨go,fun σ'' H''=>ds.length - (i + 1)=ds.length - (i + 1)/\i + 1<=ds.length/\∃ (W':Addr->Prop) (L':List Addr) (τ1:List Sl),I (i + 1) τ1/\Ev W H1 H''/\Ok p W' H''/\(∀ a,W a->∃ ys,H'' a=some ys)/\(∀ a,W' a->W a\/H1 a=none)/\(∀ a,a ∈ L'->a ∈ L\/H1 a=none)/\Rs p W' K H'' L' σ'' τ1,fun σ'' H'' h=>⟨_,by omega,h⟩,fun x H2 y=>?_⟩
    obtain ⟨s2,z2⟩:=yl x H2 y
    have e2:Ev (Pp p) H' H2:=Ev.of s2
    have o2:=ok.same s2
    have ev2:Ev W H1 H2:=ev.trans (Ev.of s2)
    have al2:∀ a,W a->∃ ys,H2 a=some ys:=fun a ha=>let ⟨ys,h⟩:=al a ha;⟨ys,s2 _ _ h⟩
    have hn2:∀ a,H2 a=none->H1 a=none:=fun a ha=>ev2.none al2 ha
    refine hg W' L' σ' H2 x _ (rs.ev e2 ok.pw) z2 fun L3 σ3 l3 rs3=>?_
    refine hb W' L3 σ3 H2 _ rs3 o2 (fun W4 L4 σ4 H4 τ4 c e4 o4 w4 n4 l4 r4=>?_) (fun W4 H4 v s c e4 o4 w4 n4 rv=>?_)
    . exact ⟨rfl,hlt,W4,L4,τ4,c,ev2.chain e4 nn,o4,al_chain al2 w4 e4,fun a ha=>(n4 a ha).elim (nn a) fun z=>.inr (hn2 a z),fun a ha=>(l4 a ha).elim (fun z=>ll a (l3 a z)) fun z=>.inr (hn2 a z),r4⟩
    . have nn':∀ a,W' a->W a\/H a=none:=fun a ha=>(nn a ha).imp id (hn a)
      refine q2 W4 H4 v s c ((ew.trans ev2).chain e4 nn') o4 (al_chain al2 w4 e4) (fun a ha=>(n4 a ha).elim (nn' a) fun z=>.inr (hn a (hn2 a z))) (rv.base (fun a z=>hn a (hn2 a z)) fun a ha=>?_)
      exact (ll a (l3 a ha)).imp id (hn a)
  . have e:i=ds.length:=by omega
    subst e
    exact .inl ⟨stop,q1 W' L' σ' H' τ1 (done τ1 hI) (ew.trans ev) ok al (fun a ha=>(nn a ha).imp id (hn a)) (fun a ha=>(ll a ha).imp id (hn a)) rs⟩
end
end D
end
section
namespace D
open PySem L2 K0
open PySem.W (Dat)
section
variable {p:Option Addr} {K:PySem.W.Frag} {W:Addr->Prop} {L:List Addr} {σ:St} {H H1 H2:Hp} {τ:List Sl} {te:TE} {v:V} {s:Sl} {nx:List Sl->Prop} {t u:TS} {ds:List Dat} {wi:TI} {tt:TT}
noncomputable def Gc (p:Option Addr) (K:PySem.W.Frag) (no:Nat) (g:TG) (d:Dat) (own:List Sl):Prop:=∀ (W:Addr->Prop) (L:List Addr) (ρ σ:St) (τ:List Sl) (H:Hp) (v:V) (Q:St->Hp->Prop),ρ.length=no->Rs p W K H L σ τ->Dz (fun a=>¬ W a) K H v d->(∀ ρ',ρ'.length=no->Rs p W K H L (ρ' ++ σ) (own ++ τ)->Q (ρ' ++ σ) H)->g v (ρ ++ σ) H Q
theorem Gc.name {d:Dat}:Gc p K 1 (gName 0) d [.dat d]:=fun W L ρ σ τ H v Q l r z q=>by
  match ρ,l with
  | [o],_=>exact q [some v] rfl (.dat z r)
theorem Gc.pair {x y : Dat} : Gc p K 2 (gPair K) (.tuple [x, y]) [.dat x, .dat y] := fun W L ρ σ τ H v Q l r z q => by
  match ρ,l with
  | [o, o'], _ =>
    cases z with
    | tup h1 h2 =>
      cases h2 with
      | cons za t =>
        cases t with
        | cons zb t =>
          cases t
          exact ⟨_,_,rfl,h1,rfl,_,_,rfl,_,_,rfl,rfl,q [some _,some _] rfl (.dat za (.dat zb r))⟩
theorem Rs.evx {X:Addr->Prop} {H':Hp} (r:Rs p W K H L σ τ) (e:Ev X H H') (nx:∀ a,¬ W a->¬ X a) (no:∀ a o,H a=some o->p ≠ some a->¬ X a):Rs p W K H' L σ τ:=by
  induction r with
  | nil=>exact .nil
  | un _ ih=>exact .un ih
  | dat h _ ih=>exact .dat (h.ev e nx) ih
  | pu h _ ih=>exact .pu h ih
  | own h1 h2 h3 h4 h5 _ ih=>exact .own h1 h2 h3 (e.keep _ _ (no _ _ h4 h2) h4) (h5.ev e nx) ih
  | dt h1 h2 h3 h4 _ ih=>exact .dt h1 h2 h3 (Own.ev _ h4 e nx fun b o hb h=>e.keep _ _ (no _ _ h (h2 b hb)) h) ih
theorem E.comp {no : Nat} {g : TG} (hw : Wk p K wi τ ds) (own : Dat -> List Sl) (hg : ∀ d, d ∈ ds -> Gc p K no g d (own d)) (kp : Dat -> Bool) (Cd : Dat -> Dat -> Prop) (ht : ∀ d, d ∈ ds -> T1 p K tt (own d ++ τ) (kp d))
    (turn:∀ d,d ∈ ds->kp d=true->E p K te (own d ++ τ) (fun s=>∃ e,s = .dat e/\Cd d e)) (hz:ds.length<=sizeLine) :
    E p K (tCompB no wi g tt te) τ (fun s=>∃ es,s = .own es/\es.length=(ds.filter kp).length/\∀ (i:Nat) (e:Dat),es[i]?=some e->∃ d,(ds.filter kp)[i]?=some d/\Cd d e):=fun W L σ H Q r o q=>by
  refine hw W L σ H _ r o fun J H1 e1 o1 jd=>?_
  intro D hD
  have nD:=o1.fresh hD
  have pD:=o1.np hD
  have r1:=r.ev e1 o.pw
  have r1':Rs p (fun b=>W b\/b=D) K H1 L σ τ:=r1.wide (fun _ h=>.inl h) fun b hb nb=>(hb.resolve_left nb) ▸ hD
  refine ⟨fun i m σ' H'=>m=ds.length - i/\i<=ds.length/\(∃ ρ,ρ.length=no/\σ'=ρ ++ σ)/\Ev (fun a=>Pp p a\/a=D) H1 H'/\(∀ q,p=some q->Pu H' q)/\∃ (vs:List V) (es:List Dat),H' D=some (.lst vs)/\Dzs (fun b=>¬ (W b\/b=D)) K H' vs es/\es.length=((ds.take i).filter kp).length/\∀ (j:Nat) (e:Dat),es[j]?=some e->∃ d,((ds.take i).filter kp)[j]?=some d/\Cd d e,
    ⟨ds.length,by omega,Nat.zero_le _,⟨List.replicate no none,by simp,rfl⟩,⟨fun b u nb h=>by rw [upd_ne (fun z=>nb (.inr z))];exact h,(Same.new hD _).tm⟩,fun q hq=>(o1.pu q hq).1.same (Same.new hD _),[],[],upd_same,.nil,by simp,fun j e h=>by simp at h⟩,?_⟩
  rintro i m σ' H' ⟨rfl,hi,⟨ρ,lρ,rfl⟩,ev,pu,vs,es,hv,zv,le,hes⟩
  have evW:Ev W H1 H':=⟨fun b u nb h=>ev.keep b u (fun z=>z.elim (fun y=>nb (o1.pw b y)) fun y=>by rw [y] at h;rw [hD] at h;cases h) h,ev.tm⟩
  have ok':Ok p (fun b=>W b\/b=D) H':=⟨fun q hq=>⟨pu q hq,.inl (o1.pw q hq)⟩,fun b hb=>by
    by_cases z:b=D
    . subst z;exact ⟨_,hv⟩
    . by_cases y:p=some b
      . obtain ⟨x1,x2,h⟩:=pu b y;exact ⟨_,h⟩
      . obtain ⟨ys,h⟩:=o1.al b (hb.resolve_right z)
        exact ⟨ys,ev.keep _ _ (fun w=>w.elim y z) h⟩⟩
  have evD:Ev (fun b=>W b\/b=D) H1 H':=evW.mono fun _ h=>.inl h
  have rs':Rs p (fun b=>W b\/b=D) K H' L σ τ:=by
    refine Rs.evx r1' ev (fun a ha z=>?_) fun a u ha np z=>?_
    . rcases z with z | z
      . exact ha (.inl (o1.pw a z))
      . exact ha (.inr z)
    . rcases z with z | z
      . exact np z
      . rw [z,hD] at ha;cases ha
  obtain ⟨stop,each⟩:=jd (fun b=>W b\/b=D) H' evW fun a ha=>ha.imp id fun z=>by rw [z];exact hD
  have o1f:H D=none:=o1.back e1 hD
  by_cases hlt:i < ds.length
  . have hd : ds[i]? = some ds[i] := by simp [hlt]
    have hm:ds[i] ∈ ds:=List.getElem_mem hlt
    obtain ⟨go,yl⟩:=each i _ hd
    have tk:ds.take (i + 1)=ds.take i ++ [ds[i]]:=by rw [List.take_add_one];simp [hlt]
    refine .inr ⟨go,fun x H2 y=>?_⟩
    obtain ⟨s2,z2⟩:=yl x H2 y
    have ok2:=ok'.same s2
    refine hg _ hm _ L ρ σ τ H2 x _ lρ (rs'.ev (Ev.of s2) ok'.pw) z2 fun ρ' lρ' rs2=>?_
    refine ht _ hm _ L _ H2 _ rs2 ok2 fun b H4 eb e4 o4=>?_
    have pvH:Ev (fun a=>Pp p a\/a=D) H' H4:=(Ev.of s2).trans (e4.mono fun _ h=>.inl h)
    have hv4:H4 D=some (.lst vs):=e4.keep _ _ pD (s2 _ _ hv)
    have zv4:Dzs (fun b=>¬ (W b\/b=D)) K H4 vs es:=(zv.ev (W:=fun _=>False) (Ev.of s2) fun _ _ h=>h).ev e4 fun a ha z=>ha (.inl (o1.pw a z))
    subst eb
    by_cases hk:kp ds[i]=true
    . rw [if_pos hk]
      refine turn _ hm hk _ L _ H4 _ (rs2.ev e4 ok2.pw) o4 fun v H5 s c e5 o5 rv=>?_
      obtain ⟨e,rfl,ce⟩:=c
      have hv5:H5 D=some (.lst vs):=e5.keep _ _ pD hv4
      have zv5:=zv4.ev e5 fun a ha z=>ha (.inl (o1.pw a z))
      have ll:vs.length<=i:=by rw [zv.len,le];exact Nat.le_trans (List.length_filter_le _ _) (by rw [List.length_take];omega)
      have evu:Ev (fun b=>b=D) H5 (upd H5 D (.lst (vs ++ [v]))):=⟨fun b o n h=>by rw [upd_ne n];exact h,Tm.lst hv5 _⟩
      refine ⟨vs,hv5,by omega,ds.length - (i + 1),by omega,rfl,hlt,⟨ρ',lρ',rfl⟩,(ev.trans (pvH.trans (e5.mono fun _ h=>.inl h))).trans (evu.mono fun _ h=>.inr h),fun q hq=>?_,vs ++ [v],es ++ [e],upd_same,(zv5.app (.cons rv .nil)).ev evu fun b hb z=>hb (.inr z),?_,fun j f hj=>?_⟩
      . obtain ⟨x1,x2,h⟩:=(o5.pu q hq).1
        exact ⟨x1,x2,by rw [upd_ne (fun z=>pD (by rw [<- z];exact hq))];exact h⟩
      . rw [tk,List.filter_append,List.length_append,List.length_append,le];simp [hk]
      . rw [tk,List.filter_append]
        have h1:[ds[i]].filter kp=[ds[i]]:=by simp [hk]
        rw [h1]
        by_cases hj2:j < es.length
        . rw [List.getElem?_append_left hj2] at hj
          rw [List.getElem?_append_left (by rw [<- le];exact hj2)]
          exact hes j f hj
        . rw [List.getElem?_append_right (by omega)] at hj
          have ej:j - es.length=0:=by
            have:=(List.getElem?_eq_some_iff.mp hj).1
            simp at this;omega
          rw [ej] at hj
          cases hj
          rw [List.getElem?_append_right (by omega), <- le,ej]
          exact ⟨_,rfl,ce⟩
    . rw [if_neg hk]
      refine ⟨ds.length - (i + 1),by omega,rfl,hlt,⟨ρ',lρ',rfl⟩,ev.trans pvH,fun q hq=>(o4.pu q hq).1,vs,es,hv4,zv4,?_,fun j f hj=>?_⟩
      . rw [tk,List.filter_append,List.length_append,le];simp [hk]
      . obtain ⟨d,h1,h2⟩:=hes j f hj
        rw [tk,List.filter_append]
        have h3:[ds[i]].filter kp=[]:=by simp [hk]
        rw [h3,List.append_nil]
        exact ⟨d,h1,h2⟩
  . have e:i=ds.length:=by omega
    subst e
    rw [List.take_length] at le hes
    have evP:Ev (Pp p) H1 H':=⟨fun b u nb h=>ev.keep b u (fun z=>z.elim nb fun y=>by rw [y] at h;rw [hD] at h;cases h) h,ev.tm⟩
    refine .inl ⟨stop,q _ H' _ ⟨es,rfl,le,hes⟩ (e1.trans evP) (o1.ev evP pu) ⟨D,vs,rfl,o1f,hv,zv.mono fun a ha z=>ha (.inl z)⟩⟩
end
end D
end
section
namespace D
open PySem L2 K0
open PySem.W (Dat)
section
variable {p:Option Addr} {K:PySem.W.Frag} {W:Addr->Prop} {L:List Addr} {σ:St} {H H0 H1 H2:Hp} {τ τ':List Sl} {ta tb te:TE} {tas:TA} {v:V} {s:Sl} {t:TS} {ds:List Dat} {wi:TI} {tt:TT}
theorem T1.all:T1 p K tAll τ true:=fun W L σ H Q r o q=>q true H rfl Ev.refl o
theorem filter_true (ds:List Dat):ds.filter (fun _=>true)=ds:=List.filter_eq_self.mpr fun _ _=>rfl
theorem E.compC {Cd:Dat->Dat->Prop} (hw:Wk p K wi τ ds) (turn:∀ d,d ∈ ds->E p K te (.dat d :: τ) (fun s=>∃ e,s = .dat e/\Cd d e)) (hz:ds.length<=sizeLine) :
    E p K (tCompB 1 wi (gName 0) tAll te) τ (fun s=>∃ es,s = .own es/\es.length=ds.length/\∀ (i:Nat) (e:Dat),es[i]?=some e->∃ d,ds[i]?=some d/\Cd d e):=by
  have h:=E.comp (tt:=tAll) hw (fun d=>[.dat d]) (fun d _=>Gc.name) (fun _=>true) Cd (fun _ _=>T1.all) (fun d hd _=>turn d hd) hz
  rw [filter_true] at h
  exact h
theorem map_of {f:Dat->Dat} {es:List Dat} (l:es.length=ds.length) (h:∀ (i:Nat) (e:Dat),es[i]?=some e->∃ d,ds[i]?=some d/\f d=e):es=ds.map f:=by
  apply List.ext_getElem?
  intro i
  rw [List.getElem?_map]
  cases q:es[i]? with
  | none =>
    have:=List.getElem?_eq_none_iff.mp q
    rw [List.getElem?_eq_none (by omega)];rfl
  | some e=>obtain ⟨d,h1,h2⟩:=h i e q;rw [h1, <- h2];rfl
theorem E1.compM {f:Dat->Dat} (hw:Wk p K wi τ ds) (turn:∀ d,d ∈ ds->E1 p K te (.dat d :: τ) (.dat (f d))) (hz:ds.length<=sizeLine):E1 p K (tCompB 1 wi (gName 0) tAll te) τ (.own (ds.map f)):=by
  refine E.mono (E.compC (Cd:=fun d e=>f d=e) hw (fun d hd=>E.mono (turn d hd) fun s hs=>⟨_,hs.symm,rfl⟩) hz) fun s hs=>?_
  obtain ⟨es,rfl,l,h⟩:=hs
  rw [map_of l h]
theorem E1.compF {f:Dat->Dat} {kp:Dat->Bool} (hw:Wk p K wi τ ds) (ht:∀ d,d ∈ ds->T1 p K tt (.dat d :: τ) (kp d)) (turn:∀ d,d ∈ ds->kp d=true->E1 p K te (.dat d :: τ) (.dat (f d))) (hz:ds.length<=sizeLine):E1 p K (tCompB 1 wi (gName 0) tt te) τ (.own ((ds.filter kp).map f)):=by
  refine E.mono (E.comp hw (fun d=>[.dat d]) (fun d _=>Gc.name) kp (fun d e=>f d=e) ht (fun d hd hk=>E.mono (turn d hd hk) fun s hs=>⟨_,hs.symm,rfl⟩) hz) fun s hs=>?_
  obtain ⟨es,rfl,l,h⟩:=hs
  rw [map_of l h]
noncomputable def p1:Dat->Dat
  | .tuple [x,_]=>x
  | d=>d
noncomputable def p2:Dat->Dat
  | .tuple [_,y]=>y
  | d=>d
theorem zipD_mem {xs ys:List Dat} {d:Dat} (h:d ∈ zipD xs ys):∃ x y,d = .tuple [x,y]/\x ∈ xs/\y ∈ ys:=by
  obtain ⟨i,hi⟩:=List.mem_iff_getElem?.mp h
  obtain ⟨x,y,h1,h2,h3⟩:=zipD_get hi
  exact ⟨x,y,h3,List.mem_of_getElem? h1,List.mem_of_getElem? h2⟩
theorem E1.compI {ns:List Int} {g:Int->Int} (hw:Wk p K wi τ (ns.map .int)) (turn:∀ n,n ∈ ns->E1 p K te (.dat (.int n) :: τ) (.dat (.int (g n)))) (hz:ns.length<=sizeLine):E1 p K (tCompB 1 wi (gName 0) tAll te) τ (.own ((ns.map g).map .int)):=by
  have h:=E1.compM (f:=fun d=>match d with | .int n=>.int (g n) | d=>d) hw (fun d hd=>by
    obtain ⟨n,hn,rfl⟩:=List.mem_map.mp hd
    exact turn n hn) (by rw [List.length_map];exact hz)
  rw [List.map_map] at h ⊢
  exact h
theorem E1.compIF {ns:List Int} {kp:Int->Bool} (hw:Wk p K wi τ (ns.map .int)) (ht:∀ n,n ∈ ns->T1 p K tt (.dat (.int n) :: τ) (kp n)) (turn:∀ n,n ∈ ns->E1 p K te (.dat (.int n) :: τ) (.dat (.int n))) (hz:ns.length<=sizeLine):E1 p K (tCompB 1 wi (gName 0) tt te) τ (.own ((ns.filter kp).map .int)):=by
  have h:=E1.compF (f:=id) (kp:=fun d=>match d with | .int n=>kp n | d=>false) hw (fun d hd=>by
    obtain ⟨n,hn,rfl⟩:=List.mem_map.mp hd
    exact ht n hn) (fun d hd _=>by
    obtain ⟨n,hn,rfl⟩:=List.mem_map.mp hd
    exact turn n hn) (by rw [List.length_map];exact hz)
  rw [List.map_id,List.filter_map] at h
  exact h
theorem E1.cb1 {r:List V->Hp->VK->Prop} {a c:Sl} (ha:A1 p K tas τ [a]) (hr:∀ (W:Addr->Prop) (H0 H:Hp) (x:V) (Q:VK),Ok p W H0->Ok p W H->Ev (Pp p) H0 H->Rv p W K H0 H x a->(∀ v H',Ev (Pp p) H H'->Ok p W H'->Rv p W K H0 H' v c->Q v H')->r [x] H Q):E1 p K (tCB r tas) τ c:=fun W L σ H Q rs o q =>
  ha W L σ H _ rs o fun vs H1 ss e e1 o1 rv=>by
    subst e
    cases rv with
    | cons a t =>
      cases t
      exact hr W H H1 _ _ o o1 e1 a fun v H' e2 o2 rv=>q v H' _ rfl (e1.trans e2) o2 rv
theorem E1.tupleL {ds:List Dat} (ha:A1 p K tas τ [.vw ds]):E1 p K (tCB (fun xs H Q=>∃ p ys,xs=[.ref p]/\((SqL K H p ys/\∀ l,H l=none->Q (.ref l) (upd H l (.tup ys)))\/(SqT K H p ys/\Q (.ref p) H))) tas) τ (.dat (.tuple ds)) :=
  E1.cb1 ha fun W H0 H x Q o0 o _ r q=>by
    obtain ⟨a,vs,rfl,h1,h2⟩:=r
    refine ⟨a,vs,rfl,.inl ⟨h1.sq,fun l hl=>?_⟩⟩
    have s:=Same.new hl (.tup vs)
    exact q _ _ (Ev.of s) (o.same s) (.tup (SqT.of upd_same) (h2.ev (W:=Pp p) (Ev.of s) o.nw))
theorem E1.lenL {ds:List Dat} (ha:A1 p K tas τ [.vw ds]):E1 p K (tCB (fun xs H Q=>∃ p ys,xs=[.ref p]/\(SqL K H p ys\/SqT K H p ys)/\Q (.int ys.length) H) tas) τ (.dat (.int ds.length)) :=
  E1.cb1 ha fun W H0 H x Q o0 o _ r q=>by
    obtain ⟨a,vs,rfl,h1,h2⟩:=r
    refine ⟨a,vs,rfl,.inl h1.sq,?_⟩
    rw [h2.len]
    exact q _ H Ev.refl o (.int _)
theorem E1.lenT {ds:List Dat} (ha:A1 p K tas τ [.dat (.tuple ds)]):E1 p K (tCB (fun xs H Q=>∃ p ys,xs=[.ref p]/\(SqL K H p ys\/SqT K H p ys)/\Q (.int ys.length) H) tas) τ (.dat (.int ds.length)) :=
  E1.cb1 ha fun W H0 H x Q o0 o _ r q=>by
    cases r with
    | tup h1 h2 =>
      refine ⟨_,_,rfl,.inr h1,?_⟩
      rw [h2.len]
      exact q _ H Ev.refl o (.int _)
noncomputable def cutA {α:Type} (xs:List α) (lo hi:Option Int):List α:=(xs.drop (HT.sIx xs.length 0 lo)).take (HT.sIx xs.length xs.length hi - HT.sIx xs.length 0 lo)
noncomputable def O1 (p:Option Addr) (K:PySem.W.Frag) (to:TO) (τ:List Sl) (i:Option Int):Prop:=∀ (W:Addr->Prop) (L:List Addr) (σ:St) (H:Hp) (Q:Option Int->Hp->Prop),Rs p W K H L σ τ->Ok p W H->(∀ H',Ev (Pp p) H H'->Ok p W H'->Q i H')->to σ H Q
theorem O1.none:O1 p K tNoPart τ Option.none:=fun W L σ H Q r o q=>q H Ev.refl o
theorem O1.some {i:Int} (h:E1 p K te τ (.dat (.int i))):O1 p K (tPart te) τ (Option.some i):=fun W L σ H Q r o q=>h W L σ H _ r o fun v H1 s e e1 o1 rv=>by
  subst e;cases rv.int_inv;exact ⟨i,rfl,q H1 e1 o1⟩
theorem cut_dz {N:Addr->Prop} {vs:List V} {ds:List Dat} {lo hi:Option Int} (h:Dzs N K H vs ds):Dzs N K H (cutV vs lo hi) (cutA ds lo hi):=by
  unfold cutV cutA
  rw [h.len]
  exact (h.drop _).take _
theorem E1.slL {ds:List Dat} {lo hi:Option Int} {tl th:TO} (h:E1 p K te τ (.vw ds)) (hl:O1 p K tl τ lo) (hh:O1 p K th τ hi):E1 p K (tSl (rSlL K) te tl th) τ (.own (cutA ds lo hi)):=fun W L σ H Q r o q =>
  h W L σ H _ r o fun v H1 s e e1 o1 rv=>by
    subst e
    refine hl W L σ H1 _ (r.ev e1 o.pw) o1 fun H2 e2 o2=>hh W L σ H2 _ ((r.ev e1 o.pw).ev e2 o.pw) o2 fun H3 e3 o3=>?_
    obtain ⟨a,vs,rfl,h1,h2⟩:=rv.ev (e2.trans e3) o1 o
    refine ⟨a,vs,rfl,h1.sq,fun l hl=>?_⟩
    have s:=Same.new hl (.lst (cutV vs lo hi))
    exact q _ _ _ rfl ((e1.trans (e2.trans e3)).trans (Ev.of s)) (o3.same s) ⟨l,_,rfl,o3.back (e1.trans (e2.trans e3)) hl,upd_same,(cut_dz h2).ev (W:=Pp p) (Ev.of s) o3.nw⟩
theorem E1.catT {xs ys : List Dat} (ha : E1 p K ta τ (.dat (.tuple xs))) (hb : E1 p K tb τ (.dat (.tuple ys))) (hz : xs.length + ys.length <= sizeLine) : E1 p K (tOp (rCatW K) ta tb) τ (.dat (.tuple (xs ++ ys))) :=
  E1.op2 ha hb fun W H0 H x y Q o0 o r1 r2 q=>by
    cases r1 with
    | tup h1 h2 =>
      cases r2 with
      | tup h3 h4 =>
        refine ⟨_,_,_,_,rfl,rfl,h1,h3,by rw [h2.len,h4.len];exact hz,fun a H' s h=>?_⟩
        exact q _ H' (Ev.of s) (o.same s) (.tup h ((h2.app h4).ev (W:=Pp p) (Ev.of s) o.nw))
end
noncomputable def spP (K:PySem.W.Frag) (R:List Dat->Dat->Prop):Sp:=fun vs H Q _=>∃ ds d,Dzs (fun _=>True) K H vs ds/\R ds d/\∀ v H',Same H H'->Dz (fun a=>H a=none) K H' v d->Q v H'
noncomputable def spU (K:PySem.W.Frag) (R:List Dat->(Dat->Prop)->Prop):Sp:=fun vs H Q _=>∃ q us ds C,vs = .ref q :: us/\Dzs (fun a=>a ≠ q) K H us ds/\Pu H q/\R ds C/\∀ v H' d,C d->Ev (fun a=>a=q) H H'->Pu H' q->Dz (fun a=>H a=none) K H' v d->Q v H'
section
variable {p:Option Addr} {K:PySem.W.Frag} {W:Addr->Prop} {L:List Addr} {σ:St} {H H0 H1 H2:Hp} {τ τ':List Sl} {ta tb te:TE} {tas:TA} {v:V} {s:Sl} {t:TS} {ds:List Dat} {E':XK}
noncomputable def datsOf:List Sl->Option (List Dat)
  | []=>some []
  | s :: r=>match datOf s,datsOf r with
    | some d,some ds=>some (d :: ds)
    | _,_=>none
theorem Rvs.dz {ss : List Sl} {vs : List V} (h : Rvs p W K H0 H vs ss) : ∀ {ds : List Dat}, datsOf ss = some ds -> Dzs (fun _ => True) K H vs ds := by
  induction h with
  | nil=>intro ds e;cases e;exact .nil
  | cons a t ih =>
    rename_i v s vs ss
    intro ds e
    unfold datsOf at e
    cases e1:datOf s with
    | none=>rw [e1] at e;simp at e
    | some d =>
      cases e2:datsOf ss with
      | none=>rw [e1,e2] at e;simp at e
      | some r =>
        rw [e1,e2] at e;cases e
        refine .cons ?_ (ih e2)
        cases s with
        | un=>cases e1
        | pu=>cases e1
        | dat d'=>cases e1;exact Dz.mono (fun _ _=>trivial) a
        | own ds=>cases e1;obtain ⟨a,vs,rfl,_,h2,h3⟩:=a;exact .lst (.inl ⟨trivial,.inl h2⟩) (h3.mono fun _ _=>trivial)
        | dt ds=>cases e1
        | vw ds=>cases e1;obtain ⟨a,vs,rfl,h2,h3⟩:=a;exact .lst (h2.elim (fun z=>.inl ⟨trivial,z.2⟩) .inr) (h3.mono fun _ _=>trivial)
theorem E1.call {R:List Dat->Dat->Prop} {ss:List Sl} {ds:List Dat} {d:Dat} (ha:A1 p K tas τ ss) (hr:R ds d) (hd:datsOf ss=some ds:=by rfl):E1 p K (tCall (spP K R) [] E' tas) τ (.dat d):=fun W L σ H Q rs o q=>ha W L σ H _ rs o fun vs H1 ss e e1 o1 rv=>by
  subst e
  rw [List.append_nil]
  exact ⟨ds,d,rv.dz hd,hr,fun v H' s z=>q v H' _ rfl (e1.trans (Ev.of s)) (o1.same s) (z.mono fun a ha=>o1.fresh ha)⟩
theorem Rvs.dzp {q:Addr} {vs:List V} {ds:List Dat} (h:Rvs (some q) W K H0 H vs (ds.map .dat)) (w:W q):Dzs (fun a=>a ≠ q) K H vs ds:=h.dats.mono fun a n z=>n (by rw [z];exact w)
theorem E.callU {R:List Dat->(Dat->Prop)->Prop} {ds:List Dat} {C:Dat->Prop} (ha:A1 p K tas τ (.pu :: ds.map .dat)) (hr:R ds C):E p K (tCall (spU K R) [] E' tas) τ (fun s=>∃ d,s = .dat d/\C d):=fun W L σ H Q rs o q=>ha W L σ H _ rs o fun vs H1 ss e e1 o1 rv=>by
  subst e
  rw [List.append_nil]
  cases rv with
  | cons a t =>
    obtain ⟨q0,rfl,rfl⟩:=a
    have w:=o1.pw q0 rfl
    refine ⟨q0,_,ds,C,rfl,Rvs.dzp t w,(o1.pu q0 rfl).1,hr,fun v H' d c ev pu z=>?_⟩
    have e2:Ev (Pp (some q0)) H1 H':=ev.mono fun a h=>by rw [h];rfl
    exact q v H' _ ⟨d,rfl,c⟩ (e1.trans e2) (o1.ev e2 fun q hq=>by cases hq;exact pu) (z.mono fun a ha=>o1.fresh ha)
noncomputable def Gives (d:Dat):Sl->Prop
  | .dat e=>d=e/\noL d=true
  | .own ds=>d = .list ds/\noLs ds=true
  | _=>False
theorem rs_start {N:Addr->Prop}:∀ {vs:List V} {ds:List Dat} (n:Nat),Dzs N K H vs ds->(∀ a,N a->¬ W a)->Rs p W K H [] (vs.map some ++ List.replicate n none) (ds.map .dat ++ List.replicate n .un)
  | _,_,0,.nil,_=>.nil
  | _,_,n + 1,.nil,h=>by
    have:=rs_start n (Dzs.nil (N:=N) (K:=K) (H:=H)) h
    rw [List.replicate_succ,List.replicate_succ]
    exact .un this
  | _,_,n,.cons a r,h=>.dat (a.mono h) (rs_start n r h)
variable {P:Program} {w:World} {mg:Str->Option Value} {base:Heap}
theorem okP {x qual : Str} {st : Stmt} {f : Addr} {fd : FuncData} {N ps : List Str} {k : Nat} {R : List Dat -> Dat -> Prop} (F : Fun K x qual st f fd) (S0 : FnScope N ps (defScope st)) (len : ∀ ds d, R ds d -> ds.length = ps.length)
    (body:∀ (cdv:Value) (A:Around) (outer:List Env) (s:Shared) (H:Hp) (E:XK),Room k (A.deeper (PyProof.Rows.envOfC qual (defScope st) s.heap.objs.size f cdv)) ->
      ∃ t,ZSs (cxOf CX0 P w K mg base N qual (defScope st) f cdv A outer s H E).nox (defBody st) t/\∀ ds d,R ds d->S none K t (ds.map .dat ++ List.replicate (N.length - ps.length) .un) (fun _=>d = .none) (Gives d)):FnOk P w K mg base CX0 (k + 1) f fd ps (spP K R):=by
  refine F.okZ S0 (fun vs H Q E h=>?_) (fun cdv A outer s H vs Q E hr h=>?_)
  . obtain ⟨ds,d,z,r,_⟩:=h;rw [z.len];exact len ds d r
  . obtain ⟨ds,d,z,r,q⟩:=h
    obtain ⟨t,hz,hs⟩:=body cdv A outer s H E hr
    refine ⟨t,hz,?_⟩
    have l:vs.length=ps.length:=by rw [z.len];exact len ds d r
    have r0:Rs none (fun _=>False) K H [] (L2.start N vs) (ds.map .dat ++ List.replicate (N.length - ps.length) .un):=by
      unfold L2.start
      rw [l]
      exact rs_start _ z fun a _ h=>h
    have same:∀ {H':Hp},Ev (fun _=>False) H H'->Same H H':=fun e b o h=>e.keep b o (fun z=>z) h
    refine hs ds d r (fun _=>False) [] _ H _ r0 ⟨fun q h=>(by cases h),fun a h=>False.elim h⟩ (fun W' L' σ' H' τ' e ev o' al n l r'=>?_) (fun W' H' v s e ev o' al n rv=>?_)
    . subst e;exact q .non H' (same ev) .none
    . cases s with
      | dat d' =>
        obtain ⟨rfl,nl⟩:=e
        exact q v H' (same ev) (Dz.free rv nl)
      | own es =>
        obtain ⟨rfl,nl⟩:=e
        obtain ⟨a,vs,rfl,h1,h2,h3⟩:=rv
        exact q _ H' (same ev) (.lst (.inl ⟨h1.resolve_left (fun z=>by cases z),.inl h2⟩) (h3.free nl))
      | dt es=>cases e
      | un=>cases e
      | pu=>cases e
      | vw ds=>cases e
theorem okU {x qual:Str} {st:Stmt} {f:Addr} {fd:FuncData} {N ps:List Str} {k:Nat} {R:List Dat->(Dat->Prop)->Prop} (F:Fun K x qual st f fd) (S0:FnScope N ps (defScope st)) (len:∀ ds C,R ds C->ds.length + 1=ps.length)
    (body:∀ (cdv:Value) (A:Around) (outer:List Env) (s:Shared) (H:Hp) (E:XK),Room k (A.deeper (PyProof.Rows.envOfC qual (defScope st) s.heap.objs.size f cdv)) ->
      ∃ t,ZSs (cxOf CX0 P w K mg base N qual (defScope st) f cdv A outer s H E).nox (defBody st) t/\∀ (q:Addr) ds C,R ds C->S (some q) K t (.pu :: ds.map .dat ++ List.replicate (N.length - ps.length) .un) (fun _=>False) (fun s=>∃ d,C d/\Gives d s)):FnOk P w K mg base CX0 (k + 1) f fd ps (spU K R):=by
  refine F.okZ S0 (fun vs H Q E h=>?_) (fun cdv A outer s H vs Q E hr h=>?_)
  . obtain ⟨q,us,ds,C,rfl,z,_,r,_⟩:=h;rw [List.length_cons,z.len];exact len ds C r
  . obtain ⟨q0,us,ds,C,rfl,z,pu,r,q⟩:=h
    obtain ⟨t,hz,hs⟩:=body cdv A outer s H E hr
    refine ⟨t,hz,?_⟩
    have l:(V.ref q0 :: us).length=ps.length:=by rw [List.length_cons,z.len];exact len ds C r
    have r0:Rs (some q0) (fun a=>a=q0) K H [] (L2.start N (.ref q0 :: us)) (.pu :: ds.map .dat ++ List.replicate (N.length - ps.length) .un):=by
      unfold L2.start
      rw [l]
      exact .pu rfl (rs_start _ z fun a h=>h)
    have o0:Ok (some q0) (fun a=>a=q0) H:=⟨fun q h=>(by cases h;exact ⟨pu,rfl⟩),fun a h=>by obtain ⟨x,y,e⟩:=pu;exact ⟨_,by rw [h];exact e⟩⟩
    refine hs q0 ds C r (fun a=>a=q0) [] _ H _ r0 o0 (fun W' L' σ' H' τ' e ev o' al n l r'=>e.elim) (fun W' H' v s e ev o' al n rv=>?_)
    obtain ⟨d,c,e⟩:=e
    cases s with
    | dat d' =>
      obtain ⟨rfl,nl⟩:=e
      exact q v H' _ c ev (o'.pu q0 rfl).1 (Dz.free rv nl)
    | own es =>
      obtain ⟨rfl,nl⟩:=e
      obtain ⟨a,vs,rfl,h1,h2,h3⟩:=rv
      exact q _ H' _ c ev (o'.pu q0 rfl).1 (.lst (.inl ⟨h1.resolve_left (fun z=>by cases z),.inl h2⟩) (h3.free nl))
    | dt es=>cases e
    | un=>cases e
    | pu=>cases e
    | vw ds=>cases e
end
end D
end
section
namespace L2
open PySem PySem.Spec PyProof.Rows
open PySem.W (Dat)
end L2
namespace D
open PySem L2 K0 Num
open PySem.W (Dat)
noncomputable abbrev tI (ns:List Int):Dat:=.tuple (ns.map .int)
section
variable {p:Option Addr} {K:PySem.W.Frag} {W:Addr->Prop} {L:List Addr} {σ:St} {H H0 H1:Hp} {τ:List Sl} {ta tb te:TE} {tas:TA} {v:V} {s:Sl} {t:TS} {ds:List Dat} {E':XK}
noncomputable def dOf:List Sl->Option (List Dat)
  | []=>some []
  | .dat d :: r=>match dOf r with
    | some ds=>some (d :: ds)
    | none=>none
  | _=>none
theorem dOf_eq:∀ {ss:List Sl} {ds:List Dat},dOf ss=some ds->ss=ds.map .dat
  | [],ds,h=>by cases h;rfl
  | .dat d :: r,ds,h=>by
    unfold dOf at h
    cases e:dOf r with
    | none=>rw [e] at h;cases h
    | some es=>rw [e] at h;cases h;rw [dOf_eq e];rfl
  | .un :: _,_,h=>by cases h
  | .pu :: _,_,h=>by cases h
  | .own _ :: _,_,h=>by cases h
  | .dt _ :: _,_,h=>by cases h
  | .vw _ :: _,_,h=>by cases h
theorem E1.tu {ss:List Sl} {ds:List Dat} (h:A1 p K tas τ ss) (e:dOf ss=some ds) (hz:ds.length<=sizeLine):E1 p K (tTup tas) τ (.dat (.tuple ds)):=E1.tup (dOf_eq e ▸ h) hz
theorem E1.li {ss:List Sl} {ds:List Dat} (h:A1 p K tas τ ss) (e:dOf ss=some ds) (hz:ds.length<=sizeLine):E1 p K (tLst tas) τ (.own ds):=E1.lst (dOf_eq e ▸ h) hz
theorem tup_inv {N:Addr->Prop} {ns:List Int} {v:V} (h:Dz N K H v (tI ns)):∃ a,v = .ref a/\SqT K H a (ns.map V.int):=by
  cases h with
  | tup h1 h2=>have e:=h2.inv;subst e;exact ⟨_,rfl,h1⟩
theorem told {N:Addr->Prop} {ns:List Int} {r:Addr} (h:H r=some (.tup (ns.map V.int))):Dz N K H (.ref r) (tI ns):=.tup (SqT.of h) (Dzs.ints _)
theorem E.c1 {sp:Sp} {ns:List Int} {C:Sl->Prop} (ha:A1 p K tas τ [.dat (tI ns)]) (h:∀ (W:Addr->Prop) (H:Hp) (a:Addr) (Q:VK),SqT K H a (ns.map V.int)->(∀ v H' s,C s->Same H H'->(∀ W,Rv p W K H H' v s)->Q v H')->sp [.ref a] H Q E'):E p K (tCall sp [] E' tas) τ C:=fun W L σ H Q rs o q=>ha W L σ H _ rs o fun vs H1 ss e e1 o1 rv=>by
  subst e
  cases rv with
  | cons a t =>
    cases t
    obtain ⟨r,rfl,z⟩:=tup_inv a
    exact h W H1 r _ z fun v H' s c sm z=>q v H' s c (e1.trans (Ev.of sm)) (o1.same sm) ((z W).base e1 o1)
theorem E.c2 {sp:Sp} {ns ms:List Int} {C:Sl->Prop} (ha:A1 p K tas τ [.dat (tI ns),.dat (tI ms)]) (h:∀ (W:Addr->Prop) (H:Hp) (a b:Addr) (Q:VK),SqT K H a (ns.map V.int)->SqT K H b (ms.map V.int)->(∀ v H' s,C s->Same H H'->(∀ W,Rv p W K H H' v s)->Q v H')->sp [.ref a,.ref b] H Q E'):E p K (tCall sp [] E' tas) τ C:=fun W L σ H Q rs o q=>ha W L σ H _ rs o fun vs H1 ss e e1 o1 rv=>by
  subst e
  cases rv with
  | cons a t =>
    cases t with
    | cons b t =>
      cases t
      obtain ⟨r,rfl,z⟩:=tup_inv a
      obtain ⟨r2,rfl,z2⟩:=tup_inv b
      exact h W H1 r r2 _ z z2 fun v H' s c sm z=>q v H' s c (e1.trans (Ev.of sm)) (o1.same sm) ((z W).base e1 o1)
theorem E1.cT {pre:List Int->Prop} {fn:List Int->List Int} {ns:List Int} (ha:A1 p K tas τ [.dat (tI ns)]) (hl:ns.length<=1000) (hp:pre ns):E1 p K (tCall (spT K pre fn) [] E' tas) τ (.dat (tI (fn ns))) :=
  E.c1 ha fun W H a Q z q=>⟨a,ns,rfl,z,hl,hp,fun r H' s h=>q _ H' _ rfl s fun W=>told h⟩
theorem E1.cPS {k l:Int} (ha:A1 p K tas τ [.dat (tI [k,l])]) (nz:∃ n ∈ [l,k],n ≠ 0) (sm:Sm [l,k]):E1 p K (tCall (spPS2 K) [] E' tas) τ (.dat (tI (ps k l))) :=
  E.c1 ha fun W H a Q z q=>⟨a,k,l,rfl,z,nz,sm,fun r H' s h=>q _ H' _ rfl s fun W=>told h⟩
theorem E1.cThen {ns ms:List Int} (ha:A1 p K tas τ [.dat (tI ns),.dat (tI ms)]) (l1:ns.length=4) (l2:ms.length=4) (n1:∃ n ∈ ns,n ≠ 0) (n2:∃ n ∈ ms,n ≠ 0) (s1:Bd (2 ^ 4000) ns) (s2:Bd (2 ^ 4000) ms):E1 p K (tCall (spThen K) [] E' tas) τ (.dat (tI (pl (qm ms ns)))) :=
  E.c2 ha fun W H a b Q z z2 q=>⟨a,b,ns,ms,rfl,z,z2,l1,l2,n1,n2,s1,s2,fun r H' s h=>q _ H' _ rfl s fun W=>told h⟩
theorem E1.cAbout {x y z k l:Int} (ha:A1 p K tas τ [.dat (tI [x,y,z]),.dat (tI [k,l])]) (nz:∃ n ∈ [l,k * x,k * y,k * z],n ≠ 0) (b1:Bd (2 ^ 1000) [x,y,z]) (b2:Bd (2 ^ 1000) [k,l]):E1 p K (tCall (spAbout K) [] E' tas) τ (.dat (tI (pl [l,k * x,k * y,k * z]))) :=
  E.c2 ha fun W H a b Q z1 z2 q=>⟨a,b,x,y,z,k,l,rfl,z1,z2,nz,b1,b2,fun r H' s h=>q _ H' _ rfl s fun W=>told h⟩
theorem E.ci2 {sp:Sp} {a b:Int} {C:Sl->Prop} (ha:A1 p K tas τ [.dat (.int a),.dat (.int b)]) (h:∀ (H:Hp) (Q:VK),(∀ v H' s,C s->Same H H'->(∀ W,Rv p W K H H' v s)->Q v H')->sp [.int a,.int b] H Q E'):E p K (tCall sp [] E' tas) τ C:=fun W L σ H Q rs o q=>ha W L σ H _ rs o fun vs H1 ss e e1 o1 rv=>by
  subst e
  cases rv with
  | cons a t =>
    cases t with
    | cons b t =>
      cases t
      cases a.int_inv
      cases b.int_inv
      exact h H1 _ fun v H' s c sm z=>q v H' s c (e1.trans (Ev.of sm)) (o1.same sm) ((z W).base e1 o1)
theorem E1.cDiv {a b:Int} (ha:A1 p K tas τ [.dat (.int a),.dat (.int b)]):E1 p K (tCall spDiv [] E' tas) τ (.dat (.int ((Nat.gcd a.natAbs b.natAbs:Nat):Int))) :=
  E.ci2 ha fun H Q q=>⟨a,b,rfl,q _ H _ rfl (Same.refl _) fun W=>.int _⟩
theorem sb_ev {q:Addr} {H H':Hp} (s:SB q H H') (pu:Pu H q):Ev (Pp (some q)) H H':=⟨fun b o n h=>s b o (fun z=>n (by rw [z];rfl)) h,by obtain ⟨x,y,e⟩:=pu;exact s.tm e⟩
noncomputable def EI (p:Option Addr) (K:PySem.W.Frag) (te:TE) (τ:List Sl) (P:Int->Prop):Prop:=E p K te τ (fun s=>∃ i,s = .dat (.int i)/\P i)
theorem EI.of {i:Int} {P:Int->Prop} (h:E1 p K te τ (.dat (.int i))) (hp:P i):EI p K te τ P:=E.mono h fun s e=>⟨i,e.symm,hp⟩
theorem EI.mono {P P':Int->Prop} (h:EI p K te τ P) (m:∀ i,P i->P' i):EI p K te τ P':=E.mono h fun s ⟨i,e,hp⟩=>⟨i,e,m i hp⟩
theorem EI.op {g:Int->Int->Int} {P Q:Int->Prop} (ha:EI p K ta τ P) (hb:EI p K tb τ Q):EI p K (tOp (rI0 fun i j=>.int (g i j)) ta tb) τ (fun k=>∃ i j,P i/\Q j/\k=g i j) :=
  E.op2 (B:=fun _=>True) ha (fun _ _=>hb) fun s t ⟨i,e1,h1⟩ ⟨j,e2,h2⟩ W H0 H x y R o0 o r1 r2 q=>by
    subst e1 e2
    exact ⟨i,j,r1.int_inv,r2.int_inv,q _ H _ ⟨_,rfl,i,j,h1,h2,rfl⟩ Ev.refl o (.int _)⟩
theorem EI.draw {m:Int} (ha:A1 p K tas τ [.pu,.dat (.int m)]) (h0:0 < m) (h1:m < 2 ^ 200):EI p K (tCall spDraw [] E' tas) τ (fun d=>0<=d/\d < m):=fun W L σ H Q rs o q=>ha W L σ H _ rs o fun vs H1 ss e e1 o1 rv=>by
  subst e
  cases rv with
  | cons a t =>
    cases t with
    | cons b t =>
      cases t
      obtain ⟨q0,rfl,rfl⟩:=a
      cases b.int_inv
      have pu:=(o1.pu q0 rfl).1
      refine ⟨q0,m,rfl,pu,h0,h1,fun d H' d0 d1 sb pu'=>?_⟩
      have ev:=sb_ev sb pu
      exact q _ H' _ ⟨d,rfl,d0,d1⟩ (e1.trans ev) (o1.ev ev fun q hq=>by cases hq;exact pu') (.int _)
noncomputable def ER (p:Option Addr) (K:PySem.W.Frag) (te:TE) (τ:List Sl) (P:List Int->Prop):Prop:=E p K te τ (fun s=>∃ ns,s = .dat (tI ns)/\P ns)
end
theorem Bt.add' {a b:Int} {x y:Nat} (ha:Bt a x) (hb:Bt b y):Bt (a + b) (max x y + 1):=(ha.up (Nat.le_max_left _ _)).add (hb.up (Nat.le_max_right _ _))
theorem Bt.neg' {a:Int} {x:Nat} (ha:Bt a x):Bt (-a) x:=by unfold Bt at *;rw [Int.natAbs_neg];exact ha
theorem bt2:Bt 2 1:=by unfold Bt;decide
section
variable {p:Option Addr} {K:PySem.W.Frag} {τ:List Sl} {te:TE} {ds:List Dat}
theorem lsz {α:Type} {l:List α} {n:Nat} (h:l.length=n) (hn:n<=sizeLine):l.length<=sizeLine:=h ▸ hn
theorem z1:1<=sizeLine:=by decide
theorem z2:2<=sizeLine:=by decide
theorem z3:3<=sizeLine:=by decide
theorem z4:4<=sizeLine:=by decide
theorem z0:0<=sizeLine:=by decide
end
end D
end
namespace D
open PySem L2 K0 Num
open PySem.W (Dat)
section
theorem nz_of_ne3 {ns:List Int} (l:ns.length=3) (h:ns ≠ [0,0,0]):∃ n ∈ ns,n ≠ 0:=by
  obtain ⟨a,b,c,rfl⟩:=three_of l
  by_cases ha:a=0
  . by_cases hb:b=0
    . by_cases hc:c=0
      . subst ha hb hc;exact absurd rfl h
      . exact ⟨c,by simp,hc⟩
    . exact ⟨b,by simp,hb⟩
  . exact ⟨a,by simp,ha⟩
theorem cpow10 {k:Int} (h0:0<=k) (h1:k<=1000000):CPow 10 k:=⟨h0,h1,by decide⟩
section
variable {p:Option Addr} {K:PySem.W.Frag} {τ:List Sl} {ta tb:TE}
end
theorem T1.eqn {p:Option Addr} {K:PySem.W.Frag} {τ:List Sl} {tt:TT} {b c:Bool} (h:T1 p K tt τ b) (e:b=c):T1 p K tt τ c:=e ▸ h
section
variable {p:Option Addr} {K:PySem.W.Frag} {τ:List Sl} {tt:TT}
theorem T1.notT (h:T1 p K tt τ true):T1 p K (tNot tt) τ false:=T1.not h
theorem T1.neDT {p:Option Addr} {K:PySem.W.Frag} {τ:List Sl} {ta tb:TE} {a b:Sl} {d:Dat} (ha:E1 p K ta τ a) (hb:E1 p K tb τ b) (ea:datOf a=some d) (eb:datOf b=some d) (k1:PySem.W.kqdOk 9 d=true):T1 p K (tTest (tOp (rEqD K true) ta tb)) τ false:=(T1.test (E1.neD ha hb ea eb k1 k1)).eqn (by rw [deq_self];rfl)
end
end
section
section
variable {p:Option Addr} {K:PySem.W.Frag} {W:Addr->Prop} {L:List Addr} {σ:St} {H H0 H1 H2:Hp} {τ τ':List Sl} {ta tb te:TE} {tas:TA} {v:V} {s:Sl} {nx:List Sl->Prop} {rt:Sl->Prop} {t u:TS} {ds:List Dat} {E':XK} {wi:TI}
theorem T.cmpI {g:Int->Int->Bool} {P Q:Int->Prop} (ha:EI p K ta τ P) (hb:EI p K tb τ Q):T p K (tTest (tOp (rI0 fun i j=>.bl (g i j)) ta tb)) τ (fun b=>∃ i j,P i/\Q j/\b=g i j):=fun W L σ H R rs o q =>
  ha W L σ H _ rs o fun x H1 s ⟨i,e,h1⟩ e1 o1 rv1=>hb W L σ H1 _ (rs.ev e1 o.pw) o1 fun y H2 t ⟨j,e',h2⟩ e2 o2 rv2=>by
    subst e e'
    cases rv1.int_inv;cases rv2.int_inv
    exact ⟨i,j,rfl,rfl,_,rfl,q _ H2 ⟨i,j,h1,h2,rfl⟩ (e1.trans e2) o2⟩
theorem T.eqI {P Q:Int->Prop} (ha:EI p K ta τ P) (hb:EI p K tb τ Q):T p K (tTest (tOp rEq ta tb)) τ (fun b=>∃ i j,P i/\Q j/\b=decide (i=j)):=fun W L σ H R rs o q =>
  ha W L σ H _ rs o fun x H1 s ⟨i,e,h1⟩ e1 o1 rv1=>hb W L σ H1 _ (rs.ev e1 o.pw) o1 fun y H2 t ⟨j,e',h2⟩ e2 o2 rv2=>by
    subst e e'
    cases rv1.int_inv;cases rv2.int_inv
    refine ⟨rfl,_,rfl,q _ H2 ⟨i,j,h1,h2,?_⟩ (e1.trans e2) o2⟩
    rw [decide_eq_decide];exact ⟨fun h=>by injection h,fun h=>by rw [h]⟩
theorem EI.lit {i:Int}:EI p K (tC (.int i)) τ (fun k=>k=i):=EI.of E1.int rfl
theorem ints_of {P:Int->Prop}:∀ {es:List Dat},(∀ (i:Nat) (e:Dat),es[i]?=some e->∃ n,e = .int n/\P n)->∃ ns:List Int,es=ns.map .int/\∀ n ∈ ns,P n
  | [],_=>⟨[],rfl,fun n hn=>by cases hn⟩
  | e :: r,h=>by
    obtain ⟨n,rfl,hn⟩:=h 0 e rfl
    obtain ⟨ns,rfl,hs⟩:=ints_of (es:=r) fun i e he=>h (i + 1) e (by simpa using he)
    exact ⟨n :: ns,rfl,fun m hm=>(List.mem_cons.mp hm).elim (fun z=>by rw [z];exact hn) (hs m)⟩
noncomputable def EL (p:Option Addr) (K:PySem.W.Frag) (te:TE) (τ:List Sl) (n:Nat) (P:Int->Prop):Prop:=E p K te τ (fun s=>∃ ns:List Int,s = .own (ns.map .int)/\ns.length=n/\∀ m ∈ ns,P m)
theorem EL.comp {P:Int->Prop} {n:Nat} (hw:Wk p K wi τ ds) (hn:ds.length=n) (turn:∀ d,d ∈ ds->EI p K te (.dat d :: τ) P) (hz:n<=sizeLine):EL p K (tCompB 1 wi (gName 0) tAll te) τ n P:=by
  refine E.mono (E.compC (Cd:=fun _ e=>∃ i,e = .int i/\P i) hw (fun d hd=>E.mono (turn d hd) fun s ⟨i,e,hp⟩=>⟨_,e,i,rfl,hp⟩) (by omega)) fun s ⟨es,e,l,h⟩=>?_
  obtain ⟨ns,rfl,hs⟩:=ints_of (P:=P) (es:=es) fun i e he=>let ⟨d,_,h⟩:=h i e he;h
  exact ⟨ns,e,by rw [List.length_map] at l;omega,hs⟩
theorem EL.row {n:Nat} {P:Int->Prop} (h:EL p K te τ n P):ER p K (tCB (fun xs H Q=>∃ p ys,xs=[.ref p]/\((SqL K H p ys/\∀ l,H l=none->Q (.ref l) (upd H l (.tup ys)))\/(SqT K H p ys/\Q (.ref p) H))) (tCons te tNil)) τ (fun ns=>ns.length=n/\∀ m ∈ ns,P m):=fun W L σ H Q rs o q =>
  h W L σ H _ rs o fun v H1 s ⟨ns,e,l,hp⟩ e1 o1 rv=>by
    subst e
    obtain ⟨a,vs,rfl,h0,h1,h2⟩:=rv
    have e:=h2.inv
    subst e
    refine ⟨a,_,rfl,.inl ⟨SqL.of h1,fun r hr=>?_⟩⟩
    have s:=Same.new hr (.tup (ns.map V.int))
    exact q _ _ _ ⟨ns,rfl,l,hp⟩ (e1.trans (Ev.of s)) (o1.same s) (told upd_same)
theorem E.callC {R:List Dat->Dat->Prop} {C:List Sl->Prop} {d:Dat} (ha:A p K tas τ C) (hr:∀ ss,C ss->∃ ds,datsOf ss=some ds/\R ds d):E1 p K (tCall (spP K R) [] E' tas) τ (.dat d):=fun W L σ H Q rs o q=>ha W L σ H _ rs o fun vs H1 ss c e1 o1 rv=>by
  obtain ⟨ds,hd,hr⟩:=hr ss c
  rw [List.append_nil]
  exact ⟨ds,d,rv.dz hd,hr,fun v H' s z=>q v H' _ rfl (e1.trans (Ev.of s)) (o1.same s) (z.mono fun a ha=>o1.fresh ha)⟩
noncomputable def forget:Sl->Sl
  | .pu=>.un
  | s=>s
theorem Rs.forget {q:Addr} (r:Rs (some q) W K H L σ τ):Rs none W K H L σ (τ.map forget):=by
  induction r with
  | nil=>exact .nil
  | un _ ih=>exact .un ih
  | dat h _ ih=>exact .dat h ih
  | pu h _ ih=>exact .un ih
  | own h1 h2 h3 h4 h5 _ ih=>exact .own h1 (fun z=>by cases z) h3 h4 h5 ih
  | dt h1 h2 h3 h4 _ ih=>exact .dt h1 (fun b hb z=>by cases z) h3 h4 ih
theorem Rs.learn {q:Addr} {i:Nat} (r:Rs none W K H L σ τ) (nq:H q=none) (hw:∀ a,W a->∃ ys,H a=some ys):Rs (some q) (fun a=>W a\/a=q) K H L σ τ:=by
  have n:∀ a,(W a\/a=q)->¬ W a->H a=Option.none:=fun a h z=>(h.resolve_left z) ▸ nq
  induction r with
  | nil=>exact .nil
  | un _ ih=>exact .un ih
  | dat h _ ih =>
    refine .dat ?_ ih
    cases Dzs.wide (W':=fun a=>W a\/a=q) (.cons h .nil) n with
    | cons a _=>exact a
  | pu h _ ih=>cases h
  | own h1 h2 h3 h4 h5 _ ih=>exact .own (.inl h1) (fun z=>by cases z;rw [nq] at h4;cases h4) h3 h4 (Dzs.wide h5 n) ih
  | dt h1 h2 h3 h4 _ ih=>exact .dt (fun b hb=>.inl (h1 b hb)) (fun b hb z=>by cases z;obtain ⟨o,ho⟩:=Own.al _ h4 _ hb;rw [nq] at ho;cases ho) h3 (Own.wide _ h4 fun a o na ha wa=>by rw [n a wa na] at ha;cases ha) ih
theorem S.withPurse {sp:Sp} {ss:List Sl} {i:Nat} (ha:A1 none K tas τ ss) (hs:∀ (W:Addr->Prop) (H0 H:Hp) (vs:List V) (Q:VK),Rvs none W K H0 H vs ss->(∀ (q:Addr) (H':Hp),H q=none->Same H H'->Pu H' q->Q (.ref q) H')->sp (vs ++ []) H Q E')
    (m:∀ q,S (some q) K u (τ.set i .pu) (fun τ'=>nx (τ'.map forget)) rt) (hrt:∀ s,rt s->∃ d,s = .dat d):S none K (tSeq (tAsg (tCall sp [] E' tas) (gName i)) u) τ nx rt:=fun W L σ H D r o q1 q2 =>
  ha W L σ H _ r o fun vs H1 ss e e1 o1 rv=>by
    subst e
    refine hs W H H1 vs _ rv fun q H2 hq s2 pu=>?_
    have r1:=r.ev e1 o.pw
    have e2:Ev (Pp (some q)) H1 H2:=Ev.of s2
    have hq0:H q=none:=o1.back e1 hq
    have r2:Rs (some q) (fun a=>W a\/a=q) K H2 L σ τ:=(Rs.learn (i:=0) r1 hq o1.al).ev e2 fun a ha=>by cases ha;exact .inr rfl
    obtain ⟨L',l,r3⟩:=r2.set (v:=.ref q) (s:=.pu) (.inr (.inr ⟨rfl,q,rfl,rfl⟩)) i
    have o2:Ok (some q) (fun a=>W a\/a=q) H2:=⟨fun a ha=>by cases ha;exact ⟨pu,.inr rfl⟩,fun a ha=>by
      rcases ha with ha | rfl
      . obtain ⟨ys,h⟩:=o1.al a ha;exact ⟨ys,s2 _ _ h⟩
      . obtain ⟨x,y,h⟩:=pu;exact ⟨_,h⟩⟩
    have e02:Ev W H H2:=(e1.ofP o).trans (Ev.of s2)
    have n1:∀ a,(W a\/a=q)->W a\/H a=none:=fun a ha=>ha.imp id fun z=>by rw [z];exact hq0
    have al2:∀ a,W a->∃ ys,H2 a=some ys:=fun a ha=>let ⟨ys,h⟩:=o1.al a ha;⟨ys,s2 _ _ h⟩
    have hn:∀ a,H2 a=none->H a=none:=fun a ha=>e02.none al2 ha
    refine m q _ L' _ H2 _ r3 o2 (fun W4 L4 σ4 H4 τ4 c e4 o4 w4 n4 l4 r4=>?_) (fun W4 H4 v s c e4 o4 w4 n4 rv=>?_)
    . exact q1 W4 L4 σ4 H4 _ c (e02.chain e4 n1) ⟨fun q h=>(by cases h),o4.al⟩ (fun a ha=>w4 a (.inl ha)) (fun a ha=>(n4 a ha).elim (n1 a) fun z=>.inr (hn a z)) (fun a ha=>(l4 a ha).elim (fun z=>.inl (l a z)) fun z=>.inr (hn a z)) r4.forget
    . obtain ⟨d,rfl⟩:=hrt s c
      exact q2 W4 H4 v _ c (e02.chain e4 n1) ⟨fun q h=>(by cases h),o4.al⟩ (fun a ha=>w4 a (.inl ha)) (fun a ha=>(n4 a ha).elim (n1 a) fun z=>.inr (hn a z)) rv
theorem S.purse1 {i : Nat} {ns : List Int} (ha : A1 none K tas τ [.dat (.list (ns.map .int))]) (hl : ns.length <= 63) (hb : ∀ v ∈ ns, Builtin.Int.intBits v <= 2 ^ 20) (m : ∀ q, S (some q) K u (τ.set i .pu) (fun τ' => nx (τ'.map forget)) rt) (hrt : ∀ s, rt s -> ∃ d, s = .dat d) : S none K (tSeq (tAsg (tCall (spPurse K) [] E' tas) (gName i)) u) τ nx rt :=
  S.withPurse ha (fun W H0 H vs Q rv q=>by
    cases rv with
    | cons a t =>
      cases t
      cases a with
      | lst h1 h2 =>
        have e:=h2.inv
        subst e
        exact ⟨_,ns,rfl,h1.sq,hl,hb,q⟩) m hrt
variable {P:Program} {w:World} {mg:Str->Option Value} {base:Heap}
theorem okL {x qual:Str} {st:Stmt} {f:Addr} {fd:FuncData} {N ps:List Str} {k:Nat} (F:Fun K x qual st f fd) (S0:FnScope N ps (defScope st)) (len:ps.length=1)
    (body:∀ (cdv:Value) (A:Around) (outer:List Env) (s:Shared) (H:Hp) (E:XK),Room k (A.deeper (PyProof.Rows.envOfC qual (defScope st) s.heap.objs.size f cdv)) ->
      ∃ t,ZSs (cxOf CX0 P w K mg base N qual (defScope st) f cdv A outer s H E).nox (defBody st) t/\∀ ns:List Int,ns.length<=63->(∀ v ∈ ns,Builtin.Int.intBits v<=2 ^ 20)->S none K t (.dat (.list (ns.map .int)) :: List.replicate (N.length - 1) .un) (fun _=>False) (fun s=>s = .dat (.bool true))):FnOk P w K mg base CX0 (k + 1) f fd ps (spLaw K):=by
  refine F.okZ S0 (fun vs H Q E h=>?_) (fun cdv A outer s H vs Q E hr h=>?_)
  . obtain ⟨a,ns,rfl,_⟩:=h;rw [len];rfl
  . obtain ⟨a,ns,rfl,hS,hl,hb,q⟩:=h
    obtain ⟨t,hz,hs⟩:=body cdv A outer s H E hr
    refine ⟨t,hz,?_⟩
    have z:Dzs (fun _=>True) K H [.ref a] [.list (ns.map .int)]:=.cons (.lst (by
      rcases hS with h | h
      . exact .inl ⟨trivial,h⟩
      . exact .inr (.inr h)) (Dzs.ints _)) .nil
    have r0:Rs none (fun _=>False) K H [] (L2.start N [.ref a]) (.dat (.list (ns.map .int)) :: List.replicate (N.length - 1) .un):=by
      unfold L2.start
      exact rs_start _ z fun a _ h=>h
    refine hs ns hl hb (fun _=>False) [] _ H _ r0 ⟨fun q h=>(by cases h),fun a h=>False.elim h⟩ (fun W' L' σ' H' τ' e ev o' al n l r'=>e.elim) (fun W' H' v s e ev o' al n rv=>?_)
    subst e
    cases (Rv.bl_inv (p:=none) (H0:=H) rv)
    exact q H'
end
end
end D
section
namespace D
open PySem L2 K0
open PySem.W (Dat)
section
variable {p:Option Addr} {K:PySem.W.Frag} {W:Addr->Prop} {L:List Addr} {σ:St} {H H1 H2:Hp} {τ:List Sl} {te:TE} {tas:TA} {v:V} {s:Sl} {u:TS} {ds:List Dat} {wi:TI}
theorem E.compX {no : Nat} {g : TG} (hw : Wk p K wi τ ds) (own : Dat -> List Sl) (hg : ∀ d, d ∈ ds -> Gc p K no g d (own d)) (Cd : Nat -> Dat -> Prop)
    (turn:∀ (i:Nat) d,ds[i]?=some d->E p K te (own d ++ τ) (fun s=>∃ e,s = .dat e/\Cd i e)) (hz:ds.length<=sizeLine) :
    E p K (tCompB no wi g tAll te) τ (fun s=>∃ es,s = .own es/\es.length=ds.length/\∀ (i:Nat) (e:Dat),es[i]?=some e->Cd i e):=fun W L σ H Q r o q=>by
  refine hw W L σ H _ r o fun J H1 e1 o1 jd=>?_
  intro D hD
  have nD:=o1.fresh hD
  have pD:=o1.np hD
  have r1:=r.ev e1 o.pw
  have r1':Rs p (fun b=>W b\/b=D) K H1 L σ τ:=r1.wide (fun _ h=>.inl h) fun b hb nb=>(hb.resolve_left nb) ▸ hD
  refine ⟨fun i m σ' H'=>m=ds.length - i/\i<=ds.length/\(∃ ρ,ρ.length=no/\σ'=ρ ++ σ)/\Ev (fun a=>Pp p a\/a=D) H1 H'/\(∀ q,p=some q->Pu H' q)/\∃ (vs:List V) (es:List Dat),H' D=some (.lst vs)/\Dzs (fun b=>¬ (W b\/b=D)) K H' vs es/\es.length=i/\∀ (j:Nat) (e:Dat),es[j]?=some e->Cd j e,
    ⟨ds.length,by omega,Nat.zero_le _,⟨List.replicate no none,by simp,rfl⟩,⟨fun b u nb h=>by rw [upd_ne (fun z=>nb (.inr z))];exact h,(Same.new hD _).tm⟩,fun q hq=>(o1.pu q hq).1.same (Same.new hD _),[],[],upd_same,.nil,rfl,fun j e h=>by simp at h⟩,?_⟩
  rintro i m σ' H' ⟨rfl,hi,⟨ρ,lρ,rfl⟩,ev,pu,vs,es,hv,zv,le,hes⟩
  have evW:Ev W H1 H':=⟨fun b u nb h=>ev.keep b u (fun z=>z.elim (fun y=>nb (o1.pw b y)) fun y=>by rw [y] at h;rw [hD] at h;cases h) h,ev.tm⟩
  have ok':Ok p (fun b=>W b\/b=D) H':=⟨fun q hq=>⟨pu q hq,.inl (o1.pw q hq)⟩,fun b hb=>by
    by_cases z:b=D
    . subst z;exact ⟨_,hv⟩
    . by_cases y:p=some b
      . obtain ⟨x1,x2,h⟩:=pu b y;exact ⟨_,h⟩
      . obtain ⟨ys,h⟩:=o1.al b (hb.resolve_right z)
        exact ⟨ys,ev.keep _ _ (fun w=>w.elim y z) h⟩⟩
  have evD:Ev (fun b=>W b\/b=D) H1 H':=evW.mono fun _ h=>.inl h
  have rs':Rs p (fun b=>W b\/b=D) K H' L σ τ:=by
    refine Rs.evx r1' ev (fun a ha z=>?_) fun a u ha np z=>?_
    . rcases z with z | z
      . exact ha (.inl (o1.pw a z))
      . exact ha (.inr z)
    . rcases z with z | z
      . exact np z
      . rw [z,hD] at ha;cases ha
  obtain ⟨stop,each⟩:=jd (fun b=>W b\/b=D) H' evW fun a ha=>ha.imp id fun z=>by rw [z];exact hD
  have o1f:H D=none:=o1.back e1 hD
  by_cases hlt:i < ds.length
  . have hd:ds[i]?=some ds[i]:=by simp [hlt]
    have hm:ds[i] ∈ ds:=List.getElem_mem hlt
    obtain ⟨go,yl⟩:=each i _ hd
    refine .inr ⟨go,fun x H2 y=>?_⟩
    obtain ⟨s2,z2⟩:=yl x H2 y
    have ok2:=ok'.same s2
    refine hg _ hm _ L ρ σ τ H2 x _ lρ (rs'.ev (Ev.of s2) ok'.pw) z2 fun ρ' lρ' rs2=>?_
    have hv4:H2 D=some (.lst vs):=s2 _ _ hv
    have zv4:Dzs (fun b=>¬ (W b\/b=D)) K H2 vs es:=zv.ev (W:=fun _=>False) (Ev.of s2) fun _ _ h=>h
    show tAll _ _ _
    unfold tAll
    dsimp only
    rw [if_pos rfl]
    refine turn i _ hd _ L _ H2 _ rs2 ok2 fun v H5 s c e5 o5 rv=>?_
    obtain ⟨e,rfl,ce⟩:=c
    have hv5:H5 D=some (.lst vs):=e5.keep _ _ pD hv4
    have zv5:=zv4.ev e5 fun a ha z=>ha (.inl (o1.pw a z))
    have ll:vs.length<=i:=by rw [zv.len,le];exact Nat.le_refl _
    have evu:Ev (fun b=>b=D) H5 (upd H5 D (.lst (vs ++ [v]))):=⟨fun b o n h=>by rw [upd_ne n];exact h,Tm.lst hv5 _⟩
    have pvH:Ev (fun a=>Pp p a\/a=D) H' H2:=Ev.of s2
    refine ⟨vs,hv5,by omega,ds.length - (i + 1),by omega,rfl,hlt,⟨ρ',lρ',rfl⟩,(ev.trans (pvH.trans (e5.mono fun _ h=>.inl h))).trans (evu.mono fun _ h=>.inr h),fun q hq=>?_,vs ++ [v],es ++ [e],upd_same,(zv5.app (.cons rv .nil)).ev evu fun b hb z=>hb (.inr z),?_,fun j f hj=>?_⟩
    . obtain ⟨x1,x2,h⟩:=(o5.pu q hq).1
      exact ⟨x1,x2,by rw [upd_ne (fun z=>pD (by rw [<- z];exact hq))];exact h⟩
    . rw [List.length_append,le];rfl
    . by_cases hj2:j < es.length
      . rw [List.getElem?_append_left hj2] at hj
        exact hes j f hj
      . rw [List.getElem?_append_right (by omega)] at hj
        have ej:j - es.length=0:=by
          have:=(List.getElem?_eq_some_iff.mp hj).1
          simp at this;omega
        rw [ej] at hj
        cases hj
        have:j=i:=by omega
        rw [this];exact ce
  . have e:i=ds.length:=by omega
    subst e
    have evP:Ev (Pp p) H1 H':=⟨fun b u nb h=>ev.keep b u (fun z=>z.elim nb fun y=>by rw [y] at h;rw [hD] at h;cases h) h,ev.tm⟩
    refine .inl ⟨stop,q _ H' _ ⟨es,rfl,le,hes⟩ (e1.trans evP) (o1.ev evP pu) ⟨D,vs,rfl,o1f,hv,zv.mono fun a ha z=>ha (.inl z)⟩⟩
theorem ext_of {es fs:List Dat} (l:es.length=fs.length) (h:∀ (i:Nat) (e:Dat),es[i]?=some e->fs[i]?=some e):es=fs:=by
  apply List.ext_getElem?
  intro i
  cases q:es[i]? with
  | none =>
    have:=List.getElem?_eq_none_iff.mp q
    rw [List.getElem?_eq_none (by omega)]
  | some e=>rw [h i e q]
theorem E1.compX {no:Nat} {g:TG} (fs:List Dat) (hw:Wk p K wi τ ds) (own:Dat->List Sl) (hg:∀ d,d ∈ ds->Gc p K no g d (own d)) (hl:fs.length=ds.length) (turn:∀ (i:Nat) d f,ds[i]?=some d->fs[i]?=some f->E1 p K te (own d ++ τ) (.dat f)) (hz:ds.length<=sizeLine):E1 p K (tCompB no wi g tAll te) τ (.own fs):=by
  refine E.mono (E.compX hw own hg (fun i e=>fs[i]?=some e) (fun i d hd=>?_) hz) fun s ⟨es,e,l,h⟩=>?_
  . have hi:i < fs.length:=by rw [hl];exact (List.getElem?_eq_some_iff.mp hd).1
    have hf:fs[i]?=some fs[i]:=by simp [hi]
    exact E.mono (turn i d _ hd hf) fun s hs=>⟨_,hs.symm,hf⟩
  . rw [e,ext_of (by rw [l,hl]) h]
theorem E1.comp3 {d1 d2 d3 e1 e2 e3:Dat} (hw:Wk p K wi τ [d1,d2,d3]) (h1:E1 p K te (.dat d1 :: τ) (.dat e1)) (h2:E1 p K te (.dat d2 :: τ) (.dat e2)) (h3:E1 p K te (.dat d3 :: τ) (.dat e3)):E1 p K (tCompB 1 wi (gName 0) tAll te) τ (.own [e1,e2,e3]) :=
  E1.compX [e1,e2,e3] hw (fun d=>[.dat d]) (fun d _=>Gc.name) rfl (fun i d f hd hf=>by
    rcases get3 hd with ⟨rfl,rfl⟩ | ⟨rfl,rfl⟩ | ⟨rfl,rfl⟩
    . cases hf;exact h1
    . cases hf;exact h2
    . cases hf;exact h3) (by show 3<=sizeLine;decide)
theorem E1.compZ3 {x1 x2 x3 y1 y2 y3 e1 e2 e3:Dat} (hw:Wk p K wi τ (zipD [x1,x2,x3] [y1,y2,y3])) (h1:E1 p K te (.dat x1 :: .dat y1 :: τ) (.dat e1)) (h2:E1 p K te (.dat x2 :: .dat y2 :: τ) (.dat e2)) (h3:E1 p K te (.dat x3 :: .dat y3 :: τ) (.dat e3)):E1 p K (tCompB 2 wi (gPair K) tAll te) τ (.own [e1,e2,e3]) :=
  E1.compX [e1,e2,e3] hw (fun d=>[.dat (p1 d),.dat (p2 d)]) (fun d hd=>by obtain ⟨x,y,rfl,_,_⟩:=zipD_mem hd;exact Gc.pair) rfl (fun i d f hd hf=>by
    rcases get3 hd with ⟨rfl,rfl⟩ | ⟨rfl,rfl⟩ | ⟨rfl,rfl⟩
    . cases hf;exact h1
    . cases hf;exact h2
    . cases hf;exact h3) (by show 3<=sizeLine;decide)
theorem rangeD_3:rangeD 0 3=[.int 0,.int 1,.int 2]:=rfl
theorem Wk.r3 (h:A1 p K tas τ [.dat (.int 3)]):Wk p K (iRng1 tas) τ [.int 0,.int 1,.int 2]:=rangeD_3 ▸ Wk.rng h rfl
end
end D
end
namespace D
open PySem L2 K0 Num
open PySem.W (Dat)
section
noncomputable def qf (x:Rat):List Int:=[x.num,(x.den:Int)]
theorem qf_val (x:Rat):qv x.num x.den=x:=by
  unfold qv
  rw [<- Rat.divInt_eq_div,Rat.num_divInt_den]
theorem bt_some (n:Int):∃ k,Bt n k:=⟨n.natAbs,by unfold Bt;exact Nat.le_of_lt Nat.lt_two_pow_self⟩
theorem lo_qf (x:Rat) {k:Nat} (h1:Bt x.num k) (h2:Bt (x.den:Int) k):Lo k x.num x.den x:=⟨by have:=x.den_pos;omega,by rw [Int.natAbs_natCast];exact x.reduced,h1,h2,qf_val x⟩
theorem lo_qf' (x:Rat):∃ k,Lo k x.num x.den x:=by
  obtain ⟨k1,h1⟩:=bt_some x.num
  obtain ⟨k2,h2⟩:=bt_some (x.den:Int)
  exact ⟨max k1 k2,lo_qf x (h1.up (Nat.le_max_left _ _)) (h2.up (Nat.le_max_right _ _))⟩
theorem fr_qf {t b:Int} (hb:0 < b):fr t b=qf (qv t b):=by
  obtain ⟨t',b',e⟩:=fr_two t b
  obtain ⟨k1,h1⟩:=bt_some t
  obtain ⟨k2,h2⟩:=bt_some b
  have l:=Lo.of hb (h1.up (Nat.le_max_left k1 k2)) (h2.up (Nat.le_max_right k1 k2)) e rfl
  obtain ⟨k,l2⟩:=lo_qf' (qv t b)
  rw [e]
  exact l.eq l2
theorem lo_is {k:Nat} {t b:Int} {x:Rat} (h:Lo k t b x):[t,b]=qf x:=by
  obtain ⟨k',l⟩:=lo_qf' x
  exact h.eq l
noncomputable def ptQ (x y z:Rat):Dat:=ptD (qf x) (qf y) (qf z)
noncomputable def PB (c:Nat) (x y z:Rat):Prop:=∃ C T1 T2 T3:Int,0 < C/\Bt C c/\Bt T1 c/\Bt T2 c/\Bt T3 c/\qv T1 C=x/\qv T2 C=y/\qv T3 C=z
theorem PB.up {c c':Nat} {x y z:Rat} (h:PB c x y z) (hc:c<=c'):PB c' x y z:=by
  obtain ⟨C,T1,T2,T3,h0,h1,h2,h3,h4,h5⟩:=h
  exact ⟨C,T1,T2,T3,h0,h1.up hc,h2.up hc,h3.up hc,h4.up hc,h5⟩
theorem lo_over {c:Nat} {T C:Int} {x:Rat} (h0:0 < C) (hC:Bt C c) (hT:Bt T c) (e:qv T C=x):Lo c x.num x.den x:=by
  obtain ⟨t,b,e2⟩:=fr_two T C
  have l:=Lo.of h0 hT hC e2 e
  have:=lo_is l
  injection this with h1 h2
  injection h2 with h2 _
  rw [h1,h2] at l;exact l
theorem PB.lo {c:Nat} {x y z:Rat} (h:PB c x y z):Lo c x.num x.den x/\Lo c y.num y.den y/\Lo c z.num z.den z:=by
  obtain ⟨C,T1,T2,T3,h0,h1,h2,h3,h4,e1,e2,e3⟩:=h
  exact ⟨lo_over h0 h1 h2 e1,lo_over h0 h1 h3 e2,lo_over h0 h1 h4 e3⟩
theorem PB.int {c:Nat} {x y z:Int} (h1:Bt x c) (h2:Bt y c) (h3:Bt z c):PB c x y z:=⟨1,x,y,z,by decide,by unfold Bt;exact Nat.one_le_two_pow,h1,h2,h3,by unfold qv;grind,by unfold qv;grind,by unfold qv;grind⟩
theorem qv_sop {r1 r2 r3 T1 T2 T3 C n:Int} (hC:C ≠ 0) (hn:n ≠ 0):qv (sop [r1,r2,r3] [T1,T2,T3]) (C * n)=((r1:Rat) * qv T1 C + r2 * qv T2 C + r3 * qv T3 C) / n:=by
  have h1:=cast_ne hC
  have h2:=cast_ne hn
  rw [sop3]
  unfold qv
  push_cast
  grind
theorem PB.turned {c m:Nat} {a b d e:Int} {x y z:Rat} (h:PB c x y z) (nz:∃ n ∈ [a,b,d,e],n ≠ 0) (bd:Bd (2 ^ m) [a,b,d,e]):PB (c + 2 * m + 5) (R1 a b d e x y z / N4 a b d e) (R2 a b d e x y z / N4 a b d e) (R3 a b d e x y z / N4 a b d e):=by
  obtain ⟨C,T1,T2,T3,h0,h1,h2,h3,h4,e1,e2,e3⟩:=h
  have np:=nrm_pos (ns:=[a,b,d,e]) rfl nz
  have cN:((nrm [a,b,d,e]:Int):Rat)=N4 a b d e:=by unfold nrm N4;push_cast;rfl
  obtain ⟨W1,W2,W3⟩:=rows_btG bd
  have s3:∀ {r1 r2 r3:Int},(∀ n ∈ [r1,r2,r3],Bt n (2 * m + 3))->Bt (sop [r1,r2,r3] [T1,T2,T3]) (c + 2 * m + 5):=fun {r1 r2 r3} h=>by
    rw [sop3]
    have a:=((h r1 (by simp)).mul h2)
    have b:=((h r2 (by simp)).mul h3)
    have c:=((h r3 (by simp)).mul h4)
    exact ((a.add b).add (c.up (by omega))).up (by omega)
  refine ⟨C * nrm [a,b,d,e],sop (rw1 a b d e) [T1,T2,T3],sop (rw2 a b d e) [T1,T2,T3],sop (rw3 a b d e) [T1,T2,T3],Int.mul_pos h0 np,(h1.mul (nrm_btG bd)).up (by omega),s3 W1,s3 W2,s3 W3,?_,?_,?_⟩
  . unfold rw1;rw [qv_sop (by omega) (by omega),e1,e2,e3,cN];unfold R1;push_cast;rfl
  . unfold rw2;rw [qv_sop (by omega) (by omega),e1,e2,e3,cN];unfold K0.R2;push_cast;rfl
  . unfold rw3;rw [qv_sop (by omega) (by omega),e1,e2,e3,cN];unfold R3;push_cast;rfl
section
variable {W:Addr->Prop}
end
theorem kq_ptQ {x y z:Rat}:PySem.W.kqdOk 9 (ptQ x y z)=true:=kqd_pt
noncomputable def sa (x y z a b c e:Int):Option (List Int):=if cr x y z b c e=[0,0,0] then some (if x=0 then (if y=0 then ps e (a * z) else ps c (a * y)) else ps b (a * x)) else none
theorem sa_nz {x y z a b c e : Int} (h : cr x y z b c e = [0, 0, 0]) (nf : ∃ n ∈ [a, b, c, e], n ≠ 0) : (x ≠ 0 -> ∃ n ∈ [a * x, b], n ≠ 0) /\ (y ≠ 0 -> ∃ n ∈ [a * y, c], n ≠ 0) /\ (z ≠ 0 -> ∃ n ∈ [a * z, e], n ≠ 0) := by
  unfold cr at h
  simp only [List.cons.injEq,and_true] at h
  obtain ⟨h1,h2,h3⟩:=h
  have key:∀ {w n:Int},w ≠ 0->(a=0->n=0->b=0/\c=0/\e=0)->∃ m ∈ [a * w,n],m ≠ 0:=fun {w n} hw hk=>by
    by_cases ha:a=0
    . by_cases hn:n=0
      . obtain ⟨hb,hc,he⟩:=hk ha hn
        obtain ⟨m,hm,h0⟩:=nf
        simp only [List.mem_cons,List.mem_nil_iff,or_false] at hm
        rcases hm with rfl | rfl | rfl | rfl
        . exact absurd ha h0
        . exact absurd hb h0
        . exact absurd hc h0
        . exact absurd he h0
      . exact ⟨n,by simp,hn⟩
    . exact ⟨a * w,by simp,Int.mul_ne_zero ha hw⟩
  refine ⟨fun hx=>key hx fun _ hb=>?_,fun hy=>key hy fun _ hc=>?_,fun hz=>key hz fun _ he=>?_⟩
  . subst hb
    have hc:x * c=0:=by omega
    have he:x * e=0:=by omega
    exact ⟨rfl,(Int.mul_eq_zero.mp hc).resolve_left hx,(Int.mul_eq_zero.mp he).resolve_left hx⟩
  . subst hc
    have hb:y * b=0:=by omega
    have he:y * e=0:=by omega
    exact ⟨(Int.mul_eq_zero.mp hb).resolve_left hy,rfl,(Int.mul_eq_zero.mp he).resolve_left hy⟩
  . subst he
    have hb:z * b=0:=by omega
    have hc:z * c=0:=by omega
    exact ⟨(Int.mul_eq_zero.mp hb).resolve_left hz,(Int.mul_eq_zero.mp hc).resolve_left hz,rfl⟩
end
theorem cr_cast {x y z a b c:Int} (h:cr x y z a b c=[0,0,0]):(y:Rat) * c=z * b/\(z:Rat) * a=x * c/\(x:Rat) * b=y * a:=by
  unfold cr at h
  simp only [List.cons.injEq,and_true] at h
  obtain ⟨h1,h2,h3⟩:=h
  have e1:y * c=z * b:=by omega
  have e2:z * a=x * c:=by omega
  have e3:x * b=y * a:=by omega
  exact ⟨by exact_mod_cast e1,by exact_mod_cast e2,by exact_mod_cast e3⟩
theorem sa_about {x y z a b c e k l : Int} (nw : ∃ n ∈ [x, y, z], n ≠ 0) (nf : ∃ n ∈ [a, b, c, e], n ≠ 0) (h : sa x y z a b c e = some [k, l]) : (k ≠ 0 \/ l ≠ 0) /\ pl [l, k * x, k * y, k * z] = pl [a, b, c, e] := by
  unfold sa at h
  by_cases hc:cr x y z b c e=[0,0,0]
  . rw [if_pos hc] at h
    obtain ⟨m1,m2,m3⟩:=sa_nz hc nf
    unfold cr at hc
    simp only [List.cons.injEq,and_true] at hc
    obtain ⟨h1,h2,h3⟩:=hc
    have key:∀ {w n:Int},w ≠ 0->(∃ m ∈ [a * w,n],m ≠ 0)->n * x=w * b->n * y=w * c->n * z=w * e->ps n (a * w)=[k,l]->(k ≠ 0\/l ≠ 0)/\pl [l,k * x,k * y,k * z]=pl [a,b,c,e]:=fun {w n} hw hz e1 e2 e3 hp=>by
      have hu:=unit_ne hz
      have d1:unit [a * w,n] ∣ n:=unit_dvd (by simp)
      have d2:unit [a * w,n] ∣ a * w:=unit_dvd (by simp)
      unfold ps at hp
      simp only [List.cons.injEq,and_true] at hp
      obtain ⟨p1,p2⟩:=hp
      have q1:unit [a * w,n] * k=n:=by rw [<- p1];exact Int.mul_ediv_cancel' d1
      have q2:unit [a * w,n] * l=a * w:=by rw [<- p2];exact Int.mul_ediv_cancel' d2
      generalize unit [a * w,n]=u at *
      have hk:k ≠ 0\/l ≠ 0:=by
        by_cases zk:k=0
        . refine .inr fun zl=>?_
          rw [zk,Int.mul_zero] at q1
          rw [zl,Int.mul_zero] at q2
          obtain ⟨m,hm,h0⟩:=hz
          simp only [List.mem_cons,List.mem_nil_iff,or_false] at hm
          rcases hm with rfl | rfl
          . exact h0 q2.symm
          . exact h0 q1.symm
        . exact .inl zk
      refine ⟨hk,?_⟩
      have nk:=nz_about hk nw
      have e:[l,k * x,k * y,k * z].map (u * ·)=[a,b,c,e].map (w * ·):=by
        simp only [List.map_cons,List.map_nil,List.cons.injEq,and_true]
        refine ⟨by rw [q2,Int.mul_comm],?_,?_,?_⟩
        . rw [<- Int.mul_assoc,q1];exact e1
        . rw [<- Int.mul_assoc,q1];exact e2
        . rw [<- Int.mul_assoc,q1];exact e3
      exact pl_prop hu hw e nk nf
    by_cases hx:x=0
    . rw [if_pos hx] at h
      by_cases hy:y=0
      . rw [if_pos hy] at h
        have hz:z ≠ 0:=by
          obtain ⟨n,hn,h0⟩:=nw
          simp only [List.mem_cons,List.mem_nil_iff,or_false] at hn
          rcases hn with rfl | rfl | rfl
          . exact absurd hx h0
          . exact absurd hy h0
          . exact h0
        injection h with h
        exact key hz (m3 hz) (by rw [Int.mul_comm e x];omega) (by rw [Int.mul_comm e y];omega) (by rw [Int.mul_comm]) h
      . rw [if_neg hy] at h
        injection h with h
        exact key hy (m2 hy) (by rw [Int.mul_comm c x];omega) (by rw [Int.mul_comm]) (by rw [Int.mul_comm c z];omega) h
    . rw [if_neg hx] at h
      injection h with h
      exact key hx (m1 hx) (by rw [Int.mul_comm]) (by rw [Int.mul_comm b y];omega) (by rw [Int.mul_comm b z];omega) h
  . rw [if_neg hc] at h;cases h
theorem ps_bd {b:Nat} {k l k' l':Int} (h:ps k l=[k',l']) (nz:∃ n ∈ [l,k],n ≠ 0) (hk:k.natAbs<=b) (hl:l.natAbs<=b):Bd b [k',l']:=by
  have hb:Bd b [l,k]:=fun n hn=>by
    simp only [List.mem_cons,List.mem_nil_iff,or_false] at hn
    rcases hn with rfl | rfl
    . exact hl
    . exact hk
  have hp:=bd_pl nz hb
  unfold ps at h
  simp only [List.cons.injEq,and_true] at h
  obtain ⟨rfl,rfl⟩:=h
  intro n hn
  simp only [List.mem_cons,List.mem_nil_iff,or_false] at hn
  rcases hn with rfl | rfl
  . exact hp _ (by unfold pl;simp)
  . exact hp _ (by unfold pl;simp)
section
end
section
end
theorem ps_eq (k l:Int):ps k l=(pl [l,k]).reverse:=rfl
section
noncomputable def lvD (T1 T2 T3 C:Int):Dat:=.tuple [tI [T1,T2,T3],.int C]
structure LB (c:Nat) (T1 T2 T3 C:Int) (x y z:Rat):Prop where
  pos:0 < C
  bc:Bt C c
  b1:Bt T1 c
  b2:Bt T2 c
  b3:Bt T3 c
  e1:qv T1 C=x
  e2:qv T2 C=y
  e3:qv T3 C=z
noncomputable def lcm3 (x y z:Rat):Nat:=Nat.lcm (Nat.lcm x.den y.den) z.den
theorem lcm3_pos (x y z:Rat):0 < lcm3 x y z:=Nat.lcm_pos (Nat.lcm_pos x.den_pos y.den_pos) z.den_pos
theorem lcm3_d1 (x y z:Rat):x.den ∣ lcm3 x y z:=Nat.dvd_trans (Nat.dvd_lcm_left _ _) (Nat.dvd_lcm_left _ _)
theorem lcm3_d2 (x y z:Rat):y.den ∣ lcm3 x y z:=Nat.dvd_trans (Nat.dvd_lcm_right _ _) (Nat.dvd_lcm_left _ _)
theorem lcm3_d3 (x y z:Rat):z.den ∣ lcm3 x y z:=Nat.dvd_lcm_right _ _
noncomputable def lev (x y z:Rat):Dat:=lvD (x.num * ((lcm3 x y z:Int) / x.den)) (y.num * ((lcm3 x y z:Int) / y.den)) (z.num * ((lcm3 x y z:Int) / z.den)) (lcm3 x y z)
theorem qv_lev {x:Rat} {L:Nat} (hL:0 < L) (h:x.den ∣ L):qv (x.num * ((L:Int) / x.den)) L=x:=by
  obtain ⟨u,rfl⟩:=h
  have hd:=x.den_pos
  have hu:u ≠ 0:=fun z=>by subst z;simp at hL
  have e:((x.den * u:Nat):Int) / (x.den:Int)=u:=by rw [Int.natCast_mul];exact Int.mul_ediv_cancel_left _ (by omega)
  rw [e]
  have:=qv_of (t:=x.num * u) (b:=((x.den * u:Nat):Int)) (t':=x.num) (b':=x.den) (by have:0 < x.den * u:=Nat.mul_pos hd (by omega);omega) (by omega) (by rw [Int.natCast_mul];grind)
  rw [this,qf_val]
theorem top_le {T C t L:Int} {c:Nat} (hC:0 < C) (hL:0 < L) (hd:L ∣ C) (e:qv t L=qv T C) (hT:Bt T c):Bt t c:=by
  have h:=qv_cross (by omega) (by omega) e
  obtain ⟨u,hu⟩:=hd
  have up:u ≠ 0:=fun z=>by subst z;simp at hu;omega
  have h2:t * u=T:=by
    have:L * (t * u)=L * T:=by
      have e1:L * (t * u)=t * (L * u):=by grind
      rw [e1, <- hu,h,Int.mul_comm]
    exact Int.eq_of_mul_eq_mul_left (by omega) this
  unfold Bt at *
  rw [<- h2,Int.natAbs_mul] at hT
  exact Nat.le_trans (Nat.le_mul_of_pos_right _ (by omega)) hT
theorem lev_lb {c:Nat} {x y z:Rat} (h:PB c x y z):LB c (x.num * ((lcm3 x y z:Int) / x.den)) (y.num * ((lcm3 x y z:Int) / y.den)) (z.num * ((lcm3 x y z:Int) / z.den)) (lcm3 x y z) x y z:=by
  obtain ⟨l1,l2,l3⟩:=h.lo
  obtain ⟨C,T1,T2,T3,h0,h1,h2,h3,h4,e1,e2,e3⟩:=h
  have Lp:=lcm3_pos x y z
  have d1:=low_dvd l1 h0 e1
  have d2:=low_dvd l2 h0 e2
  have d3:=low_dvd l3 h0 e3
  have dL:(lcm3 x y z:Int) ∣ C:=by
    obtain ⟨M,rfl⟩:=Int.eq_ofNat_of_zero_le (Int.le_of_lt h0)
    exact Int.natCast_dvd_natCast.mpr (Nat.lcm_dvd (Nat.lcm_dvd (Int.natCast_dvd_natCast.mp d1) (Int.natCast_dvd_natCast.mp d2)) (Int.natCast_dvd_natCast.mp d3))
  have q1:=qv_lev Lp (lcm3_d1 x y z)
  have q2:=qv_lev Lp (lcm3_d2 x y z)
  have q3:=qv_lev Lp (lcm3_d3 x y z)
  exact ⟨by omega,bt_dvd dL h0 h1,top_le h0 (by omega) dL (q1.trans e1.symm) h2,top_le h0 (by omega) dL (q2.trans e2.symm) h3,top_le h0 (by omega) dL (q3.trans e3.symm) h4,q1,q2,q3⟩
noncomputable def RLev:List Dat->Dat->Prop:=fun ds d=>∃ (c:Nat) (x y z:Rat),ds=[ptQ x y z]/\PB c x y z/\c<=3000/\d=lev x y z
noncomputable def RLow:List Dat->Dat->Prop:=fun ds d=>∃ (c:Nat) (T1 T2 T3 C:Int) (x y z:Rat),ds=[lvD T1 T2 T3 C]/\LB c T1 T2 T3 C x y z/\c < 8990/\d=ptQ x y z
noncomputable def RLAdd:List Dat->Dat->Prop:=fun ds d=>∃ (c:Nat) (T1 T2 T3 C S1 S2 S3 B:Int) (x y z u v w:Rat),ds=[lvD T1 T2 T3 C,lvD S1 S2 S3 B]/\LB c T1 T2 T3 C x y z/\LB c S1 S2 S3 B u v w/\c<=4400/\d=lvD (T1 * B + S1 * C) (T2 * B + S2 * C) (T3 * B + S3 * C) (C * B)
theorem LB.add {c e:Nat} {T1 T2 T3 C S1 S2 S3 B:Int} {x y z u v w:Rat} (h:LB c T1 T2 T3 C x y z) (g:LB e S1 S2 S3 B u v w):LB (c + e + 1) (T1 * B + S1 * C) (T2 * B + S2 * C) (T3 * B + S3 * C) (C * B) (x + u) (y + v) (z + w):=by
  have hC:=cast_ne (show C ≠ 0 by have:=h.pos;omega)
  have hB:=cast_ne (show B ≠ 0 by have:=g.pos;omega)
  have bb:∀ {T S:Int},Bt T c->Bt S e->Bt (T * B + S * C) (c + e + 1):=fun hT hS=>((hT.mul g.bc).add ((hS.mul h.bc).up (by omega))).up (by omega)
  have qq:∀ {T S:Int} {p q:Rat},qv T C=p->qv S B=q->qv (T * B + S * C) (C * B)=p + q:=fun {T S p q} h1 h2=>by
    rw [<- h1, <- h2];unfold qv;push_cast;grind
  exact ⟨Int.mul_pos h.pos g.pos,(h.bc.mul g.bc).up (by omega),bb h.b1 g.b1,bb h.b2 g.b2,bb h.b3 g.b3,qq h.e1 g.e1,qq h.e2 g.e2,qq h.e3 g.e3⟩
theorem LB.turned {c m:Nat} {a b d e T1 T2 T3 C:Int} {x y z:Rat} (h:LB c T1 T2 T3 C x y z) (nz:∃ n ∈ [a,b,d,e],n ≠ 0) (bd:Bd (2 ^ m) [a,b,d,e]):LB (c + 2 * m + 5) (sop (rw1 a b d e) [T1,T2,T3]) (sop (rw2 a b d e) [T1,T2,T3]) (sop (rw3 a b d e) [T1,T2,T3]) (C * sop [a,b,d,e] [a,b,d,e]) (K0.R1 a b d e x y z / N4 a b d e) (K0.R2 a b d e x y z / N4 a b d e) (K0.R3 a b d e x y z / N4 a b d e):=by
  obtain ⟨h0,h1,h2,h3,h4,e1,e2,e3⟩:=h
  have np:=nrm_pos (ns:=[a,b,d,e]) rfl nz
  have cN:((nrm [a,b,d,e]:Int):Rat)=N4 a b d e:=by unfold nrm N4;push_cast;rfl
  obtain ⟨W1,W2,W3⟩:=rows_btG bd
  have s3:∀ {r1 r2 r3:Int},(∀ n ∈ [r1,r2,r3],Bt n (2 * m + 3))->Bt (sop [r1,r2,r3] [T1,T2,T3]) (c + 2 * m + 5):=fun {r1 r2 r3} h=>by
    rw [sop3]
    have a:=((h r1 (by simp)).mul h2)
    have b:=((h r2 (by simp)).mul h3)
    have c:=((h r3 (by simp)).mul h4)
    exact ((a.add b).add (c.up (by omega))).up (by omega)
  rw [sop4]
  refine ⟨Int.mul_pos h0 np,(h1.mul (nrm_btG bd)).up (by omega),s3 W1,s3 W2,s3 W3,?_,?_,?_⟩
  . unfold rw1;rw [qv_sop (by omega) (by omega),e1,e2,e3,cN];unfold K0.R1;push_cast;rfl
  . unfold rw2;rw [qv_sop (by omega) (by omega),e1,e2,e3,cN];unfold K0.R2;push_cast;rfl
  . unfold rw3;rw [qv_sop (by omega) (by omega),e1,e2,e3,cN];unfold K0.R3;push_cast;rfl
section
variable {p:Option Addr} {K:PySem.W.Frag} {W:Addr->Prop} {H:Hp} {τ:List Sl} {tas:TA} {E':XK}
theorem lv_inv {N : Addr -> Prop} {T1 T2 T3 C : Int} {v : V} (h : Dz N K H v (lvD T1 T2 T3 C)) : ∃ a q, v = .ref a /\ SqT K H a [.ref q, .int C] /\ SqT K H q ([T1, T2, T3].map V.int) := by
  cases h with
  | tup h1 h2 =>
    cases h2 with
    | cons a t =>
      cases t with
      | cons b t =>
        cases t
        obtain ⟨q,rfl,z⟩:=tup_inv (ns:=[T1,T2,T3]) a
        cases b
        exact ⟨_,q,rfl,h1,z⟩
theorem E1.cLT {c m:Nat} {a b d e T1 T2 T3 C:Int} {x y z:Rat} (ha:A1 p K tas τ [.dat (tI [a,b,d,e]),.dat (lvD T1 T2 T3 C)]) (bd:Bd (2 ^ m) [a,b,d,e]) (h:LB c T1 T2 T3 C x y z) (hm:m<=1000:=by decide) (hc:c<=3000:=by decide) :
    E1 p K (tCall (spLT K) [] E' tas) τ (.dat (lvD (sop (rw1 a b d e) [T1,T2,T3]) (sop (rw2 a b d e) [T1,T2,T3]) (sop (rw3 a b d e) [T1,T2,T3]) (C * sop [a,b,d,e] [a,b,d,e]))):=fun W L σ H Q rs o q=>ha W L σ H _ rs o fun vs H1 ss e0 e1 o1 rv=>by
  subst e0
  cases rv with
  | cons u t =>
    cases t with
    | cons v t =>
      cases t
      obtain ⟨r,rfl,z1⟩:=tup_inv u
      obtain ⟨r2,q2,rfl,z2,z3⟩:=lv_inv v
      refine ⟨r,r2,q2,a,b,d,e,T1,T2,T3,C,rfl,z1,bdm bd hm,z2,z3,h.b1.up (by omega),h.b2.up (by omega),h.b3.up (by omega),h.bc.up hc,fun r3 q3 H' s h4 h5=>?_⟩
      exact q _ H' _ rfl (e1.trans (Ev.of s)) (o1.same s) (.tup (SqT.of h4) (.cons (told h5) (.cons (.int _) .nil)))
theorem EI.cCM {C:Int} {bs:List Int} (ha:A1 p K tas τ [.vw (bs.map .int)]) (hb:∀ b ∈ bs,0 < b/\b ∣ C) (h0:0 < C) (bC:Bt C 3000):EI p K (tCall (spCM K) [] E' tas) τ (fun L=>0 < L/\(∀ b ∈ bs,b ∣ L)/\L ∣ C):=fun W L σ H Q rs o q=>ha W L σ H _ rs o fun vs H1 ss e e1 o1 rv=>by
  subst e
  cases rv with
  | cons a t =>
    cases t
    obtain ⟨a,vs,rfl,h1,h2⟩:=a
    have e:=h2.inv
    subst e
    exact ⟨a,bs,C,rfl,h1.sq,hb,h0,bC,fun L H' s l0 l1 l2=>q _ H' _ ⟨L,rfl,l0,l1,l2⟩ (e1.trans (Ev.of s)) (o1.same s) (.int _)⟩
end
end
section
noncomputable abbrev Q1 (a b d e:Int) (x y z:Rat):Rat:=K0.R1 a b d e x y z / N4 a b d e
noncomputable abbrev Q2 (a b d e:Int) (x y z:Rat):Rat:=K0.R2 a b d e x y z / N4 a b d e
noncomputable abbrev Q3 (a b d e:Int) (x y z:Rat):Rat:=K0.R3 a b d e x y z / N4 a b d e
section
variable {W:Addr->Prop}
end
end
noncomputable def MM (p q r x y z w v:Rat):Rat:=v - 2 * (p * x + q * y + r * z) / (p * p + q * q + r * r) * w
noncomputable abbrev M1 (p q r:Int) (x y z:Rat):Rat:=MM p q r x y z p x
section
theorem dadd (x y n:Rat):(x + y) / n=x / n + y / n:=by rw [Rat.div_def,Rat.div_def,Rat.div_def,Rat.add_mul]
theorem R1_add (p q r s x y z u v w:Rat):K0.R1 p q r s (x + u) (y + v) (z + w)=K0.R1 p q r s x y z + K0.R1 p q r s u v w:=by unfold K0.R1;grind
theorem R2_add (p q r s x y z u v w:Rat):K0.R2 p q r s (x + u) (y + v) (z + w)=K0.R2 p q r s x y z + K0.R2 p q r s u v w:=by unfold K0.R2;grind
theorem R3_add (p q r s x y z u v w:Rat):K0.R3 p q r s (x + u) (y + v) (z + w)=K0.R3 p q r s x y z + K0.R3 p q r s u v w:=by unfold K0.R3;grind
section
variable {a b d e:Int} {x y z u v w:Rat}
theorem Q1_add:Q1 a b d e (x + u) (y + v) (z + w)=Q1 a b d e x y z + Q1 a b d e u v w:=by unfold Q1;rw [R1_add,dadd]
theorem Q2_add:Q2 a b d e (x + u) (y + v) (z + w)=Q2 a b d e x y z + Q2 a b d e u v w:=by unfold Q2;rw [R2_add,dadd]
theorem Q3_add:Q3 a b d e (x + u) (y + v) (z + w)=Q3 a b d e x y z + Q3 a b d e u v w:=by unfold Q3;rw [R3_add,dadd]
end
section
variable {p:Option Addr} {W:Addr->Prop}
end
section
variable {a b d e p q r s:Int} {x y z:Rat}
theorem Q_th {f g h i:Int} (hp:pl (qm [p,q,r,s] [a,b,d,e])=[f,g,h,i]) (n1:∃ n ∈ [a,b,d,e],n ≠ 0) (n2:∃ n ∈ [p,q,r,s],n ≠ 0) :
    Q1 p q r s (Q1 a b d e x y z) (Q2 a b d e x y z) (Q3 a b d e x y z)=Q1 f g h i x y z/\Q2 p q r s (Q1 a b d e x y z) (Q2 a b d e x y z) (Q3 a b d e x y z)=Q2 f g h i x y z/\Q3 p q r s (Q1 a b d e x y z) (Q2 a b d e x y z) (Q3 a b d e x y z)=Q3 f g h i x y z :=
  ⟨R1_then (x:=x) (y:=y) (z:=z) hp n1 n2,R2_then (x:=x) (y:=y) (z:=z) hp n1 n2,R3_then (x:=x) (y:=y) (z:=z) hp n1 n2⟩
end
end
section
noncomputable def iOr (a b:TI):TI:=fun σ H R=>a σ H R\/b σ H R
theorem zi_or {X:Cx} {tg e:Expr} {a b:TI} (ha:ZI X tg e a) (hb:ZI X tg e b):ZI X tg e (iOr a b):=⟨fun pins s σ H R I h=>h.elim (fun z=>ha.out pins s σ H R I z) fun z=>hb.out pins s σ H R I z⟩
section
variable {p:Option Addr} {K:PySem.W.Frag} {W:Addr->Prop} {H:Hp} {τ:List Sl} {ds:List Dat} {a b:TI}
theorem Wk.orL (h:Wk p K a τ ds):Wk p K (iOr a b) τ ds:=fun W L σ H R r o q=>.inl (h W L σ H R r o q)
theorem Wk.orR (h:Wk p K b τ ds):Wk p K (iOr a b) τ ds:=fun W L σ H R r o q=>.inr (h W L σ H R r o q)
end
end
noncomputable def ftR (k l N v D w c:Rat):Rat:=(k * (N * v - D * w) + l * c) / (2 * k * N)
noncomputable abbrev F2 (p q r k l:Int) (x y z:Rat):Rat:=ftR k l ((p:Rat) * p + q * q + r * r) y (p * x + q * y + r * z) q (r * x - p * z)
noncomputable abbrev F3 (p q r k l:Int) (x y z:Rat):Rat:=ftR k l ((p:Rat) * p + q * q + r * r) z (p * x + q * y + r * z) r (p * y - q * x)
noncomputable abbrev sl (p q r:Int) (x y z:Rat):Rat:=((p:Rat) * x + q * y + r * z) / ((p:Rat) * p + q * q + r * r)
end D
section
namespace L2
open PySem PySem.Spec PyProof.Rows
noncomputable def SI (b:Bool) (h:Heap) (it l:Addr) (i:Nat):Prop:=match b with | true=>h.IsListIter it l i | false=>h.IsTupleIter it l i
noncomputable def SQ (b:Bool) (h:Heap) (l:Addr) (xs:Array Value):Prop:=match b with | true=>h.IsList l xs | false=>h.IsTuple l xs
theorem SI.extBut {b:Bool} {h h':Heap} {it l c:Addr} {i:Nat} (s:SI b h it l i) (e:Heap.ExtBut c h h') (n:it ≠ c):SI b h' it l i:=by
  cases b
  . exact Heap.IsTupleIter.extBut s e n
  . exact Heap.IsListIter.extBut s e n
theorem SQ.extBut {b:Bool} {h h':Heap} {l c:Addr} {xs:Array Value} (s:SQ b h l xs) (e:Heap.ExtBut c h h') (n:l ≠ c):SQ b h' l xs:=by
  cases b
  . exact Heap.IsTuple.extBut s e n
  . exact Heap.IsList.extBut s e n
theorem SI.at {b:Bool} {h h':Heap} {it l:Addr} {i:Nat} (s:SI b h it l i) (e:∀ o,h.get? it=some o->h'.get? it=some o):SI b h' it l i:=by
  cases b
  . exact Heap.IsTupleIter.at s e
  . exact Heap.IsListIter.at s e
theorem SQ.at {b:Bool} {h h':Heap} {l:Addr} {xs:Array Value} (s:SQ b h l xs) (e:∀ o,h.get? l=some o->h'.get? l=some o):SQ b h' l xs:=by
  cases b
  . exact Heap.IsTuple.at s e
  . exact Heap.IsList.at s e
theorem SI.ob {b:Bool} {h:Heap} {it l:Addr} {i:Nat} (s:SI b h it l i):∃ o,h.get? it=some o/\∃ vs,o.data = .fields vs:=by
  cases b
  . obtain ⟨o,h1,_,h2⟩:=s;exact ⟨o,h1,_,h2⟩
  . obtain ⟨o,h1,_,h2⟩:=s;exact ⟨o,h1,_,h2⟩
theorem SQ.lt {b:Bool} {h:Heap} {l:Addr} {xs:Array Value} (s:SQ b h l xs):l < h.objs.size:=by
  cases b
  . obtain ⟨o,h1,_⟩:=s;exact Heap.lt_size h1
  . obtain ⟨o,h1,_⟩:=s;exact Heap.lt_size h1
section
variable {prog:Program} {w:World} {A:Around} {E:Value->Shared->Prop} {s:Shared}
theorem siNext {b:Bool} {it t:Addr} {i:Nat} {its:Array Value} {x:Value} {Q:Value->Shared->Prop} (hit:SI b s.heap it t i) (ht:SQ b s.heap t its) (hx:its[i]?=some x)
    (k:∀ g,SI b g it t (i + 1)->Heap.SameBut it s.heap g->Q x { s with heap:=g }):wpAny (model prog w) A (Builtin.SmallTypes.nextOf (.ref it)) Q E s:=by
  cases b
  . exact tupNext hit ht hx k
  . exact wpAny_nextOf_list_item hit ht hx k
theorem siEnd {b:Bool} {it t:Addr} {i:Nat} {its:Array Value} {Q:Value->Shared->Prop} (hh:A.handled=none) (hit:SI b s.heap it t i) (ht:SQ b s.heap t its) (hx:its[i]?=none)
    (k:∀ g e,Heap.ExtBut it s.heap g->(∃ o,g.get? e=some o/\o.cls = .type "StopIteration")->E (.ref e) { s with heap:=g }):wpAny (model prog w) A (Builtin.SmallTypes.nextOf (.ref it)) Q E s:=by
  cases b
  . exact tupEnd hh hit ht hx k
  . exact wpAny_nextOf_list_end hh hit ht hx k
variable {b1 b2:Bool}
structure ZipG (b1 b2:Bool) (h:Heap) (z a b i1 i2 l1 l2:Addr) (xs ys:Array Value) (k:Nat) (f:Value):Prop where
  z:IsZip h z a b f
  a:IsPair h a (.ref i1) (.ref i2)
  b:∃ u v,IsPair h b u v
  i1:SI b1 h i1 l1 k
  i2:SI b2 h i2 l2 k
  l1:SQ b1 h l1 xs
  l2:SQ b2 h l2 ys
theorem zipNextG {z a b i1 i2 l1 l2:Addr} {k:Nat} {xs ys:Array Value} {x y:Value} {Q:Option Value->Shared->Prop} (D:ZipApart z a b i1 i2 l1 l2) (Z:ZipG b1 b2 s.heap z a b i1 i2 l1 l2 xs ys k .none) (hx:xs[k]?=some x) (hy:ys[k]?=some y)
    (kq:∀ g,ZipG b1 b2 g z a b i1 i2 l1 l2 xs ys (k + 1) (rawInt s.heap.objs.size)->IsPair g s.heap.objs.size x y->(∀ c o,c ≠ z->c ≠ b->c ≠ i1->c ≠ i2->s.heap.get? c=some o->g.get? c=some o)->Q (some (.ref s.heap.objs.size)) { s with heap:=g }) :
    wpAny (model prog w) A (pyNext (.ref z)) Q E s:=by
  obtain ⟨hz,ha,⟨u,v,hb⟩,h1,h2,t1,t2⟩:=Z
  have hT:s.TypeIs (.ref z) "zip" := ⟨_,hz,rfl⟩
  unfold pyNext
  refine wpAny_bind (wpAny_attempt (wpAny_callSpecial?_slot (name:=Str.ofString "__next__") hT F.slot_zip_next (wpAny_call_entry F.slot_zip_next hT F.entry_zip_next ?_ (F.args_zip_next_1 _))))
  show wpAny _ _ (field (.ref z) 2 >>= _) _ _ _;refine wpAny_bind (wpAny_field hz rfl (x:=.bool false) rfl ?_);show wpAny _ _ (field (.ref z) 3 >>= _) _ _ _
  refine wpAny_bind (wpAny_field hz rfl (x:=.ref a) rfl ?_);refine wpAny_bind (wpAny_seqItems ha rfl ?_);show wpAny _ _ (Builtin.SmallTypes.ownedTupleIsFree (.ref z) >>= _) _ _ _
  refine wpAny_bind ?_;unfold Builtin.SmallTypes.ownedTupleIsFree;refine wpAny_bind (wpAny_field hz rfl (x:=.none) rfl (wpAny_pure ?_))
  simp only [if_true];refine wpAny_bind (wpAny_rule ?_);refine wpAny_bind (wpAny_field hz rfl (x:=.ref b) rfl ?_)
  refine wpAny_bind (wpAny_setField_rec hz (by simp) fun g₁ e₁ s₁=>?_)
  replace e₁:IsZip g₁ z a b .ellipsis:=e₁
  refine wpAny_bind ?_;simp only [List.zipIdx_cons,List.zipIdx_nil,List.forIn_cons,List.forIn_nil]
  refine wpAny_bind (wpAny_bind (wpAny_onRaise ?_));show wpAny _ _ (Builtin.SmallTypes.nextOf (.ref i1) >>= _) _ _ _
  refine wpAny_bind (siNext (h1.extBut s₁.extBut D.i1z) (t1.extBut s₁.extBut D.l1z) hx fun g₂ f₂ s₂=>wpAny_pure ?_)
  have b₂:IsPair g₂ b u v:=s₂.extBut _ _ D.TOi1 (s₁.extBut _ _ D.TOz hb)
  refine wpAny_bind (wpAny_seqItems b₂ rfl ?_);refine wpAny_bind (wpAny_updateSeq_pair b₂ fun g₃ b₃ s₃=>?_)
  replace b₃:IsPair g₃ b x v:=b₃
  refine wpAny_bind (wpAny_letGo (wpAny_pure ?_));refine wpAny_bind (wpAny_bind (wpAny_onRaise ?_));show wpAny _ _ (Builtin.SmallTypes.nextOf (.ref i2) >>= _) _ _ _
  refine wpAny_bind (siNext (((h2.extBut s₁.extBut D.i2z).extBut s₂.extBut D.i12.symm).extBut s₃.extBut D.TOi2.symm) (((t2.extBut s₁.extBut D.l2z).extBut s₂.extBut D.l2i1).extBut s₃.extBut D.l2TO) hy fun g₄ f₄ s₄=>wpAny_pure ?_)
  have b₄:IsPair g₄ b x v:=s₄.extBut _ _ D.TOi2 b₃
  refine wpAny_bind (wpAny_seqItems b₄ rfl ?_);refine wpAny_bind (wpAny_updateSeq_pair b₄ fun g₅ b₅ s₅=>?_)
  replace b₅:IsPair g₅ b x y:=b₅
  refine wpAny_bind (wpAny_letGo (wpAny_pure (wpAny_pure ?_)));refine wpAny_bind (wpAny_seqItems b₅ rfl ?_);refine wpAny_bind (wpAny_newTuple ?_)
  have sz:g₅.objs.size=s.heap.objs.size:=by rw [s₅.1,s₄.1,s₃.1,s₂.1,s₁.1]
  have e₅:IsZip g₅ z a b .ellipsis:=s₅.extBut _ _ D.TOz.symm (s₄.extBut _ _ D.i2z.symm (s₃.extBut _ _ D.TOz.symm (s₂.extBut _ _ D.i1z.symm e₁)))
  have k₅:∀ c o,c ≠ z->c ≠ b->c ≠ i1->c ≠ i2->s.heap.get? c=some o->g₅.get? c=some o:=fun c o c1 c2 c3 c4 e=>s₅.extBut _ _ c2 (s₄.extBut _ _ c4 (s₃.extBut _ _ c2 (s₂.extBut _ _ c3 (s₁.extBut _ _ c1 e))))
  have m₁:SI b1 g₅ i1 l1 (k + 1):=((f₂.extBut s₃.extBut D.TOi1.symm).extBut s₄.extBut D.i12).extBut s₅.extBut D.TOi1.symm
  have m₂:SI b2 g₅ i2 l2 (k + 1):=f₄.extBut s₅.extBut D.TOi2.symm
  have lz:z < g₅.objs.size:=Heap.lt_size e₅
  show wpAny _ _ (Builtin.SmallTypes.ownedTupleHandOut (.ref z) (.ref g₅.objs.size) >>= _) _ _ _;refine wpAny_bind ?_;unfold Builtin.SmallTypes.ownedTupleHandOut
  have e₆:IsZip (g₅.push { cls:=.type "tuple",data:=.seq #[x,y] }) z a b .ellipsis:=Heap.get?_push_of_some _ e₅
  refine wpAny_bind (wpAny_setField_rec e₆ (by simp) fun g₇ e₇ s₇=>?_)
  replace e₇:IsZip g₇ z a b (rawInt g₅.objs.size):=e₇
  refine wpAny_setField_rec e₇ (by simp) fun g₈ e₈ s₈=>?_
  replace e₈:IsZip g₈ z a b (rawInt g₅.objs.size):=e₈
  have up:∀ c o,c ≠ z->g₅.get? c=some o->g₈.get? c=some o:=fun c o c1 e=>s₈.extBut _ _ c1 (s₇.extBut _ _ c1 (Heap.get?_push_of_some _ e))
  have p₈:IsPair g₈ g₅.objs.size x y:=s₈.extBut _ _ (Nat.ne_of_gt lz) (s₇.extBut _ _ (Nat.ne_of_gt lz) (Heap.get?_push_size _ rfl))
  rw [sz] at e₈ p₈
  refine wpAny_pure ⟨_,rfl,wpAny_pure ?_⟩
  show Q (some (.ref g₅.objs.size)) _;rw [sz]
  have all:∀ c o,c ≠ z->c ≠ b->c ≠ i1->c ≠ i2->s.heap.get? c=some o->g₈.get? c=some o:=fun c o c1 c2 c3 c4 e=>up c o c1 (k₅ c o c1 c2 c3 c4 e)
  exact kq g₈ ⟨e₈,all _ _ D.TIz D.TITO D.TIi1 D.TIi2 ha,⟨_,_,up _ _ D.TOz b₅⟩,m₁.at fun o e=>up _ o D.i1z e,m₂.at fun o e=>up _ o D.i2z e,t1.at fun o e=>all _ o D.l1z D.l1TO D.l1i1 D.l1i2 e,t2.at fun o e=>all _ o D.l2z D.l2TO D.l2i1 D.l2i2 e⟩ p₈ all
theorem zipEndG {z a b i1 i2 l1 l2:Addr} {k:Nat} {xs ys:Array Value} {Q:Option Value->Shared->Prop} (hh:A.handled=none) (D:ZipApart z a b i1 i2 l1 l2) (Z:ZipG b1 b2 s.heap z a b i1 i2 l1 l2 xs ys k .none) (hx:xs[k]?=none)
    (kq:∀ g,(∀ c o,c ≠ z->c ≠ b->c ≠ i1->c ≠ i2->s.heap.get? c=some o->g.get? c=some o)->Q none { s with heap:=g }):wpAny (model prog w) A (pyNext (.ref z)) Q E s:=by
  obtain ⟨hz,ha,⟨u,v,hb⟩,h1,h2,t1,t2⟩:=Z
  have hT:s.TypeIs (.ref z) "zip" := ⟨_,hz,rfl⟩
  unfold pyNext
  refine wpAny_bind (wpAny_attempt (wpAny_callSpecial?_slot (name:=Str.ofString "__next__") hT F.slot_zip_next (wpAny_call_entry F.slot_zip_next hT F.entry_zip_next ?_ (F.args_zip_next_1 _))))
  show wpAny _ _ (field (.ref z) 2 >>= _) _ _ _;refine wpAny_bind (wpAny_field hz rfl (x:=.bool false) rfl ?_);show wpAny _ _ (field (.ref z) 3 >>= _) _ _ _
  refine wpAny_bind (wpAny_field hz rfl (x:=.ref a) rfl ?_);refine wpAny_bind (wpAny_seqItems ha rfl ?_);show wpAny _ _ (Builtin.SmallTypes.ownedTupleIsFree (.ref z) >>= _) _ _ _
  refine wpAny_bind ?_;unfold Builtin.SmallTypes.ownedTupleIsFree;refine wpAny_bind (wpAny_field hz rfl (x:=.none) rfl (wpAny_pure ?_))
  simp only [if_true];refine wpAny_bind (wpAny_rule ?_);refine wpAny_bind (wpAny_field hz rfl (x:=.ref b) rfl ?_)
  refine wpAny_bind (wpAny_setField_rec hz (by simp) fun g₁ e₁ s₁=>?_)
  replace e₁:IsZip g₁ z a b .ellipsis:=e₁
  refine wpAny_bind ?_;simp only [List.zipIdx_cons,List.zipIdx_nil,List.forIn_cons,List.forIn_nil]
  refine wpAny_bind (wpAny_bind (wpAny_onRaise ?_));show wpAny _ _ (Builtin.SmallTypes.nextOf (.ref i1) >>= _) _ _ _
  refine wpAny_bind (siEnd hh (h1.extBut s₁.extBut D.i1z) (t1.extBut s₁.extBut D.l1z) hx fun g₂ e s₂ he=>?_)
  obtain ⟨oe,he1,he2⟩:=he
  have e₂:IsZip g₂ z a b .ellipsis:=s₂ _ _ D.i1z.symm e₁
  have hez:e ≠ z:=fun x=>by subst x;rw [e₂] at he1;cases he1;simp at he2
  refine wpAny_setField_rec e₂ (by simp) fun g₃ _ s₃=>?_
  refine wpAny_bind (wpAny_isInstance (T := "StopIteration") (b:=true) ⟨oe,s₃.extBut _ _ hez he1,he2⟩ isSubtype_stop ?_)
  exact wpAny_pure (kq _ fun c o c1 _ c3 _ x=>s₃.extBut _ _ c1 (s₂ _ _ c3 (s₁.extBut _ _ c1 x)))
noncomputable abbrev zl (h:Heap) (l:Addr):Heap:=h.push { cls:=.type "list_iterator",data:=.fields #[.ref l,.int 0 0] }
noncomputable abbrev zg (b:Bool) (h:Heap) (l:Addr):Heap:=h.push { cls:=.type (if b then "list_iterator" else "tuple_iterator"),data:=.fields #[.ref l,.int 0 0] }
theorem zipNewMeetsG (l1 l2:Addr) (xs ys:Array Value) :
    Meets (Builtin.«zip.__new__» ⟨[.type "zip",.ref l1,.ref l2],[]⟩) (fun _ R s=>SQ b1 s.heap l1 xs/\SQ b2 s.heap l2 ys/\∀ g,g=(((zg b2 (zg b1 s.heap l1) l2).push { cls:=.type "tuple",data:=.seq #[.ref s.heap.objs.size,.ref (zg b1 s.heap l1).objs.size] }).push { cls:=.type "tuple",data:=.seq #[.none,.none] }) ->
      R (.ok (.ret (.ref g.objs.size))) { s with heap:=g.push { cls:=.type "zip",data:=.fields #[.none,.bool false,.bool false,.ref (zg b2 (zg b1 s.heap l1) l2).objs.size,.ref ((zg b2 (zg b1 s.heap l1) l2).push { cls:=.type "tuple",data:=.seq #[.ref s.heap.objs.size,.ref (zg b1 s.heap l1).objs.size] }).objs.size] } }) :=
  .of_wp fun prog w A R s h=>by
    obtain ⟨hp,g,d,tk,os⟩:=s;obtain ⟨q1,q2,h⟩:=h
    have hsub:=sub_zip
    cases b1 <;> cases b2
    . have L1:Heap.IsTuple (Shared.heap ⟨hp,g,d,tk,os⟩) l1 xs:=q1
      have L2:Heap.IsTuple (Shared.heap ⟨zh hp l1,g,d,tk,os⟩) l2 ys:=Heap.IsTuple.at q2 fun o e=>Heap.get?_push_of_some _ e
      wp_walk using wpAny_pyIter_tuple L1,wpAny_pyIter_tuple L2
      exact ⟨_,rfl,h _ rfl⟩
    . have L1:Heap.IsTuple (Shared.heap ⟨hp,g,d,tk,os⟩) l1 xs:=q1
      have L2:Heap.IsList (Shared.heap ⟨zh hp l1,g,d,tk,os⟩) l2 ys:=Heap.IsList.at q2 fun o e=>Heap.get?_push_of_some _ e
      wp_walk using wpAny_pyIter_tuple L1,wpAny_pyIter_list L2
      exact ⟨_,rfl,h _ rfl⟩
    . have L1:Heap.IsList (Shared.heap ⟨hp,g,d,tk,os⟩) l1 xs:=q1
      have L2:Heap.IsTuple (Shared.heap ⟨zl hp l1,g,d,tk,os⟩) l2 ys:=Heap.IsTuple.at q2 fun o e=>Heap.get?_push_of_some _ e
      wp_walk using wpAny_pyIter_list L1,wpAny_pyIter_tuple L2
      exact ⟨_,rfl,h _ rfl⟩
    . have L1:Heap.IsList (Shared.heap ⟨hp,g,d,tk,os⟩) l1 xs:=q1
      have L2:Heap.IsList (Shared.heap ⟨zl hp l1,g,d,tk,os⟩) l2 ys:=Heap.IsList.at q2 fun o e=>Heap.get?_push_of_some _ e
      wp_walk using wpAny_pyIter_list L1,wpAny_pyIter_list L2
      exact ⟨_,rfl,h _ rfl⟩
theorem siNew {b:Bool} {h:Heap} {it l:Addr} (e:h.get? it=some { cls:=.type (if b then "list_iterator" else "tuple_iterator"),data:=.fields #[.ref l,.int 0 0] }):SI b h it l 0:=by
  cases b
  . exact ⟨_,e,rfl,rfl⟩
  . exact ⟨_,e,rfl,rfl⟩
theorem callZipG {l1 l2:Addr} {xs ys:Array Value} {Q:Value->Shared->Prop} (h1:SQ b1 s.heap l1 xs) (h2:SQ b2 s.heap l2 ys)
    (k:∀ g,ZipG b1 b2 g (s.heap.objs.size + 4) (s.heap.objs.size + 2) (s.heap.objs.size + 3) s.heap.objs.size (s.heap.objs.size + 1) l1 l2 xs ys 0 .none->(∀ c o,s.heap.get? c=some o->g.get? c=some o)->Q (.ref (s.heap.objs.size + 4)) { s with heap:=g }) :
    wpAny (model prog w) A (call (.type "zip") [.ref l1,.ref l2]) Q E s:=by
  refine callType_new F.called_zip (by decide) (F.typeCall_zip_2 _ _) (F.newCall_zip_2 _ _) (fun obj=>F.args_object_init_3 obj _ _) F.entry_zip_new (zipNewMeetsG l1 l2 xs ys) ⟨h1,h2,fun g hg=>?_⟩
  generalize e1:zg b1 s.heap l1=a1 at *
  generalize e2:zg b2 a1 l2=a2 at *
  generalize e3:a2.push { cls:=.type "tuple",data:=.seq #[.ref s.heap.objs.size,.ref a1.objs.size] }=a3 at *
  have n1:a1.objs.size=s.heap.objs.size + 1:=by rw [<- e1];exact Heap.size_push ..
  have n2:a2.objs.size=s.heap.objs.size + 2:=by rw [<- e2,Heap.size_push,n1]
  have n3:a3.objs.size=s.heap.objs.size + 3:=by rw [<- e3,Heap.size_push,n2]
  have n4:g.objs.size=s.heap.objs.size + 4:=by rw [hg,Heap.size_push,n3]
  have up1:∀ c o,s.heap.get? c=some o->a1.get? c=some o:=fun c o x=>e1 ▸ Heap.get?_push_of_some _ x
  have up2:∀ c o,a1.get? c=some o->a2.get? c=some o:=fun c o x=>e2 ▸ Heap.get?_push_of_some _ x
  have up3:∀ c o,a2.get? c=some o->a3.get? c=some o:=fun c o x=>e3 ▸ Heap.get?_push_of_some _ x
  have up4:∀ c o,a3.get? c=some o->g.get? c=some o:=fun c o x=>hg ▸ Heap.get?_push_of_some _ x
  have x1:a1.get? s.heap.objs.size=some { cls:=.type (if b1 then "list_iterator" else "tuple_iterator"),data:=.fields #[.ref l1,.int 0 0] }:=e1 ▸ Heap.get?_push_size _ rfl
  have x2:a2.get? (s.heap.objs.size + 1)=some { cls:=.type (if b2 then "list_iterator" else "tuple_iterator"),data:=.fields #[.ref l2,.int 0 0] }:=by rw [<- n1];exact e2 ▸ Heap.get?_push_size _ rfl
  have x3:a3.get? (s.heap.objs.size + 2)=some { cls:=.type "tuple",data:=.seq #[.ref s.heap.objs.size,.ref a1.objs.size] }:=by rw [<- n2];exact e3 ▸ Heap.get?_push_size _ rfl
  have x4:g.get? (s.heap.objs.size + 3)=some { cls:=.type "tuple",data:=.seq #[.none,.none] }:=by rw [<- n3];exact hg ▸ Heap.get?_push_size _ rfl
  have x5:(g.push { cls:=.type "zip",data:=.fields #[.none,.bool false,.bool false,.ref a2.objs.size,.ref a3.objs.size] }).get? (s.heap.objs.size + 4)=some { cls:=.type "zip",data:=.fields #[.none,.bool false,.bool false,.ref a2.objs.size,.ref a3.objs.size] }:=by rw [<- n4];exact Heap.get?_push_size _ rfl
  rw [n2,n3] at x5
  rw [n1] at x3
  show _/\_
  rw [n4,n2,n3]
  have all:∀ c o,s.heap.get? c=some o->(g.push { cls:=.type "zip",data:=.fields #[.none,.bool false,.bool false,.ref (s.heap.objs.size + 2),.ref (s.heap.objs.size + 3)] }).get? c=some o:=fun c o x=>Heap.get?_push_of_some _ (up4 _ _ (up3 _ _ (up2 _ _ (up1 _ _ x))))
  refine ⟨⟨_,x5,rfl⟩,k _ ⟨x5,Heap.get?_push_of_some _ (up4 _ _ x3),⟨_,_,Heap.get?_push_of_some _ x4⟩,siNew (Heap.get?_push_of_some _ (up4 _ _ (up3 _ _ (up2 _ _ x1)))),siNew (Heap.get?_push_of_some _ (up4 _ _ (up3 _ _ x2))),h1.at fun o e=>all _ o e,h2.at fun o e=>all _ o e⟩ all⟩
end
end L2
end
section
namespace L2
open PySem PySem.Spec PyProof.Rows
noncomputable def SX (b:Bool) (K:PySem.W.Frag) (H:Hp) (a:Addr) (xs:List V):Prop:=match b with | true=>SqL K H a xs | false=>SqT K H a xs
theorem Inv.sx {X:Cx} {pins:List (Addr × Obj)} {σ:St} {H:Hp} {s:Shared} {b:Bool} {a:Addr} {xs:List V} (I:Inv X pins σ H s) (h:SX b X.K H a xs):∃ its:List Value,Vals xs its/\SQ b s.heap a its.toArray/\xs.length<=sizeLine:=by
  cases b
  . obtain ⟨its,rv,p,hz⟩:=I.tuple h
    exact ⟨its,rv,p,hz⟩
  . obtain ⟨its,rv,p,hz⟩:=I.list h
    exact ⟨its,rv,p.isList,hz⟩
theorem Inv.sx_inj {X:Cx} {pins:List (Addr × Obj)} {σ:St} {H:Hp} {s:Shared} {b:Bool} {a:Addr} {xs ys:List V} (I:Inv X pins σ H s) (h:SX b X.K H a xs) (h':SX b X.K H a ys):xs=ys:=by
  cases b
  . exact I.tuple_inj h h'
  . exact I.list_inj h h'
noncomputable def ItzG (b1 b2:Bool) (K:PySem.W.Frag) (l1 l2:Addr):It :=
  ⟨fun i H=>∃ xs ys x y,SX b1 K H l1 xs/\SX b2 K H l2 ys/\xs[i]?=some x/\ys[i]?=some y,
   fun i H v H'=>∃ p,H p=none/\v = .ref p/\∀ xs ys x y,SX b1 K H l1 xs->SX b2 K H l2 ys->xs[i]?=some x->ys[i]?=some y->H'=upd H p (.tup [x,y]),
   fun i H=>∃ xs,SX b1 K H l1 xs/\xs.length<=i/\∃ ys,SX b2 K H l2 ys⟩
noncomputable def zntG (b1 b2:Bool) (z a b i1 i2 l1 l2:Addr) (i:Nat) (h:Heap):Prop:=IsZip h z a b .none/\IsPair h a (.ref i1) (.ref i2)/\(∃ u v,IsPair h b u v)/\SI b1 h i1 l1 i/\SI b2 h i2 l2 i
theorem turn_zipG {b1 b2 : Bool} {P : Program} {w : World} {K : PySem.W.Frag} {elts : List Expr} {x1} {pos : Pos} {z a b i1 i2 l1 l2 : Addr} (D : ZipApart z a b i1 i2 l1 l2) : Turn P w K (.Tuple elts x1 pos) (ItzG b1 b2 K l1 l2) [z, a, b, i1, i2] z (zntG b1 b2 z a b i1 i2 l1 l2) where
  mem:=by simp
  obj:=fun i h st c hc=>by
    obtain ⟨h1,h2,⟨u,v,h3⟩,h4,h5⟩:=st
    obtain ⟨o4,h4,_,d4⟩:=h4.ob
    obtain ⟨o5,h5,_,d5⟩:=h5.ob
    simp only [List.mem_cons,List.mem_nil_iff,or_false] at hc
    rcases hc with rfl | rfl | rfl | rfl | rfl
    . exact ⟨_,h1,fun v z=>by cases z⟩
    . exact ⟨_,h2,fun v z=>by cases z⟩
    . exact ⟨_,h3,fun v z=>by cases z⟩
    . exact ⟨_,h4,fun v z=>by rw [d4] at z;cases z⟩
    . exact ⟨_,h5,fun v z=>by rw [d5] at z;cases z⟩
  keep:=fun i h h' st k=>by
    obtain ⟨h1,h2,⟨u,v,h3⟩,h4,h5⟩:=st
    exact ⟨k _ (by simp) _ h1,k _ (by simp) _ h2,⟨u,v,k _ (by simp) _ h3⟩,h4.at fun o e=>k _ (by simp) o e,h5.at fun o e=>k _ (by simp) o e⟩
  item := by
    intro X hP hw hK hc i pins s σ H E I hf st hg
    subst hP hw hK
    obtain ⟨xs,ys,x,y,q1,q2,hx,hy⟩:=hg
    obtain ⟨its,rv,p,hz⟩:=I.sx q1
    obtain ⟨its',rv',p',hz'⟩:=I.sx q2
    obtain ⟨u,hu,ru⟩:=rv.get hx
    obtain ⟨u',hu',ru'⟩:=rv'.get hy
    obtain ⟨h1,h2,h3,h4,h5⟩:=id st
    refine zipNextG D ⟨h1,h2,h3,h4,h5,p,p'⟩ (x:=u) (y:=u') (by simpa using hu) (by simpa using hu') fun g Z pr all=>⟨_,rfl,?_⟩
    refine wpAny_letOwnedTupleGo_zip (s:={ s with heap:=g }) Z.z fun g2 e2 s2=>?_
    have hn:H s.heap.objs.size=none:=I.hok.fresh (Nat.le_refl _)
    have lt:∀ c ∈ [z,a,b,i1,i2],c < s.heap.objs.size:=fun c hc=>by
      have:=(hf c hc)
      obtain ⟨w1,w2,⟨_,_,w3⟩,w4,w5⟩:=st
      obtain ⟨_,w4,_⟩:=w4.ob
      obtain ⟨_,w5,_⟩:=w5.ob
      simp only [List.mem_cons,List.mem_nil_iff,or_false] at hc
      rcases hc with rfl | rfl | rfl | rfl | rfl
      . exact Heap.lt_size w1
      . exact Heap.lt_size w2
      . exact Heap.lt_size w3
      . exact Heap.lt_size w4
      . exact Heap.lt_size w5
    have kp:∀ c o,c ∉ [z,a,b,i1,i2]->s.heap.get? c=some o->g2.get? c=some o:=fun c o hc e=>by
      simp only [List.mem_cons,List.mem_nil_iff,or_false,not_or] at hc
      exact s2.extBut _ _ hc.1 (all c o hc.1 hc.2.2.1 hc.2.2.2.1 hc.2.2.2.2 e)
    have trk:∀ c u,H c=some u->c ∉ [z,a,b,i1,i2]:=fun c u e hc=>by rw [(hf c hc).1] at e;cases e
    have pr2:g2.get? s.heap.objs.size=some { cls:=.type "tuple",data:=.seq #[u,u'] }:=s2.extBut _ _ (Nat.ne_of_gt (lt z (by simp))) pr
    have I2:Inv X pins σ (upd H s.heap.objs.size (.tup [x,y])) { s with heap:=g2 }:=by
      refine I.step (g':=s.gens) (d':=s.drawn) (t':=s.toks) (ch:=[z,a,b,i1,i2]) (fun c hc=>?_) (fun c o _ _ hc e _=>kp c o hc e) (fun c o _ _ hc e _=>⟨o.slots,kp c o hc e⟩) (fun c o _ e n=>?_)
        (fun c o hc e=>⟨o,kp c o hc e⟩) (fun c vs e=>?_) (fun c o vs e=>?_) (fun c ps e=>⟨#[],?_⟩) (fun m hm=>?_) (fun c v e=>?_) I.bare
      . obtain ⟨f0,f1,f2,f3,f4,f5⟩:=hf c hc
        exact ⟨f3,f1,f4,f5⟩
      . rw [upd_ne (Nat.ne_of_lt (Heap.lt_size e))];exact n
      . rw [upd_ne (ne_of_none e hn)];exact e
      . rw [upd_ne (ne_of_none e hn)];exact e
      . rw [upd_ne (ne_of_none e hn),e];simp
      . obtain ⟨o,es,ep,ho,r⟩:=hm
        exact ⟨o,es,ep,kp _ o (fun hc=>(hf _ hc).2.1 rfl) ho,r⟩
      . by_cases hb:c=s.heap.objs.size
        . subst hb
          rw [upd_same] at e;cases e
          exact ⟨by show 2<=sizeLine;decide,[u,u'],.cons ru (.cons ru' .nil),⟨_,pr2,rfl,_,rfl⟩⟩
        . rw [upd_ne hb] at e
          refine (I.hok c v e).stay (fun d o hd q=>kp d o ?_ q) (fun d q=>by rw [upd_ne (ne_of_none q hn)];exact q) fun d ts q=>by rw [upd_ne (ne_of_none q hn)];exact q
          rcases hd with rfl | hd
          . exact trk _ _ e
          . exact trk _ _ hd
    refine ⟨.ref s.heap.objs.size,_,I2,rfl,⟨_,hn,rfl,fun xs' ys' x' y' a1 a2 a3 a4=>?_⟩,⟨e2,s2.extBut _ _ D.TIz Z.a,?_,Z.i1.extBut s2.extBut D.i1z,Z.i2.extBut s2.extBut D.i2z⟩,fun c hc=>?_⟩
    . rw [I.sx_inj a1 q1,hx] at a3
      rw [I.sx_inj a2 q2,hy] at a4
      cases a3;cases a4;rfl
    . obtain ⟨v1,v2,e3⟩:=Z.b
      exact ⟨v1,v2,s2.extBut _ _ D.TOz e3⟩
    . rw [upd_ne (Nat.ne_of_lt (lt c hc))];exact (hf c hc).1
  done:=by
    intro X hP hw hK hc i pins s σ H E I hf st hg
    subst hP hw hK
    obtain ⟨xs,q1,hx,ys,q2⟩:=hg
    obtain ⟨its,rv,p,hz⟩:=I.sx q1
    obtain ⟨its',rv',p',hz'⟩:=I.sx q2
    obtain ⟨h1,h2,h3,h4,h5⟩:=id st
    have hl:=rv.length
    refine zipEndG (I.ok.hd hc) D ⟨h1,h2,h3,h4,h5,p,p'⟩ (by simp;omega) fun g all=>⟨rfl,?_⟩
    have kp:∀ c o,c ∉ [z,a,b,i1,i2]->s.heap.get? c=some o->g.get? c=some o:=fun c o hc e=>by
      simp only [List.mem_cons,List.mem_nil_iff,or_false,not_or] at hc
      exact all c o hc.1 hc.2.2.1 hc.2.2.2.1 hc.2.2.2.2 e
    have trk:∀ c u,H c=some u->c ∉ [z,a,b,i1,i2]:=fun c u e hc=>by rw [(hf c hc).1] at e;cases e
    refine I.step (g':=s.gens) (d':=s.drawn) (t':=s.toks) (ch:=[z,a,b,i1,i2]) (fun c hc=>?_) (fun c o _ _ hc e _=>kp c o hc e) (fun c o _ _ hc e _=>⟨o.slots,kp c o hc e⟩) (fun c o _ e n=>n)
        (fun c o hc e=>⟨o,kp c o hc e⟩) (fun c vs e=>e) (fun c o vs e=>e) (fun c ps e=>⟨#[],by rw [e];simp⟩) (fun m hm=>?_) (fun c v e=>?_) I.bare
    . obtain ⟨f0,f1,f2,f3,f4,f5⟩:=hf c hc
      exact ⟨f3,f1,f4,f5⟩
    . obtain ⟨o,es,ep,ho,r⟩:=hm
      exact ⟨o,es,ep,kp _ o (fun hc=>(hf _ hc).2.1 rfl) ho,r⟩
    . refine (I.hok c v e).stay (fun d o hd q=>kp d o ?_ q) (fun d q=>q) fun d ts q=>q
      rcases hd with rfl | hd
      . exact trk _ _ e
      . exact trk _ _ hd
  self:=fun _ _ _ _ _ st h=>wpAny_pyIter_zip st.1 h
section
variable {X:Cx}
noncomputable def iZipG (b1 b2:Bool) (K:PySem.W.Frag) (ta:TA):TI:=fun σ H R=>ta σ H fun vs H1=>∃ l1 l2,vs=[.ref l1,.ref l2]/\(∃ xs,SX b1 K H1 l1 xs)/\(∃ ys,SX b2 K H1 l2 ys)/\R (ItzG b1 b2 K l1 l2) H1
theorem pi_zipG {b1 b2 : Bool} {a b : Expr} {ta : TA} {p pos pt : Pos} {elts : List Expr} {x1} (hg : Gl X "zip") (hm : X.mg "zip" = none) (ha : PA X [a, b] ta) (hs : starEach [a, b] X.env = [(false, eval a X.env), (false, eval b X.env)] := by rfl) (hs2 : starEach [b] X.env = [(false, eval b X.env)] := by rfl) :
    PI X (.Tuple elts x1 pt) (.Call (.Name "zip" p) [a,b] [] pos) (iZipG b1 b2 X.K ta):=by
  intro pins s σ H R I h
  refine Call_ (ld_blt I hg hm boot_zip (PyProof.Rows.callWith_type1 (thn (ha pos pins s σ H _ I h) fun us s1 ⟨vs,H1,I1,r1,q1⟩=>?_) (by rw [hs,hs2]) (by rw [hs2];rfl)))
  obtain ⟨l1,l2,e,⟨xs,q1⟩,⟨ys,q2⟩,q⟩:=q1
  subst e
  cases r1 with
  | cons r rr =>
    cases rr with
    | cons r' rr =>
      cases rr
      cases (show _=Value.ref l1 from r)
      cases (show _=Value.ref l2 from r')
      obtain ⟨its,rv,p1,_⟩:=I1.sx q1
      obtain ⟨its',rv',p2,_⟩:=I1.sx q2
      have a1:l1 < s1.heap.objs.size:=p1.lt
      have a2:l2 < s1.heap.objs.size:=p2.lt
      refine callZipG p1 p2 fun g Z all=>?_
      refine wpAny_pyIter_zip (s:={ s1 with heap:=g }) Z.z ?_
      refine ⟨_,_,_,_,H1,rfl,I1.kept (t':=s1.toks) all,turn_zipG (PyProof.Rows.zipApart_new a1 a2),⟨Z.z,Z.a,Z.b,Z.i1,Z.i2⟩,fun b hb=>?_,q⟩
      have ge:s1.heap.objs.size<=b:=by
        simp only [List.mem_cons,List.mem_nil_iff,or_false] at hb
        rcases hb with rfl | rfl | rfl | rfl | rfl
        . exact Nat.le_add_right _ 4
        . exact Nat.le_add_right _ 2
        . exact Nat.le_add_right _ 3
        . exact Nat.le_refl _
        . exact Nat.le_add_right _ 1
      exact I1.fpOk ge (I1.hok.fresh ge)
theorem zi_zipG (b1 b2:Bool) {ta:TA} {a b:Expr} {p pos pt:Pos} {elts:List Expr} {x1} (hg:Gl X "zip") (hm:X.mg "zip" = none) (ha:ZA X [a,b] ta) (hs:starEach [a,b] X.env=[(false,eval a X.env),(false,eval b X.env)]:=by rfl) (hs2:starEach [b] X.env=[(false,eval b X.env)]:=by rfl) :
    ZI X (.Tuple elts x1 pt) (.Call (.Name "zip" p) [a,b] [] pos) (iZipG b1 b2 X.K ta):=⟨pi_zipG hg hm ha.out hs hs2⟩
end
end L2
end
namespace D
open PySem L2 K0 Num
open PySem.W (Dat)
section
noncomputable def sqD (b:Bool) (ds:List Dat):Dat:=match b with | true=>.list ds | false=>.tuple ds
theorem dz_sx {W:Addr->Prop} {K:PySem.W.Frag} {H:Hp} {v:V} {b:Bool} {ds:List Dat} (h:Dz (fun a=>¬ W a) K H v (sqD b ds)):∃ a vs,v = .ref a/\SX b K H a vs/\Dzs (fun a=>¬ W a) K H vs ds/\∀ H',Ev W H H'->SX b K H' a vs:=by
  cases b
  . cases h with
    | tup h1 h2=>exact ⟨_,_,rfl,h1,h2,fun H' ev=>ev.tm _ _ _ h1⟩
  . cases h with
    | lst h1 h2 =>
      refine ⟨_,_,rfl,h1.sq,h2,fun H' ev=>?_⟩
      rcases h1 with ⟨nn,h1⟩ | h1
      . exact .inl (h1.imp (ev.keep _ _ nn) fun ⟨o,h⟩=>⟨o,ev.keep _ _ nn h⟩)
      . exact SqN.sq (N:=fun _=>True) (.inr h1)
section
variable {p:Option Addr} {K:PySem.W.Frag} {τ:List Sl} {tas:TA}
theorem Wk.zipG {b1 b2:Bool} {xs ys:List Dat} (h:A1 p K tas τ [.dat (sqD b1 xs),.dat (sqD b2 ys)]) (hl:ys.length=xs.length):Wk p K (iZipG b1 b2 K tas) τ (zipD xs ys):=fun W L σ H R r o q=>h W L σ H _ r o fun vs H1 ss e e1 o1 rv=>by
  subst e
  cases rv with
  | cons a t =>
    cases t with
    | cons b t =>
      cases t
      obtain ⟨a1,x1,rfl,h1,h2,k1⟩:=dz_sx a
      obtain ⟨a2,x2,rfl,h3,h4,k2⟩:=dz_sx b
      refine ⟨a1,a2,rfl,⟨_,h1⟩,⟨_,h3⟩,q _ H1 e1 o1 fun W' H' ev n=>?_⟩
      have g1:=k1 H' ev
      have g3:=k2 H' ev
      have g2:=Dzs.old ev n h2
      have g4:=Dzs.old ev n h4
      have ll:(zipD xs ys).length=xs.length:=by unfold zipD;rw [List.length_zipWith,hl,Nat.min_self]
      refine ⟨⟨_,g1,by rw [g2.len,ll];exact Nat.le_refl _,_,g3⟩,fun i d hd=>?_⟩
      obtain ⟨x,y,ex,ey,rfl⟩:=zipD_get hd
      obtain ⟨vx,ux,zx⟩:=g2.get ex
      obtain ⟨vy,uy,zy⟩:=g4.get ey
      refine ⟨⟨_,_,vx,vy,g1,g3,ux,uy⟩,fun z H2 ⟨a,ha,e,q⟩=>?_⟩
      have:=q _ _ _ _ g1 g3 ux uy
      subst this e
      have s:=Same.new ha (.tup [vx,vy])
      have e:Ev (fun _=>False) H' (upd H' a (.tup [vx,vy])):=Ev.of s
      exact ⟨s,.tup (SqT.of upd_same) (.cons (zx.ev e fun _ _ h=>h) (.cons (zy.ev e fun _ _ h=>h) .nil))⟩
end
end
section
section
variable {p:Option Addr} {K:PySem.W.Frag} {W:Addr->Prop} {H:Hp} {τ:List Sl}
theorem Gd.four {τ' : List Sl} {i1 i2 i3 i4 : Nat} {d1 d2 d3 d4 : Dat} (e : (((τ.set i1 (.dat d1)).set i2 (.dat d2)).set i3 (.dat d3)).set i4 (.dat d4) = τ' := by rfl) : Gd p K (gTup K 4 (gCons (gName i1) (gCons (gName i2) (gCons (gName i3) (gCons (gName i4) gNil))))) (.tuple [d1, d2, d3, d4]) τ τ' := fun W L σ H v Q r zz q => by
  cases zz with
  | tup h1 h2 =>
    cases h2 with
    | cons z1 t =>
      cases t with
      | cons z2 t =>
        cases t with
        | cons z3 t =>
          cases t with
          | cons z4 t =>
            cases t
            obtain ⟨L1,l1,r1⟩:=r.set (s:=.dat d1) (.inr (.inl ⟨d1,rfl,z1⟩)) i1
            obtain ⟨L2,l2,r2⟩:=r1.set (s:=.dat d2) (.inr (.inl ⟨d2,rfl,z2⟩)) i2
            obtain ⟨L3,l3,r3⟩:=r2.set (s:=.dat d3) (.inr (.inl ⟨d3,rfl,z3⟩)) i3
            obtain ⟨L4,l4,r4⟩:=r3.set (s:=.dat d4) (.inr (.inl ⟨d4,rfl,z4⟩)) i4
            rw [e] at r4
            exact ⟨_,_,rfl,h1,rfl,_,_,rfl,_,_,rfl,_,_,rfl,_,_,rfl,rfl,q L4 _ (fun a h=>l1 a (l2 a (l3 a (l4 a h)))) r4⟩
end
noncomputable abbrev Lw (x:Rat):Prop:=Lo 310 x.num x.den x
structure Row3 where
  x:Rat
  y:Rat
  z:Rat
noncomputable def Row3.d (r:Row3):Dat:=ptQ r.x r.y r.z
noncomputable def Row3.lw (r:Row3):Prop:=Lw r.x/\Lw r.y/\Lw r.z
noncomputable def Row3.dot (r s:Row3):Rat:=r.x * s.x + r.y * s.y + r.z * s.z
end
end D
section
namespace L2
open PySem PySem.Spec PyProof.Rows
section
variable {a b c e o:Expr}
end
end L2
namespace D
open PySem L2 K0 Num
open PySem.W (Dat)
section
variable {p:Option Addr} {K:PySem.W.Frag} {W:Addr->Prop} {H:Hp} {τ:List Sl}
end
end D
namespace D
open PySem L2 K0 Num
open PySem.W (Dat)
end D
namespace D
open PySem L2 K0 Num
open PySem.W (Dat)
section
variable {p:Option Addr} {K:PySem.W.Frag} {W:Addr->Prop} {H:Hp} {L:List Addr} {σ:St} {τ:List Sl} {t:TS} {nx:List Sl->Prop} {rt:Sl->Prop}
theorem Rs.less {a:Addr} (r:Rs p W K H L σ τ):a ∉ L->Rs p (fun b=>W b/\b ≠ a) K H L σ τ:=by
  induction r with
  | nil=>exact fun _=>.nil
  | un _ ih=>exact fun h=>.un (ih h)
  | dat h _ ih=>exact fun n=>.dat (h.mono fun _ nb z=>nb z.1) (ih n)
  | pu h _ ih=>exact fun n=>.pu h (ih n)
  | own h1 h2 h3 h4 h5 _ ih=>exact fun n=>.own ⟨h1,fun z=>n (z ▸ List.mem_cons_self)⟩ h2 h3 h4 (h5.mono fun _ nb z=>nb z.1) (ih fun z=>n (List.mem_cons_of_mem _ z))
  | dt h1 h2 h3 h4 _ ih=>exact fun n=>.dt (fun b hb=>⟨h1 b hb,fun z=>n (z ▸ List.mem_append_left _ hb)⟩) h2 h3 (Own.wide _ h4 fun _ _ nb _ z=>nb z.1) (ih fun z=>n (List.mem_append_right _ z))
theorem Rs.frz (r:Rs p W K H L σ τ):∀ {i:Nat} {ds:List Dat},τ[i]?=some (.own ds)->∃ (a:Addr) (L':List Addr),(∀ b,b ∈ L'->b ∈ L)/\a ∈ L/\W a/\p ≠ some a/\(∃ vs,H a=some (.lst vs))/\Rs p (fun b=>W b/\b ≠ a) K H L' σ (τ.set i (.dat (.list ds))):=by
  induction r with
  | nil=>exact fun h=>by simp at h
  | un r ih =>
    intro i ds h
    cases i with
    | zero=>cases h
    | succ i =>
      obtain ⟨a,L',h1,h2,h3,h4,h5,h6⟩:=ih (i:=i) h
      exact ⟨a,L',h1,h2,h3,h4,h5,.un h6⟩
  | dat z r ih =>
    intro i ds h
    cases i with
    | zero=>cases h
    | succ i =>
      obtain ⟨a,L',h1,h2,h3,h4,h5,h6⟩:=ih (i:=i) h
      exact ⟨a,L',h1,h2,h3,h4,h5,.dat (z.mono fun _ nb z=>nb z.1) h6⟩
  | pu z r ih =>
    intro i ds h
    cases i with
    | zero=>cases h
    | succ i =>
      obtain ⟨a,L',h1,h2,h3,h4,h5,h6⟩:=ih (i:=i) h
      exact ⟨a,L',h1,h2,h3,h4,h5,.pu z h6⟩
  | @own L σ τ a vs es h1 h2 h3 h4 h5 r ih =>
    intro i ds h
    cases i with
    | zero =>
      cases h
      exact ⟨a,L,fun b hb=>List.mem_cons_of_mem _ hb,List.mem_cons_self,h1,h2,⟨vs,h4⟩,.dat (.lst (.inl ⟨fun z=>z.2 rfl,.inl h4⟩) (h5.mono fun _ nb z=>nb z.1)) (r.less h3)⟩
    | succ i =>
      obtain ⟨c,L',g1,g2,g3,g4,g5,g6⟩:=ih (i:=i) h
      refine ⟨c,a :: L',fun b hb=>?_,List.mem_cons_of_mem _ g2,g3,g4,g5,.own ⟨h1,fun z=>h3 (z ▸ g2)⟩ h2 (fun z=>h3 (g1 _ z)) h4 (h5.mono fun _ nb z=>nb z.1) g6⟩
      rcases List.mem_cons.mp hb with rfl | hb
      . exact List.mem_cons_self
      . exact List.mem_cons_of_mem _ (g1 _ hb)
  | @dt L l σ τ a o h1 h2 h3 h4 r ih =>
    intro i ds h
    cases i with
    | zero=>cases h
    | succ i =>
      obtain ⟨c,L',g1,g2,g3,g4,g5,g6⟩:=ih (i:=i) h
      refine ⟨c,l ++ L',fun b hb=>?_,List.mem_append_right _ g2,g3,g4,g5,.dt (fun b hb=>⟨h1 b hb,fun z=>h3 b hb (z ▸ g2)⟩) h2 (fun b hb z=>h3 b hb (g1 _ z)) (Own.wide _ h4 fun _ _ nb _ z=>nb z.1) g6⟩
      rcases List.mem_append.mp hb with hb | hb
      . exact List.mem_append_left _ hb
      . exact List.mem_append_right _ (g1 _ hb)
theorem S.frz {i : Nat} {ds : List Dat} {τ' : List Sl} (h : τ[i]? = some (.own ds)) (m : S p K t τ' nx rt) (e : τ.set i (.dat (.list ds)) = τ' := by rfl) : S p K t τ nx rt := fun W L σ H D r o q1 q2 => by
  subst e
  obtain ⟨a,L',h1,h2,h3,h4,⟨vs,h5⟩,h6⟩:=r.frz h
  have keep:∀ {H':Hp},Ev (fun b=>W b/\b ≠ a) H H'->H' a=some (.lst vs):=fun ev=>ev.keep _ _ (fun z=>z.2 rfl) h5
  refine m _ L' σ H D h6 ⟨fun q hq=>⟨(o.pu q hq).1,(o.pu q hq).2,fun z=>h4 (z ▸ hq)⟩,fun b hb=>o.al b hb.1⟩ (fun W' L2 σ' H' τ' n ev ok al wn ln rs=>?_) fun W' H' v s n ev ok al wn rr=>?_
  . refine q1 W' L2 σ' H' τ' n (ev.mono fun _ z=>z.1) ok (fun b hb=>?_) (fun b hb=>(wn b hb).imp (fun z=>z.1) id) (fun b hb=>(ln b hb).imp (h1 b) id) rs
    by_cases z:b=a
    . exact ⟨_,z ▸ keep ev⟩
    . exact al b ⟨hb,z⟩
  . refine q2 W' H' v s n (ev.mono fun _ z=>z.1) ok (fun b hb=>?_) (fun b hb=>(wn b hb).imp (fun z=>z.1) id) ?_
    . by_cases z:b=a
      . exact ⟨_,z ▸ keep ev⟩
      . exact al b ⟨hb,z⟩
    . cases s with
      | own ds' =>
        obtain ⟨a',vs',e1,e2,e3,e4⟩:=rr
        exact ⟨a',vs',e1,e2.imp (h1 _) id,e3,e4⟩
      | dt ds' =>
        obtain ⟨a',vs',e1,e2,e3⟩:=rr
        exact ⟨a',vs',e1,fun b hb=>(e2 b hb).imp (h1 _) id,e3⟩
      | _=>exact rr
end
end D
end
section
namespace HT
open PySem PySem.Spec PyProof.Rows
open MeetsSeq MeetsSeq2 MeetsSeq3
theorem repeat_tuple:seqRepeat? (Value.type "tuple")=pure (some (Value.builtin "tuple.__mul__")):=PyProof.Rows.seqSlot_of F.slot_tuple_mul.lookup (by decide +kernel)
theorem noFill_tuple_mul:fillsNumberSlot (.type "tuple") "mul" = pure false:=PyProof.Rows.fillsNumberSlot_seq (id := "tuple.__mul__") (r:=some (.builtin "tuple.__rmul__")) F.slot_tuple_mul.lookup (by decide +kernel) F.slot_tuple_rmul.lookup (by decide +kernel)
theorem int_rmul_tuple (a:Int) (t:Tok) (l:Addr) (items:Array Value) (n:Nat) (dd:Option Addr) (sl:Array (Option Value)) :
    Meets (Builtin.«int.__rmul__» ⟨[.int a t,.ref l],[]⟩) (fun _ R s=>s.heap.get? l=some { cls:=.type "tuple",dict:=dd,data:=.seq items n,slots:=sl }/\R (.ok (.ret Value.notImplemented)) s) :=
  .of_wp fun prog w A R s h=>by obtain ⟨hp,g,d,tk,os⟩:=s;obtain ⟨hl,h⟩:=h;wp_walk;exact ⟨_,rfl,h⟩
theorem tuple_mulW (l:Addr) (items:Array Value) (n:Nat) (dd:Option Addr) (sl:Array (Option Value)) (x:Int) (u:Tok) (h2:2<=x) (h3:x < 2 ^ 63) (hne:¬ items.isEmpty=true) (hsz:items.size * x.toNat<=sizeLine) :
    Meets (Builtin.«tuple.__mul__» ⟨[.ref l,.int x u],[]⟩) (fun _ R s=>s.heap.get? l=some { cls:=.type "tuple",dict:=dd,data:=.seq items n,slots:=sl }/\R (.ok (.ret (Value.ref s.heap.objs.size))) { s with heap:=s.heap.push { cls:=Value.type "tuple",data:=Data.seq (List.foldl (fun x1 x2=>x1 ++ x2) #[] (List.replicate x.toNat items)) },toks:=s.toks }) :=
  .of_wp fun prog w A R s h=>by
    obtain ⟨hp,g,d,tk,os⟩:=s;obtain ⟨hl,h⟩:=h
    have e1:(items.size:Int) * x=((items.size * x.toNat:Nat):Int):=by push_cast;rw [Int.toNat_of_nonneg (by omega)]
    have c0:¬ (decide (x < -2 ^ 63) || decide (x ≥ 2 ^ 63))=true:=by simp;omega
    have c1:¬ (items.isEmpty || x == 1)=true:=by
      simp only [Bool.or_eq_true,beq_iff_eq,not_or]
      exact ⟨hne,by omega⟩
    have c2:¬ (decide (x<=0) || items.isEmpty)=true:=by
      simp only [Bool.or_eq_true,decide_eq_true_eq,not_or]
      exact ⟨by omega,hne⟩
    have c3:¬ (items.size:Int) * x > (2 ^ 63 - 1) / 8:=by
      rw [e1]
      have:(sizeLine:Nat)<=(2 ^ 63 - 1) / 8:=by decide
      omega
    have c4:¬ Builtin.Tuple.tupleTooMany ((items.size:Int) * x)=true:=by
      unfold Builtin.Tuple.tupleTooMany
      rw [e1]
      simp only [decide_eq_true_eq]
      omega
    have fsz:(List.foldl (fun x1 x2=>x1 ++ x2) #[] (List.replicate x.toNat items)).size<=sizeLine:=by
      have:=L2.foldl_rep items.toList x.toNat []
      rw [List.nil_append] at this
      rw [show (#[]:Array Value)=([]:List Value).toArray from rfl,show items=items.toList.toArray from by simp,this,List.size_toArray,L2.len_rep,Nat.mul_comm]
      simpa using hsz
    have f0:=decide_eq_false c0
    have f1:=decide_eq_false c1
    have f2:=decide_eq_false c2
    have f4:=decide_eq_false c4
    wp_walk
    refine wpAny_ite_false f0 ?_
    wp_walk
    refine wpAny_ite_false f1 ?_
    wp_walk
    refine wpAny_ite_false f2 ?_
    wp_walk
    refine wpAny_ite_false (decide_eq_false c3) ?_
    wp_walk
    refine wpAny_ite_false f4 ?_
    wp_walk
    exact ⟨_,rfl,h⟩
end HT
namespace L2
open PySem PySem.Spec PyProof.Rows
noncomputable def rRepT (K:PySem.W.Frag):R2:=fun x y H Q=>∃ a k xs,x = .ref a/\y = .int k/\SqT K H a xs/\xs ≠ []/\2<=k/\k < 2 ^ 63/\xs.length * k.toNat<=sizeLine/\∀ p,H p=none->Q (.ref p) (upd H p (.tup (List.replicate k.toNat xs).flatten))
theorem op_repT {X:Cx}:OpR X (binaryOp .Mult) (rRepT X.K):=by
  intro pins s σ H x y v u Q I rx ry h
  obtain ⟨a,k,xs,rfl,rfl,ha,hx,h1,h2,hz,q⟩:=h
  cases rx
  obtain ⟨t,rfl⟩:=ry
  obtain ⟨its,r1,p1,_⟩:=I.tuple ha
  obtain ⟨⟨cls,dd,data,sl⟩,ho,hc,n,hd⟩:=id p1
  simp only at hc hd
  subst hc hd
  have hlen:its.toArray.size * k.toNat<=sizeLine:=by rw [List.size_toArray, <- r1.length];exact hz
  have hne:¬ its.toArray.isEmpty=true:=by
    intro z
    apply hx
    exact r1.nil_iff.mp (by simpa using z)
  have hnew:List.foldl (fun x1 x2=>x1 ++ x2) #[] (List.replicate k.toNat its.toArray)=(List.replicate k.toNat its).flatten.toArray:=by
    have:=foldl_rep its k.toNat []
    rw [List.nil_append] at this
    exact this
  refine wpAny_binaryOp_repeat_ref (T := "tuple") (U := "int") (by decide) ⟨_,ho,rfl⟩ (fun s'=>typeIs_int s' k t) HT.noFill_tuple_mul F.fills_int_mul F.slot_int_rmul HT.repeat_tuple F.slot_int_index.lookup
    (call_meets F.slot_int_rmul (typeIs_int s k t) F.entry_int_rmul (F.args_int_rmul_2 _ _) (HT.int_rmul_tuple k t a its.toArray n dd sl)
      ⟨ho,rfl,⟨_,ho,rfl⟩,call_meets F.slot_tuple_mul ⟨_,ho,rfl⟩ F.entry_tuple_mul (F.args_tuple_mul_2 _ _) (HT.tuple_mulW a its.toArray n dd sl k t h1 h2 hne hlen) ⟨ho,?_⟩⟩)
  rw [hnew]
  refine ⟨.ref s.heap.objs.size,_,I.laid (t':=s.toks) (o:=.tup (List.replicate k.toNat xs).flatten) (fun b ob q=>Heap.get?_push_of_some _ q) (Nat.le_refl _) ?_,rfl,q _ (I.hok.fresh (Nat.le_refl _))⟩
  exact ⟨by rw [len_rep,Nat.mul_comm];exact hz,_,r1.rep k.toNat,IsTup.new _ _⟩
end L2
namespace D
open PySem L2 K0 Num
open PySem.W (Dat)
section
variable {p:Option Addr} {K:PySem.W.Frag} {W:Addr->Prop} {H H0:Hp} {τ:List Sl} {tas:TA} {te ta tb:TE}
theorem Dzs.rep {N:Addr->Prop} {vs:List V} {ds:List Dat} (h:Dzs N K H vs ds):∀ n:Nat,Dzs N K H (List.replicate n vs).flatten (List.replicate n ds).flatten
  | 0=>.nil
  | n + 1=>by
    rw [List.replicate_succ,List.replicate_succ,List.flatten_cons,List.flatten_cons]
    exact h.app (Dzs.rep h n)
end
end D
namespace K0
open PySem L2
noncomputable def spMixed4:Sp:=fun vs H Q _=>∃ (c k:Int),vs=[.int c,.int k]/\Builtin.Int.intBits c<=2 ^ 20/\0<=k/\k<=200/\∀ d,0<=d->d < 2147483587->Q (.int d) H
end K0
namespace D
open PySem L2 K0 Num
open PySem.W (Dat)
section
variable {p:Option Addr} {K:PySem.W.Frag} {W:Addr->Prop} {H H0:Hp} {τ:List Sl} {tas:TA} {te ta tb:TE}
noncomputable def AL (p:Option Addr) (K:PySem.W.Frag) (tas:TA) (τ:List Sl) (n:Nat) (P:Int->Prop):Prop:=A p K tas τ (fun ss=>∃ ns:List Int,ss=ns.map (fun i=>.dat (.int i))/\ns.length=n/\∀ m ∈ ns,P m)
theorem AL.nil {P:Int->Prop}:AL p K tNil τ 0 P:=fun W L σ H Q rs o q=>A1.nil W L σ H Q rs o fun vs H' ss e=>q vs H' ss ⟨[],e.symm,rfl,fun m h=>by simp at h⟩
theorem AL.cons {P:Int->Prop} {n:Nat} (h:EI p K te τ P) (t:AL p K tas τ n P):AL p K (tCons te tas) τ (n + 1) P :=
  A.cons (C1:=fun s=>∃ i,s = .dat (.int i)/\P i) h (fun _ _=>t) fun s ss ⟨i,e,hi⟩ ⟨ns,e2,l,hn⟩=>⟨i :: ns,by rw [e,e2];rfl,by rw [List.length_cons,l],fun m hm=>by
    rcases List.mem_cons.mp hm with rfl | hm
    . exact hi
    . exact hn m hm⟩
theorem EL.li {P:Int->Prop} {n:Nat} (h:AL p K tas τ n P) (hz:n<=sizeLine):EL p K (tLst tas) τ n P:=fun W L σ H Q rs o q=>by
  refine h W L σ H _ rs o fun vs H1 ss ⟨ns,e,l,hn⟩ e1 o1 rv=>?_
  subst e
  have z:Dzs (fun a=>¬ W a) K H1 vs (ns.map .int):=by
    have:ns.map (fun i=>Sl.dat (.int i))=(ns.map Dat.int).map Sl.dat:=by rw [List.map_map];rfl
    rw [this] at rv
    exact rv.dats
  refine ⟨by rw [z.len,List.length_map,l];exact hz,fun r hr=>?_⟩
  have s:=Same.new hr (.lst vs)
  exact q _ _ _ ⟨ns,rfl,l,hn⟩ (e1.trans (Ev.of s)) (o1.same s) ⟨r,vs,rfl,o1.back e1 hr,upd_same,z.ev (W:=fun _=>False) (Ev.of s) fun _ _ z=>z⟩
theorem EI.pickC {P D:Int->Prop} {n:Nat} (hl:EL p K ta τ n P) (hd:EI p K tb τ D) (hp:∀ d,D d->0<=d/\d < (n:Int)):EI p K (tOp (rIxL K) ta tb) τ P :=
  E.op2 (B:=fun _=>True) (A:=fun s=>∃ ns:List Int,s = .own (ns.map .int)/\ns.length=n/\∀ m ∈ ns,P m) (B':=fun _ s=>∃ i,s = .dat (.int i)/\D i) hl (fun _ _=>hd) fun s t ⟨ns,e,l,hn⟩ ⟨i,e2,hi⟩ W H0 H x y Q o0 o r1 r2 q=>by
    subst e e2
    cases r2.int_inv
    obtain ⟨a,vs,rfl,h0,h1,h2⟩:=r1
    have ev:=h2.inv
    subst ev
    obtain ⟨i0,i1⟩:=hp i hi
    obtain ⟨m,hm,e3⟩:=at_draw (ms:=ns) i0 (by rw [l];exact i1)
    exact ⟨a,_,i,_,rfl,rfl,SqL.of h1,e3,q _ H _ ⟨m,rfl,hn m hm⟩ Ev.refl o (.int _)⟩
end
noncomputable def RNum (b:Nat):List Dat->(Dat->Prop)->Prop:=fun ds C=>ds=[]/\C=fun d=>∃ n:Int,d = .int n/\n.natAbs<=b
end D
end
namespace D
open PySem L2 K0 Num
open PySem.W (Dat)
section
section
variable {p:Option Addr} {K:PySem.W.Frag} {W:Addr->Prop} {L:List Addr} {σ:St} {H H1 H2:Hp} {τ:List Sl} {tb te:TE} {v:V} {s:Sl} {nx:List Sl->Prop} {rt:Sl->Prop} {t:TS} {ds:List Dat} {wi:TI}
noncomputable def WkC (p:Option Addr) (K:PySem.W.Frag) (wi:TI) (τ:List Sl) (DD:List Dat->Prop):Prop:=∀ (W:Addr->Prop) (L:List Addr) (σ:St) (H:Hp) (R:It->Hp->Prop),Rs p W K H L σ τ->Ok p W H->(∀ J H1 ds,DD ds->Ev (Pp p) H H1->Ok p W H1->Jd W K J H1 ds->R J H1)->wi σ H R
theorem WkC.rng {P:Int->Prop} (h:EI p K te τ P) (hp:∀ j,P j -> -(2 ^ 62)<=j/\j < 2 ^ 62):WkC p K (iRng1 (tCons te tNil)) τ (fun ds=>∃ j,P j/\ds=rangeD 0 j.toNat):=fun W L σ H R r o q=>by
  refine h W L σ H _ r o fun v H1 s ⟨j,e,hj⟩ e1 o1 rv=>?_
  subst e
  cases rv.int_inv
  exact ⟨j,rfl,(hp j hj).1,(hp j hj).2,q _ H1 _ ⟨j,hj,rfl⟩ e1 o1 jd_rng⟩
theorem S.forC {g:TG} {tb:TS} {DD:List Dat->Prop} (hw:WkC p K wi τ DD) (m:∀ ds,DD ds->∃ I:Nat->List Sl->Prop,I 0 τ/\(∀ i d τ1,ds[i]?=some d->I i τ1->∃ τ2,Gd p K g d τ1 τ2/\S p K tb τ2 (I (i + 1)) rt)/\∀ τ1,I ds.length τ1->nx τ1):S p K (tFor wi g tb) τ nx rt:=fun W L σ H D r o q1 q2=>by
  refine hw W L σ H _ r o fun J H1 ds hD e1 o1 jd=>?_
  obtain ⟨I,h0,turn,done⟩:=m ds hD
  have ew:=e1.ofP o
  have hn:∀ a,H1 a=none->H a=none:=fun a ha=>ew.none o1.al ha
  refine ⟨fun i m σ' H'=>m=ds.length - i/\i<=ds.length/\∃ (W':Addr->Prop) (L':List Addr) (τ1:List Sl),I i τ1/\Ev W H1 H'/\Ok p W' H'/\(∀ a,W a->∃ ys,H' a=some ys)/\(∀ a,W' a->W a\/H1 a=none)/\(∀ a,a ∈ L'->a ∈ L\/H1 a=none)/\Rs p W' K H' L' σ' τ1,
    ⟨ds.length,by omega,Nat.zero_le _,W,L,τ,h0,Ev.refl,o1,o1.al,fun _ h=>.inl h,fun _ h=>.inl h,r.ev e1 o.pw⟩,?_⟩
  rintro i m σ' H' ⟨rfl,hi,W',L',τ1,hI,ev,ok,al,nn,ll,rs⟩
  obtain ⟨stop,each⟩:=jd W' H' ev nn
  by_cases hlt:i < ds.length
  . have hd:ds[i]?=some ds[i]:=by simp [hlt]
    obtain ⟨go,yl⟩:=each i _ hd
    obtain ⟨τ2,hg,hb⟩:=turn i _ τ1 hd hI
    refine .inr ⟨go,fun σ'' H''=>ds.length - (i + 1)=ds.length - (i + 1)/\i + 1<=ds.length/\∃ (W':Addr->Prop) (L':List Addr) (τ1:List Sl),I (i + 1) τ1/\Ev W H1 H''/\Ok p W' H''/\(∀ a,W a->∃ ys,H'' a=some ys)/\(∀ a,W' a->W a\/H1 a=none)/\(∀ a,a ∈ L'->a ∈ L\/H1 a=none)/\Rs p W' K H'' L' σ'' τ1,fun σ'' H'' h=>⟨_,by omega,h⟩,fun x H2 y=>?_⟩
    obtain ⟨s2,z2⟩:=yl x H2 y
    have e2:Ev (Pp p) H' H2:=Ev.of s2
    have o2:=ok.same s2
    have ev2:Ev W H1 H2:=ev.trans (Ev.of s2)
    have al2:∀ a,W a->∃ ys,H2 a=some ys:=fun a ha=>let ⟨ys,h⟩:=al a ha;⟨ys,s2 _ _ h⟩
    have hn2:∀ a,H2 a=none->H1 a=none:=fun a ha=>ev2.none al2 ha
    refine hg W' L' σ' H2 x _ (rs.ev e2 ok.pw) z2 fun L3 σ3 l3 rs3=>?_
    refine hb W' L3 σ3 H2 _ rs3 o2 (fun W4 L4 σ4 H4 τ4 c e4 o4 w4 n4 l4 r4=>?_) (fun W4 H4 v s c e4 o4 w4 n4 rv=>?_)
    . exact ⟨rfl,hlt,W4,L4,τ4,c,ev2.chain e4 nn,o4,al_chain al2 w4 e4,fun a ha=>(n4 a ha).elim (nn a) fun z=>.inr (hn2 a z),fun a ha=>(l4 a ha).elim (fun z=>ll a (l3 a z)) fun z=>.inr (hn2 a z),r4⟩
    . have nn':∀ a,W' a->W a\/H a=none:=fun a ha=>(nn a ha).imp id (hn a)
      refine q2 W4 H4 v s c ((ew.trans ev2).chain e4 nn') o4 (al_chain al2 w4 e4) (fun a ha=>(n4 a ha).elim (nn' a) fun z=>.inr (hn a (hn2 a z))) (rv.base (fun a z=>hn a (hn2 a z)) fun a ha=>?_)
      exact (ll a (l3 a ha)).imp id (hn a)
  . have e:i=ds.length:=by omega
    subst e
    exact .inl ⟨stop,q1 W' L' σ' H' τ1 (done τ1 hI) (ew.trans ev) ok al (fun a ha=>(nn a ha).imp id (hn a)) (fun a ha=>(ll a ha).imp id (hn a)) rs⟩
end
theorem first_at':∀ {ns:List Int},(∃ n ∈ ns,n ≠ 0)->(ns.filter (fun n => !decide (n=0)))[0]?=some (fst0 ns)
  | [],h=>by obtain ⟨n,hn,_⟩:=h;simp at hn
  | n :: r, h => by
    unfold fst0
    by_cases z:n=0
    . subst z
      rw [if_pos rfl,List.filter_cons_of_neg (by simp)]
      refine first_at' ?_
      obtain ⟨m,hm,m0⟩:=h
      rcases List.mem_cons.mp hm with rfl | hm
      . exact absurd rfl m0
      . exact ⟨m,hm,m0⟩
    . rw [if_neg z,List.filter_cons_of_pos (by simpa using z)];rfl
noncomputable def RPl:List Dat->Dat->Prop:=fun ds d=>∃ ns:List Int,ds=[tI ns]/\ns.length<=1000/\(∃ n ∈ ns,n ≠ 0)/\Sm ns/\d=tI (pl ns)
noncomputable def F4 (b:Nat) (f:List Int):Prop:=f.length=4/\(∃ n ∈ f,n ≠ 0)/\Bd (2 ^ b) f
theorem F4.up {b c:Nat} {f:List Int} (h:F4 b f) (hc:b<=c):F4 c f:=⟨h.1,h.2.1,bd_mono h.2.2 (Nat.pow_le_pow_right (by decide) hc)⟩
noncomputable def RMk:List Dat->Dat->Prop:=fun ds d=>∃ t b:Int,ds=[.int t,.int b]/\0 < b/\Bt b 8000/\d=tI (fr t b)
noncomputable def rb (ns ms:List Int):List Int:=fr (sop ns ms * sop ns ms) (nrm ns * nrm ms)
end
noncomputable def nd (kind:Int):Nat:=if kind=0 then 1 else if kind=4 then 3 else 2
noncomputable def pw (ns:List Int):Nat->List Int
  | 0=>ns
  | k + 1=>qm ns (pw ns k)
section
end
noncomputable def tn (ns:List Int):Nat->List Int
  | 0=>[1,0,0,0]
  | k + 1=>pl (pw ns k)
end D
section
namespace L2
open PySem PySem.Spec PyProof.Rows
section
variable {X:Cx}
theorem zs_never {st:Stmt}:ZS X st tNever:=⟨ps_never⟩
end
end L2
end
section
namespace L2
open PySem PySem.Spec PyProof.Rows
section
end
end L2
namespace D
open PySem L2 K0 Num
open PySem.W (Dat)
section
variable {p:Option Addr} {K:PySem.W.Frag} {W:Addr->Prop} {H:Hp} {τ:List Sl} {te:TE}
theorem S.drop {nx:List Sl->Prop} {rt:Sl->Prop} {s:Sl} (h:E1 p K te τ s) (m:nx τ):S p K (tDrop te) τ nx rt:=fun W L σ H Dn r o q1 q2=>h W L σ H _ r o fun v H' s c e o' rv=>q1 W L σ H' τ m (e.ofP o) o' o'.al (fun _ h=>.inl h) (fun _ h=>.inl h) (r.ev e o.pw)
theorem S.dropS {nx:List Sl->Prop} {rt:Sl->Prop} {s:Sl} {u:TS} (h:E1 p K te τ s) (m:S p K u τ nx rt):S p K (tSeq (tDrop te) u) τ nx rt:=S.seq (M:=fun τ'=>τ'=τ) (S.drop h rfl) fun τ' e=>by subst e;exact m
end
end D
end
section
namespace L2
open PySem PySem.Spec PyProof.Rows
section
noncomputable abbrev zs (h:Heap) (sx:Str) (t:Tok):Heap:=h.push { cls:=.type "str_ascii_iterator",data:=.fields #[.str sx t,.int 0 0] }
end
section
end
end L2
end
section
namespace L2
open PySem PySem.Spec PyProof.Rows
section
end
end L2
namespace D
open PySem L2 K0 Num
open PySem.W (Dat)
section
end
noncomputable def hg (i j k:Nat):Str:=⟨#[120 + i,120 + j,120 + k]⟩
noncomputable def w1 (i:Nat):Int:=if i=0 then 1 else 0
noncomputable def w2 (i:Nat):Int:=if i=1 then 1 else 0
noncomputable def w3 (i:Nat):Int:=if i=2 then 1 else 0
noncomputable def hu (f g h:List Int):List Int:=pl (qm f (qm g h))
section
variable {f g h:List Int}
end
end D
end
section
namespace L2
open PySem PySem.Spec PyProof.Rows
section
end
end L2
namespace D
open PySem L2 K0 Num
open PySem.W (Dat)
section
end
noncomputable def places:List (Str × Int):=[("x",1),("y",2),("z",3)]
noncomputable def hd (i j:Nat):Int:=if (i + 1) % 3=j then 1 else -1
noncomputable def le3 (i j k:Nat):Int:=if i=k then 0 else hd i j
end D
end
namespace D
open PySem L2 K0 Num
open PySem.W (Dat)
theorem nz2 {k l:Int} (h:k ≠ 0\/l ≠ 0):∃ n ∈ [l,k],n ≠ 0:=by
  rcases h with h | h
  . exact ⟨k,by simp,h⟩
  . exact ⟨l,by simp,h⟩
noncomputable def lea (i j k:Nat) (m n:Int):List Int:=ps (m * 1 + n * le3 i j k) (n * 1 - m * le3 i j k)
noncomputable def fstS (p q r s m n:Int):Int × Int:=if p * m + r * n=0/\q * m + s * n=0 then (p * m * 0 + q * m * 1,q * m * 0 - p * m * 1) else (p * m + r * n,q * m + s * n)
noncomputable def sby (i j k:Nat) (p q r s m n:Int):Dat:=.tuple [tI (ps (fstS p q r s m n).1 (fstS p q r s m n).2),tI (lea i j k m n),tI (ps (p * m * (fstS p q r s m n).2 + q * m * -(fstS p q r s m n).1) (q * m * (fstS p q r s m n).2 - p * m * -(fstS p q r s m n).1))]
noncomputable def rowD (x:List (List Int)):Dat:=.tuple (x.map tI)
section
end
noncomputable def sbyR (i j k:Nat) (p q r s m n:Int):List (List Int):=[ps (fstS p q r s m n).1 (fstS p q r s m n).2,lea i j k m n,ps (p * m * (fstS p q r s m n).2 + q * m * -(fstS p q r s m n).1) (q * m * (fstS p q r s m n).2 - p * m * -(fstS p q r s m n).1)]
theorem sby_row {i j k:Nat} {p q r s m n:Int}:sby i j k p q r s m n=rowD (sbyR i j k p q r s m n):=rfl
section
noncomputable def Pu3 (N:Nat) (H:Hp) (q:Addr):Prop:=∃ x c n:Int,H q=some (.lst [.int x,.int c,.int n])/\0<=n/\n<=N
structure P3 (q:Addr) (ip N:Nat) (W:Addr->Prop) (L:List Addr) (σ:St) (H:Hp):Prop where
  wq:W q
  lq:q ∉ L
  sq:σ[ip]?=some (some (.ref q))
  pu:Pu3 N H q
section
variable (q:Addr) (ip N M:Nat) (K:PySem.W.Frag)
noncomputable def A2 (ta:TA) (τ:List Sl) (C:List Sl->Prop):Prop:=∀ (W:Addr->Prop) (L:List Addr) (σ:St) (H:Hp) (Q:List V->Hp->Prop),Rs none W K H L σ τ->Ok none W H->P3 q ip N W L σ H->(∀ vs H' ss,C ss->Ev (fun a=>a=q) H H'->Ok none W H'->Pu3 M H' q->Rvs none W K H H' vs ss->Q vs H')->ta σ H Q
noncomputable def T2 (tt:TT) (τ:List Sl) (C:Bool->Prop):Prop:=∀ (W:Addr->Prop) (L:List Addr) (σ:St) (H:Hp) (Q:Bool->Hp->Prop),Rs none W K H L σ τ->Ok none W H->P3 q ip N W L σ H->(∀ b H',C b->Ev (fun a=>a=q) H H'->Ok none W H'->Pu3 M H' q->Q b H')->tt σ H Q
noncomputable def S2 (ts:TS) (τ:List Sl) (nx:List Sl->Prop) (rt:Sl->Prop):Prop:=∀ (W:Addr->Prop) (L:List Addr) (σ:St) (H:Hp) (D:Ends),Rs none W K H L σ τ->Ok none W H->P3 q ip N W L σ H ->
  (∀ (W':Addr->Prop) (L':List Addr) σ' H' τ',nx τ'->Ev W H H'->Ok none W' H'->(∀ a,W a->∃ ys,H' a=some ys)->(∀ a,W' a->W a\/H a=none)->(∀ a,a ∈ L'->a ∈ L\/H a=none)->Rs none W' K H' L' σ' τ'->P3 q ip M W' L' σ' H'->D.nx σ' H') ->
  (∀ (W':Addr->Prop) H' v s,rt s->Ev W H H'->Ok none W' H'->(∀ a,W a->∃ ys,H' a=some ys)->(∀ a,W' a->W a\/H a=none)->Rr none W' K L H H' v s->Pu3 M H' q->D.rt v H')->ts D σ H
end
section
variable {q:Addr} {ip N M:Nat} {K:PySem.W.Frag} {W:Addr->Prop} {L:List Addr} {σ:St} {H H':Hp} {τ τ':List Sl} {ta:TE} {v:V} {s:Sl} {nx:List Sl->Prop} {rt:Sl->Prop} {tt:TT}
end
end
end D
section
namespace L2
open PySem PySem.Spec PyProof.Rows
noncomputable def TupT (K:PySem.W.Frag) (d:Addr) (ks:List Int):Prop:=∃ o its n,K.lookup d=some o/\o.cls = .type "tuple" /\ o.data = .seq its n/\its.size<=sizeLine/\Vals (ks.map V.int) its.toList
noncomputable def TupTAt (K:PySem.W.Frag) (x:Str) (ks:List Int):Prop:=∃ d,PySem.W.nsIn K mainGlobals x=some (some (.ref d))/\TupT K d ks
theorem TupTAt.get {K:PySem.W.Frag} {x:Str} {ks:List Int} {h:Heap} {mg:Str->Option Value} (t:TupTAt K x ks) (Y:K.In h) (G:h.Ns mainGlobals mg):∃ d,mg x=some (.ref d)/\TupT K d ks:=by
  obtain ⟨d,a,t⟩:=t
  exact ⟨d,PySem.W.mg_of Y G a,t⟩
theorem TupTAt.four {K:PySem.W.Frag} {x:Str} {d:Addr} {o:Obj} {p q r s:Int} {t1 t2 t3 t4:_} {n:Nat} (a:PySem.W.nsIn K mainGlobals x=some (some (.ref d))) (l:K.lookup d=some o) (c:o.cls = .type "tuple") (e:o.data = .seq #[.int p t1,.int q t2,.int r t3,.int s t4] n):TupTAt K x [p,q,r,s] :=
  ⟨d,a,o,_,n,l,c,e,(show 4<=sizeLine by decide),.cons ⟨_,rfl⟩ (.cons ⟨_,rfl⟩ (.cons ⟨_,rfl⟩ (.cons ⟨_,rfl⟩ .nil)))⟩
end L2
namespace D
open PySem L2 K0 Num
open PySem.W (Dat)
section
variable {p:Option Addr} {q:Addr} {ip N M:Nat} {K:PySem.W.Frag} {W:Addr->Prop} {L:List Addr} {σ:St} {H H1:Hp} {τ:List Sl} {s:Sl} {t:TS} {ds:List Dat} {wi:TI}
theorem E1.gT {d:Addr} {ks:List Int} (h:TupT K d ks):E1 p K (tC (.ref d)) τ (.dat (tI ks)):=fun W L σ H Q rs o k=>by
  obtain ⟨ob,its,n,h1,h2,h3,h4,h5⟩:=h
  exact k _ H _ rfl Ev.refl o (.tup (.inr ⟨ob,its,n,h1,h2,h3,h4,h5⟩) (Dzs.ints _))
noncomputable def W2 (q:Addr) (ip N M:Nat) (K:PySem.W.Frag) (wi:TI) (τ:List Sl) (P:List Dat->Prop):Prop:=∀ (W:Addr->Prop) (L:List Addr) (σ:St) (H:Hp) (R:It->Hp->Prop),Rs none W K H L σ τ->Ok none W H->P3 q ip N W L σ H->(∀ ds J H1,P ds->Ev (fun a=>a=q) H H1->Ok none W H1->Pu3 M H1 q->Jd W K J H1 ds->R J H1)->wi σ H R
end
end D
end
namespace D
open PySem L2 K0 Num
open PySem.W (Dat)
section
section
variable {k:Nat}
theorem ps_unit {k l:Int} (h:k ≠ 0\/l ≠ 0):∃ w x y:Int,w ≠ 0/\ps k l=[x,y]/\k=w * x/\l=w * y:=by
  refine ⟨unit [l,k],_,_,unit_ne (nz2 h),rfl,?_,?_⟩
  . exact (Int.mul_ediv_cancel' (unit_dvd (by simp))).symm
  . exact (Int.mul_ediv_cancel' (unit_dvd (by simp))).symm
end
end
noncomputable def n4 (a b c e:Int):Int:=a * a + b * b + c * c + e * e
end D
section
namespace HT
open PySem PySem.Spec PyProof.Rows PySem.Builtin
section
variable {prog:Program} {w:World} {A:Around} {E:Value->Shared->Prop} {s:Shared}
theorem sliceApplied_rev {sl:Addr} {t:Tok} {n:Nat} {Q:Int × Int × Nat->Shared->Prop} (hs:s.heap.IsSliceOf sl .none .none (.int (-1) t))
    (h:Q ((n:Int) - 1, -1,n) s):wpAny (model prog w) A (Builtin.Slice.sliceApplied (.ref sl) (pure (n:Int))) Q E s:=by
  obtain ⟨os,hos,hcs,hds⟩:=id hs
  unfold Builtin.Slice.sliceApplied Builtin.Slice.sliceFields
  refine wpAny_bind (wpAny_bind (wpAny_field hos hds (x:=.none) rfl (wpAny_bind (wpAny_field hos hds (x:=.none) rfl (wpAny_bind (wpAny_field hos hds (x:=.int (-1) t) rfl (wpAny_pure ?_)))))))
  refine wpAny_bind (slicePart_int ?_)
  show wpAny _ _ (if ((-1:Int) == 0)=true then _ else _) _ _ s
  rw [if_neg (by decide)]
  refine wpAny_bind (slicePart_none (wpAny_bind (slicePart_none (wpAny_bind (wpAny_pure ?_)))))
  show wpAny _ _ (match Builtin.Slice.sliceAdjust none none (-1) (n:Int) with | (lo,hi)=>pure (lo,(-1:Int),Builtin.Slice.slicePlaces lo hi (-1))) _ _ s
  have e1:Builtin.Slice.sliceAdjust none none (-1) (n:Int)=((n:Int) - 1, -1):=by
    unfold Builtin.Slice.sliceAdjust
    simp
  have e2:Builtin.Slice.slicePlaces ((n:Int) - 1) (-1) (-1)=n:=by
    unfold Builtin.Slice.slicePlaces
    simp
    split <;> omega
  rw [e1]
  show wpAny _ _ (pure ((n:Int) - 1,(-1:Int),Builtin.Slice.slicePlaces ((n:Int) - 1) (-1) (-1))) _ _ s
  rw [e2]
  exact wpAny_pure h
theorem pick_rev (xs:Array Value):((List.range xs.size).filterMap fun (m:Nat)=>xs[(((xs.size:Int) - 1) + (m:Int) * (-1)).toNat]?).toArray=xs.toList.reverse.toArray:=by
  congr 1
  have e:∀ m ∈ List.range xs.size,(fun (m:Nat)=>xs[(((xs.size:Int) - 1) + (m:Int) * (-1)).toNat]?) m=(fun m=>xs.toList.reverse[m]?) m:=by
    intro m hm
    have hm:=List.mem_range.mp hm
    have:(((xs.size:Int) - 1) + (m:Int) * (-1)).toNat=xs.size - 1 - m:=by omega
    show xs[(((xs.size:Int) - 1) + (m:Int) * (-1)).toNat]?=xs.toList.reverse[m]?
    rw [this,List.getElem?_reverse (by simpa using hm)]
    simp
  have go:∀ (l:List Value),(List.range l.length).filterMap (fun m=>l[m]?)=l:=by
    intro l
    induction l with
    | nil=>rfl
    | cons a l ih =>
      rw [List.length_cons,List.range_succ_eq_map,List.filterMap_cons]
      simp only [List.getElem?_cons_zero]
      rw [List.filterMap_map]
      congr 1
  have fc:∀ (l:List Nat) (f g:Nat->Option Value),(∀ m ∈ l,f m=g m)->l.filterMap f=l.filterMap g:=by
    intro l f g
    induction l with
    | nil=>intro _;rfl
    | cons a l ih =>
      intro h
      rw [List.filterMap_cons,List.filterMap_cons,h a List.mem_cons_self,ih fun m hm=>h m (List.mem_cons_of_mem _ hm)]
  rw [fc _ _ _ e]
  have:=go xs.toList.reverse
  rw [List.length_reverse] at this
  simpa using this
theorem getItem_tuple_rev {t sl:Addr} {items:Array Value} {tk:Tok} {Q:Value->Shared->Prop} (ht:IsTup s.heap t items) (hs:s.heap.IsSliceOf sl .none .none (.int (-1) tk))
    (h:Q (.ref s.heap.objs.size) { s with heap:=s.heap.push { cls:=.type "tuple",data:=.seq items.toList.reverse.toArray } })
    (hsz:items.size<=sizeLine):wpAny (model prog w) A (getItem (.ref t) (.ref sl)) Q E s:=by
  have htake:sizeOk (.seq items.toList.reverse.toArray):=by
    show items.toList.reverse.toArray.size<=sizeLine
    rw [List.size_toArray,List.length_reverse,Array.length_toList]
    exact hsz
  obtain ⟨os,hos,hcs,hds⟩:=id hs
  have hTs:s.TypeIs (.ref sl) "slice" := ⟨os,hos,hcs⟩
  unfold getItem
  try with_reducible refine wpAny_holding ?_
  first | refine wpAny_bind (wpAny_pure ?_) | skip
  refine wpAny_bind (wpAny_sequenceKey ht.typeIs (by decide) ?_)
  refine wpAny_bind (wpAny_callSpecial?_slot (name:=Str.ofString "__getitem__") ht.typeIs PyProof.Rows.slot_tuple_getitem
    (wpAny_call_entry PyProof.Rows.slot_tuple_getitem ht.typeIs entry_tuple_getitem ?_ (args_tuple_getitem _ _)))
  show wpAny _ _ (Builtin.Tuple.tupleItemsOf (.ref t) >>= _) _ _ s
  refine wpAny_bind (tupleItemsOf_ ht ?_)
  refine wpAny_bind (wpAny_typeOf hTs ?_)
  rw [if_pos (by decide)]
  refine wpAny_bind (sliceApplied_rev hs ?_)
  have hno:¬ ((((items.size:Int) - 1) == 0 && (-1:Int) == 1 && items.size == items.size)=true):=by
    intro q
    rw [Bool.and_eq_true,Bool.and_eq_true] at q
    exact absurd q.1.2 (by decide)
  show wpAny _ _ (if (((items.size:Int) - 1) == 0 && (-1:Int) == 1 && items.size == items.size)=true then _ else _) _ _ s
  rw [if_neg hno,pick_rev]
  first
    | exact wpAny_bind (m:=Builtin.Tuple.tupleExact _) (wpAny_newObj_type (wpAny_pure ⟨_,rfl,wpAny_pure h⟩) htake)
    | exact wpAny_bind (m:=Builtin.Tuple.tupleExact _) (wpAny_newObj_type (wpAny_bind (wpAny_pure (wpAny_pure ⟨_,rfl,wpAny_pure h⟩))) htake)
    | exact wpAny_bind (wpAny_bind (m:=Builtin.Tuple.tupleExact _) (wpAny_newObj_type (wpAny_pure (wpAny_pure ⟨_,rfl,wpAny_pure h⟩)) htake))
    | exact wpAny_bind (wpAny_bind (m:=Builtin.Tuple.tupleExact _) (wpAny_newObj_type (wpAny_pure ⟨_,rfl,wpAny_pure h⟩) htake))
end
end HT
namespace L2
open PySem PySem.Spec PyProof.Rows
section
variable {X:Cx} {e st:Expr} {te ts:TE} {p2 pos:Pos}
noncomputable def tRev (r:V->Hp->VK->Prop) (te ts:TE):TE:=fun σ H Q=>te σ H fun x H1=>ts σ H1 fun y H2=>y = .int (-1)/\r x H2 Q
noncomputable def rRevT (K:PySem.W.Frag):V->Hp->VK->Prop:=fun x H Q=>∃ a xs,x = .ref a/\SqT K H a xs/\∀ p,H p=none->Q (.ref p) (upd H p (.tup xs.reverse))
theorem ze_revT (he:ZE X e te) (hs:ZE X st ts) (ht:∀ o r,letTemporaryGo e o r=pure ():=by intro _ _;rfl):ZE X (.Subscript e (.Slice none none (some st) p2) pos) (tRev (rRevT X.K) te ts):=⟨by
  intro pins s σ H Q I h
  refine wpAny_Subscript_Slice_step (T := "tuple") PyProof.Rows.slot_tuple_getitem.lookup (thn (he.out pins s σ H _ I h) fun v s1 ⟨x,H1,I1,r1,q1⟩=>?_) ht
  refine wpAny_Slice ?_
  rw [evalPart_none]
  refine wpAny_pure (wpAny_pure ?_)
  rw [evalPart_some]
  refine thn (hs.out pins s1 σ H1 _ I1 q1) fun vs s2 ⟨y,H2,I2,r2,e2,q2⟩=>?_
  subst e2
  obtain ⟨t,rfl⟩:=r2
  obtain ⟨a,xs,rfl,hx,q⟩:=q2
  cases r1
  have I4:Inv X pins σ H2 { s2 with heap:=s2.heap.push { cls:=.type "slice",data:=.fields #[.none,.none,.int (-1) t] } }:=I2.kept (t':=s2.toks) fun b ob q=>Heap.get?_push_of_some _ q
  obtain ⟨its,r,ht',hz⟩:=I4.tuple hx
  refine ⟨ht'.typeIs,?_⟩
  refine HT.getItem_tuple_rev ht' (tk:=t) (Heap.IsSliceOf.new ..) ?_ (by rw [List.size_toArray, <- r.length];exact hz)
  refine ⟨.ref _,_,I4.laid (t':=s2.toks) (o:=.tup xs.reverse) (fun b ob q=>Heap.get?_push_of_some _ q) (Nat.le_refl _) ?_,rfl,q _ (I4.hok.fresh (Nat.le_refl _))⟩
  exact ⟨by rw [List.length_reverse];exact hz,_,r.reverse,IsTup.new _ _⟩⟩
end
end L2
namespace D
open PySem L2 K0 Num
open PySem.W (Dat)
section
variable {p:Option Addr} {K:PySem.W.Frag} {τ:List Sl} {te ts:TE}
theorem E1.revT {ds:List Dat} (h:E1 p K te τ (.dat (.tuple ds))) (hs:E1 p K ts τ (.dat (.int (-1)))):E1 p K (tRev (rRevT K) te ts) τ (.dat (.tuple ds.reverse)):=fun W L σ H Q rs o k=>h W L σ H _ rs o fun v H1 s e e1 o1 rv=>by
  subst e
  refine hs W L σ H1 _ (rs.ev e1 o.pw) o1 fun y H2 s2 e2 e3 o2 rv2=>?_
  subst e2
  cases rv2.int_inv
  refine ⟨rfl,?_⟩
  have rv':Dz (fun a=>¬ W a) K H2 v (.tuple ds):=Dz.ev (W:=Pp p) e3 o1.nw rv
  cases rv' with
  | tup h1 h2 =>
    rename_i a xs
    refine ⟨a,xs,rfl,h1,fun l hl=>?_⟩
    have s:=Same.new hl (.tup xs.reverse)
    refine k _ _ _ rfl ((e1.trans e3).trans (Ev.of s)) (o2.same s) (Dz.tup (.inl (.inl upd_same)) ?_)
    have z:=h2.ev (W:=Pp p) (Ev.of s) o2.nw
    exact go z
where
  go {N:Addr->Prop} {H:Hp}:∀ {vs:List V} {ds:List Dat},Dzs N K H vs ds->Dzs N K H vs.reverse ds.reverse
    | _,_,.nil=>.nil
    | _,_,.cons a r=>by rw [List.reverse_cons,List.reverse_cons];exact (go r).app (.cons a .nil)
end
end D
end
namespace D
open PySem L2 K0 Num
open PySem.W (Dat)
section
noncomputable def spQ (K:PySem.W.Frag) (R:List Dat->(Dat->Prop)->Prop):Sp:=fun vs H Q _=>∃ ds C,Dzs (fun _=>True) K H vs ds/\R ds C/\∀ v H' d,C d->Same H H'->Dz (fun a=>H a=none) K H' v d->Q v H'
section
variable {p:Option Addr} {K:PySem.W.Frag} {W:Addr->Prop} {L:List Addr} {σ:St} {H H1:Hp} {τ τ':List Sl} {tas:TA} {v:V} {s:Sl} {t:TS} {ds:List Dat} {E':XK}
theorem E.callQ {R:List Dat->(Dat->Prop)->Prop} {ss:List Sl} {ds:List Dat} {C:Dat->Prop} (ha:A1 p K tas τ ss) (hr:R ds C) (hd:datsOf ss=some ds:=by rfl):E p K (tCall (spQ K R) [] E' tas) τ (fun s=>∃ d,s = .dat d/\C d):=fun W L σ H Q rs o q=>ha W L σ H _ rs o fun vs H1 ss e e1 o1 rv=>by
  subst e
  rw [List.append_nil]
  exact ⟨ds,C,rv.dz hd,hr,fun v H' d c s z=>q v H' _ ⟨d,rfl,c⟩ (e1.trans (Ev.of s)) (o1.same s) (z.mono fun a ha=>o1.fresh ha)⟩
variable {P:Program} {w:World} {mg:Str->Option Value} {base:Heap}
theorem okQ {x qual:Str} {st:Stmt} {f:Addr} {fd:FuncData} {N ps:List Str} {k:Nat} {R:List Dat->(Dat->Prop)->Prop} (F:Fun K x qual st f fd) (S0:FnScope N ps (defScope st)) (len:∀ ds C,R ds C->ds.length=ps.length)
    (body:∀ (cdv:Value) (A:Around) (outer:List Env) (s:Shared) (H:Hp) (E:XK),Room k (A.deeper (PyProof.Rows.envOfC qual (defScope st) s.heap.objs.size f cdv)) ->
      ∃ t,ZSs (cxOf CX0 P w K mg base N qual (defScope st) f cdv A outer s H E).nox (defBody st) t/\∀ ds C,R ds C->S none K t (ds.map .dat ++ List.replicate (N.length - ps.length) .un) (fun _=>False) (fun s=>∃ d,C d/\Gives d s)):FnOk P w K mg base CX0 (k + 1) f fd ps (spQ K R):=by
  refine F.okZ S0 (fun vs H Q E h=>?_) (fun cdv A outer s H vs Q E hr h=>?_)
  . obtain ⟨ds,C,z,r,_⟩:=h;rw [z.len];exact len ds C r
  . obtain ⟨ds,C,z,r,q⟩:=h
    obtain ⟨t,hz,hs⟩:=body cdv A outer s H E hr
    refine ⟨t,hz,?_⟩
    have l:vs.length=ps.length:=by rw [z.len];exact len ds C r
    have r0:Rs none (fun _=>False) K H [] (L2.start N vs) (ds.map .dat ++ List.replicate (N.length - ps.length) .un):=by
      unfold L2.start
      rw [l]
      exact rs_start _ z fun a _ h=>h
    have same:∀ {H':Hp},Ev (fun _=>False) H H'->Same H H':=fun e b o h=>e.keep b o (fun z=>z) h
    refine hs ds C r (fun _=>False) [] _ H _ r0 ⟨fun q h=>(by cases h),fun a h=>False.elim h⟩ (fun W' L' σ' H' τ' e ev o' al n l r'=>e.elim) (fun W' H' v s e ev o' al n rv=>?_)
    obtain ⟨d,c,e⟩:=e
    cases s with
    | dat d' =>
      obtain ⟨rfl,nl⟩:=e
      exact q v H' _ c (same ev) (Dz.free rv nl)
    | own es =>
      obtain ⟨rfl,nl⟩:=e
      obtain ⟨a,vs,rfl,h1,h2,h3⟩:=rv
      have h0:H a=none:=h1.resolve_left (fun z=>by cases z)
      exact q _ H' _ c (same ev) (.lst (.inl ⟨h0,.inl h2⟩) (Dzs.free h3 nl))
    | _=>exact e.elim
end
noncomputable def In (a b c d e f x y z:Int):Prop:=∃ m1 m2 m3:Int,x=m1 * a + m2 * b + m3 * d/\y=m2 * c + m3 * e/\z=m3 * f
structure Hnf (a b c d e f:Int):Prop where
  a0:0 < a
  c0:0 < c
  f0:0 < f
  b0:0<=b
  b1:b < a
  d0:0<=d
  d1:d < a
  e0:0<=e
  e1:e < c
end
end D
section
namespace L2
open PySem PySem.Spec PyProof.Rows
end L2
namespace D
open PySem L2 K0 Num
open PySem.W (Dat)
noncomputable def units:List (List Int):=[[1,0,0],[0,1,0],[0,0,1]]
noncomputable def Kpt (F:List Int) (x y z:Int):Prop:=∀ a b c e:Int,pl F=[a,b,c,e]->(sop (pl F) (pl F) ∣ sop (rw1 a b c e) [x,y,z])/\(sop (pl F) (pl F) ∣ sop (rw2 a b c e) [x,y,z])/\(sop (pl F) (pl F) ∣ sop (rw3 a b c e) [x,y,z])
noncomputable def KptA (fs:List (List Int)) (x y z:Int):Prop:=∀ F ∈ fs,Kpt F x y z
noncomputable def Rows (fs:List (List Int)) (a b c d e f:Int):Prop:=Hnf a b c d e f/\∀ x y z,In a b c d e f x y z ↔ KptA fs x y z
end D
end
namespace D
open PySem L2 K0 Num
open PySem.W (Dat)
noncomputable def Row3.neg (r:Row3):Row3:=⟨-r.x, -r.y, -r.z⟩
section
noncomputable def Row3.sum (r s:Row3) (p q:Rat):Row3:=⟨r.x * p + s.x * q,r.y * p + s.y * q,r.z * p + s.z * q⟩
noncomputable def Row3.cr (r s:Row3):Row3:=⟨r.y * s.z + r.z * -s.y,r.z * s.x + r.x * -s.z,r.x * s.y + r.y * -s.x⟩
section
variable {r s:Row3}
end
end
noncomputable def tw (P1 P2 P3:Prop):Nat->Prop
  | 0=>True
  | 1=>P1
  | 2=>P1/\P2
  | _=>P1/\P2/\P3
end D
section
namespace L2
open PySem PySem.Spec PyProof.Rows
section
end
end L2
namespace D
open PySem L2 K0 Num
open PySem.W (Dat)
section
variable {W:Addr->Prop} {ds:List Dat}
end
theorem noLs_all:∀ {ds:List Dat},(∀ d ∈ ds,noL d=true)->noLs ds=true
  | [],_=>by rw [noLs]
  | d :: r,h=>by rw [noLs,h d List.mem_cons_self,noLs_all fun x hx=>h x (List.mem_cons_of_mem _ hx)];rfl
end D
end
namespace D
open PySem L2 K0 Num
open PySem.W (Dat)
section
noncomputable def Row3.sub (r s:Row3):Row3:=⟨r.x - s.x,r.y - s.y,r.z - s.z⟩
noncomputable def Row3.add (r s:Row3):Row3:=⟨r.x + s.x,r.y + s.y,r.z + s.z⟩
noncomputable def Row3.sm (k:Rat) (r:Row3):Row3:=⟨k * r.x,k * r.y,k * r.z⟩
noncomputable def Row3.cx (r s:Row3):Row3:=⟨r.y * s.z - r.z * s.y,r.z * s.x - r.x * s.z,r.x * s.y - r.y * s.x⟩
noncomputable def nq (w:Rat) (v:Row3):Rat:=N4 w v.x v.y v.z
section
variable {w:Rat} {v r s:Row3} {k:Rat}
end
noncomputable def r0:Row3:=⟨0,0,0⟩
section
variable {w:Rat} {v r s:Row3} {k:Rat}
end
end
noncomputable def TnQ (w x y z:Int) (r s:Row3):Prop:=Q1 w x y z r.x r.y r.z=s.x/\Q2 w x y z r.x r.y r.z=s.y/\Q3 w x y z r.x r.y r.z=s.z
noncomputable def d2 (a b:Row3):Rat:=(b.sub a).dot (b.sub a)
structure Only (p0 p1 p2 o0 o1 o2:Row3) (w x y z:Int) (u v t:Rat):Prop where
  nz:∃ n ∈ [w,x,y,z],n ≠ 0
  p:pl [w,x,y,z]=[w,x,y,z]
  b:Bd (2 ^ 1000) [w,x,y,z]
  h1:TnQ w x y z (p1.sub p0) (o1.sub o0)
  h2:TnQ w x y z (p2.sub p0) (o2.sub o0)
  su:u=o0.x + -Q1 w x y z p0.x p0.y p0.z
  sv:v=o0.y + -Q2 w x y z p0.x p0.y p0.z
  st:t=o0.z + -Q3 w x y z p0.x p0.y p0.z
section
section
variable {p:Option Addr} {K:PySem.W.Frag} {W W':Addr->Prop} {L:List Addr} {σ:St} {H H':Hp} {τ τ':List Sl} {u:TS} {te:TE} {nx:List Sl->Prop} {rt:Sl->Prop} {o:Own}
theorem Rs.setT (r : Rs p W K H L σ τ) {a : Addr} {l : List Addr} (wa : ∀ b, b ∈ l -> W b) (np : ∀ b, b ∈ l -> p ≠ some b) (nl : ∀ b, b ∈ l -> b ∉ L) (z : o.R (fun a => ¬ W a) K H a l) : ∀ (i : Nat), ∃ L', (∀ b, b ∈ L' -> b ∈ l \/ b ∈ L) /\ Rs p W K H L' (σ.set i (some (.ref a))) (τ.set i (.dt o)) := by
  induction r with
  | nil=>intro i;exact ⟨[],fun _ h=>.inr h,.nil⟩
  | un r ih =>
    intro i
    match i with
    | 0=>exact ⟨_,fun b hb=>List.mem_append.mp hb,.dt wa np nl z r⟩
    | i + 1=>obtain ⟨L',h1,h2⟩:=ih nl i;exact ⟨L',h1,.un h2⟩
  | dat y r ih =>
    intro i
    match i with
    | 0=>exact ⟨_,fun b hb=>List.mem_append.mp hb,.dt wa np nl z r⟩
    | i + 1=>obtain ⟨L',h1,h2⟩:=ih nl i;exact ⟨L',h1,.dat y h2⟩
  | pu y r ih =>
    intro i
    match i with
    | 0=>exact ⟨_,fun b hb=>List.mem_append.mp hb,.dt wa np nl z r⟩
    | i + 1=>obtain ⟨L',h1,h2⟩:=ih nl i;exact ⟨L',h1,.pu y h2⟩
  | own g1 g2 g3 g4 g5 r ih =>
    intro i
    have nl':=fun b hb y=>nl b hb (List.mem_cons_of_mem _ y)
    match i with
    | 0=>exact ⟨_,fun b hb=>(List.mem_append.mp hb).imp id (List.mem_cons_of_mem _),.dt wa np nl' z r⟩
    | i + 1 =>
      obtain ⟨L',h1,h2⟩:=ih nl' i
      refine ⟨_ :: L',fun b hb=>?_,.own g1 g2 (fun y=>?_) g4 g5 h2⟩
      . rcases List.mem_cons.mp hb with rfl | hb
        . exact .inr List.mem_cons_self
        . exact (h1 b hb).imp id (List.mem_cons_of_mem _)
      . rcases h1 _ y with y | y
        . exact nl _ y List.mem_cons_self
        . exact g3 y
  | dt g1 g2 g3 g4 r ih =>
    intro i
    have nl':=fun b hb y=>nl b hb (List.mem_append_right _ y)
    match i with
    | 0=>exact ⟨_,fun b hb=>(List.mem_append.mp hb).imp id (List.mem_append_right _),.dt wa np nl' z r⟩
    | i + 1 =>
      obtain ⟨L',h1,h2⟩:=ih nl' i
      refine ⟨_ ++ L',fun b hb=>?_,.dt g1 g2 (fun b hb y=>?_) g4 h2⟩
      . rcases List.mem_append.mp hb with hb | hb
        . exact .inr (List.mem_append_left _ hb)
        . exact (h1 b hb).imp id (List.mem_append_right _)
      . rcases h1 _ y with y | y
        . exact nl _ y (List.mem_append_left _ hb)
        . exact g3 b hb y
theorem Rs.get_t (r:Rs p W K H L σ τ):∀ {i:Nat} {o:Own},τ[i]?=some (.dt o)->∃ a l,σ[i]?=some (some (.ref a))/\(∀ b,b ∈ l->W b)/\(∀ b,b ∈ l->p ≠ some b)/\(∀ b,b ∈ l->b ∈ L)/\o.R (fun a=>¬ W a) K H a l:=by
  induction r with
  | nil=>intro i ds h;simp at h
  | un _ ih =>
    intro i ds h
    match i,h with
    | 0,h=>simp at h
    | i + 1,h=>exact ih (i:=i) (by simpa using h)
  | dat z _ ih =>
    intro i ds h
    match i,h with
    | 0,h=>simp at h
    | i + 1,h=>exact ih (i:=i) (by simpa using h)
  | pu z _ ih =>
    intro i ds h
    match i,h with
    | 0,h=>simp at h
    | i + 1,h=>exact ih (i:=i) (by simpa using h)
  | own h1 h2 h3 h4 h5 _ ih =>
    intro i ds h
    match i,h with
    | 0,h=>simp at h
    | i + 1,h =>
      obtain ⟨a,l,e1,e2,e3,e4,e5⟩:=ih (i:=i) (by simpa using h)
      exact ⟨a,l,by simpa using e1,e2,e3,fun b hb=>List.mem_cons_of_mem _ (e4 b hb),e5⟩
  | dt h1 h2 h3 h4 _ ih =>
    intro i ds h
    match i,h with
    | 0,h=>simp at h;subst h;exact ⟨_,_,rfl,h1,h2,fun b hb=>List.mem_append_left _ hb,h4⟩
    | i + 1,h =>
      obtain ⟨a,l,e1,e2,e3,e4,e5⟩:=ih (i:=i) (by simpa using h)
      exact ⟨a,l,by simpa using e1,e2,e3,fun b hb=>List.mem_append_right _ (e4 b hb),e5⟩
theorem Own.away {X:Addr->Prop} {a:Addr} {l:List Addr} (z:o.R (fun a=>¬ W a) K H a l) (ev:Ev X H H') (xw:∀ b,X b->W b) (mw:∀ b,W b->W' b) (n:∀ b,W' b->W b\/H b=none) (nl:∀ b,b ∈ l->¬ X b):o.R (fun a=>¬ W' a) K H' a l:=by
  have z1:o.R (fun a=>¬ W' a) K H a l:=o.wide z fun b u nb hb wb=>by
    rcases n b wb with y | y
    . exact nb y
    . rw [y] at hb;cases hb
  exact o.ev z1 ev (fun b nb xb=>nb (mw b (xw b xb))) fun b u hb h=>ev.keep _ _ (nl b hb) h
theorem Rs.away {X:Addr->Prop} (r:Rs p W K H L σ τ) (ev:Ev X H H') (xw:∀ b,X b->W b) (mw:∀ b,W b->W' b) (n:∀ b,W' b->W b\/H b=none):(∀ b,b ∈ L->¬ X b)->Rs p W' K H' L σ τ:=by
  have ew:Ev W H H':=ev.mono xw
  induction r with
  | nil=>intro _;exact .nil
  | un _ ih=>intro l;exact .un (ih l)
  | dat h _ ih=>intro l;exact .dat (dz_old ew n h) (ih l)
  | pu h _ ih=>intro l;exact .pu h (ih l)
  | own h1 h2 h3 h4 h5 _ ih =>
    intro l
    exact .own (mw _ h1) h2 h3 (ev.keep _ _ (l _ List.mem_cons_self) h4) (Dzs.old ew n h5) (ih fun a z=>l a (List.mem_cons_of_mem _ z))
  | dt h1 h2 h3 h4 _ ih =>
    intro l
    exact .dt (fun b hb=>mw _ (h1 b hb)) h2 h3 (Own.away h4 ev xw mw n fun b hb=>l b (List.mem_append_left _ hb)) (ih fun a z=>l a (List.mem_append_right _ z))
theorem Rs.chgX (r : Rs p W K H L σ τ) : ∀ {i : Nat} {o : Own}, τ[i]? = some (.dt o) -> ∃ a l, σ[i]? = some (some (.ref a)) /\ (∀ b, b ∈ l -> W b) /\ (∀ b, b ∈ l -> p ≠ some b) /\ (∀ b, b ∈ l -> b ∈ L) /\ o.R (fun a => ¬ W a) K H a l /\
    ∀ (W':Addr->Prop) (H':Hp) (l':List Addr) (o':Own),(∀ b,W b->W' b)->(∀ b,W' b->W b\/H b=none)->Ev (fun b=>b ∈ l) H H'->(∀ b,b ∈ l'->W' b)->(∀ b,b ∈ l'->p ≠ some b)->(∀ b,b ∈ l'->b ∈ l\/b ∉ L)->o'.R (fun a=>¬ W' a) K H' a l' ->
      ∃ L',(∀ b,b ∈ L'->b ∈ L\/b ∈ l')/\(∀ b,b ∈ l'->b ∈ L')/\Rs p W' K H' L' σ (τ.set i (.dt o')):=by
  induction r with
  | nil=>intro i ds h;simp at h
  | un _ ih =>
    intro i ds h
    match i,h with
    | 0,h=>simp at h
    | i + 1,h =>
      obtain ⟨a,l,e1,e2,e3,e4,e5,e6⟩:=ih (i:=i) (by simpa using h)
      refine ⟨a,l,by simpa using e1,e2,e3,e4,e5,fun W' H' l' o' g1 g2 g3 g4 g5 g6 g7=>?_⟩
      obtain ⟨L',k1,k2,k3⟩:=e6 W' H' l' o' g1 g2 g3 g4 g5 g6 g7
      exact ⟨L',k1,k2,.un k3⟩
  | dat z _ ih =>
    intro i ds h
    match i,h with
    | 0,h=>simp at h
    | i + 1,h =>
      obtain ⟨a,l,e1,e2,e3,e4,e5,e6⟩:=ih (i:=i) (by simpa using h)
      refine ⟨a,l,by simpa using e1,e2,e3,e4,e5,fun W' H' l' o' g1 g2 g3 g4 g5 g6 g7=>?_⟩
      obtain ⟨L',k1,k2,k3⟩:=e6 W' H' l' o' g1 g2 g3 g4 g5 g6 g7
      exact ⟨L',k1,k2,.dat (dz_old (g3.mono e2) g2 z) k3⟩
  | pu z _ ih =>
    intro i ds h
    match i,h with
    | 0,h=>simp at h
    | i + 1,h =>
      obtain ⟨a,l,e1,e2,e3,e4,e5,e6⟩:=ih (i:=i) (by simpa using h)
      refine ⟨a,l,by simpa using e1,e2,e3,e4,e5,fun W' H' l' o' g1 g2 g3 g4 g5 g6 g7=>?_⟩
      obtain ⟨L',k1,k2,k3⟩:=e6 W' H' l' o' g1 g2 g3 g4 g5 g6 g7
      exact ⟨L',k1,k2,.pu z k3⟩
  | @own L0 σ0 τ0 a0 vs0 ds0 h1 h2 h3 h4 h5 _ ih =>
    intro i ds h
    match i,h with
    | 0,h=>simp at h
    | i + 1, h =>
      obtain ⟨a,l,e1,e2,e3,e4,e5,e6⟩:=ih (i:=i) (by simpa using h)
      refine ⟨a,l,by simpa using e1,e2,e3,fun b hb=>List.mem_cons_of_mem _ (e4 b hb),e5,fun W' H' l' o' g1 g2 g3 g4 g5 g6 g7=>?_⟩
      obtain ⟨L',k1,k2,k3⟩:=e6 W' H' l' o' g1 g2 g3 g4 g5 (fun b hb=>(g6 b hb).imp id fun n z=>n (List.mem_cons_of_mem _ z)) g7
      refine ⟨a0 :: L',fun b hb=>?_,fun b hb=>List.mem_cons_of_mem _ (k2 b hb),.own (g1 _ h1) h2 (fun z=>?_) (g3.keep _ _ (fun z=>h3 (e4 _ z)) h4) (Dzs.old (g3.mono e2) g2 h5) k3⟩
      . rcases List.mem_cons.mp hb with rfl | hb
        . exact .inl List.mem_cons_self
        . exact (k1 b hb).imp (List.mem_cons_of_mem _) id
      . rcases k1 _ z with y | y
        . exact h3 y
        . rcases g6 _ y with y | y
          . exact h3 (e4 _ y)
          . exact y List.mem_cons_self
  | @dt L0 l0 σ0 τ0 a0 o0 h1 h2 h3 h4 r ih =>
    intro i ds h
    match i,h with
    | 0,h =>
      simp at h;subst h
      refine ⟨_,_,rfl,h1,h2,fun b hb=>List.mem_append_left _ hb,h4,fun W' H' l' o' g1 g2 g3 g4 g5 g6 g7=>⟨l' ++ L0,fun b hb=>?_,fun b hb=>List.mem_append_left _ hb,.dt g4 g5 (fun b hb y=>?_) g7 (r.away g3 h1 g1 g2 fun b hb y=>h3 b y hb)⟩⟩
      . rcases List.mem_append.mp hb with hb | hb
        . exact .inr hb
        . exact .inl (List.mem_append_right _ hb)
      . rcases g6 b hb with z | z
        . exact h3 b z y
        . exact z (List.mem_append_right _ y)
    | i + 1, h =>
      obtain ⟨a,l,e1,e2,e3,e4,e5,e6⟩:=ih (i:=i) (by simpa using h)
      refine ⟨a,l,by simpa using e1,e2,e3,fun b hb=>List.mem_append_right _ (e4 b hb),e5,fun W' H' l' o' g1 g2 g3 g4 g5 g6 g7=>?_⟩
      obtain ⟨L',k1,k2,k3⟩:=e6 W' H' l' o' g1 g2 g3 g4 g5 (fun b hb=>(g6 b hb).imp id fun n z=>n (List.mem_append_right _ z)) g7
      refine ⟨l0 ++ L',fun b hb=>?_,fun b hb=>List.mem_append_right _ (k2 b hb),.dt (fun b hb=>g1 _ (h1 b hb)) h2 (fun b hb z=>?_) (Own.away h4 g3 e2 g1 g2 fun b hb y=>h3 b hb (e4 b y)) k3⟩
      . rcases List.mem_append.mp hb with hb | hb
        . exact .inl (List.mem_append_left _ hb)
        . exact (k1 b hb).imp (List.mem_append_right _) id
      . rcases k1 _ z with y | y
        . exact h3 b hb y
        . rcases g6 _ y with y | y
          . exact h3 b hb (e4 _ y)
          . exact y (List.mem_append_left _ hb)
noncomputable def Own.Self (o:Own):Prop:=∀ (N:Addr->Prop) (K:PySem.W.Frag) (H:Hp) (a:Addr) (l:List Addr),o.R N K H a l->o.R (fun b=>N b/\b ∉ l) K H a l
theorem Rs.finN {H1:Hp} (r:Rs p W K H L σ τ) (ok:Ok p W H) (e:Ev (Pp p) H H1) (ok1:Ok p W H1) {i:Nat} {o:Own} (nb:List Addr) (hnb:∀ b,b ∈ nb->H b=none) (h:τ[i]?=some (.dt o)) :
    ∃ a l,σ[i]?=some (some (.ref a))/\(∀ b,b ∈ l->W b\/b ∈ nb)/\(∀ b,b ∈ l->p ≠ some b)/\(∀ b,b ∈ l->b ∉ nb)/\o.R (fun a=>¬ (W a\/a ∈ nb)) K H1 a l/\∀ (W':Addr->Prop) (H':Hp) (l':List Addr) (o':Own),(∀ b,W' b ↔ W b\/b ∈ l')->(∀ b,b ∈ nb->b ∈ l')->(∀ b,b ∈ l'->b ∈ l\/b ∈ nb\/H1 b=none)->Ev (fun b=>b ∈ l) H1 H'->(∀ b,b ∈ l->∃ u,H' b=some u)->o'.R (fun a=>¬ W' a) K H' a l' ->
      Ev W H H'/\Ok p W' H'/\(∀ a,W a->∃ ys,H' a=some ys)/\(∀ a,W' a->W a\/H a=none)/\∃ L',(∀ a,a ∈ L'->a ∈ L\/H a=none)/\(∀ a,a ∈ l'->a ∈ L')/\Rs p W' K H' L' σ (τ.set i (.dt o')):=by
  have r1:Rs p (fun b=>W b\/b ∈ nb) K H1 L σ τ:=(r.wide (W':=fun b=>W b\/b ∈ nb) (fun _ h=>.inl h) fun b hb n=>hnb b (hb.resolve_left n)).ev e fun q hq=>.inl (ok.pw q hq)
  obtain ⟨a,l,e1,e2,e3,e4,e5,e6⟩:=r1.chgX h
  have ln:∀ b,b ∈ l->b ∉ nb:=fun b hb z=>by
    obtain ⟨u,hu⟩:=r.own_in b (e4 b hb);rw [hnb b z] at hu;cases hu
  refine ⟨a,l,e1,e2,e3,ln,e5,fun W' H' l' o' hw hn hf ev hal hr=>?_⟩
  have lw:∀ b,b ∈ l->W b:=fun b hb=>(e2 b hb).resolve_right (ln b hb)
  have np:∀ b,b ∈ l'->p ≠ some b:=fun b hb=>by
    rcases hf b hb with z | z | z
    . exact e3 b z
    . exact ok.np (hnb b z)
    . exact ok1.np z
  have mw:∀ b,W b\/b ∈ nb->W' b:=fun b hb=>(hw b).mpr (hb.imp id (hn b))
  have nw:∀ b,W' b->(W b\/b ∈ nb)\/H1 b=none:=fun b hb=>by
    rcases (hw b).mp hb with z | z
    . exact .inl (.inl z)
    . rcases hf b z with y | y | y
      . exact .inl (e2 b y)
      . exact .inl (.inr y)
      . exact .inr y
  have nl:∀ b,b ∈ l'->b ∈ l\/b ∉ L:=fun b hb=>by
    rcases hf b hb with z | z | z
    . exact .inl z
    . exact .inr fun y=>by obtain ⟨u,hu⟩:=r.own_in b y;rw [hnb b z] at hu;cases hu
    . exact .inr fun y=>by obtain ⟨u,hu⟩:=r1.own_in b y;rw [z] at hu;cases hu
  obtain ⟨L',k1,k2,k3⟩:=e6 W' H' l' o' mw nw ev (fun b hb=>(hw b).mpr (.inr hb)) np nl hr
  have lo:∀ b,b ∈ l'->b ∈ L\/H b=none:=fun b hb=>by
    rcases hf b hb with z | z | z
    . exact .inl (e4 b z)
    . exact .inr (hnb b z)
    . exact .inr (ok1.back e z)
  have al:∀ b,W b->∃ ys,H' b=some ys:=fun b hb=>by
    by_cases z:b ∈ l
    . exact hal b z
    . obtain ⟨y,hy⟩:=ok1.al b hb;exact ⟨y,ev.keep _ _ z hy⟩
  refine ⟨(e.ofP ok).trans (ev.mono lw),⟨fun q hq=>⟨?_,mw q (.inl (ok.pw q hq))⟩,fun b hb=>((hw b).mp hb).elim (al b) (o'.al hr b)⟩,al,fun b hb=>?_,L',fun b hb=>(k1 b hb).elim .inl (lo b),k2,k3⟩
  . obtain ⟨x,y,hy⟩:=(ok1.pu q hq).1
    exact ⟨x,y,ev.keep _ _ (fun z=>e3 q z hq) hy⟩
  . rcases (hw b).mp hb with z | z
    . exact .inl z
    . rcases hf b z with y | y | y
      . exact .inl (lw b y)
      . exact .inr (hnb b y)
      . exact .inr (ok1.back e y)
theorem Rs.fin {H1:Hp} (r:Rs p W K H L σ τ) (ok:Ok p W H) (e:Ev (Pp p) H H1) (ok1:Ok p W H1) {i:Nat} {o:Own} (h:τ[i]?=some (.dt o)) :
    ∃ a l,σ[i]?=some (some (.ref a))/\(∀ b,b ∈ l->W b)/\(∀ b,b ∈ l->p ≠ some b)/\o.R (fun a=>¬ W a) K H1 a l/\∀ (W':Addr->Prop) (H':Hp) (l':List Addr) (o':Own),(∀ b,W' b ↔ W b\/b ∈ l')->(∀ b,b ∈ l'->b ∈ l\/H1 b=none)->Ev (fun b=>b ∈ l) H1 H'->(∀ b,b ∈ l->∃ u,H' b=some u)->o'.R (fun a=>¬ W' a) K H' a l' ->
      Ev W H H'/\Ok p W' H'/\(∀ a,W a->∃ ys,H' a=some ys)/\(∀ a,W' a->W a\/H a=none)/\∃ L',(∀ a,a ∈ L'->a ∈ L\/H a=none)/\(∀ a,a ∈ l'->a ∈ L')/\Rs p W' K H' L' σ (τ.set i (.dt o')):=by
  obtain ⟨a,l,e1,e2,e3,e4,e5,e6⟩:=r.finN ok e ok1 [] (fun b hb=>by cases hb) h
  refine ⟨a,l,e1,fun b hb=>(e2 b hb).resolve_right (e4 b hb),e3,o.wide e5 fun b u nb _ z=>nb (.inl z),fun W' H' l' o' g1 g2 g3 g4 g5=>e6 W' H' l' o' g1 (fun b hb=>by cases hb) (fun b hb=>(g2 b hb).imp id .inr) g3 g4 g5⟩
theorem S.letTC {C:Own->Prop} {i:Nat} (h:E p K te τ (fun s=>∃ o,s = .dt o/\o.Self/\C o)) (m:∀ o,C o->S p K u (τ.set i (.dt o)) nx rt):S p K (tSeq (tAsg te (gName i)) u) τ nx rt:=by
  refine S.seq (M:=fun τ'=>∃ o,C o/\τ'=τ.set i (.dt o)) (fun W L σ H D r o q1 q2=>?_) fun τ' ⟨ds,c,e⟩=>e ▸ m ds c
  refine h W L σ H _ r o fun v H1 s c e o1 rv=>?_
  obtain ⟨ot,rfl,self,cd⟩:=c
  obtain ⟨a,l,rfl,h1,h2⟩:=rv
  have wid:∀ b,(W b\/b ∈ l)->¬ W b->H b=none:=fun b hb nb=>h1 b (hb.resolve_left nb)
  have r1:Rs p (fun b=>W b\/b ∈ l) K H1 L σ τ:=(r.wide (fun _ h=>.inl h) wid).ev e fun q hq=>.inl (o.pw q hq)
  have al:∀ b,b ∈ l->b ∉ L:=fun b hb z=>by obtain ⟨_,y⟩:=r.own_in b z;rw [h1 b hb] at y;cases y
  have hz:ot.R (fun b=>¬ (W b\/b ∈ l)) K H1 a l:=ot.wide (self _ _ _ _ _ h2) fun b _ nb _ z=>z.elim nb.1 nb.2
  obtain ⟨L',k,r2⟩:=r1.setT (fun b hb=>.inr hb) (fun b hb=>o.np (h1 b hb)) al hz i
  refine q1 _ L' _ H1 _ ⟨ot,cd,rfl⟩ (e.ofP o) ⟨fun q hq=>⟨(o1.pu q hq).1,.inl (o1.pw q hq)⟩,fun b hb=>?_⟩ o1.al (fun b hb=>hb.imp id (h1 b)) (fun b hb=>(k b hb).elim (fun z=>.inr (h1 b z)) .inl) r2
  exact hb.elim (o1.al b) (ot.al h2 b)
theorem S.letT {i:Nat} (h:E1 p K te τ (.dt o)) (self:o.Self) (m:S p K u τ' nx rt) (e:τ.set i (.dt o)=τ':=by rfl):S p K (tSeq (tAsg te (gName i)) u) τ nx rt :=
  S.letTC (C:=fun x=>o=x) (E.mono h fun s hs=>⟨o,hs.symm,self,rfl⟩) fun x hx=>by subst hx;rw [e];exact m
end
end
end D
section
namespace D
open PySem L2 K0 Num
open PySem.W (Dat)
theorem atI_last {α:Type} {l:List α} {x:α} (h:l.getLast?=some x):atI l (-1)=some x:=by
  have hl:l ≠ []:=fun z=>by rw [z] at h;cases h
  have hp:0 < l.length:=List.length_pos_iff.mpr hl
  rw [List.getLast?_eq_getElem?] at h
  unfold atI ixN
  rw [if_neg (by omega),if_pos (by omega)]
  show l[((-1:Int) + l.length).toNat]?=_
  rw [show ((-1:Int) + l.length).toNat=l.length - 1 by omega];exact h
end D
namespace D
open PySem L2 K0 Num
open PySem.W (Dat)
end D
end
section
namespace L2
open PySem PySem.Spec PyProof.Rows
noncomputable def rCatS (K:PySem.W.Frag):R2:=fun x y H Q=>∃ l b xs zs,x = .ref l/\y = .ref b/\SqL K H l xs/\SqL K H b zs/\xs.length + zs.length<=sizeLine/\∀ p,H p=none->Q (.ref p) (upd H p (.lst (xs ++ zs)))
section
variable {X:Cx}
theorem op_catS:OpR X (binaryOp .Add) (rCatS X.K):=by
  intro pins s σ H x y v u Q I rx ry h
  obtain ⟨l,b,xs,zs,rfl,rfl,hH,hB,hz,q⟩:=h
  cases (show v=Value.ref l from rx)
  cases (show u=Value.ref b from ry)
  obtain ⟨its,r,pl,z⟩:=I.list hH
  obtain ⟨its2,r2,pl2,z2⟩:=I.list hB
  obtain ⟨⟨cls,dd,data,sl⟩,ho,hc,n,hd⟩:=pl.isList
  obtain ⟨⟨cls2,dd2,data2,sl2⟩,ho2,hc2,n2,hd2⟩:=pl2.isList
  simp only at hc hd hc2 hd2
  subst hc hd hc2 hd2
  have e:its.toArray ++ its2.toArray=(its ++ its2).toArray:=by simp
  have l1:=r.length
  have l2:=r2.length
  refine concat_meets ⟨_,ho,rfl⟩ ⟨_,ho2,rfl⟩ noFill_list_add seq_list_add PySem.F.slot_list_add PySem.F.entry_list_add (PySem.F.args_list_add_2 _ _) (list_addW l b its.toArray its2.toArray n n2 dd dd2 sl sl2 (by rw [List.size_toArray,List.size_toArray];omega)) ⟨ho,ho2,?_⟩
  rw [e]
  exact ⟨.ref _,_,I.lnew (t':=s.toks) (r.append r2) (by rw [List.length_append];omega),rfl,q _ I.fresh⟩
end
end L2
namespace D
open PySem L2 K0 Num
open PySem.W (Dat)
section
variable {p:Option Addr} {K:PySem.W.Frag} {W:Addr->Prop} {σ:St} {H:Hp} {v:V} {s:Sl} {u:TS}
end
end D
end
section
namespace D
open PySem L2 K0 Num
open PySem.W (Dat)
theorem take_snoc {α:Type} {l:List α} {k:Nat} {x:α} (h:l[k]?=some x):l.take (k + 1)=l.take k ++ [x]:=by rw [List.take_add_one,h];rfl
end D
namespace D
open PySem L2 K0 Num
open PySem.W (Dat)
end D
namespace D
open PySem L2 K0 Num
open PySem.W (Dat)
end D
end
namespace D
open PySem L2 K0 Num
open PySem.W (Dat)
section
noncomputable def Own.Free (o:Own):Prop:=∀ (N N':Addr->Prop) (K:PySem.W.Frag) (H:Hp) (a:Addr) (l:List Addr),o.R N K H a l->o.R N' K H a l
theorem Own.Free.self {o:Own} (h:o.Free):o.Self:=fun N K H a l z=>h _ _ K H a l z
noncomputable def Own.Reads (o:Own) (d:Dat):Prop:=∀ (N:Addr->Prop) (K:PySem.W.Frag) (H:Hp) (a:Addr) (l:List Addr),o.R N K H a l->Dz (fun _=>True) K H (.ref a) d
noncomputable def spO (K:PySem.W.Frag) (R:List Dat->(Own->Prop)->Prop):Sp:=fun vs H Q _=>∃ ds C,Dzs (fun _=>True) K H vs ds/\R ds C/\∀ a H' o l,C o->Same H H'->(∀ b,b ∈ l->H b=none)->o.R (fun _=>True) K H' a l->Q (.ref a) H'
section
variable {p:Option Addr} {K:PySem.W.Frag} {W:Addr->Prop} {L:List Addr} {σ:St} {H H1:Hp} {τ τ':List Sl} {tas:TA} {v:V} {s:Sl} {t u:TS} {ds:List Dat} {E':XK} {o:Own}
theorem E.callO {R:List Dat->(Own->Prop)->Prop} {C:Own->Prop} {ss:List Sl} (ha:A1 p K tas τ ss) (hr:R ds C) (hf:∀ o,C o->o.Free) (hd:datsOf ss=some ds:=by rfl):E p K (tCall (spO K R) [] E' tas) τ (fun s=>∃ o,s = .dt o/\o.Self/\C o):=fun W L σ H Q rs o q=>ha W L σ H _ rs o fun vs H1 ss e e1 o1 rv=>by
  subst e
  show spO K R (vs ++ []) H1 Q E'
  rw [List.append_nil]
  exact ⟨ds,C,rv.dz hd,hr,fun a H' ot l c s hl z=>q _ H' _ ⟨ot,rfl,(hf ot c).self,c⟩ (e1.trans (Ev.of s)) (o1.same s) ⟨a,l,rfl,fun b hb=>o1.back e1 (hl b hb),hf ot c _ _ _ _ _ _ z⟩⟩
theorem upd_any {x b:Addr} {u:HO} (hx:W x) (o:Ok p W H):∃ y,upd H b u x=some y:=by
  by_cases z:x=b
  . subst z;exact ⟨_,upd_same⟩
  . obtain ⟨y,hy⟩:=o.al x hx;exact ⟨y,by rw [upd_ne z];exact hy⟩
variable {P:Program} {w:World} {mg:Str->Option Value} {base:Heap}
theorem okO {x qual:Str} {st:Stmt} {f:Addr} {fd:FuncData} {N ps:List Str} {k:Nat} {R:List Dat->(Own->Prop)->Prop} (F:Fun K x qual st f fd) (S0:FnScope N ps (defScope st)) (len:∀ ds C,R ds C->ds.length=ps.length)
    (body:∀ (cdv:Value) (A:Around) (outer:List Env) (s:Shared) (H:Hp) (E:XK),Room k (A.deeper (PyProof.Rows.envOfC qual (defScope st) s.heap.objs.size f cdv)) ->
      ∃ t,ZSs (cxOf CX0 P w K mg base N qual (defScope st) f cdv A outer s H E).nox (defBody st) t/\∀ ds C,R ds C->S none K t (ds.map .dat ++ List.replicate (N.length - ps.length) .un) (fun _=>False) (fun s=>∃ o,s = .dt o/\C o/\o.Free)):FnOk P w K mg base CX0 (k + 1) f fd ps (spO K R):=by
  refine F.okZ S0 (fun vs H Q E h=>?_) (fun cdv A outer s H vs Q E hr h=>?_)
  . obtain ⟨ds,C,z,r,_⟩:=h;rw [z.len];exact len ds C r
  . obtain ⟨ds,C,z,r,q⟩:=h
    obtain ⟨t,hz,hs⟩:=body cdv A outer s H E hr
    refine ⟨t,hz,?_⟩
    have l:vs.length=ps.length:=by rw [z.len];exact len ds C r
    have r0:Rs none (fun _=>False) K H [] (L2.start N vs) (ds.map .dat ++ List.replicate (N.length - ps.length) .un):=by
      unfold L2.start
      rw [l]
      exact rs_start _ z fun a _ h=>h
    have same:∀ {H':Hp},Ev (fun _=>False) H H'->Same H H':=fun e b o h=>e.keep b o (fun z=>z) h
    refine hs ds C r (fun _=>False) [] _ H _ r0 ⟨fun q h=>(by cases h),fun a h=>False.elim h⟩ (fun W' L' σ' H' τ' e ev o' al n l r'=>e.elim) (fun W' H' v s e ev o' al n rv=>?_)
    obtain ⟨ot,rfl,c,fr⟩:=e
    obtain ⟨a,l,rfl,h1,h2⟩:=rv
    exact q a H' ot l c (same ev) (fun b hb=>(h1 b hb).resolve_left (fun z=>by cases z)) (fr _ _ _ _ _ _ h2)
end
end
end D
section
namespace D
open PySem L2 K0 Num
open PySem.W (Dat)
section
variable {p:Option Addr} {K:PySem.W.Frag} {W:Addr->Prop} {L:List Addr} {σ:St} {H H1 H2:Hp} {τ:List Sl} {ta tb:TE}
theorem E1.catVV {xs ys:List Dat} (ha:E1 p K ta τ (.vw xs)) (hb:E1 p K tb τ (.vw ys)) (hz:xs.length + ys.length<=sizeLine):E1 p K (tOp (rCatS K) ta tb) τ (.own (xs ++ ys)):=fun W L σ H Q rs o q =>
  ha W L σ H _ rs o fun x H1 s e e1 o1 rv1=>hb W L σ H1 _ (rs.ev e1 o.pw) o1 fun y H2 t e' e2 o2 rv2=>by
    subst e e'
    obtain ⟨a,vs,rfl,h1,h2⟩:=rv1.ev e2 o1 o
    obtain ⟨b,us,rfl,h3,h5⟩:=rv2
    refine ⟨a,b,vs,us,rfl,rfl,h1.sq,h3.sq,by rw [h2.len,h5.len];exact hz,fun l hl=>?_⟩
    have s:=Same.new hl (.lst (vs ++ us))
    have e12:=e1.trans e2
    exact q _ _ _ rfl (e12.trans (Ev.of s)) (o2.same s) ⟨l,_,rfl,o2.back e12 hl,upd_same,(h2.app h5).ev (W:=Pp p) (Ev.of s) o2.nw⟩
end
end D
namespace D
open PySem L2 K0 Num
open PySem.W (Dat)
end D
end
section
namespace L2
open PySem PySem.Spec PyProof.Rows
section
variable {o:Expr}
end
end L2
namespace D
open PySem L2 K0 Num
open PySem.W (Dat)
section
variable {W:Addr->Prop} {K:PySem.W.Frag} {H:Hp}
end
section
variable {p:Option Addr} {K:PySem.W.Frag} {W:Addr->Prop} {L:List Addr} {σ:St} {H:Hp} {τ:List Sl} {nx:List Sl->Prop} {rt:Sl->Prop} {o:Own}
theorem S.retT {i:Nat} (h:τ[i]?=some (.dt o)) (m:rt (.dt o)):S p K (tRet (tVar i)) τ nx rt:=fun W L σ H D r ok q1 q2=>by
  obtain ⟨a,l,g1,g2,g3,g4,g5⟩:=r.get_t h
  exact ⟨_,g1,q2 W H _ _ m Ev.refl ok ok.al (fun _ h=>.inl h) ⟨a,l,rfl,fun b hb=>.inl (g4 b hb),g5⟩⟩
end
end D
end
namespace D
open PySem L2 K0 Num
open PySem.W (Dat)
section
section
variable {W:Addr->Prop}
end
inductive Con (A:Nat->Nat->Prop):Nat->Nat->Prop
  | refl (i:Nat):Con A i i
  | step {i j k:Nat}:Con A i j->A j k->Con A i k
section
variable {A:Nat->Nat->Prop}
noncomputable def conB (A:Nat->Nat->Prop) (i j:Nat):Bool:=@decide (Con A i j) (Classical.propDecidable _)
noncomputable def cls (A:Nat->Nat->Prop) (n i:Nat):List Nat:=(List.range n).filter (conB A i)
end
end
end D
section
namespace L2
open PySem PySem.Spec PyProof.Rows
noncomputable def IntT (n:Int) (d:Value):Prop:=∃ t,d = .int n t
noncomputable def IntTAt (K:PySem.W.Frag) (x:Str) (n:Int):Prop:=∃ t,PySem.W.nsIn K mainGlobals x=some (some (.int n t))
theorem IntTAt.mk {K:PySem.W.Frag} {x:Str} {n:Int} {t:_} (a:PySem.W.nsIn K mainGlobals x=some (some (.int n t))):IntTAt K x n:=⟨t,a⟩
theorem IntTAt.get {K:PySem.W.Frag} {x:Str} {n:Int} {h:Heap} {mg:Str->Option Value} (t:IntTAt K x n) (Y:K.In h) (G:h.Ns mainGlobals mg):∃ d,mg x=some d/\IntT n d:=by
  obtain ⟨d,a⟩:=t
  exact ⟨_,PySem.W.mg_of Y G a,_,rfl⟩
theorem ze_globI {X:Cx} {x:Str} {pos:Pos} {n:Int} {d:Value} (hg:Gl X x) (hm:X.mg x=some d) (r:IntT n d) (hd:(x == ("__debug__" : Str))=false:=by decide):ZE X (.Name x pos) (tC (.int n)):=ze_glob hg hm (by obtain ⟨t,rfl⟩:=r;exact ⟨t,rfl⟩) hd
end L2
namespace D
open PySem L2 K0 Num
open PySem.W (Dat)
end D
end
namespace D
open PySem L2 K0 Num
open PySem.W (Dat)
section
section
variable {W:Addr->Prop}
end
noncomputable def SFour (f:List Int):Prop:=f.length=4/\(∃ n ∈ f,n ≠ 0)/\Bd (2 ^ 3) f
instance (f:List Int):Decidable (SFour f):=by unfold SFour Bd;infer_instance
section
end
end
end D
section
namespace L2
open PySem PySem.Spec PyProof.Rows
section
variable {X:Cx} {CX:CXT} {k:Nat} {f C:Addr} {fd:FuncData} {ps:List Str} {sp:Sp} {dvs:List V} {ds:List Value} {E:XK} {x m fn:Str} {p pos pos' apos:Pos} {e o value:Expr} {es:List Expr} {ta tv:TE} {t:TA}
theorem ze_fld (he:ZE X e ta) (hb:attributeBase e fn X.env (eval e X.env)=eval e X.env:=by rfl):ZE X (.Attribute e fn pos) (tFld X.K ta fn):=⟨pe_fld he.out hb⟩
theorem zs_fld (ha:ZE X o ta) (hv:ZE X value tv) (hs:swapsWith value (some (.Attribute o fn pos')) pos.line X.env=pure false:=by rfl):ZS X (.Assign [.Attribute o fn pos'] value pos) (sFld X.K ta tv fn):=⟨ps_fld ha.out hv.out hs⟩
theorem ze_meth {pl:Sem Bool} (he:ZE X o ta) (c:Cls X.K C) (hm:Meth X.K C m f) (F:FnOk X.prog X.w X.K X.mg X.base CX k f fd ps sp) (hr:Room k X.A) (hb:Binds X.K fd ps ds) (hd:Vals dvs ds) (hx:Passes CX X E) (ha:ZA X (e :: es) t)
    (hst:starEach (e :: es) X.env=(false,eval e X.env) :: starEach es X.env:=by rfl) (hpl:(backTo pos (starEach es X.env)).any (·.1)=false:=by rfl)
    (ht:eval (.Call (.Attribute o m apos) (e :: es) [] pos) X.env=(do
      let ov <- eval o X.env
      standAt apos.atName
      let (f,first) <- holding [ov] (getMethod ov m pl)
      callWith pos f first (backTo pos (starEach (e :: es) X.env)) (backToKw pos (keywordEach [] X.env))):=by rfl) :
    ZE X (.Call (.Attribute o m apos) (e :: es) [] pos) (tMeth C m sp dvs E ta t):=⟨pe_meth he.out c hm F hr hb hd hx ha.out hst hpl ht⟩
theorem ze_meth0 {pl:Sem Bool} (he:ZE X o ta) (c:Cls X.K C) (hm:Meth X.K C m f) (F:FnOk X.prog X.w X.K X.mg X.base CX k f fd ps sp) (hr:Room k X.A) (hb:Binds X.K fd ps ds) (hd:Vals dvs ds) (hx:Passes CX X E)
    (ht:eval (.Call (.Attribute o m apos) [] [] pos) X.env=(do
      let ov <- eval o X.env
      standAt apos.atName
      let (f,first) <- holding [ov] (getMethod ov m pl)
      callWith pos f first (backTo pos (starEach [] X.env)) (backToKw pos (keywordEach [] X.env))):=by rfl) :
    ZE X (.Call (.Attribute o m apos) [] [] pos) (tMeth C m sp dvs E ta tNil):=⟨pe_meth0 he.out c hm F hr hb hd hx ht⟩
theorem ze_make0 (M:Mk X.K C f) (F:FnOk X.prog X.w X.K X.mg X.base CX k f fd ps sp) (hr:Room (k + 1) X.A) (hg:Gl X x) (hm:X.mg x=some (.ref C)) (hb:Binds X.K fd ps ds) (hd:Vals dvs ds) (hx:Passes CX X E)
    (hdb:(x == ("__debug__" : Str))=false:=by decide):ZE X (.Call (.Name x p) [] [] pos) (tMake C sp dvs E tNil):=⟨pe_make0 M F hr hg hm hb hd hx hdb⟩
structure CMeth (K:PySem.W.Frag) (C:Addr) (m:Str) (f:Addr):Prop where
  ga:PySem.W.specialIn K (.ref C) "__getattribute__" = some (some (.builtin "type.__getattribute__"))
  rd:PySem.W.readsIn K C (.type "type")=true
  fi:PySem.W.findCls K (.ref C) (.type "type") m=some (.val (.ref f))
  kp:PySem.W.keepIn K (.ref f)=true
theorem ze_cmeth {pl:Sem Bool} (hm:CMeth X.K C m f) (F:FnOk X.prog X.w X.K X.mg X.base CX k f fd ps sp) (hr:Room k X.A) (hg:Gl X x) (hmx:X.mg x=some (.ref C)) (hb:Binds X.K fd ps ds) (hd:Vals dvs ds) (hx:Passes CX X E) (ha:ZA X (e :: es) t) (hdb:(x == ("__debug__" : Str))=false:=by decide)
    (hst:starEach (e :: es) X.env=(false,eval e X.env) :: starEach es X.env:=by rfl) (hpl:(backTo pos (starEach es X.env)).any (·.1)=false:=by rfl)
    (ht:eval (.Call (.Attribute (.Name x p) m apos) (e :: es) [] pos) X.env=(do
      let ov <- eval (.Name x p) X.env
      standAt apos.atName
      let (f,first) <- holding [ov] (getMethod ov m pl)
      callWith pos f first (backTo pos (starEach (e :: es) X.env)) (backToKw pos (keywordEach [] X.env))):=by rfl) :
    ZE X (.Call (.Attribute (.Name x p) m apos) (e :: es) [] pos) (tCall sp dvs E t):=⟨by
  intro pins s σ H Q I h
  refine PySem.W.methodCall_KW (pl:=pl) (thn ((pe_glob (v:=.ref C) hg hmx rfl hdb) pins s σ H (fun y H1=>y = .ref C/\t σ H1 fun vs H2=>sp (vs ++ dvs) H2 Q E) I ⟨rfl,h⟩) fun u s1 ⟨y,H1,I1,rx,ey,q⟩=>?_) ht
  subst ey
  obtain rfl:u=Value.ref C:=rx
  refine PySem.W.method_cls I1.kIn hm.ga (PySem.W.cls_value I1.kIn hm.rd hm.fi rfl ?_)
  refine PySem.W.callWith_K (first:=[]) (h₀:=X.base) I.ok.mod.kin hm.kp (thn (ha.out pos pins _ σ H1 _ (I1.tok _) q) fun us s2 ⟨vs,H2,I2,r,q2⟩=>⟨I2.kIn,?_⟩) hst hpl
  exact run_fn F hr hb hd hx I2 r q2⟩
end
end L2
end
namespace D
open PySem L2 K0 Num
open PySem.W (Dat)
section
noncomputable def ObR (C:Addr) (dn gn:List Dat) (K:PySem.W.Frag) (H:Hp) (a b c:Addr):Prop:=∃ dx vs us,H a=some (.ins C dx [("done",.ref b),("gone",.ref c)])/\H b=some (.lst vs)/\H c=some (.lst us)/\b ≠ c/\Dzs (fun _=>False) K H vs dn/\Dzs (fun _=>False) K H us gn
section
variable {C:Addr} {dn gn:List Dat} {K:PySem.W.Frag} {H H':Hp} {a b c:Addr} {W:Addr->Prop}
theorem ObR.ev (h:ObR C dn gn K H a b c) (ev:Ev W H H') (k:∀ x o,x=a\/x=b\/x=c->H x=some o->H' x=some o):ObR C dn gn K H' a b c:=by
  obtain ⟨dx,vs,us,h1,h2,h3,n,z1,z2⟩:=h
  exact ⟨dx,vs,us,k _ _ (.inl rfl) h1,k _ _ (.inr (.inl rfl)) h2,k _ _ (.inr (.inr rfl)) h3,n,z1.ev ev (fun _ h=>h.elim),z2.ev ev (fun _ h=>h.elim)⟩
theorem mem3 {x a b c:Addr}:x ∈ [a,b,c] ↔ x=a\/x=b\/x=c:=by simp
theorem ObR.al (h:ObR C dn gn K H a b c):∀ x,x=a\/x=b\/x=c->∃ o,H x=some o:=by
  obtain ⟨dx,vs,us,h1,h2,h3,_⟩:=h
  rintro x (rfl | rfl | rfl)
  . exact ⟨_,h1⟩
  . exact ⟨_,h2⟩
  . exact ⟨_,h3⟩
end
noncomputable def obO (a0 C:Addr) (dn gn:List Dat):Own where
  R N K H a l:=a=a0/\∃ b c,l=[a,b,c]/\ObR C dn gn K H a b c
  ev:=fun ⟨e,b,c,el,h⟩ ev _ hl=>⟨e,b,c,el,h.ev ev fun x o hx=>hl x o (by rw [el];exact mem3.mpr hx)⟩
  wide:=fun ⟨e,b,c,el,h⟩ _=>⟨e,b,c,el,h⟩
  al:=fun ⟨e,b,c,el,h⟩ x hx=>h.al x (by rw [el] at hx;exact mem3.mp hx)
noncomputable def obV (a0 C:Addr) (dn gn:List Dat):Own where
  R N K H a l:=a=a0/\l=[]/\∃ b c,N a/\N b/\N c/\ObR C dn gn K H a b c
  ev:=fun ⟨e,el,b,c,n1,n2,n3,h⟩ ev nw _=>⟨e,el,b,c,n1,n2,n3,h.ev ev fun x o hx h=>ev.keep _ _ (nw _ (by rcases hx with rfl | rfl | rfl <;> assumption)) h⟩
  wide:=fun ⟨e,el,b,c,n1,n2,n3,h⟩ n=>by
    obtain ⟨o1,g1⟩:=h.al _ (.inl rfl)
    obtain ⟨o2,g2⟩:=h.al _ (.inr (.inl rfl))
    obtain ⟨o3,g3⟩:=h.al _ (.inr (.inr rfl))
    exact ⟨e,el,b,c,n _ _ n1 g1,n _ _ n2 g2,n _ _ n3 g3,h⟩
  al:=fun ⟨_,e,_⟩ b hb=>by rw [e] at hb;cases hb
theorem obO_self {a C:Addr} {dn gn:List Dat}:(obO a C dn gn).Self:=fun _ _ _ _ _ h=>h
noncomputable def IsOb (o:Own) (a C:Addr) (dn gn:List Dat):Prop:=o=obO a C dn gn\/o=obV a C dn gn
structure ObC (K:PySem.W.Frag) (C:Addr):Prop where
  cls:Cls K C
  nd:NoAttr K C "done"
  ng:NoAttr K C "gone"
noncomputable def spMr (K:PySem.W.Frag) (C:Addr) (R:List Dat->List Dat->List Dat->Dat->Prop):Sp:=fun vs H Q _=>∃ a us b c dn gn ds d,vs=V.ref a :: us/\ObR C dn gn K H a b c/\Dzs (fun _=>True) K H us ds/\R dn gn ds d/\∀ v H',Same H H'->Dz (fun x=>H x=none) K H' v d->Q v H'
noncomputable def spMw (K:PySem.W.Frag) (C:Addr) (R:List Dat->List Dat->List Dat->List Dat->List Dat->Prop):Sp:=fun vs H Q _=>∃ a us b c dn gn ds dn' gn',vs=V.ref a :: us/\ObR C dn gn K H a b c/\Dzs (fun x=>¬ (x=a\/x=b\/x=c)) K H us ds/\R dn gn ds dn' gn' /\
  ∀ H' b' c',Ev (fun x=>x=a\/x=b\/x=c) H H'->(∀ x,x=a\/x=b\/x=c->∃ u,H' x=some u)->(∀ x,x=a\/x=b'\/x=c'->(x=a\/x=b\/x=c)\/H x=none)->ObR C dn' gn' K H' a b' c'->Q .non H'
noncomputable def spIn (K:PySem.W.Frag) (C:Addr) (R:List Dat->List Dat->List Dat->Prop):Sp:=fun vs H Q _=>∃ a us dx ds dn gn,vs=V.ref a :: us/\H a=some (.ins C dx [])/\Dzs (fun x=>x ≠ a) K H us ds/\R ds dn gn /\
  ∀ H' b c,(∀ x o,x ≠ a->H x=some o->H' x=some o)->Tm H H'->H b=none->H c=none->ObR C dn gn K H' a b c->Q .non H'
noncomputable def rawO (a0 C:Addr):Own where
  R N K H a l:=a=a0/\l=[a]/\∃ dx,H a=some (.ins C dx [])
  ev:=fun ⟨e,el,dx,h⟩ ev _ hl=>⟨e,el,dx,hl _ _ (by rw [el];exact List.mem_singleton_self _) h⟩
  wide:=fun h _=>h
  al:=fun ⟨e,el,dx,h⟩ x hx=>by rw [el,List.mem_singleton] at hx;subst hx;exact ⟨_,h⟩
noncomputable def RIni:List Dat->List Dat->List Dat->Prop:=fun ds dn gn=>∃ d,ds=[d]/\noL d=true/\dn=[d]/\gn=[]
section
variable {p:Option Addr} {K:PySem.W.Frag} {W:Addr->Prop} {L:List Addr} {σ:St} {H H1:Hp} {τ τ':List Sl} {te:TE} {tas:TA} {v:V} {s:Sl} {nx:List Sl->Prop} {rt:Sl->Prop} {t u:TS} {ds dn gn:List Dat} {E':XK} {o:Own} {a C:Addr} {i:Nat} {m:Str} {d:Dat}
theorem Rs.ob (r:Rs p W K H L σ τ) (ok:Ok p W H) (h:τ[i]?=some (.dt o)) (ho:IsOb o a C dn gn):σ[i]?=some (some (.ref a))/\∃ b c,ObR C dn gn K H a b c/\p ≠ some b/\p ≠ some c:=by
  obtain ⟨a',l,g1,g2,g3,g4,g5⟩:=r.get_t h
  rcases ho with rfl | rfl
  . obtain ⟨rfl,b,c,rfl,z⟩:=g5
    exact ⟨g1,b,c,z,g3 b (by simp),g3 c (by simp)⟩
  . obtain ⟨rfl,_,b,c,n1,n2,n3,z⟩:=g5
    exact ⟨g1,b,c,z,fun q=>n2 (ok.pw _ q),fun q=>n3 (ok.pw _ q)⟩
theorem E1.callMr {R:List Dat->List Dat->List Dat->Dat->Prop} (h:τ[i]?=some (.dt o)) (ho:IsOb o a C dn gn) (ha:A1 p K tas τ (ds.map .dat)) (hr:R dn gn ds d) (hm:∀ b c,List.lookup m [(("done" : Str),V.ref b),("gone",V.ref c)]=none:=by intro _ _;rfl):E1 p K (tMeth C m (spMr K C R) [] E' (tVar i) tas) τ (.dat d):=fun W L σ H Q rs ok q=>by
  obtain ⟨g,b,c,ob,_⟩:=rs.ob ok h ho
  obtain ⟨dx,_,_,h1,_⟩:=id ob
  refine ⟨_,g,a,dx,_,rfl,h1,hm b c,ha W L σ H _ rs ok fun vs H1 ss e e1 o1 rv=>?_⟩
  subst e
  obtain ⟨_,b',c',ob',_⟩:=(rs.ev e1 ok.pw).ob o1 h ho
  show spMr K C R (V.ref a :: (vs ++ [])) H1 Q E'
  rw [List.append_nil]
  exact ⟨a,vs,b',c',dn,gn,ds,d,rfl,ob',rv.dats.mono (fun _ _=>trivial),hr,fun v H' s z=>q v H' _ rfl (e1.trans (Ev.of s)) (o1.same s) (z.mono fun b hb=>o1.fresh hb)⟩
theorem S.callMw {R:List Dat->List Dat->List Dat->List Dat->List Dat->Prop} {CA:List Dat->Prop} (h:τ[i]?=some (.dt (obO a C dn gn))) (ha:A p K tas τ (fun ss=>∃ ds,ss=ds.map .dat/\CA ds)) (hr:∀ ds,CA ds->∃ dn' gn',R dn gn ds dn' gn'/\nx (τ.set i (.dt (obO a C dn' gn')))) (hm:∀ b c,List.lookup m [(("done" : Str),V.ref b),("gone",V.ref c)]=none:=by intro _ _;rfl):S p K (tDrop (tMeth C m (spMw K C R) [] E' (tVar i) tas)) τ nx rt:=fun W L σ H D r ok q1 q2=>by
  obtain ⟨g,b,c,ob,_⟩:=r.ob ok h (.inl rfl)
  obtain ⟨dx,_,_,h1,_⟩:=id ob
  refine ⟨_,g,a,dx,_,rfl,h1,hm b c,ha W L σ H _ r ok fun vs H1 ss hss e1 o1 rv=>?_⟩
  obtain ⟨ds,rfl,ca⟩:=hss
  obtain ⟨dn',gn',rr,hn⟩:=hr ds ca
  obtain ⟨a',l,k1,k2,k3,⟨ea,b,c,el,ob2⟩,fin⟩:=r.fin ok e1 o1 h
  subst ea el
  show spMw K C R (V.ref a' :: (vs ++ [])) H1 _ E'
  rw [List.append_nil]
  refine ⟨a',vs,b,c,dn,gn,ds,dn',gn',rfl,ob2,rv.dats.mono (fun x nx hx=>nx (k2 x (mem3.mpr hx))),rr,fun H' b' c' ev al hs ob'=>?_⟩
  obtain ⟨m1,m2,m3,m4,L',m5,m6,m7⟩:=fin (fun x=>W x\/x ∈ [a',b',c']) H' [a',b',c'] (obO a' C dn' gn') (fun x=>Iff.rfl) (fun x hx=>(hs x (mem3.mp hx)).imp mem3.mpr id) (ev.mono fun x hx=>mem3.mpr hx) (fun x hx=>al x (mem3.mp hx)) ⟨rfl,b',c',rfl,ob'⟩
  exact q1 _ L' σ _ _ hn m1 m2 m3 m4 m5 m7
theorem E.make {R:List Dat->List Dat->List Dat->Prop} (hr:R [] dn gn):E p K (tMake C (spIn K C R) [] E' tNil) τ (fun s=>∃ a,s = .dt (obO a C dn gn)):=fun W L σ H Q r ok q=>by
  intro x dx hx hdx ne
  show spIn K C R [V.ref x] _ _ E'
  refine ⟨x,[],dx,[],dn,gn,rfl,upd_same,.nil,hr,fun H' b c kp tm hb hc ob=>⟨rfl,?_⟩⟩
  have kp':∀ y o,H y=some o->H' y=some o:=fun y o hy=>by
    have n1:y ≠ x:=ne_of_none hy hx
    have n2:y ≠ dx:=ne_of_none hy hdx
    exact kp y o n1 (by rw [upd_ne n1,upd_ne n2];exact hy)
  have nb:H b=none:=by
    by_cases z:b=x
    . rw [z];exact hx
    . rw [upd_ne z] at hb
      by_cases y:b=dx
      . rw [y];exact hdx
      . rw [upd_ne y] at hb;exact hb
  have nc:H c=none:=by
    by_cases z:c=x
    . rw [z];exact hx
    . rw [upd_ne z] at hc
      by_cases y:c=dx
      . rw [y];exact hdx
      . rw [upd_ne y] at hc;exact hc
  have sm:Same H H':=kp'
  refine q _ H' _ ⟨x,rfl⟩ (Ev.of sm) (ok.same sm) ⟨x,[x,b,c],rfl,fun y hy=>?_,rfl,b,c,rfl,ob⟩
  rcases mem3.mp hy with rfl | rfl | rfl <;> assumption
theorem Tm.ins {H:Hp} {D C dx:Addr} {fs:List (Str × V)} (h:H D=some (.ins C dx fs)) (o:HO):Tm H (upd H D o):=fun K a xs q=>by
  rcases q with (q | ⟨ob,q⟩) | q
  . exact .inl (.inl (by rw [upd_ne (ne_of q h (fun z=>by cases z))];exact q))
  . exact .inl (.inr ⟨ob,by rw [upd_ne (ne_of q h (fun z=>by cases z))];exact q⟩)
  . exact .inr q
theorem S.appDone (oc:ObC K C) (h:τ[i]?=some (.dt (obO a C dn gn))) (he:E1 p K te τ (.dat d)) (nl:noL d=true) (hz:dn.length < sizeLine) (m:nx τ') (e0:τ.set i (.dt (obO a C (dn ++ [d]) gn))=τ':=by rfl):S p K (tDrop (tBM K "list" rAppend (tFld K (tVar i) "done") (tCons te tNil))) τ nx rt:=fun W L σ H D r ok q1 q2=>by
  subst e0
  obtain ⟨g,b0,c0,⟨dx0,vs0,us0,y1,y2,y3,y4⟩,_⟩:=r.ob ok h (.inl rfl)
  refine ⟨_,g,a,C,dx0,_,.ref b0,rfl,y1,oc.cls,oc.nd,rfl,.inl ⟨rfl,_,SqL.of y2⟩,he W L σ H _ r ok fun v H1 s es ev o1 rv=>?_⟩
  subst es
  obtain ⟨a',l,k1,k2,k3,⟨ea,b,c,el,dx,vs,us,h1,h2,h3,n,z1,z2⟩,fin⟩:=r.fin ok ev o1 h
  subst ea el
  have e0:=ev.keep _ _ (fun z=>k3 a' (by simp) z) y1
  rw [h1] at e0
  have eb:b=b0:=by injection e0 with e0;injection e0 with _ _ e0;injection e0 with e0;injection e0 with _ e0;injection e0
  subst eb
  refine ⟨b,vs,v,rfl,rfl,h2,by rw [z1.len];exact hz,?_⟩
  have nab:a' ≠ b:=ne_of h1 h2 (fun z=>by cases z)
  have ev2:Ev (fun x=>x=b) H1 (upd H1 b (.lst (vs ++ [v]))):=⟨fun x o n h=>by rw [upd_ne n];exact h,Tm.lst h2 _⟩
  have zv:Dz (fun _=>False) K H1 v d:=Dz.free rv nl
  obtain ⟨m1,m2,m3,m4,L',m5,m6,m7⟩:=fin W _ [a',b,c] (obO a' C (dn ++ [d]) gn) (fun x=>⟨.inl,fun z=>z.elim id (k2 x)⟩) (fun x hx=>.inl hx) (ev2.mono fun x hx=>by rw [hx];simp) (fun x hx=>upd_any (k2 x hx) o1)
    ⟨rfl,b,c,rfl,dx,vs ++ [v],us,by rw [upd_ne nab];exact h1,upd_same,by rw [upd_ne n.symm];exact h3,n,(z1.app (.cons zv .nil)).ev ev2 (fun _ h=>h.elim),z2.ev ev2 (fun _ h=>h.elim)⟩
  exact q1 W L' σ _ _ m m1 m2 m3 m4 m5 m7
theorem S.newGone (oc:ObC K C) (h:τ[i]?=some (.dt (obO a C dn gn))) (m:nx τ') (e0:τ.set i (.dt (obO a C dn []))=τ':=by rfl):S p K (sFld K (tVar i) (tLst tNil) "gone") τ nx rt:=fun W L σ H D r ok q1 q2=>by
  subst e0
  refine ⟨Nat.zero_le _,fun q hq=>?_⟩
  have s1:=Same.new hq (.lst [])
  obtain ⟨a',l,k1,k2,k3,⟨ea,b,c,el,dx,vs,us,h1,h2,h3,n,z1,z2⟩,fin⟩:=r.fin ok Ev.refl ok h
  subst ea el
  have naq:a' ≠ q:=ne_of_none h1 hq
  have nbq:b ≠ q:=ne_of_none h2 hq
  have nab:a' ≠ b:=ne_of h1 h2 (fun z=>by cases z)
  have h1':upd H q (.lst []) a'=some (.ins C dx [("done",.ref b),("gone",.ref c)]):=by rw [upd_ne naq];exact h1
  refine ⟨_,k1,a',C,dx,_,rfl,h1',oc.cls,oc.ng,by show 2 < 1000;decide,?_⟩
  have ev2:Ev (fun x=>x=a') H (upd (upd H q (.lst [])) a' (.ins C dx [("done",.ref b),("gone",.ref q)])):=⟨fun x o n h=>by rw [upd_ne n];exact s1 _ _ h,s1.tm.trans (Tm.ins h1' _)⟩
  obtain ⟨m1,m2,m3,m4,L',m5,m6,m7⟩:=fin (fun x=>W x\/x ∈ [a',b,q]) _ [a',b,q] (obO a' C dn []) (fun x=>Iff.rfl) (fun x hx=>by
      rcases mem3.mp hx with rfl | rfl | rfl
      . exact .inl (by simp)
      . exact .inl (by simp)
      . exact .inr hq) (ev2.mono fun x hx=>by rw [hx];simp) (fun x hx=>upd_any (k2 x hx) (ok.same s1))
    ⟨rfl,b,q,rfl,dx,vs,[],upd_same,by rw [upd_ne nab.symm,upd_ne nbq];exact h2,by rw [upd_ne naq.symm,upd_same],nbq,z1.ev ev2 (fun _ h=>h.elim),.nil⟩
  exact q1 _ L' σ _ _ m m1 m2 m3 m4 m5 m7
theorem S.init {R:List Dat->List Dat->List Dat->Prop} (h:τ[i]?=some (.dt (rawO a C))) (ha:A1 p K tas τ (ds.map .dat)) (hr:R ds dn gn) (m:nx (τ.set i (.dt (obO a C dn gn)))):S p K (tDrop (tCall (spIn K C R) [] E' (tCons (tVar i) tas))) τ nx rt:=fun W L σ H D r ok q1 q2=>by
  obtain ⟨a1,l1,g1,_⟩:=r.get_t h
  refine ⟨_,g1,ha W L σ H _ r ok fun vs H1 ss hss e1 o1 rv=>?_⟩
  subst hss
  obtain ⟨a',l,k1,k2,k3,⟨ea,el,dx,h1⟩,fin⟩:=r.fin ok e1 o1 h
  rw [g1] at k1;cases k1
  subst ea el
  show spIn K C R ((V.ref a1 :: vs) ++ []) H1 _ E'
  rw [List.append_nil]
  refine ⟨a1,vs,dx,ds,dn,gn,rfl,h1,rv.dats.mono (fun x nx hx=>nx (by rw [hx];exact k2 a1 (List.mem_singleton_self _))),hr,fun H' b c kp tm hb hc ob=>?_⟩
  obtain ⟨m1,m2,m3,m4,L',m5,m6,m7⟩:=fin (fun x=>W x\/x ∈ [a1,b,c]) H' [a1,b,c] (obO a1 C dn gn) (fun x=>Iff.rfl) (fun x hx=>by
      rcases mem3.mp hx with rfl | rfl | rfl
      . exact .inl (List.mem_singleton_self _)
      . exact .inr hb
      . exact .inr hc) ⟨fun x o n h=>kp x o (fun z=>n (by rw [z];exact List.mem_singleton_self _)) h,tm⟩ (fun x hx=>by rw [List.mem_singleton] at hx;subst hx;exact ob.al _ (.inl rfl)) ⟨rfl,b,c,rfl,ob⟩
  exact q1 _ L' σ _ _ m m1 m2 m3 m4 m5 m7
theorem ini_run {vs:List V} {Q:VK} {E:XK} (oc:ObC K C) (h:spIn K C RIni vs H Q E):tSeq (sFld K (tVar 0) (tLst (tCons (tVar 1) tNil)) "done") (sFld K (tVar 0) (tLst tNil) "gone") { nx:=fun _ H'=>Q .non H',rt:=Q } (L2.start ["self","first"] vs) H:=by
  obtain ⟨a,us,dx,ds,dn,gn,rfl,h,z,⟨d,rfl,nl,rfl,rfl⟩,q⟩:=h
  cases z with
  | @cons v _ _ _ z0 zr =>
  cases zr
  have s0:∀ b,H b=none->a ≠ b:=fun b hb=>ne_of_none h hb
  refine ⟨v,rfl,by show 1<=sizeLine;decide,fun b hb=>⟨.ref a,rfl,a,C,dx,[],rfl,by rw [upd_ne (s0 b hb)];exact h,oc.cls,oc.nd,by decide,?_⟩⟩
  have s1:=Same.new hb (.lst [v])
  have h1:upd H b (.lst [v]) a=some (.ins C dx []):=by rw [upd_ne (s0 b hb)];exact h
  refine ⟨Nat.zero_le _,fun c hc=>?_⟩
  have nca:c ≠ a:=fun z=>by rw [z,upd_same] at hc;cases hc
  have nba:b ≠ a:=fun z=>s0 b hb z.symm
  have ncb:c ≠ b:=fun z=>by rw [upd_ne nca,z,upd_same] at hc;cases hc
  have hc0:H c=none:=by rw [upd_ne nca,upd_ne ncb] at hc;exact hc
  refine ⟨.ref a,rfl,a,C,dx,[("done",.ref b)],rfl,by rw [upd_ne nca.symm,upd_same];rfl,oc.cls,oc.ng,by show 1 < 1000;decide,?_⟩
  have kp:∀ x o,x ≠ a->H x=some o->upd (upd (upd (upd H b (.lst [v])) a (.ins C dx [("done",.ref b)])) c (.lst [])) a (.ins C dx [("done",.ref b),("gone",.ref c)]) x=some o:=fun x o n hx=>by
    rw [upd_ne n,upd_ne (ne_of_none hx hc0),upd_ne n,upd_ne (ne_of_none hx hb)];exact hx
  have tm:Tm H (upd (upd (upd (upd H b (.lst [v])) a (.ins C dx [("done",.ref b)])) c (.lst [])) a (.ins C dx [("done",.ref b),("gone",.ref c)])):=by
    refine s1.tm.trans ((Tm.ins h1 _).trans ((Same.new hc (.lst [])).tm.trans (Tm.ins (C:=C) (dx:=dx) (fs:=[("done",.ref b)]) ?_ _)))
    rw [upd_ne nca.symm,upd_same];rfl
  refine q _ b c kp tm hb hc0 ⟨dx,[v],[],upd_same,by rw [upd_ne nba,upd_ne ncb.symm,upd_ne nba,upd_same],by rw [upd_ne nca,upd_same],ncb.symm,?_,.nil⟩
  have zv:Dz (fun _=>False) K H v d:=Dz.free z0 nl
  exact .cons (zv.ev (W:=fun x=>x=a) ⟨fun x o n hx=>kp x o n hx,tm⟩ fun _ h=>h.elim) .nil
variable {P:Program} {w:World} {mg:Str->Option Value} {base:Heap}
theorem okIn {x qual:Str} {st:Stmt} {f:Addr} {fd:FuncData} {N ps:List Str} {k:Nat} {R:List Dat->List Dat->List Dat->Prop} (F:Fun K x qual st f fd) (S0:FnScope N ps (defScope st)) (len:∀ ds dn gn,R ds dn gn->ds.length + 1=ps.length)
    (body:∀ (cdv:Value) (A:Around) (outer:List Env) (s:Shared) (H:Hp) (E:XK),Room k (A.deeper (PyProof.Rows.envOfC qual (defScope st) s.heap.objs.size f cdv)) ->
      ∃ t,ZSs (cxOf CX0 P w K mg base N qual (defScope st) f cdv A outer s H E).nox (defBody st) t/\∀ a ds dn gn,R ds dn gn->S none K t (.dt (rawO a C) :: ds.map .dat ++ List.replicate (N.length - ps.length) .un) (fun τ'=>τ'[0]?=some (.dt (obO a C dn gn))) (fun s=>False)):FnOk P w K mg base CX0 (k + 1) f fd ps (spIn K C R):=by
  refine F.okZ S0 (fun vs H Q E h=>?_) (fun cdv A outer s H vs Q E hr h=>?_)
  . obtain ⟨a,us,dx,ds,dn,gn,rfl,_,z,r,_⟩:=h;rw [List.length_cons,z.len];exact len _ _ _ r
  . obtain ⟨a,us,dx,ds,dn,gn,rfl,h1,z,r,q⟩:=h
    obtain ⟨t,hz,hs⟩:=body cdv A outer s H E hr
    refine ⟨t,hz,?_⟩
    have l:(V.ref a :: us).length=ps.length:=by rw [List.length_cons,z.len];exact len _ _ _ r
    have r0:Rs none (fun x=>x=a) K H ([a] ++ []) (L2.start N (V.ref a :: us)) (.dt (rawO a C) :: ds.map .dat ++ List.replicate (N.length - ps.length) .un):=by
      unfold L2.start
      rw [l]
      exact Rs.dt (l:=[a]) (L:=[]) (fun b hb=>List.mem_singleton.mp hb) (fun b hb h=>by cases h) (fun b hb h=>by cases h) ⟨rfl,rfl,dx,h1⟩ (rs_start _ z fun a n h=>n h)
    refine hs a ds dn gn r (fun x=>x=a) _ _ H _ r0 ⟨fun q h=>(by cases h),fun x h=>by rw [h];exact ⟨_,h1⟩⟩ (fun W' L' σ' H' τ' e ev o' al n l r'=>?_) (fun W' H' v s e ev o' al n rv=>e.elim)
    obtain ⟨a',l',g1,g2,g3,g4,rfl,b',c',rfl,ob'⟩:=r'.get_t e
    obtain ⟨dx',vs',us',k1,k2,k3,_⟩:=id ob'
    have nb:b' ≠ a':=ne_of k2 k1 (fun z=>by cases z)
    have nc:c' ≠ a':=ne_of k3 k1 (fun z=>by cases z)
    exact q H' b' c' (fun x o n h=>ev.keep x o n h) ev.tm ((n b' (g2 b' (by simp))).resolve_left nb) ((n c' (g2 c' (by simp))).resolve_left nc) ob'
theorem okMr {x qual:Str} {st:Stmt} {f:Addr} {fd:FuncData} {N ps:List Str} {k:Nat} {R:List Dat->List Dat->List Dat->Dat->Prop} (F:Fun K x qual st f fd) (S0:FnScope N ps (defScope st)) (len:∀ dn gn ds d,R dn gn ds d->ds.length + 1=ps.length)
    (body:∀ (cdv:Value) (A:Around) (outer:List Env) (s:Shared) (H:Hp) (E:XK),Room k (A.deeper (PyProof.Rows.envOfC qual (defScope st) s.heap.objs.size f cdv)) ->
      ∃ t,ZSs (cxOf CX0 P w K mg base N qual (defScope st) f cdv A outer s H E).nox (defBody st) t/\∀ a dn gn ds d,R dn gn ds d->S none K t (.dt (obV a C dn gn) :: ds.map .dat ++ List.replicate (N.length - ps.length) .un) (fun _=>d = .none) (fun s=>Gives d s)):FnOk P w K mg base CX0 (k + 1) f fd ps (spMr K C R):=by
  refine F.okZ S0 (fun vs H Q E h=>?_) (fun cdv A outer s H vs Q E hr h=>?_)
  . obtain ⟨a,us,b,c,dn,gn,ds,d,rfl,_,z,r,_⟩:=h;rw [List.length_cons,z.len];exact len _ _ _ _ r
  . obtain ⟨a,us,b,c,dn,gn,ds,d,rfl,ob,z,r,q⟩:=h
    obtain ⟨t,hz,hs⟩:=body cdv A outer s H E hr
    refine ⟨t,hz,?_⟩
    have l:(V.ref a :: us).length=ps.length:=by rw [List.length_cons,z.len];exact len _ _ _ _ r
    have r0:Rs none (fun _=>False) K H [] (L2.start N (V.ref a :: us)) (.dt (obV a C dn gn) :: ds.map .dat ++ List.replicate (N.length - ps.length) .un):=by
      unfold L2.start
      rw [l]
      exact Rs.dt (l:=[]) (L:=[]) (fun b hb=>by cases hb) (fun b hb=>by cases hb) (fun b hb=>by cases hb) ⟨rfl,rfl,b,c,fun h=>h,fun h=>h,fun h=>h,ob⟩ (rs_start _ z fun a _ h=>h)
    have same:∀ {H':Hp},Ev (fun _=>False) H H'->Same H H':=fun e b o h=>e.keep b o (fun z=>z) h
    refine hs a dn gn ds d r (fun _=>False) [] _ H _ r0 ⟨fun q h=>(by cases h),fun a h=>False.elim h⟩ (fun W' L' σ' H' τ' e ev o' al n l r'=>by subst e;exact q _ H' (same ev) .none) (fun W' H' v s e ev o' al n rv=>?_)
    cases s with
    | dat d' =>
      obtain ⟨rfl,nl⟩:=e
      exact q v H' (same ev) (Dz.free rv nl)
    | own es =>
      obtain ⟨rfl,nl⟩:=e
      obtain ⟨a,vs,rfl,h1,h2,h3⟩:=rv
      exact q _ H' (same ev) (.lst (.inl ⟨h1.resolve_left (fun z=>by cases z),.inl h2⟩) (h3.free nl))
    | dt es=>cases e
    | un=>cases e
    | pu=>cases e
    | vw ds=>cases e
theorem okMw {x qual:Str} {st:Stmt} {f:Addr} {fd:FuncData} {N ps:List Str} {k:Nat} {R:List Dat->List Dat->List Dat->List Dat->List Dat->Prop} (F:Fun K x qual st f fd) (S0:FnScope N ps (defScope st)) (len:∀ dn gn ds dn' gn',R dn gn ds dn' gn'->ds.length + 1=ps.length)
    (body:∀ (cdv:Value) (A:Around) (outer:List Env) (s:Shared) (H:Hp) (E:XK),Room k (A.deeper (PyProof.Rows.envOfC qual (defScope st) s.heap.objs.size f cdv)) ->
      ∃ t,ZSs (cxOf CX0 P w K mg base N qual (defScope st) f cdv A outer s H E).nox (defBody st) t/\∀ a dn gn ds dn' gn',R dn gn ds dn' gn'->S none K t (.dt (obO a C dn gn) :: ds.map .dat ++ List.replicate (N.length - ps.length) .un) (fun τ'=>τ'[0]?=some (.dt (obO a C dn' gn'))) (fun s=>False)):FnOk P w K mg base CX0 (k + 1) f fd ps (spMw K C R):=by
  refine F.okZ S0 (fun vs H Q E h=>?_) (fun cdv A outer s H vs Q E hr h=>?_)
  . obtain ⟨a,us,b,c,dn,gn,ds,dn',gn',rfl,_,z,r,_⟩:=h;rw [List.length_cons,z.len];exact len _ _ _ _ _ r
  . obtain ⟨a,us,b,c,dn,gn,ds,dn',gn',rfl,ob,z,r,q⟩:=h
    obtain ⟨t,hz,hs⟩:=body cdv A outer s H E hr
    refine ⟨t,hz,?_⟩
    have l:(V.ref a :: us).length=ps.length:=by rw [List.length_cons,z.len];exact len _ _ _ _ _ r
    have r0:Rs none (fun x=>x=a\/x=b\/x=c) K H ([a,b,c] ++ []) (L2.start N (V.ref a :: us)) (.dt (obO a C dn gn) :: ds.map .dat ++ List.replicate (N.length - ps.length) .un):=by
      unfold L2.start
      rw [l]
      exact Rs.dt (l:=[a,b,c]) (L:=[]) (fun b hb=>mem3.mp hb) (fun b hb h=>by cases h) (fun b hb h=>by cases h) ⟨rfl,b,c,rfl,ob⟩ (rs_start _ z fun a n h=>n h)
    refine hs a dn gn ds dn' gn' r (fun x=>x=a\/x=b\/x=c) _ _ H _ r0 ⟨fun q h=>(by cases h),fun x h=>ob.al x h⟩ (fun W' L' σ' H' τ' e ev o' al n l r'=>?_) (fun W' H' v s e ev o' al n rv=>e.elim)
    obtain ⟨a',l',g1,g2,g3,g4,rfl,b',c',rfl,ob'⟩:=r'.get_t e
    exact q H' b' c' ev al (fun x hx=>n x (g2 x (mem3.mpr hx))) ob'
end
end
end D
section
namespace L2
open PySem PySem.Spec PyProof.Rows
noncomputable def MethAt (K:PySem.W.Frag) (C:Addr) (m qual:Str) (st:Stmt):Prop:=∃ (f:Addr) (oc:Value) (od:Option Addr) (kV dc pm:Value) (an:Option Addr) (cd ct:Value) (sl:Array (Option Value)),
  PySem.W.findIn K (.ref C) m=some (some (.ref f))/\K.lookup f=some ⟨oc,od,.func (PySem.W.fnOf m qual (defArgs st) (defBody st) (defScope st) .none kV dc pm an cd ct),sl⟩/\PySem.W.codeIn K cd qual=true/\PySem.W.keepIn K (.ref f)=true/\PySem.W.isFn K (.ref f)=true
section
variable {K:PySem.W.Frag} {C:Addr} {m qual:Str} {st:Stmt} {f:Addr} {oc:Value} {od:Option Addr} {kV dc pm:Value} {an:Option Addr} {cd ct:Value} {sl:Array (Option Value)}
theorem MethAt.mk (a:PySem.W.findIn K (.ref C) m=some (some (.ref f))) (l:K.lookup f=some ⟨oc,od,.func (PySem.W.fnOf m qual (defArgs st) (defBody st) (defScope st) .none kV dc pm an cd ct),sl⟩) (c:PySem.W.codeIn K cd qual=true) (k:PySem.W.keepIn K (.ref f)=true) (n:PySem.W.isFn K (.ref f)=true):MethAt K C m qual st:=⟨f,oc,od,kV,dc,pm,an,cd,ct,sl,a,l,c,k,n⟩
theorem MethAt.get (d:MethAt K C m qual st):∃ (f:Addr) (fd:FuncData),Fun K m qual st f fd/\Meth K C m f:=by
  obtain ⟨f,oc,od,kV,dc,pm,an,cd,ct,sl,a,l,c,k,n⟩:=d
  exact ⟨f,_,fun_mk l c k,a,n,k⟩
noncomputable def InitAt (K:PySem.W.Frag) (C:Addr) (m qual:Str) (st:Stmt):Prop:=m = "__init__" /\ MethAt K C m qual st/\PySem.W.makesIn K C=true/\PySem.W.keepIn K (.ref C)=true
theorem InitAt.mk (h:MethAt K C "__init__" qual st) (a:PySem.W.makesIn K C=true) (b:PySem.W.keepIn K (.ref C)=true):InitAt K C "__init__" qual st:=⟨rfl,h,a,b⟩
theorem InitAt.get (d:InitAt K C m qual st):∃ (f:Addr) (fd:FuncData),Fun K m qual st f fd/\Mk K C f:=by
  obtain ⟨rfl,d,a,b⟩:=d
  obtain ⟨f,fd,F,M⟩:=d.get
  exact ⟨f,fd,F,a,M.at_,M.fn,b⟩
noncomputable def CMethAt (K:PySem.W.Frag) (C:Addr) (m qual:Str) (st:Stmt):Prop:=∃ (f:Addr) (fd:FuncData),Fun K m qual st f fd/\CMeth K C m f
theorem CMethAt.mk (a:PySem.W.findCls K (.ref C) (.type "type") m=some (.val (.ref f))) (l:K.lookup f=some ⟨oc,od,.func (PySem.W.fnOf m qual (defArgs st) (defBody st) (defScope st) .none kV dc pm an cd ct),sl⟩) (c:PySem.W.codeIn K cd qual=true) (k:PySem.W.keepIn K (.ref f)=true) (n:PySem.W.specialIn K (.ref C) "__getattribute__" = some (some (.builtin "type.__getattribute__"))) (p:PySem.W.readsIn K C (.type "type")=true):CMethAt K C m qual st:=⟨f,_,fun_mk l c k,n,p,a,k⟩
theorem CMethAt.get (d:CMethAt K C m qual st):∃ (f:Addr) (fd:FuncData),Fun K m qual st f fd/\CMeth K C m f:=d
end
end L2
namespace D
open PySem L2 K0 Num
open PySem.W (Dat)
section
variable {p:Option Addr} {K:PySem.W.Frag} {W:Addr->Prop} {L:List Addr} {σ:St} {H:Hp} {τ τ':List Sl} {tas:TA} {nx:List Sl->Prop} {rt:Sl->Prop} {ds dn gn:List Dat} {E':XK} {o:Own} {a C:Addr} {i:Nat} {m:Str} {d:Dat}
theorem E1.fldDV (oc:ObC K C) (h:τ[i]?=some (.dt (obV a C dn gn))):E1 p K (tFld K (tVar i) "done") τ (.dat (.list dn)):=fun W L σ H Q r ok q=>by
  obtain ⟨a',l,g1,g2,g3,g4,rfl,_,b,c,n1,n2,n3,dx,vs,us,h1,h2,h3,n,z1,z2⟩:=r.get_t h
  exact ⟨_,g1,_,C,dx,_,_,rfl,h1,oc.cls,oc.nd,rfl,q _ H _ rfl Ev.refl ok (.lst (.inl ⟨n2,.inl h2⟩) (z1.mono fun _ h=>h.elim))⟩
theorem S.callMw1 {R:List Dat->List Dat->List Dat->List Dat->List Dat->Prop} {dn' gn':List Dat} (h:τ[i]?=some (.dt (obO a C dn gn))) (ha:A1 p K tas τ (ds.map .dat)) (hr:R dn gn ds dn' gn') (m':nx τ') (e:τ.set i (.dt (obO a C dn' gn'))=τ':=by rfl) (hm:∀ b c,List.lookup m [(("done" : Str),V.ref b),("gone",V.ref c)]=none:=by intro _ _;rfl):S p K (tDrop (tMeth C m (spMw K C R) [] E' (tVar i) tas)) τ nx rt :=
  S.callMw (CA:=fun x=>ds=x) h (fun W L σ H Q r o q=>ha W L σ H Q r o fun vs H' ss e=>q vs H' ss ⟨ds,e.symm,rfl⟩) (fun x hx=>by subst hx;exact ⟨dn',gn',hr,by rw [e];exact m'⟩) hm
end
theorem ObC.of {K:PySem.W.Frag} {C:Addr} (a:PySem.W.plainGet K C Str.empty=true) (b:PySem.W.hasDictIn K C=true) (c:PySem.W.plainOver K C=true) (d:PySem.W.findIn K (.ref C) "__setattr__" = some (some (.builtin "object.__setattr__"))) (e:PySem.W.findIn K (.ref C) "done" = some none) (f:PySem.W.findIn K (.ref C) "gone" = some none):ObC K C:=⟨⟨a,b,c,d⟩,e,f⟩
noncomputable def RLatest:List Dat->List Dat->List Dat->Dat->Prop:=fun dn _ ds d=>ds=[]/\noL d=true/\∃ xs,dn=xs ++ [d]
noncomputable def RDo:List Dat->List Dat->List Dat->List Dat->List Dat->Prop:=fun dn _ ds dn' gn'=>∃ d,ds=[d]/\noL d=true/\dn.length < 1000/\dn'=dn ++ [d]/\gn'=[]
theorem noL_tI {ns:List Int}:noL (tI ns)=true:=noLs_ints ns
theorem noL_t2 {x y:Dat} (h1:noL x=true) (h2:noL y=true):noL (.tuple [x,y])=true:=by rw [noL,noLs,noLs,noLs,h1,h2];rfl
theorem lt_size1000 {n:Nat} (h:n < 1000):n < sizeLine:=Nat.lt_of_lt_of_le h (by decide)
end D
end
namespace D
open PySem L2 K0 Num
open PySem.W (Dat)
section
noncomputable def RPlus:List Dat->Dat->Prop:=fun ds d=>∃ a b c e:Int,ds=[tI [a,b],tI [c,e]]/\0 < b/\0 < e/\Bt a 6000/\Bt c 6000/\Bt b 6000/\Bt e 6000/\Bt (b * e) 8000/\d=tI (qf (qv a b + qv c e))
theorem qv_add {a b c e:Int} (hb:0 < b) (he:0 < e):qv (a * e + c * b) (b * e)=qv a b + qv c e:=by
  have h1:(b:Rat) ≠ 0:=cast_ne (by omega)
  have h2:(e:Rat) ≠ 0:=cast_ne (by omega)
  unfold qv
  push_cast
  grind
theorem qv_mul {a b c e:Int} (hb:0 < b) (he:0 < e):qv (a * c) (b * e)=qv a b * qv c e:=by
  have h1:(b:Rat) ≠ 0:=cast_ne (by omega)
  have h2:(e:Rat) ≠ 0:=cast_ne (by omega)
  unfold qv
  push_cast
  grind
theorem fr_add {a b c e:Int} (hb:0 < b) (he:0 < e):fr (a * e + c * b) (b * e)=qf (qv a b + qv c e):=by
  rw [fr_qf (Int.mul_pos hb he),qv_add hb he]
noncomputable def QN (c:Nat) (x:Rat):Prop:=Bt x.num c/\Bt (x.den:Int) c
theorem QN.up {c k:Nat} {x:Rat} (h:QN c x) (hc:c<=k):QN k x:=⟨h.1.up hc,h.2.up hc⟩
theorem den_pos (x:Rat):(0:Int) < x.den:=by have:=x.den_pos;omega
theorem QN.of {c:Nat} {t b:Int} (hb:0 < b) (h1:Bt t c) (h2:Bt b c):QN c (qv t b):=by
  have l:=lo_over (c:=c) hb h2 h1 rfl
  exact ⟨l.bt,l.bb⟩
theorem QN.add {c k:Nat} {x y:Rat} (h:QN c x) (g:QN k y):QN (c + k + 1) (x + y):=by
  have e:=qv_add (a:=x.num) (b:=x.den) (c:=y.num) (e:=y.den) (den_pos x) (den_pos y)
  rw [qf_val,qf_val] at e
  rw [<- e]
  exact QN.of (Int.mul_pos (den_pos x) (den_pos y)) (((h.1.mul g.2)).add ((g.1.mul h.2).up (by omega))) ((h.2.mul g.2).up (by omega))
theorem PB.qn {c:Nat} {x y z:Rat} (h:PB c x y z):QN c x/\QN c y/\QN c z:=by
  obtain ⟨l1,l2,l3⟩:=h.lo
  exact ⟨⟨l1.bt,l1.bb⟩,⟨l2.bt,l2.bb⟩,⟨l3.bt,l3.bb⟩⟩
structure Fw where
  t:Int
  b:Int
noncomputable def Fw.q (f:Fw):Rat:=qv f.t f.b
noncomputable def Fw.d (f:Fw):Dat:=tI [f.t,f.b]
noncomputable def FwOk (m n:Nat) (f:Fw):Prop:=0 < f.b/\Bt f.t m/\Bt f.b n
noncomputable def RInner:List Dat->Dat->Prop:=fun ds r=>∃ (l:Bool) (a b c u v w:Fw) (m n m' n':Nat),ds=[sqD l [a.d,b.d,c.d],.tuple [u.d,v.d,w.d]]/\FwOk m n a/\FwOk m n b/\FwOk m n c/\FwOk m' n' u/\FwOk m' n' v/\FwOk m' n' w/\m + m'<=2600/\n + n'<=2600/\r=tI (qf (a.q * u.q + b.q * v.q + c.q * w.q))
noncomputable def RTurnF:List Dat->Dat->Prop:=fun ds r=>∃ (m c:Nat) (a b d e:Int) (x y z:Rat),ds=[tI [a,b,d,e],ptQ x y z]/\(∃ n ∈ [a,b,d,e],n ≠ 0)/\Bd (2 ^ m) [a,b,d,e]/\PB c x y z/\m<=700/\c<=1600/\c + 2 * m + 3<=2600/\r=ptQ (Q1 a b d e x y z) (Q2 a b d e x y z) (Q3 a b d e x y z)
theorem snocRec {α:Type} {motive:List α->Prop} (nil:motive []) (append_singleton:∀ l a,motive l->motive (l ++ [a])) (l:List α):motive l:=by
  have h:∀ n (l:List α),l.length=n->motive l:=by
    intro n
    induction n with
    | zero=>intro l hl;rw [List.length_eq_zero_iff.mp hl];exact nil
    | succ n ih =>
      intro l hl
      have ne:l ≠ []:=fun z=>by rw [z] at hl;cases hl
      rw [<- List.dropLast_concat_getLast ne]
      exact append_singleton _ _ (ih _ (by rw [List.length_dropLast];omega))
  exact h _ l rfl
noncomputable def lf (l:List (List Int)):List Int:=l.foldl (fun P f=>pl (qm f P)) [1,0,0,0]
theorem lf_snoc (l:List (List Int)) (f:List Int):lf (l ++ [f])=pl (qm f (lf l)):=by unfold lf;rw [List.foldl_append];rfl
noncomputable def Fs (b:Nat) (l:List (List Int)):Prop:=∀ f ∈ l,F4 b f
theorem f4_then {b c:Nat} {f g:List Int} (h:F4 b f) (k:F4 c g):F4 (b + c + 2) (pl (qm f g)):=by
  have nq:=nz_qm h.1 k.1 h.2.1 k.2.1
  refine ⟨by rw [pl_length];exact qm_len h.1 k.1,nz_pl nq,bd_pl nq (bd_mono (bd_qm h.1 k.1 h.2.2 k.2.2) ?_)⟩
  rw [<- Nat.pow_add,show (4:Nat)=2 ^ 2 from rfl, <- Nat.pow_add];exact Nat.pow_le_pow_right (by decide) (by omega)
theorem lf_f4 {b:Nat} {l:List (List Int)} (h:Fs b l):F4 ((b + 2) * l.length) (lf l):=by
  induction l using snocRec with
  | nil=>exact ⟨rfl,⟨1,by decide,by decide⟩,by rw [List.length_nil,Nat.mul_zero];show Bd 1 [1,0,0,0];unfold Bd;decide⟩
  | append_singleton l f ih =>
    rw [lf_snoc]
    have h1:=ih fun g hg=>h g (List.mem_append_left _ hg)
    have h2:=h f (List.mem_append_right _ (List.mem_singleton_self _))
    exact (f4_then h2 h1).up (by rw [List.length_append,List.length_singleton,Nat.mul_add,Nat.mul_one];omega)
theorem lf_cons {b:Nat} {l:List (List Int)} {f:List Int} (hf:F4 b f) (h:Fs b l):lf (f :: l)=pl (qm (lf l) f):=by
  induction l using snocRec with
  | nil =>
    show pl (qm f [1,0,0,0])=pl (qm [1,0,0,0] f)
    rw [qm_oneR hf.1,qm_oneL hf.1]
  | append_singleton l g ih =>
    have hl:Fs b l:=fun g hg=>h g (List.mem_append_left _ hg)
    have hg:=h g (List.mem_append_right _ (List.mem_singleton_self _))
    have k:=lf_f4 hl
    have nq:=nz_qm k.1 hf.1 k.2.1 hf.2.1
    have nq2:=nz_qm hg.1 k.1 hg.2.1 k.2.1
    rw [<- List.cons_append,lf_snoc,ih hl,lf_snoc,pl_qmR hg.1 (qm_len k.1 hf.1) hg.2.1 nq,pl_qmL (qm_len hg.1 k.1) hf.1 nq2 hf.2.1,qm_assoc hg.1 k.1 hf.1]
noncomputable def rmsOf (ds:List (Bool × List Int)):List (List Int):=(ds.filter fun d => !d.1).map (·.2)
noncomputable def ownsOf (ds:List (Bool × List Int)):List (List Int):=(ds.filter fun d=>d.1).map (·.2)
noncomputable def ordL (ds:List (Bool × List Int)):List (List Int):=(ownsOf ds).reverse ++ rmsOf ds
noncomputable def stP (q:List Int) (d:Bool × List Int):List Int:=if d.1=true then pl (qm q d.2) else pl (qm d.2 q)
noncomputable def stOf (ds:List (Bool × List Int)):List Int:=ds.foldl stP [1,0,0,0]
noncomputable def Dd (b:Nat) (ds:List (Bool × List Int)):Prop:=∀ d ∈ ds,F4 b d.2
theorem Dd.ordL {b:Nat} {ds:List (Bool × List Int)} (h:Dd b ds):Fs b (ordL ds):=fun f hf=>by
  rcases List.mem_append.mp hf with hf | hf
  . obtain ⟨d,hd,rfl⟩:=List.mem_map.mp (List.mem_reverse.mp hf);exact h d ((List.mem_filter.mp hd).1)
  . obtain ⟨d,hd,rfl⟩:=List.mem_map.mp hf;exact h d ((List.mem_filter.mp hd).1)
theorem stOf_snoc (ds:List (Bool × List Int)) (d:Bool × List Int):stOf (ds ++ [d])=stP (stOf ds) d:=by unfold stOf;rw [List.foldl_append];rfl
theorem stOf_eq {b : Nat} {ds : List (Bool × List Int)} (h : Dd b ds) : stOf ds = lf (ordL ds) := by
  induction ds using snocRec with
  | nil=>rfl
  | append_singleton ds d ih =>
    have h1:Dd b ds:=fun x hx=>h x (List.mem_append_left _ hx)
    have h2:=h d (List.mem_append_right _ (List.mem_singleton_self _))
    rw [stOf_snoc,ih h1]
    obtain ⟨o,f⟩:=d
    cases o with
    | true =>
      have e:D.ordL (ds ++ [(true,f)])=f :: D.ordL ds:=by
        unfold D.ordL ownsOf rmsOf
        simp
      rw [e,lf_cons h2 h1.ordL]
      rfl
    | false =>
      have e:D.ordL (ds ++ [(false,f)])=D.ordL ds ++ [f]:=by
        unfold D.ordL ownsOf rmsOf
        simp
      rw [e,lf_snoc]
      rfl
theorem ordL_len (ds:List (Bool × List Int)):(ordL ds).length=ds.length:=by
  unfold ordL ownsOf rmsOf
  induction ds with
  | nil=>rfl
  | cons d ds ih =>
    obtain ⟨o,f⟩:=d
    cases o <;> simp at ih ⊢ <;> omega
theorem stOf_f4 {b:Nat} {ds:List (Bool × List Int)} (h:Dd b ds):F4 ((b + 2) * ds.length) (stOf ds):=by
  rw [stOf_eq h, <- ordL_len ds];exact lf_f4 h.ordL
noncomputable def tq (f:List Int) (v:Rat × Rat × Rat):Rat × Rat × Rat:=match f with
  | [a,b,d,e]=>(Q1 a b d e v.1 v.2.1 v.2.2,Q2 a b d e v.1 v.2.1 v.2.2,Q3 a b d e v.1 v.2.1 v.2.2)
  | _=>v
noncomputable def pQ (v:Rat × Rat × Rat):Dat:=ptQ v.1 v.2.1 v.2.2
noncomputable def PB3 (c:Nat) (v:Rat × Rat × Rat):Prop:=PB c v.1 v.2.1 v.2.2
theorem tq_then {b c:Nat} {f g:List Int} (h:F4 b f) (k:F4 c g) (v:Rat × Rat × Rat):tq (pl (qm f g)) v=tq f (tq g v):=by
  obtain ⟨a,b,d,e,rfl⟩:=four_of h.1
  obtain ⟨a',b',d',e',rfl⟩:=four_of k.1
  obtain ⟨p,q,r,s,e0⟩:=four_of (f4_then h k).1
  have z:=Q_th e0 k.2.1 h.2.1 (x:=v.1) (y:=v.2.1) (z:=v.2.2)
  rw [e0]
  show (_,_,_)=((_,_,_):Rat × Rat × Rat)
  exact Prod.ext z.1.symm (Prod.ext z.2.1.symm z.2.2.symm)
theorem tq_one (v:Rat × Rat × Rat):tq [1,0,0,0] v=v:=by
  show (Q1 1 0 0 0 v.1 v.2.1 v.2.2,Q2 1 0 0 0 v.1 v.2.1 v.2.2,Q3 1 0 0 0 v.1 v.2.1 v.2.2)=v
  unfold Q1 Q2 Q3 K0.R1 K0.R2 K0.R3 N4
  obtain ⟨x,y,z⟩:=v
  refine Prod.ext ?_ (Prod.ext ?_ ?_) <;> simp <;> grind
theorem PB3.tq {b c:Nat} {f:List Int} {v:Rat × Rat × Rat} (h:F4 b f) (p:PB3 c v):PB3 (c + 2 * b + 5) (D.tq f v):=by
  obtain ⟨a,b,d,e,rfl⟩:=four_of h.1
  exact p.turned h.2.1 h.2.2
theorem pb_of3 {k b c:Nat} {x y z:Rat} (h1:∃ t u:Int,x=qv t u/\0 < u/\Bt t k/\Bt u b) (h2:∃ t u:Int,y=qv t u/\0 < u/\Bt t k/\Bt u b) (h3:∃ t u:Int,z=qv t u/\0 < u/\Bt t k/\Bt u b) (hc:k + 2 * b<=c/\3 * b<=c):PB c x y z:=by
  obtain ⟨t1,u1,rfl,p1,a1,b1⟩:=h1
  obtain ⟨t2,u2,rfl,p2,a2,b2⟩:=h2
  obtain ⟨t3,u3,rfl,p3,a3,b3⟩:=h3
  have n1:=cast_ne (show u1 ≠ 0 by omega)
  have n2:=cast_ne (show u2 ≠ 0 by omega)
  have n3:=cast_ne (show u3 ≠ 0 by omega)
  refine ⟨u1 * u2 * u3,t1 * u2 * u3,t2 * u1 * u3,t3 * u1 * u2,Int.mul_pos (Int.mul_pos p1 p2) p3,((b1.mul b2).mul b3).up (by omega),((a1.mul b2).mul b3).up (by omega),((a2.mul b1).mul b3).up (by omega),((a3.mul b1).mul b2).up (by omega),?_,?_,?_⟩ <;> (unfold qv;push_cast;grind)
section
variable {p:Option Addr} {K:PySem.W.Frag} {τ:List Sl} {tas:TA} {E':XK}
theorem E.callCQ {R:List Dat->Dat->Prop} {C:List Sl->Prop} {CD:Dat->Prop} (ha:A p K tas τ C) (hr:∀ ss,C ss->∃ ds d,datsOf ss=some ds/\R ds d/\CD d):E p K (tCall (spP K R) [] E' tas) τ (fun s=>∃ d,s = .dat d/\CD d):=fun W L σ H Q rs o q=>ha W L σ H _ rs o fun vs H1 ss c e1 o1 rv=>by
  obtain ⟨ds,d,hd,r,cd⟩:=hr ss c
  show spP K R (vs ++ []) H1 Q E'
  rw [List.append_nil]
  exact ⟨ds,d,rv.dz hd,r,fun v H' s z=>q v H' _ ⟨d,rfl,cd⟩ (e1.trans (Ev.of s)) (o1.same s) (z.mono fun b hb=>o1.fresh hb)⟩
end
end
section
section
variable {p:Option Addr} {K:PySem.W.Frag} {τ:List Sl} {tas:TA}
theorem E.tupA {C:List Dat->Prop} (ha:A p K tas τ (fun ss=>∃ ds:List Dat,ss=ds.map .dat/\ds.length<=1000/\C ds)):E p K (tTup tas) τ (fun s=>∃ ds,s = .dat (.tuple ds)/\C ds):=fun W L σ H Q rs o q=>ha W L σ H _ rs o fun vs H1 ss ⟨ds,ess,hl,c⟩ e1 o1 rv=>by
  subst ess
  refine ⟨by rw [rv.len,List.length_map];exact Nat.le_trans hl (by decide),fun a ha=>?_⟩
  have s1:=Same.new ha (.tup vs)
  exact q _ _ _ ⟨ds,rfl,c⟩ (e1.trans (Ev.of s1)) (o1.same s1) (.tup (SqT.of upd_same) (rv.dats.ev (W:=Pp p) (Ev.of s1) o1.nw))
end
theorem turnF {m c:Nat} {f:List Int} {v:Rat × Rat × Rat} (hf:F4 m f) (hv:PB3 c v) (h:m<=700/\c<=1600/\c + 2 * m + 3<=2600):RTurnF [tI f,pQ v] (pQ (tq f v)):=by
  obtain ⟨a,b,d,e,rfl⟩:=four_of hf.1
  exact ⟨m,c,a,b,d,e,v.1,v.2.1,v.2.2,rfl,hf.2.1,hf.2.2,hv,h.1,h.2.1,h.2.2,rfl⟩
end
end D
section
namespace L2
open PySem PySem.Spec PyProof.Rows
namespace RvT
theorem sInit:Slot "reversed" "__init__" "object.__init__" := by
  refine Slot.of (owner := "object") (n := "__init__") ?_ ?_ ?_ ?_ ?_ ?_
  . rw [typeLookup_type,builtinLookup_eq_fast]
    kernel_rfl
  . decide +kernel
  . decide +kernel
  . decide +kernel
  . first
    | exact .inl (by decide +kernel)
    | exact .inr (by decide +kernel)
  . rw [isSubtype_type]
    kernel_rfl
theorem sNext:Slot "reversed" "__next__" "reversed.__next__" := by
  refine Slot.of (owner := "reversed") (n := "__next__") ?_ ?_ ?_ ?_ ?_ ?_
  . rw [typeLookup_type,builtinLookup_eq_fast]
    kernel_rfl
  . decide +kernel
  . decide +kernel
  . decide +kernel
  . first
    | exact .inl (by decide +kernel)
    | exact .inr (by decide +kernel)
  . rw [isSubtype_type]
    kernel_rfl
theorem sIter:Slot "reversed" "__iter__" "reversed.__iter__" := by
  refine Slot.of (owner := "reversed") (n := "__iter__") ?_ ?_ ?_ ?_ ?_ ?_
  . rw [typeLookup_type,builtinLookup_eq_fast]
    kernel_rfl
  . decide +kernel
  . decide +kernel
  . decide +kernel
  . first
    | exact .inl (by decide +kernel)
    | exact .inr (by decide +kernel)
  . rw [isSubtype_type]
    kernel_rfl
theorem eNext:entryFor table "reversed.__next__" = some Builtin.«reversed.__next__» := entryFor_of_tree (by kernel_rfl)
theorem eIter:entryFor table "reversed.__iter__" = some Builtin.«dict_keyiterator.__iter__» := by
  refine entryFor_alias (id' := "dict_keyiterator.__iter__") (by kernel_rfl) ?_ (by decide +kernel) (by kernel_rfl)
  first
  | rfl
  | decide +kernel
  | (unfold String.splitOn
     simp +decide [String.splitOnAux])
theorem owner:Manifest.owners.lookup (String.ofList (['d', 'e', 's', 'r', 'e', 'v', 'e', 'r'].reverse))=some Manifest.sig_reversed:=by kernel_rfl
theorem aNext (a:Value):argsOk "reversed.__next__" ⟨[a],[]⟩:=by
  unfold argsOk
  rw [signature?_of (id := "reversed.__next__") (n:=['_', '_', 't', 'x', 'e', 'n', '_', '_']) (o:=['d', 'e', 's', 'r', 'e', 'v', 'e', 'r']) (by kernel_rfl) owner]
  kernel_rfl
theorem aIter (a:Value):argsOk "reversed.__iter__" ⟨[a],[]⟩:=by
  unfold argsOk
  rw [signature?_of (id := "reversed.__iter__") (n:=['_', '_', 'r', 'e', 't', 'i', '_', '_']) (o:=['d', 'e', 's', 'r', 'e', 'v', 'e', 'r']) (by kernel_rfl) owner]
  kernel_rfl
theorem aInit (a b:Value):argsOk "object.__init__" ⟨[a,b],[]⟩:=F.args_object_init_2 a b
theorem called:TypeCalled "reversed" "reversed.__new__" "object.__init__" where
  notType:=by decide +kernel
  canCreate:=F.create_reversed
  mro:=⟨_,_,F.mro_reversed⟩
  made:=F.made_reversed
  plain:=F.plain_reversed_new
  sub:=F.sub_reversed_self
  init:=sInit
theorem noRev:typeLookup (.type "tuple") "__reversed__" = pure none:=by
  rw [typeLookup_type,builtinLookup_eq_fast]
  kernel_rfl
theorem notDict:isSubtype (.type "tuple") (.type "dict")=pure false:=by
  rw [isSubtype_type]
  kernel_rfl
section
variable {prog:Program} {w:World} {A:Around} {E:Value->Shared->Prop} {s:Shared} {t it:Addr} {items:Array Value}
noncomputable def rec (t:Addr) (i:Int):Obj:={ cls:=.type "reversed",data:=.fields #[.ref t,rawInt i] }
noncomputable def Is (h:Heap) (a t:Addr) (i:Int):Prop:=∃ o,h.get? a=some o/\o.cls = .type "reversed" /\ o.data = .fields #[.ref t,rawInt i]
theorem Is.ty {i:Int} (x:Is s.heap it t i):s.TypeIs (.ref it) "reversed" := let ⟨o,a,b,_⟩:=x;⟨o,a,b⟩
theorem Is.at {h h':Heap} {i:Int} (x:Is h it t i) (e:∀ o,h.get? it=some o->h'.get? it=some o):Is h' it t i:=let ⟨o,a,b⟩:=x;⟨o,e _ a,b⟩
theorem code_new {Q:Value->Shared->Prop} (ht:IsTup s.heap t items) (hz:(items.size:Int) < 2 ^ 63)
    (h:Q (.ref s.heap.objs.size) { s with heap:=s.heap.push (rec t ((items.size:Int) - 1)),toks:=s.toks + 1 + 1 }) :
    codeAny (model prog w) A (.call (.builtin "reversed.__new__") ⟨[.type "reversed",.ref t],[]⟩) (wants Q E) s:=by
  refine codeAny_of_tree ?_
  show wpAny _ A.in1 (checkBuiltinCall "reversed.__new__" ⟨[.type "reversed",.ref t],[]⟩ >>= fun _=>again (.builtin "reversed.__new__" ⟨[.type "reversed",.ref t],[]⟩)) _ _ s
  refine wpAny_bind (wpAny_of_eq (F.newCall_reversed_1 _) ?_)
  refine wpAny_pure ⟨plainId_quiet F.plain_reversed_new _,codeAny_builtin F.entry_reversed_new ?_⟩
  rw [Around.under_plainId F.plain_reversed_new _]
  unfold Builtin.«reversed.__new__»
  refine wpAny_bind (wpAny_of_eq (newClass_reversed _) ?_)
  try dsimp only
  refine wpAny_bind (wpAny_of_eq (a:=()) ?_ ?_)
  . first
    | rfl
    | kernel_rfl
  refine wpAny_bind (wpAny_of_eq (a:=()) ?_ ?_)
  . first
    | rfl
    | kernel_rfl
  try dsimp only
  refine wpAny_bind (wpAny_specialOf ht.typeIs noRev ?_)
  refine wpAny_bind ?_
  show wpAny _ _ (isInstance (Value.ref t) (.type "dict") >>= _) _ _ _
  refine wpAny_bind (wpAny_isInstance ht.typeIs notDict ?_)
  try dsimp only
  try rw [if_neg Bool.false_ne_true]
  refine wpAny_bind (wpAny_specialOf ht.typeIs slot_tuple_getitem.lookup ?_)
  show wpAny _ _ (if (List.contains _ "tuple.__getitem__")=true then pure true else _) _ _ _
  rw [if_pos (by decide +kernel)]
  refine wpAny_pure ?_
  rw [if_neg (by decide)]
  refine wpAny_bind (PyProof.Rows.len_tuple ht hz ?_)
  refine wpAny_bind (wpAny_of_eq (a:=some (items.size:Int)) rfl ?_)
  try dsimp only
  refine wpAny_bind ?_
  unfold Builtin.SmallTypes.newRecord
  refine wpAny_newObj_type ?_ (by size_fits)
  exact wpAny_pure h
theorem call_new {Q:Value->Shared->Prop} (ht:IsTup s.heap t items) (hz:(items.size:Int) < 2 ^ 63)
    (h:Q (.ref s.heap.objs.size) { s with heap:=s.heap.push (rec t ((items.size:Int) - 1)),toks:=s.toks + 1 + 1 }):wpAny (model prog w) A (call (.type "reversed") [.ref t]) Q E s:=by
  refine callType_codes (Q₁:=fun obj s₁=>obj = .ref s.heap.objs.size/\s₁={ s with heap:=s.heap.push (rec t ((items.size:Int) - 1)),toks:=s.toks + 1 + 1 }) called (F.typeCall_reversed_1 _) F.entry_object_init (code_new ht hz ⟨rfl,rfl⟩) ?_
  rintro obj s₁ ⟨rfl,rfl⟩
  have ty:Shared.TypeIs { s with heap:=s.heap.push (rec t ((items.size:Int) - 1)),toks:=s.toks + 1 + 1 } (.ref s.heap.objs.size) "reversed" := ⟨_,Heap.get?_push_size _ rfl,rfl⟩
  refine ⟨ty,aInit _ _,?_⟩
  exact object_init_meets (newId := "reversed.__new__") sInit.lookup F.made_reversed (by decide) prog w A.in1 _ _ ⟨ty,rfl,h⟩
theorem next_item {i:Nat} {x:Value} {Q:Option Value->Shared->Prop} (hit:Is s.heap it t (i:Int)) (ht:IsTup s.heap t items) (hx:items[i]?=some x) (hz:(items.size:Int) < 2 ^ 63)
    (hQ:∀ h',Is h' it t ((i:Int) - 1)->Heap.SameBut it s.heap h'->Q (some x) { s with heap:=h',toks:=s.toks + 1 }):wpAny (model prog w) A (pyNext (.ref it)) Q E s:=by
  obtain ⟨o,ho,hc,hd⟩:=id hit
  have hi:i < items.size:=by
    rcases Nat.lt_or_ge i items.size with z | z
    . exact z
    . rw [Array.getElem?_eq_none z] at hx;cases hx
  unfold pyNext
  refine wpAny_bind (wpAny_attempt ?_)
  refine wpAny_callSpecial?_slot (name:=Str.ofString "__next__") hit.ty sNext ?_
  refine wpAny_call_entry sNext hit.ty eNext ?_ (aNext _)
  unfold Builtin.«reversed.__next__»
  refine wpAny_bind (wpAny_of_eq (a:=(Value.ref it,[])) rfl ?_)
  try dsimp only
  refine wpAny_bind (wpAny_field ho hd (x:=.ref t) rfl ?_)
  refine wpAny_bind (wpAny_field ho hd (x:=rawInt (i:Int)) rfl ?_)
  show wpAny _ _ (if (i:Int) < 0 then _ else _) _ _ s
  rw [if_neg (by omega)]
  refine wpAny_bind (wpAny_specialOf ht.typeIs slot_tuple_getitem.lookup ?_)
  try dsimp only
  rw [if_neg (by decide)]
  refine wpAny_bind (wpAny_mkInt ?_)
  refine wpAny_bind (wpAny_attempt ?_)
  have hj:seqIndex? (i:Int) items.size=some i:=by
    unfold seqIndex?
    simp
    omega
  refine PyProof.Rows.getItem_tuple (s:={ s with toks:=s.toks + 1 }) ht (by omega) (by omega) hj hx ?_
  try dsimp only
  refine wpAny_bind (wpAny_field (s:={ s with toks:=s.toks + 1 }) ho hd (x:=rawInt (i:Int)) rfl ?_)
  show wpAny _ _ (setField (Value.ref it) 1 (rawInt ((i:Int) - 1)) >>= _) _ _ _
  refine wpAny_bind (wpAny_setField ho hd (by simp) ?_)
  refine wpAny_pure ⟨x,rfl,wpAny_pure (hQ _ ?_ (Heap.SameBut.update ..))⟩
  refine ⟨_,Heap.get?_update_self _ ho (Obj.isFreed_of_fields (Obj.data_mapFields hd _)),(Obj.cls_mapFields ..).trans hc,?_⟩
  rw [Obj.data_mapFields hd]
  simp
theorem next_end {Q:Option Value->Shared->Prop} (hh:A.handled=none) (hit:Is s.heap it t (-1)) (hQ:∀ h',Heap.ExtBut it s.heap h'->Q none { s with heap:=h' }):wpAny (model prog w) A (pyNext (.ref it)) Q E s:=by
  obtain ⟨o,ho,hc,hd⟩:=id hit
  unfold pyNext
  refine wpAny_bind (wpAny_attempt ?_)
  refine wpAny_callSpecial?_slot (name:=Str.ofString "__next__") hit.ty sNext ?_
  refine wpAny_call_entry sNext hit.ty eNext ?_ (aNext _)
  unfold Builtin.«reversed.__next__»
  refine wpAny_bind (wpAny_of_eq (a:=(Value.ref it,[])) rfl ?_)
  try dsimp only
  refine wpAny_bind (wpAny_field ho hd (x:=.ref t) rfl ?_)
  refine wpAny_bind (wpAny_field ho hd (x:=rawInt (-1)) rfl ?_)
  show wpAny _ _ (if (-1:Int) < 0 then _ else _) _ _ s
  rw [if_pos (by decide)]
  refine wpAny_bind (wpAny_rule ?_)
  refine wpAny_bind ?_
  show wpAny _ _ (setField (Value.ref it) 1 (rawInt (-1)) >>= _) _ _ _
  refine wpAny_bind (wpAny_setField ho hd (by simp) ?_)
  have ho2:=Heap.get?_update_self (Obj.mapFields fun vs=>vs.setIfInBounds 1 (rawInt (-1))) ho (Obj.isFreed_of_fields (Obj.data_mapFields hd _))
  have hd2:(Obj.mapFields (fun vs=>vs.setIfInBounds 1 (rawInt (-1))) o).data = .fields (#[Value.ref t,rawInt (-1)].setIfInBounds 1 (rawInt (-1))):=Obj.data_mapFields hd _
  refine wpAny_setField ho2 hd2 (by simp) ?_
  refine wpAny_bind ?_
  show wpAny _ _ (newExc (.type "StopIteration") [] >>= _) _ _ _
  refine wpAny_bind ?_
  simp only [newExc,newTuple]
  refine wpAny_bind (wpAny_newObj_type ?_ (by size_fits))
  refine wpAny_bind (m:=firstArgMember _ _) (wpAny_of_eq (a:=Value.none) ?_ ?_)
  . first
    | rfl
    | (simp only [firstArgMember]
       rfl)
  refine wpAny_newObj_type ?_ (by size_fits)
  simp only [raiseNew]
  refine wpAny_bind (wpAny_handled ?_)
  rw [show A.in1.handled=none from hh]
  refine wpAny_bind (wpAny_pure (wpAny_throw ?_))
  refine wpAny_bind (wpAny_isInstance (T := "StopIteration") (b:=true) ⟨_,Heap.get?_push_size _ rfl,rfl⟩ isSubtype_stop ?_)
  refine wpAny_pure (hQ _ fun b ob hb e=>Heap.get?_push_of_some _ (Heap.get?_push_of_some _ ?_))
  exact ((Heap.SameBut.update ..).2 b hb).trans (((Heap.SameBut.update ..).2 b hb).trans e)
theorem iter_self {i:Int} {Q:Value->Shared->Prop} (hit:Is s.heap it t i) (h:Q (.ref it) s):wpAny (model prog w) A (pyIter (.ref it)) Q E s:=by
  refine wpAny_pyIter_slot hit.ty sIter (wpAny_call_entry sIter hit.ty eIter ?_ (aIter _))
  show wpAny _ _ (ret (.ref it)) _ _ s
  refine wpAny_pure ⟨_,rfl,"reversed",_,hit.ty,sNext.lookup,h⟩
end
end RvT
noncomputable def Itw (K:PySem.W.Frag) (a:Addr) (n:Nat):It :=
  ⟨fun i H=>i < n/\∃ xs x,SqT K H a xs/\xs.length=n/\xs[n - 1 - i]?=some x,fun i H x H'=>H'=H/\∀ xs,SqT K H a xs->xs[n - 1 - i]?=some x,fun i _=>n<=i⟩
theorem turn_revT {P:Program} {w:World} {K:PySem.W.Frag} {tg:Expr} (a it:Addr) (n:Nat):Turn P w K tg (Itw K a n) [it] it (fun i h=>i<=n/\RvT.Is h it a ((n:Int) - 1 - (i:Int))) where
  mem:=by simp
  obj:=fun i h st b hb=>by
    have e:b=it:=by simpa using hb
    subst e
    obtain ⟨_,o,e,c,d⟩:=st
    exact ⟨o,e,fun v z=>by rw [d] at z;cases z⟩
  keep:=fun i h h' st k=>⟨st.1,st.2.at fun o e=>k it (by simp) o e⟩
  item:=by
    intro X hP hw hK hc i pins s σ H E I hf st hg
    subst hP hw hK
    obtain ⟨hi,xs,x,hq,hl,hx⟩:=hg
    obtain ⟨its,rv,p,hz⟩:=I.tuple hq
    obtain ⟨u,hu,ru⟩:=rv.get hx
    obtain ⟨f0,f1,f2,f3,f4,f5⟩:=hf it (by simp)
    have hlen:=rv.length
    have e:((n:Int) - 1 - (i:Int))=((n - 1 - i:Nat):Int):=by omega
    have st2:=st.2
    rw [e] at st2
    have hz':((its.toArray.size:Nat):Int) < 2 ^ 63:=by
      rw [List.size_toArray, <- hlen]
      have hsl:sizeLine < 2 ^ 62:=by decide
      omega
    refine RvT.next_item st2 p (x:=u) (by simpa using hu) hz' fun h' st' sb=>?_
    have I1:Inv X pins σ H { s with heap:=h',toks:=s.toks + 1 }:=I.turned (t':=s.toks + 1) (fun b o hb e=>(sb.2 b hb).trans e) f0 f1 f3 f4 f5
    have st3:i + 1<=n/\RvT.Is h' it a ((n:Int) - 1 - ((i + 1:Nat):Int)):=⟨by omega,by
      have e2:((n:Int) - 1 - ((i + 1:Nat):Int))=((n - 1 - i:Nat):Int) - 1:=by omega
      rw [e2];exact st'⟩
    obtain ⟨o,eo,c,d⟩:=id st'
    exact ⟨u,rfl,go_of (s:={ s with heap:=h',toks:=s.toks + 1 }) eo c d (by decide) ⟨x,H,I1,ru,⟨rfl,fun ys hy=>by rw [I.tuple_inj hy hq];exact hx⟩,st3,fun b hb=>(hf b hb).1⟩⟩
  done:=by
    intro X hP hw hK hc i pins s σ H E I hf st hg
    subst hP hw hK
    obtain ⟨f0,f1,f2,f3,f4,f5⟩:=hf it (by simp)
    have hg':n<=i:=hg
    have e:((n:Int) - 1 - (i:Int)) = -1:=by have:=st.1;omega
    have st2:=st.2
    rw [e] at st2
    exact RvT.next_end (I.ok.hd hc) st2 fun h' eb=>⟨rfl,I.turned (t':=s.toks) (fun b o hb e=>eb b o hb e) f0 f1 f3 f4 f5⟩
  self:=fun _ _ _ _ _ st h=>RvT.iter_self st.2 h
noncomputable def iRevT (K:PySem.W.Frag) (ta:TA):TI:=fun σ H R=>ta σ H fun vs H1=>∃ a xs,vs=[.ref a]/\SqT K H1 a xs/\R (Itw K a xs.length) H1
section
variable {X:Cx} {tg:Expr}
theorem zi_revT {a:Expr} {ta:TA} {p pos:Pos} (hg:Gl X "reversed") (hm:X.mg "reversed" = none) (ha:ZA X [a] ta) (hs:starEach [a] X.env=[(false,eval a X.env)]:=by rfl):ZI X tg (.Call (.Name "reversed" p) [a] [] pos) (iRevT X.K ta):=⟨by
  intro pins s σ H R I h
  refine Call_ (ld_blt I hg hm (u:=.type "reversed") (by rfl) (PyProof.Rows.callWith_type1 (thn (ha.out pos pins s σ H _ I h) fun us s1 ⟨vs,H1,I1,r1,q1⟩=>?_) hs rfl))
  obtain ⟨l,xs,e,hq,q⟩:=q1
  subst e
  obtain ⟨u,rfl,ru⟩:=vals1 r1
  cases ru
  obtain ⟨its,rv,pp,hz⟩:=I1.tuple hq
  have hl:=rv.length
  have hz':((its.toArray.size:Nat):Int) < 2 ^ 63:=by
    rw [List.size_toArray, <- hl]
    have hsl:sizeLine < 2 ^ 62:=by decide
    omega
  refine RvT.call_new pp hz' ?_
  have st:RvT.Is ({ s1 with heap:=s1.heap.push (RvT.rec l ((its.toArray.size:Int) - 1)),toks:=s1.toks + 1 + 1 }:Shared).heap s1.heap.objs.size l ((xs.length:Int) - 1 - ((0:Nat):Int)):=by
    refine ⟨_,Heap.get?_push_size _ rfl,rfl,?_⟩
    have e:((xs.length:Int) - 1 - ((0:Nat):Int))=(its.toArray.size:Int) - 1:=by rw [List.size_toArray,hl];omega
    rw [e];rfl
  refine RvT.iter_self st ?_
  refine ⟨s1.heap.objs.size,[s1.heap.objs.size],_,_,H1,rfl,I1.kept (t':=s1.toks + 1 + 1) fun b o e=>Heap.get?_push_of_some _ e,turn_revT l _ xs.length,⟨Nat.zero_le _,st⟩,fun b hb=>?_,q⟩
  have e:b=s1.heap.objs.size:=by simpa using hb
  subst e
  exact I1.fpOk (Nat.le_refl _) (I1.hok.fresh (Nat.le_refl _))⟩
end
end L2
end
namespace D
open PySem L2 K0 Num
open PySem.W (Dat)
section
section
variable {p:Option Addr} {K:PySem.W.Frag} {τ:List Sl} {tas:TA} {ds:List Dat}
theorem Wk.revT (h : A1 p K tas τ [.dat (.tuple ds)]) : Wk p K (iRevT K tas) τ ds.reverse := fun W L σ H R r o q => h W L σ H _ r o fun vs H1 ss e e1 o1 rv => by
  subst e
  cases rv with
  | cons x t =>
    cases t
    cases x with
    | tup h1 h2 =>
      rename_i a xs
      refine ⟨a,xs,rfl,h1,q _ H1 e1 o1 fun W' H' ev n=>?_⟩
      have h1':=ev.tm _ _ _ h1
      have h2':=Dzs.old ev n h2
      have hl:=h2.len
      refine ⟨by show xs.length<=_;rw [List.length_reverse,hl];exact Nat.le_refl _,fun i d hd=>?_⟩
      have hi:i < ds.length:=by simpa using (List.getElem?_eq_some_iff.mp hd).1
      rw [List.getElem?_reverse hi] at hd
      obtain ⟨x,ex,zx⟩:=h2'.get hd
      rw [<- hl] at ex
      exact ⟨⟨by rw [hl];exact hi,xs,x,h1',rfl,ex⟩,fun y H2 ⟨e,q⟩=>by
        subst e
        have:=q xs h1'
        rw [ex] at this;cases this
        exact ⟨Same.refl _,zx⟩⟩
end
noncomputable abbrev V3:=Rat × Rat × Rat
noncomputable def addV (u v:V3):V3:=(u.1 + v.1,u.2.1 + v.2.1,u.2.2 + v.2.2)
noncomputable def subV (u v:V3):V3:=(u.1 - v.1,u.2.1 - v.2.1,u.2.2 - v.2.2)
noncomputable def inV (u v:V3):Rat:=u.1 * v.1 + u.2.1 * v.2.1 + u.2.2 * v.2.2
noncomputable def zeV:V3:=(0,0,0)
theorem add_zeV (u:V3):addV u zeV=u:=by obtain ⟨x,y,z⟩:=u;show (x + 0,y + 0,z + 0)=(x,y,z);simp [Rat.add_zero]
theorem ze_addV (u:V3):addV zeV u=u:=by obtain ⟨x,y,z⟩:=u;show (0 + x,0 + y,0 + z)=(x,y,z);simp [Rat.zero_add]
theorem addV_assoc (u v w:V3):addV (addV u v) w=addV u (addV v w):=by unfold addV;simp [Rat.add_assoc]
theorem addV_sub (u v:V3):subV (addV u v) u=v:=by
  obtain ⟨x,y,z⟩:=u
  obtain ⟨a,b,c⟩:=v
  show (x + a - x,y + b - y,z + c - z)=(a,b,c)
  refine Prod.ext ?_ (Prod.ext ?_ ?_) <;> (show _=_;grind)
theorem tq_add {b:Nat} {f:List Int} (h:F4 b f) (u v:V3):tq f (addV u v)=addV (tq f u) (tq f v):=by
  obtain ⟨a,b,d,e,rfl⟩:=four_of h.1
  exact Prod.ext Q1_add (Prod.ext Q2_add Q3_add)
theorem tq_in {b:Nat} {f:List Int} (h:F4 b f) (u v:V3):inV (tq f u) (tq f v)=inV u v:=by
  obtain ⟨a,b,d,e,rfl⟩:=four_of h.1
  have np:=nrm_pos (ns:=[a,b,d,e]) rfl h.2.1
  have cN:((nrm [a,b,d,e]:Int):Rat)=N4 a b d e:=by unfold nrm N4;push_cast;rfl
  have nN:(N4 a b d e:Rat) ≠ 0:=by rw [<- cN];exact cast_ne (by omega)
  obtain ⟨x,y,z⟩:=u
  obtain ⟨p,q,r⟩:=v
  show Q1 a b d e x y z * Q1 a b d e p q r + Q2 a b d e x y z * Q2 a b d e p q r + Q3 a b d e x y z * Q3 a b d e p q r=x * p + y * q + z * r
  have key:K0.R1 a b d e x y z * K0.R1 a b d e p q r + K0.R2 a b d e x y z * K0.R2 a b d e p q r + K0.R3 a b d e x y z * K0.R3 a b d e p q r=N4 a b d e * N4 a b d e * (x * p + y * q + z * r):=by
    unfold K0.R1 K0.R2 K0.R3 N4
    grind
  unfold Q1 Q2 Q3
  grind
theorem tq_pl {b:Nat} {f:List Int} (h:F4 b f) (v:V3):tq (pl f) v=tq f v:=by
  have e:=tq_then h (show F4 0 [1,0,0,0] from ⟨rfl,⟨1,by decide,by decide⟩,by unfold Bd;decide⟩) v
  rw [qm_oneR h.1,tq_one] at e
  exact e
structure Jt where
  x:Int
  y:Int
  z:Int
  a:V3
  k:Int
  l:Int
noncomputable def Jt.d (j:Jt):Dat:=.tuple [tI [j.x,j.y,j.z],pQ j.a,tI [j.k,j.l]]
noncomputable def Jt.t (j:Jt):List Int:=pl [j.l,j.k * j.x,j.k * j.y,j.k * j.z]
noncomputable def Jt.w (j:Jt):V3:=(j.x,j.y,j.z)
structure JtOk (j:Jt):Prop where
  nw:∃ n ∈ [j.x,j.y,j.z],n ≠ 0
  bw:Bd (2 ^ 31) [j.x,j.y,j.z]
  pa:PB3 60 j.a
  ns:j.k ≠ 0\/j.l ≠ 0
  bs:Bd (2 ^ 31) [j.k,j.l]
noncomputable def Js (js:List Jt):Prop:=∀ j ∈ js,JtOk j
theorem JtOk.nz {j:Jt} (h:JtOk j):∃ n ∈ [j.l,j.k * j.x,j.k * j.y,j.k * j.z],n ≠ 0:=by
  obtain ⟨n,hn,h0⟩:=h.nw
  rcases h.ns with hk | hl
  . rcases (by simpa using hn:n=j.x\/n=j.y\/n=j.z) with rfl | rfl | rfl
    . exact ⟨j.k * j.x,by simp,Int.mul_ne_zero hk h0⟩
    . exact ⟨j.k * j.y,by simp,Int.mul_ne_zero hk h0⟩
    . exact ⟨j.k * j.z,by simp,Int.mul_ne_zero hk h0⟩
  . exact ⟨j.l,by simp,hl⟩
theorem JtOk.f4 {j:Jt} (h:JtOk j):F4 62 [j.l,j.k * j.x,j.k * j.y,j.k * j.z]:=by
  have bk:Bt j.k 31:=h.bs _ (by simp)
  have bl:Bt j.l 31:=h.bs _ (by simp)
  have bx:Bt j.x 31:=h.bw _ (by simp)
  have by':Bt j.y 31:=h.bw _ (by simp)
  have bz:Bt j.z 31:=h.bw _ (by simp)
  refine ⟨rfl,h.nz,fun n hn=>?_⟩
  rcases (by simpa using hn:n=j.l\/n=j.k * j.x\/n=j.k * j.y\/n=j.k * j.z) with rfl | rfl | rfl | rfl
  . exact bl.up (by decide)
  . exact (bk.mul bx).up (by decide)
  . exact (bk.mul by').up (by decide)
  . exact (bk.mul bz).up (by decide)
theorem JtOk.t4 {j:Jt} (h:JtOk j):F4 62 j.t:=⟨by unfold Jt.t;rw [pl_length];rfl,nz_pl h.nz,bd_pl h.nz h.f4.2.2⟩
theorem JtOk.axis {j:Jt} (h:JtOk j):tq j.t j.w=j.w:=by
  unfold Jt.t Jt.w
  rw [tq_pl h.f4]
  have np:=nrm_pos (ns:=[j.l,j.k * j.x,j.k * j.y,j.k * j.z]) rfl h.nz
  have cN:((nrm [j.l,j.k * j.x,j.k * j.y,j.k * j.z]:Int):Rat)=N4 j.l (j.k * j.x) (j.k * j.y) (j.k * j.z):=by unfold nrm N4;push_cast;rfl
  have nN:(N4 j.l (j.k * j.x) (j.k * j.y) (j.k * j.z):Rat) ≠ 0:=by rw [<- cN];exact cast_ne (by omega)
  show (K0.R1 _ _ _ _ _ _ _ / N4 _ _ _ _,K0.R2 _ _ _ _ _ _ _ / N4 _ _ _ _,K0.R3 _ _ _ _ _ _ _ / N4 _ _ _ _)=_
  have c1:((j.k * j.x:Int):Rat)=(j.k:Rat) * j.x:=by push_cast;rfl
  have c2:((j.k * j.y:Int):Rat)=(j.k:Rat) * j.y:=by push_cast;rfl
  have c3:((j.k * j.z:Int):Rat)=(j.k:Rat) * j.z:=by push_cast;rfl
  rw [c1,c2,c3] at *
  generalize (j.k:Rat)=k at *
  generalize (j.l:Rat)=l at *
  generalize (j.x:Rat)=x at *
  generalize (j.y:Rat)=y at *
  generalize (j.z:Rat)=z at *
  have k1:K0.R1 l (k * x) (k * y) (k * z) x y z=N4 l (k * x) (k * y) (k * z) * x:=by unfold K0.R1 N4;grind
  have k2:K0.R2 l (k * x) (k * y) (k * z) x y z=N4 l (k * x) (k * y) (k * z) * y:=by unfold K0.R2 N4;grind
  have k3:K0.R3 l (k * x) (k * y) (k * z) x y z=N4 l (k * x) (k * y) (k * z) * z:=by unfold K0.R3 N4;grind
  rw [k1,k2,k3]
  refine Prod.ext ?_ (Prod.ext ?_ ?_) <;> (show _=_;grind)
noncomputable def tipV:List Jt->V3
  | []=>zeV
  | j :: js=>tq j.t (addV j.a (tipV js))
noncomputable def rotJ:List Jt->V3->V3
  | [],v=>v
  | j :: js,v=>tq j.t (rotJ js v)
theorem rot_in {js:List Jt} (h:Js js) (u v:V3):inV (rotJ js u) (rotJ js v)=inV u v:=by
  induction js with
  | nil=>rfl
  | cons j js ih=>exact (tq_in (h j List.mem_cons_self).t4 _ _).trans (ih fun k hk=>h k (List.mem_cons_of_mem _ hk))
theorem tip_app {js ks:List Jt} (h:Js js):tipV (js ++ ks)=addV (tipV js) (rotJ js (tipV ks)):=by
  induction js with
  | nil=>exact (ze_addV _).symm
  | cons j js ih =>
    show tq j.t (addV j.a (tipV (js ++ ks)))=addV (tq j.t (addV j.a (tipV js))) (tq j.t (rotJ js (tipV ks)))
    rw [ih fun k hk=>h k (List.mem_cons_of_mem _ hk), <- tq_add (h j List.mem_cons_self).t4,addV_assoc]
noncomputable def stJ (js:List Jt):List Int:=stOf (js.map fun j=>(true,j.t))
theorem Js.dd {js:List Jt} (h:Js js):Dd 62 (js.map fun j=>(true,j.t)):=fun d hd=>by
  obtain ⟨j,hj,rfl⟩:=List.mem_map.mp hd
  exact (h j hj).t4
theorem stJ_f4 {js:List Jt} (h:Js js):F4 (64 * js.length) (stJ js):=by
  have:=stOf_f4 h.dd
  rw [List.length_map] at this
  exact this
theorem stJ_snoc (js:List Jt) (j:Jt):stJ (js ++ [j])=pl (qm (stJ js) j.t):=by
  unfold stJ
  rw [List.map_append]
  exact stOf_snoc _ _
theorem tq_stJ {js:List Jt} (h:Js js) (v:V3):tq (stJ js) v=rotJ js v:=by
  induction js using snocRec generalizing v with
  | nil=>exact tq_one v
  | append_singleton js j ih =>
    have h1:Js js:=fun k hk=>h k (List.mem_append_left _ hk)
    have h2:=h j (List.mem_append_right _ (List.mem_singleton_self _))
    have e:∀ (js:List Jt) (v:V3),rotJ (js ++ [j]) v=rotJ js (tq j.t v):=by
      intro js
      induction js with
      | nil=>intro v;rfl
      | cons i is ih2=>intro v;exact congrArg (tq i.t) (ih2 v)
    rw [stJ_snoc,tq_then (stJ_f4 h1) h2.t4,ih h1,e]
theorem tip_behind {js:List Jt} {j:Jt} {ks:List Jt} (h:Js js):subV (tipV (js ++ j :: ks)) (tipV js)=rotJ js (tq j.t (addV j.a (tipV ks))):=by
  rw [tip_app h,addV_sub];rfl
theorem far_behind {js:List Jt} {j:Jt} {ks:List Jt} (h:Js js) (hj:JtOk j):inV (subV (tipV (js ++ j :: ks)) (tipV js)) (subV (tipV (js ++ j :: ks)) (tipV js))=inV (addV j.a (tipV ks)) (addV j.a (tipV ks)):=by
  rw [tip_behind h,rot_in h,tq_in hj.t4]
theorem high_behind {js:List Jt} {j:Jt} {ks:List Jt} (h:Js js) (hj:JtOk j):inV (tq (stJ js) j.w) (subV (tipV (js ++ j :: ks)) (tipV js))=inV j.w (addV j.a (tipV ks)):=by
  rw [tip_behind h,tq_stJ h,rot_in h]
  have e:=tq_in hj.t4 j.w (addV j.a (tipV ks))
  rw [hj.axis] at e
  exact e
theorem bone {js:List Jt} {j:Jt} (h:Js js) (hj:JtOk j):inV (subV (tipV (js ++ [j])) (tipV js)) (subV (tipV (js ++ [j])) (tipV js))=inV j.a j.a:=by
  rw [far_behind h hj]
  show inV (addV j.a zeV) (addV j.a zeV)=_
  rw [add_zeV]
noncomputable def OB (C:Int) (c:Nat) (v:V3):Prop:=∃ T1 T2 T3:Int,Bt T1 c/\Bt T2 c/\Bt T3 c/\v=(qv T1 C,qv T2 C,qv T3 C)
theorem OB.pb {C:Int} {c:Nat} {v:V3} (h:OB C c v) (h0:0 < C) (hC:Bt C c):PB3 c v:=by
  obtain ⟨a,b,d,h1,h2,h3,rfl⟩:=h
  exact ⟨C,a,b,d,h0,hC,h1,h2,h3,rfl,rfl,rfl⟩
theorem OB.sub {C:Int} {c:Nat} {u v:V3} (h:OB C c u) (g:OB C c v):OB C (c + 1) (subV u v):=by
  obtain ⟨a,b,d,h1,h2,h3,rfl⟩:=h
  obtain ⟨a',b',d',g1,g2,g3,rfl⟩:=g
  have e:∀ s t:Int,qv s C - qv t C=qv (s - t) C:=fun s t=>by
    unfold qv;push_cast;grind
  refine ⟨a - a',b - b',d - d',h1.sub g1,h2.sub g2,h3.sub g3,?_⟩
  show (qv a C - qv a' C,qv b C - qv b' C,qv d C - qv d' C)=_
  rw [e,e,e]
theorem zero_ob {C:Int} {c:Nat}:OB C c zeV:=⟨0,0,0,Nat.zero_le _,Nat.zero_le _,Nat.zero_le _,by
  have:qv 0 C=0:=by unfold qv;grind
  rw [this];rfl⟩
theorem ob_row {r1 r2 r3 x y z E N:Rat} (hE:E ≠ 0) (hN:N ≠ 0):(r1 * (x / E) + r2 * (y / E) + r3 * (z / E)) / N=(r1 * x + r2 * y + r3 * z) / (E * N):=by grind
theorem ob_g {a t B C:Int} {x:Rat} (nB:(B:Rat) ≠ 0) (nC:(C:Rat) ≠ 0) (e:qv a B=x):x + qv t C=((a * C + t * B:Int):Rat) / ((B:Rat) * C):=by
  rw [<- e];unfold qv;push_cast;grind
theorem mul_nz {a b:Rat} (ha:a ≠ 0) (hb:b ≠ 0):a * b ≠ 0:=by
  intro h
  rcases Rat.mul_eq_zero.mp h with z | z
  . exact ha z
  . exact hb z
theorem places_ob {js : List Jt} (h : Js js) : ∃ C : Int, 0 < C /\ Bt C (195 * js.length) /\ ∀ m, OB C (195 * js.length) (tipV (js.take m)) := by
  induction js with
  | nil=>exact ⟨1,by decide,by unfold Bt;decide,fun m=>by rw [List.take_nil];exact zero_ob⟩
  | cons j js ih =>
    obtain ⟨C,h0,hC,hm⟩:=ih fun k hk=>h k (List.mem_cons_of_mem _ hk)
    have hj:=h j List.mem_cons_self
    obtain ⟨B,A1,A2,A3,b0,bB,bA1,bA2,bA3,e1,e2,e3⟩:=hj.pa
    obtain ⟨p,q,r,s,et⟩:=four_of hj.t4.1
    have t4:=hj.t4
    rw [et] at t4
    have np:=nrm_pos (ns:=[p,q,r,s]) rfl t4.2.1
    have bn:=nrm_btG t4.2.2
    obtain ⟨W1,W2,W3⟩:=rows_btG t4.2.2
    refine ⟨B * C * nrm [p,q,r,s],Int.mul_pos (Int.mul_pos b0 h0) np,((bB.mul hC).mul bn).up (by rw [List.length_cons];omega),fun m=>?_⟩
    cases m with
    | zero=>exact zero_ob
    | succ m =>
      obtain ⟨T1,T2,T3,t1,t2,t3,eT⟩:=hm m
      show OB _ _ (tq j.t (addV j.a (tipV (js.take m))))
      rw [eT,et]
      have cN:((nrm [p,q,r,s]:Int):Rat)=N4 p q r s:=by unfold nrm N4;push_cast;rfl
      have nN:(N4 p q r s:Rat) ≠ 0:=by rw [<- cN];exact cast_ne (by omega)
      have nB:(B:Rat) ≠ 0:=cast_ne (by omega)
      have nC:(C:Rat) ≠ 0:=cast_ne (by omega)
      have u:∀ {a t:Int},Bt a 60->Bt t (195 * js.length)->Bt (a * C + t * B) (195 * js.length + 61):=fun ha ht=>(((ha.mul hC).up (by omega:_<=195 * js.length + 60)).add ((ht.mul bB).up (by omega))).up (by omega)
      have u1:=u bA1 t1
      have u2:=u bA2 t2
      have u3:=u bA3 t3
      have s3:∀ {r1 r2 r3:Int},(∀ n ∈ [r1,r2,r3],Bt n (2 * 62 + 3))->Bt (r1 * (A1 * C + T1 * B) + r2 * (A2 * C + T2 * B) + r3 * (A3 * C + T3 * B)) (195 * (j :: js).length):=fun {r1 r2 r3} hh=>by
        have a:=(hh r1 (by simp)).mul u1
        have b:=(hh r2 (by simp)).mul u2
        have c:=(hh r3 (by simp)).mul u3
        exact ((a.add b).add (c.up (by omega))).up (by rw [List.length_cons];omega)
      have f1:=s3 W1
      have f2:=s3 W2
      have f3:=s3 W3
      refine ⟨_,_,_,f1,f2,f3,?_⟩
      show (K0.R1 _ _ _ _ _ _ _ / N4 _ _ _ _,K0.R2 _ _ _ _ _ _ _ / N4 _ _ _ _,K0.R3 _ _ _ _ _ _ _ / N4 _ _ _ _)=(_:V3)
      have g1:=ob_g (t:=T1) nB nC e1
      have g2:=ob_g (t:=T2) nB nC e2
      have g3:=ob_g (t:=T3) nB nC e3
      have nBC:=mul_nz nB nC
      refine Prod.ext ?_ (Prod.ext ?_ ?_)
      . show K0.R1 _ _ _ _ (j.a.1 + qv T1 C) (j.a.2.1 + qv T2 C) (j.a.2.2 + qv T3 C) / N4 _ _ _ _=qv _ _
        rw [g1,g2,g3]
        unfold K0.R1 qv
        push_cast
        rw [cN]
        exact ob_row nBC nN
      . show K0.R2 _ _ _ _ (j.a.1 + qv T1 C) (j.a.2.1 + qv T2 C) (j.a.2.2 + qv T3 C) / N4 _ _ _ _=qv _ _
        rw [g1,g2,g3]
        unfold K0.R2 qv
        push_cast
        rw [cN]
        exact ob_row nBC nN
      . show K0.R3 _ _ _ _ (j.a.1 + qv T1 C) (j.a.2.1 + qv T2 C) (j.a.2.2 + qv T3 C) / N4 _ _ _ _=qv _ _
        rw [g1,g2,g3]
        unfold K0.R3 qv
        push_cast
        rw [cN]
        exact ob_row nBC nN
end
end D
section
namespace L2
open PySem PySem.Spec PyProof.Rows
section
variable {prog:Program} {w:World} {A:Around} {E:Value->Shared->Prop} {s:Shared}
theorem gi_whole {t sl:Addr} {items:Array Value} {vl vu:Value} {lo hi:Option Int} {Q:Value->Shared->Prop} (ht:IsTup s.heap t items) (hs:s.heap.IsSliceOf sl vl vu .none) (pl:IsPart vl lo) (pu:IsPart vu hi)
    (hw:HT.sIx items.size 0 lo=0/\HT.sIx items.size items.size hi=items.size) (h:Q (.ref t) s):wpAny (model prog w) A (getItem (.ref t) (.ref sl)) Q E s:=by
  obtain ⟨os,hos,hcs,hds⟩:=id hs
  have hTs:s.TypeIs (.ref sl) "slice" := ⟨os,hos,hcs⟩
  unfold getItem
  try with_reducible refine wpAny_holding ?_
  first
  | refine wpAny_bind (wpAny_pure ?_)
  | skip
  refine wpAny_bind (wpAny_sequenceKey ht.typeIs (by decide) ?_)
  refine wpAny_bind (wpAny_callSpecial?_slot (name:=Str.ofString "__getitem__") ht.typeIs PyProof.Rows.slot_tuple_getitem ?_)
  refine wpAny_call_entry PyProof.Rows.slot_tuple_getitem ht.typeIs entry_tuple_getitem ?_ (args_tuple_getitem _ _)
  show wpAny _ _ (Builtin.Tuple.tupleItemsOf (Value.ref t) >>= _) _ _ s
  refine wpAny_bind (tupleItemsOf_ ht (wpAny_bind (wpAny_typeOf hTs ?_)))
  rw [if_pos (by decide)]
  refine wpAny_bind (HT.sliceApplied_gen hs pl pu ?_)
  show wpAny _ _ (if (((HT.sIx items.size 0 lo:Nat):Int) == 0 && (1:Int) == 1 && (HT.sIx items.size items.size hi - HT.sIx items.size 0 lo) == items.size)=true then _ else _) _ _ s
  rw [if_pos (by rw [hw.1,hw.2,Nat.sub_zero];simp)]
  refine wpAny_bind ?_
  unfold Builtin.Tuple.tupleIsExact
  refine wpAny_bind (wpAny_typeOf ht.typeIs (wpAny_pure ?_))
  rw [if_pos (by decide)]
  exact wpAny_bind (wpAny_rule (wpAny_pure ⟨_,rfl,wpAny_pure h⟩))
end
noncomputable def rSlW (K:PySem.W.Frag):V->Option Int->Option Int->Hp->VK->Prop:=fun x lo hi H Q=>∃ a xs,x = .ref a/\SqT K H a xs/\(HT.sIx xs.length 0 lo=0/\HT.sIx xs.length xs.length hi=xs.length)/\Q (.ref a) H
section
variable {X:Cx}
theorem sl_tupW:SlR X (rSlW X.K):=by
  intro pins s σ H x v vl vu lo hi sl Q I rx hs pl pu h
  obtain ⟨a,xs,rfl,hx,hw,q⟩:=h
  cases rx
  obtain ⟨its,r,ht,hz⟩:=I.tuple hx
  have hlen:its.toArray.size=xs.length:=by rw [List.size_toArray];exact r.length.symm
  exact ⟨"tuple",_,PyProof.Rows.slot_tuple_getitem.lookup,ht.typeIs,gi_whole ht hs pl pu (by rw [hlen];exact hw) ⟨.ref a,H,I,rfl,q⟩⟩
theorem sl_tupA:SlR X (fun x lo hi H Q=>rSlT X.K x lo hi H Q\/rSlW X.K x lo hi H Q):=SlR.or sl_tup sl_tupW
theorem sl_tupAC {own:List Str} {scope:Scope} {C:Addr} {fp:List Addr} {s:Shared} {H:Hp}:SlR (cxComp X own scope C fp s H) (fun x lo hi H Q=>rSlT X.K x lo hi H Q\/rSlW X.K x lo hi H Q):=sl_tupA
end
end L2
namespace D
open PySem L2 K0 Num
open PySem.W (Dat)
noncomputable def spMo (K:PySem.W.Frag) (C:Addr) (R:List Dat->List Dat->List Dat->Own->Prop):Sp:=fun vs H Q _=>∃ a us b c dn gn ds o,vs=V.ref a :: us/\ObR C dn gn K H a b c/\Dzs (fun _=>True) K H us ds/\R dn gn ds o/\∀ x H' l,Same H H'->(∀ b,b ∈ l->H b=none)->o.R (fun _=>True) K H' x l->Q (.ref x) H'
noncomputable def seenO (xs ps:List Dat):Own where
  R N K H a l:=∃ b us vs,l=[a,b]/\a ≠ b/\H a=some (.lst (.ref b :: vs))/\H b=some (.lst us)/\Dzs (fun _=>False) K H us xs/\Dzs (fun _=>False) K H vs ps
  ev:=fun ⟨b,us,vs,e,ne,h1,h2,z1,z2⟩ ev _ hl=>⟨b,us,vs,e,ne,hl _ _ (by rw [e];simp) h1,hl _ _ (by rw [e];simp) h2,z1.ev ev fun _ h=>h.elim,z2.ev ev fun _ h=>h.elim⟩
  wide:=fun h _=>h
  al:=fun ⟨b,us,vs,e,ne,h1,h2,z1,z2⟩ x hx=>by
    rw [e] at hx
    rcases (by simpa using hx:x=_\/x=_) with rfl | rfl
    . exact ⟨_,h1⟩
    . exact ⟨_,h2⟩
theorem seenO_free {xs ps:List Dat}:(seenO xs ps).Free:=fun _ _ _ _ _ _ h=>h
theorem seenO_reads {xs ps:List Dat}:(seenO xs ps).Reads (.list (.list xs :: ps)):=fun N K H a l ⟨b,us,vs,e,ne,h1,h2,z1,z2⟩ =>
  .lst (.inl ⟨trivial,.inl h1⟩) (.cons (.lst (.inl ⟨trivial,.inl h2⟩) (z1.mono fun _ h=>h.elim)) (z2.mono fun _ h=>h.elim))
section
variable {p:Option Addr} {K:PySem.W.Frag} {W:Addr->Prop} {L:List Addr} {σ:St} {H H1 H2:Hp} {τ τ':List Sl} {te:TE} {tas:TA} {v:V} {s:Sl} {nx:List Sl->Prop} {rt:Sl->Prop} {t:TS} {ds dn gn:List Dat} {E':XK} {o:Own} {a C:Addr} {i:Nat} {m:Str} {d:Dat}
theorem E1.slTA {lo hi : Option Int} {tl th : TO} (h : E1 p K te τ (.dat (.tuple ds))) (hl : O1 p K tl τ lo) (hh : O1 p K th τ hi) : E1 p K (tSl (fun x lo hi H Q => rSlT K x lo hi H Q \/ rSlW K x lo hi H Q) te tl th) τ (.dat (.tuple (cutA ds lo hi))) := fun W L σ H Q r o q =>
  h W L σ H _ r o fun v H1 s e e1 o1 rv => by
    subst e
    refine hl W L σ H1 _ (r.ev e1 o.pw) o1 fun H2 e2 o2=>hh W L σ H2 _ ((r.ev e1 o.pw).ev e2 o.pw) o2 fun H3 e3 o3=>?_
    cases (rv.ev (e2.trans e3) o1 o) with
    | tup h1 h2 =>
      rename_i a vs
      by_cases hn:HT.sIx vs.length 0 lo=0/\HT.sIx vs.length vs.length hi=vs.length
      . refine .inr ⟨a,vs,rfl,h1,hn,q _ _ _ rfl (e1.trans (e2.trans e3)) o3 ?_⟩
        have hn':=hn
        rw [h2.len] at hn'
        have e:cutA ds lo hi=ds:=by
          unfold cutA
          rw [hn'.1,hn'.2,Nat.sub_zero,List.drop_zero,List.take_length]
        rw [e]
        exact .tup h1 h2
      . refine .inl ⟨a,vs,rfl,h1,hn,fun l hl=>?_⟩
        have s:=Same.new hl (.tup (cutV vs lo hi))
        exact q _ _ _ rfl ((e1.trans (e2.trans e3)).trans (Ev.of s)) (o3.same s) (.tup (SqT.of upd_same) ((cut_dz h2).ev (W:=Pp p) (Ev.of s) o3.nw))
theorem E1.callFr {R:List Dat->List Dat->List Dat->Dat->Prop} (h:τ[i]?=some (.dt o)) (ho:IsOb o a C dn gn) (ha:A1 p K tas τ (ds.map .dat)) (hr:R dn gn ds d):E1 p K (tCall (spMr K C R) [] E' (tCons (tVar i) tas)) τ (.dat d):=fun W L σ H Q rs ok q=>by
  obtain ⟨g,b,c,ob,_⟩:=rs.ob ok h ho
  refine ⟨_,g,ha W L σ H _ rs ok fun vs H1 ss e e1 o1 rv=>?_⟩
  subst e
  obtain ⟨_,b',c',ob',_⟩:=(rs.ev e1 ok.pw).ob o1 h ho
  show spMr K C R ((V.ref a :: vs) ++ []) H1 Q E'
  rw [List.append_nil]
  exact ⟨a,vs,b',c',dn,gn,ds,d,rfl,ob',rv.dats.mono (fun _ _=>trivial),hr,fun v H' s z=>q v H' _ rfl (e1.trans (Ev.of s)) (o1.same s) (z.mono fun b hb=>o1.fresh hb)⟩
theorem E1.callFo {R:List Dat->List Dat->List Dat->Own->Prop} {oo:Own} (h:τ[i]?=some (.dt o)) (ho:IsOb o a C dn gn) (ha:A1 p K tas τ (ds.map .dat)) (hr:R dn gn ds oo) (hf:oo.Free):E1 p K (tCall (spMo K C R) [] E' (tCons (tVar i) tas)) τ (.dt oo):=fun W L σ H Q rs ok q=>by
  obtain ⟨g,b,c,ob,_⟩:=rs.ob ok h ho
  refine ⟨_,g,ha W L σ H _ rs ok fun vs H1 ss e e1 o1 rv=>?_⟩
  subst e
  obtain ⟨_,b',c',ob',_⟩:=(rs.ev e1 ok.pw).ob o1 h ho
  show spMo K C R ((V.ref a :: vs) ++ []) H1 Q E'
  rw [List.append_nil]
  exact ⟨a,vs,b',c',dn,gn,ds,oo,rfl,ob',rv.dats.mono (fun _ _=>trivial),hr,fun x H' l s hl z=>q _ H' _ rfl (e1.trans (Ev.of s)) (o1.same s) ⟨x,l,rfl,fun b hb=>o1.back e1 (hl b hb),hf _ _ _ _ _ _ z⟩⟩
theorem T1.neFo {R:List Dat->List Dat->List Dat->Own->Prop} {oo ox:Own} {j:Nat} (h:τ[i]?=some (.dt o)) (ho:IsOb o a C dn gn) (ha:A1 p K tas τ (ds.map .dat)) (hr:R dn gn ds oo) (r1:oo.Reads d) (hj:τ[j]?=some (.dt ox)) (r2:ox.Reads d) (k1:PySem.W.kqdOk 9 d=true):T1 p K (tTest (tOp (rEqD K true) (tCall (spMo K C R) [] E' (tCons (tVar i) tas)) (tVar j))) τ false:=fun W L σ H Q rs ok q=>by
  obtain ⟨g,b,c,ob,_⟩:=rs.ob ok h ho
  refine ⟨_,g,ha W L σ H _ rs ok fun vs H1 ss e e1 o1 rv=>?_⟩
  subst e
  obtain ⟨_,b',c',ob',_⟩:=(rs.ev e1 ok.pw).ob o1 h ho
  obtain ⟨y,l2,g2,_,_,_,g5⟩:=(rs.ev e1 ok.pw).get_t hj
  show spMo K C R ((V.ref a :: vs) ++ []) H1 _ E'
  rw [List.append_nil]
  refine ⟨a,vs,b',c',dn,gn,ds,oo,rfl,ob',rv.dats.mono (fun _ _=>trivial),hr,fun x H' l s hl z=>⟨_,g2,?_⟩⟩
  have z0:Dz (fun _=>True) K H' (.ref y) d:=(r2 _ _ _ _ _ g5).ev (W:=fun _=>False) (Ev.of s) fun _ _ h=>h
  exact ⟨d,d,(r1 _ _ _ _ _ z).is,z0.is,k1,k1,false,by rw [deq_self];rfl,q false H' rfl (e1.trans (Ev.of s)) (o1.same s)⟩
theorem E1.seen1 {xs:List Dat} (he:E1 p K te τ (.own xs)) (nl:noLs xs=true):E1 p K (tLst (tCons te tNil)) τ (.dt (seenO xs [])):=fun W L σ H Q r ok q=>he W L σ H _ r ok fun v H1 s e ev o1 rv=>by
  subst e
  obtain ⟨b,us,rfl,h1,h2,z⟩:=rv
  refine ⟨by show 1<=sizeLine;decide,fun x hx=>?_⟩
  have s1:=Same.new hx (.lst [.ref b])
  have nxb:x ≠ b:=fun e=>by rw [e,h2] at hx;cases hx
  refine q _ _ _ rfl (ev.trans (Ev.of s1)) (o1.same s1) ⟨x,[x,b],rfl,fun y hy=>?_,b,us,[],rfl,nxb,upd_same,s1 _ _ h2,(z.free nl).ev (W:=fun _=>False) (Ev.of s1) (fun _ h=>h.elim),.nil⟩
  rcases (by simpa using hy:y=x\/y=b) with rfl | rfl
  . exact o1.back ev hx
  . exact h1
theorem S.seenApp {xs ps:List Dat} (h:τ[i]?=some (.dt (seenO xs ps))) (he:E1 p K te τ (.dat d)) (nl:noL d=true) (hz:ps.length < 1000) (m:nx τ') (e0:τ.set i (.dt (seenO xs (ps ++ [d])))=τ':=by rfl):S p K (tDrop (tBM K "list" rAppend (tVar i) (tCons te tNil))) τ nx rt:=fun W L σ H D r ok q1 q2=>by
  subst e0
  obtain ⟨a0,l0,f1,f2,f3,f4,b0,us0,vs0,el0,ne0,y1,y2,y3,y4⟩:=r.get_t h
  refine ⟨_,f1,.inl ⟨rfl,_,SqL.of y1⟩,he W L σ H _ r ok fun v H1 s es ev o1 rv=>?_⟩
  subst es
  obtain ⟨a',l,k1,k2,k3,⟨b,us,vs,el,ne,h1,h2,z1,z2⟩,fin⟩:=r.fin ok ev o1 h
  rw [f1] at k1;cases k1
  subst el
  refine ⟨a0,.ref b :: vs,v,rfl,rfl,h1,by rw [List.length_cons,z2.len];exact Nat.lt_of_lt_of_le (show ps.length + 1 < 1001 by omega) (by decide),?_⟩
  have ev2:Ev (fun x=>x=a0) H1 (upd H1 a0 (.lst (.ref b :: vs ++ [v]))):=⟨fun x o n h=>by rw [upd_ne n];exact h,Tm.lst h1 _⟩
  have zv:Dz (fun _=>False) K H1 v d:=Dz.free rv nl
  obtain ⟨m1,m2,m3,m4,L',m5,m6,m7⟩:=fin W _ [a0,b] (seenO xs (ps ++ [d])) (fun x=>⟨.inl,fun z=>z.elim id (k2 x)⟩) (fun x hx=>.inl hx) (ev2.mono fun x hx=>by rw [hx];simp) (fun x hx=>upd_any (k2 x hx) o1)
    ⟨b,us,vs ++ [v],rfl,ne,by rw [upd_same];rfl,by rw [upd_ne ne.symm];exact h2,z1.ev ev2 (fun _ h=>h.elim),(z2.app (.cons zv .nil)).ev ev2 (fun _ h=>h.elim)⟩
  exact q1 W L' σ _ _ m m1 m2 m3 m4 m5 m7
variable {P:Program} {w:World} {mg:Str->Option Value} {base:Heap}
theorem okMo {x qual:Str} {st:Stmt} {f:Addr} {fd:FuncData} {N ps:List Str} {k:Nat} {R:List Dat->List Dat->List Dat->Own->Prop} (F:Fun K x qual st f fd) (S0:FnScope N ps (defScope st)) (len:∀ dn gn ds o,R dn gn ds o->ds.length + 1=ps.length)
    (body:∀ (cdv:Value) (A:Around) (outer:List Env) (s:Shared) (H:Hp) (E:XK),Room k (A.deeper (PyProof.Rows.envOfC qual (defScope st) s.heap.objs.size f cdv)) ->
      ∃ t,ZSs (cxOf CX0 P w K mg base N qual (defScope st) f cdv A outer s H E).nox (defBody st) t/\∀ a dn gn ds o,R dn gn ds o->o.Free/\S none K t (.dt (obV a C dn gn) :: ds.map .dat ++ List.replicate (N.length - ps.length) .un) (fun _=>False) (fun s=>s = .dt o)):FnOk P w K mg base CX0 (k + 1) f fd ps (spMo K C R):=by
  refine F.okZ S0 (fun vs H Q E h=>?_) (fun cdv A outer s H vs Q E hr h=>?_)
  . obtain ⟨a,us,b,c,dn,gn,ds,o,rfl,_,z,r,_⟩:=h;rw [List.length_cons,z.len];exact len _ _ _ _ r
  . obtain ⟨a,us,b,c,dn,gn,ds,o,rfl,ob,z,r,q⟩:=h
    obtain ⟨t,hz,hs⟩:=body cdv A outer s H E hr
    refine ⟨t,hz,?_⟩
    have l:(V.ref a :: us).length=ps.length:=by rw [List.length_cons,z.len];exact len _ _ _ _ r
    have r0:Rs none (fun _=>False) K H [] (L2.start N (V.ref a :: us)) (.dt (obV a C dn gn) :: ds.map .dat ++ List.replicate (N.length - ps.length) .un):=by
      unfold L2.start
      rw [l]
      exact Rs.dt (l:=[]) (L:=[]) (fun b hb=>by cases hb) (fun b hb=>by cases hb) (fun b hb=>by cases hb) ⟨rfl,rfl,b,c,fun h=>h,fun h=>h,fun h=>h,ob⟩ (rs_start _ z fun a _ h=>h)
    have same:∀ {H':Hp},Ev (fun _=>False) H H'->Same H H':=fun e b o h=>e.keep b o (fun z=>z) h
    obtain ⟨fr,hs⟩:=hs a dn gn ds o r
    refine hs (fun _=>False) [] _ H _ r0 ⟨fun q h=>(by cases h),fun a h=>False.elim h⟩ (fun W' L' σ' H' τ' e ev o' al n l r'=>e.elim) (fun W' H' v s e ev o' al n rv=>?_)
    subst e
    obtain ⟨x,l,rfl,h1,h2⟩:=rv
    exact q x H' l (same ev) (fun b hb=>(h1 b hb).resolve_left (fun z=>by cases z)) (fr _ _ _ _ _ _ h2)
end
end D
end
namespace D
open PySem L2 K0 Num
open PySem.W (Dat)
theorem cutG_to {ds:List Dat} {m:Nat}:cutA ds none (some (m:Int))=ds.take m:=by
  unfold cutA
  rw [HT.sIx_none,HT.sIx_nat,List.drop_zero,Nat.sub_zero]
  rcases Nat.le_total m ds.length with h | h
  . rw [Nat.min_eq_left h]
  . rw [Nat.min_eq_right h,List.take_length,List.take_of_length_le h]
theorem cutG_from {ds:List Dat} {m:Nat}:cutA ds (some (m:Int)) none=ds.drop m:=by
  unfold cutA
  rw [HT.sIx_none,HT.sIx_nat]
  rcases Nat.le_total m ds.length with h | h
  . rw [Nat.min_eq_left h,List.take_of_length_le (by rw [List.length_drop];exact Nat.le_refl _)]
  . rw [Nat.min_eq_right h,Nat.sub_self,List.take_zero,List.drop_eq_nil_of_le h]
noncomputable def chD (js:List Jt):Dat:=.tuple (js.map Jt.d)
theorem noL_jt (j:Jt):noL j.d=true:=by
  unfold Jt.d
  rw [noL,noLs,noLs,noLs,noLs,show noL (tI [j.x,j.y,j.z])=true from noL_tI,show noL (tI [j.k,j.l])=true from noL_tI]
  rfl
theorem noL_chD (js:List Jt):noL (chD js)=true:=by
  show noLs (js.map Jt.d)=true
  exact noLs_all fun x hx=>by obtain ⟨j,_,rfl⟩:=List.mem_map.mp hx;exact noL_jt j
noncomputable def RCIni:List Dat->List Dat->List Dat->Prop:=fun ds dn gn=>ds=[]/\dn=[chD []]/\gn=[]
noncomputable def RTurnOf:List Dat->Dat->Prop:=fun ds d=>∃ j:Jt,ds=[j.d]/\JtOk j/\d=tI j.t
noncomputable def LB3 (c:Nat) (T1 T2 T3 C:Int) (v:V3):Prop:=LB c T1 T2 T3 C v.1 v.2.1 v.2.2
noncomputable def RTipOf:List Dat->(Dat->Prop)->Prop:=fun ds C=>∃ js:List Jt,ds=[chD js]/\Js js/\js.length<=8/\C=fun d=>∃ T1 T2 T3 B:Int,d=lvD T1 T2 T3 B/\LB3 (195 * js.length) T1 T2 T3 B (tipV js)
noncomputable def ChA (dn:List Dat) (js:List Jt):Prop:=(∃ xs,dn=xs ++ [chD js])/\Js js/\js.length<=6
noncomputable def RAdd:List Dat->List Dat->List Dat->List Dat->List Dat->Prop:=fun dn _ ds dn' gn'=>∃ (js:List Jt) (j:Jt) (k l:Int),ChA dn js/\js.length < 6/\dn.length < 1000/\ds=[tI [j.x,j.y,j.z],pQ j.a,tI [k,l]]/\(k ≠ 0\/l ≠ 0)/\Bd (2 ^ 31) [k,l]/\ps k l=[j.k,j.l]/\dn'=dn ++ [chD (js ++ [j])]/\gn'=[]
noncomputable def RRefJ:List Dat->List Dat->List Dat->Dat->Prop:=fun dn _ ds d=>∃ (js:List Jt) (i:Nat),ChA dn js/\ds=[.int i]/\i < js.length/\d = .none
noncomputable def RBend:List Dat->List Dat->List Dat->List Dat->List Dat->Prop:=fun dn _ ds dn' gn'=>∃ (js:List Jt) (i:Nat) (j0:Jt) (k l k' l':Int),ChA dn js/\js[i]?=some j0/\dn.length < 1000/\ds=[.int i,tI [k,l]]/\(k ≠ 0\/l ≠ 0)/\Bd (2 ^ 31) [k,l]/\ps k l=[k',l']/\dn'=dn ++ [chD (js.set i { j0 with k:=k',l:=l' })]/\gn'=[]
noncomputable def RStandsC:List Dat->List Dat->List Dat->Dat->Prop:=fun dn _ ds d=>∃ js:List Jt,ds=[]/\ChA dn js/\d = .list ((List.range js.length).map fun m=>tI (stJ (js.take (m + 1))))
noncomputable def RPlacesC:List Dat->List Dat->List Dat->Dat->Prop:=fun dn _ ds d=>∃ js:List Jt,ds=[]/\ChA dn js/\d = .list ((List.range js.length).map fun m=>pQ (tipV (js.take (m + 1))))
noncomputable def RTipC:List Dat->List Dat->List Dat->Dat->Prop:=fun dn _ ds d=>∃ js:List Jt,ds=[]/\ChA dn js/\d=pQ (tipV js)
theorem LB3.up {c e:Nat} {T1 T2 T3 C:Int} {v:V3} (h:LB3 c T1 T2 T3 C v) (he:c<=e):LB3 e T1 T2 T3 C v:=⟨LB.pos h,(LB.bc h).up he,(LB.b1 h).up he,(LB.b2 h).up he,(LB.b3 h).up he,LB.e1 h,LB.e2 h,LB.e3 h⟩
theorem lb_zero:LB3 0 0 0 0 1 zeV:=by
  have e:qv 0 1=0:=by unfold qv;grind
  exact ⟨by decide,by unfold Bt;decide,by unfold Bt;decide,by unfold Bt;decide,by unfold Bt;decide,e,e,e⟩
theorem sm_bd31 {k l:Int} (h:Bd (2 ^ 31) [k,l]):Sm [l,k]:=fun n hn=>Nat.lt_of_le_of_lt (h n (by simp at hn ⊢;exact hn.symm)) (Nat.pow_lt_pow_right (by decide) (by decide))
theorem ps_two {k l:Int} (h:k ≠ 0\/l ≠ 0) (b:Bd (2 ^ 31) [k,l]):∃ k' l',ps k l=[k',l']/\(k' ≠ 0\/l' ≠ 0)/\Bd (2 ^ 31) [k',l']:=by
  obtain ⟨w,x,y,hw,e,h1,h2⟩:=ps_unit h
  refine ⟨x,y,e,?_,ps_bd e (by rcases h with h | h;exact ⟨k,by simp,h⟩;exact ⟨l,by simp,h⟩) (b k (by simp)) (b l (by simp))⟩
  rcases h with h | h
  . exact .inl fun z=>h (by rw [h1,z,Int.mul_zero])
  . exact .inr fun z=>h (by rw [h2,z,Int.mul_zero])
theorem Js.set {js:List Jt} {i:Nat} {j:Jt} (h:Js js) (hj:JtOk j):Js (js.set i j):=fun x hx=>by
  rcases List.mem_or_eq_of_mem_set hx with z | z
  . exact h x z
  . rw [z];exact hj
theorem Js.take {js:List Jt} {m:Nat} (h:Js js):Js (js.take m):=fun x hx=>h x (List.mem_of_mem_take hx)
noncomputable def RRow9:List Dat->(Dat->Prop)->Prop:=fun ds C=>(ds=[.int 3]/\C=fun d=>∃ a b c:Int,d=tI [a,b,c]/\(∃ n ∈ [a,b,c],n ≠ 0)/\Bd (2 ^ 30) [a,b,c])\/(ds=[.int 2]/\C=fun d=>∃ a b:Int,d=tI [a,b]/\(∃ n ∈ [a,b],n ≠ 0)/\Bd (2 ^ 30) [a,b])
noncomputable def RPt9:List Dat->(Dat->Prop)->Prop:=fun ds C=>ds=[]/\C=fun d=>∃ x y z:Rat,d=ptQ x y z/\PB 50 x y z
noncomputable def RSet9:List Dat->Dat->Prop:=fun ds d=>∃ k l k' l':Int,ds=[tI [k,l]]/\(k ≠ 0\/l ≠ 0)/\Bd (2 ^ 31) [k,l]/\ps k l=[k',l']/\d=tI [k',l']
noncomputable def RJoints:List Dat->(Dat->Prop)->Prop:=fun ds C=>∃ n:Nat,ds=[.int n]/\n<=6/\C=fun d=>∃ js:List Jt,d = .list (js.map Jt.d)/\Js js/\js.length<=n
noncomputable def RChainO (C:Addr):List Dat->(Own->Prop)->Prop:=fun ds CO=>∃ js:List Jt,ds=[.list (js.map Jt.d)]/\Js js/\js.length<=6/\CO=fun o=>∃ (a:Addr) (dn:List Dat) (ks:List Jt),o=obO a C dn []/\ChA dn ks/\dn.length<=7/\ks.map (fun j=>(j.w,j.a))=js.map fun j=>(j.w,j.a)
noncomputable def RLessV:List Dat->Dat->Prop:=fun ds d=>∃ u v:V3,ds=[pQ u,pQ v]/\(PB3 1400 u/\PB3 1400 v)/\d=pQ (subV u v)
noncomputable def RFarV:List Dat->Dat->Prop:=fun ds d=>∃ u v:V3,ds=[pQ u,pQ v]/\(PB3 1290 u/\PB3 1290 v/\PB3 1290 (subV u v))/\d=tI (qf (inV (subV u v) (subV u v)))
noncomputable def Tog (ks js:List Jt):Prop:=ks.map (fun j=>(j.w,j.a))=js.map fun j=>(j.w,j.a)
noncomputable def RBones:List Dat->List Dat->List Dat->Dat->Prop:=fun dn _ ds d=>∃ ks js:List Jt,ChA dn ks/\ds=[.list (js.map Jt.d)]/\Tog ks js/\d = .bool true
noncomputable def behD (ks:List Jt) (i:Nat):List Dat:=match ks[i]? with
  | none=>[]
  | some j=>(List.range (ks.length - i)).map fun m=>.tuple [tI (qf (inV (addV j.a (tipV ((ks.drop (i + 1)).take m))) (addV j.a (tipV ((ks.drop (i + 1)).take m))))),tI (qf (inV j.w (addV j.a (tipV ((ks.drop (i + 1)).take m)))))]
noncomputable def plsD (ks:List Jt):List Dat:=(List.range (ks.length + 1)).map fun m=>pQ (tipV (ks.take m))
noncomputable def RSeenC:List Dat->List Dat->List Dat->Own->Prop:=fun dn _ ds o=>∃ (ks js:List Jt) (i:Nat),ChA dn ks/\ds=[.list (js.map Jt.d),.int i]/\i < ks.length/\Tog ks js/\o=seenO ((plsD ks).take (i + 1)) (behD ks i)
theorem Tog.len {ks js:List Jt} (h:Tog ks js):ks.length=js.length:=by
  have:=congrArg List.length h
  simpa using this
theorem Tog.get {ks js:List Jt} (h:Tog ks js) {i:Nat} {k j:Jt} (hk:ks[i]?=some k) (hj:js[i]?=some j):k.w=j.w/\k.a=j.a:=by
  have:=congrArg (·[i]?) h
  simp only [List.getElem?_map,hk,hj,Option.map_some] at this
  injection this with this
  injection this with h1 h2
  exact ⟨h1,h2⟩
theorem seen_bent {ks:List Jt} {i:Nat} {j0:Jt} {k' l':Int} (hj:ks[i]?=some j0):(plsD (ks.set i { j0 with k:=k',l:=l' })).take (i + 1)=(plsD ks).take (i + 1)/\behD (ks.set i { j0 with k:=k',l:=l' }) i=behD ks i:=by
  have hi:i < ks.length:=(List.getElem?_eq_some_iff.mp hj).1
  refine ⟨?_,?_⟩
  . unfold plsD
    rw [List.length_set, <- List.map_take, <- List.map_take]
    refine List.map_congr_left fun m hm=>?_
    have hm':m < i + 1:=by
      have:=List.mem_of_mem_take hm
      rw [List.take_range] at hm
      have:=List.mem_range.mp hm
      omega
    rw [List.take_set_of_le (by omega)]
  . unfold behD
    rw [hj,List.getElem?_set_self hi,List.length_set]
    dsimp only
    rw [List.drop_set_of_lt (by omega)]
    rfl
section
section
variable {p:Option Addr} {K:PySem.W.Frag} {τ:List Sl} {ta tb:TE} {tas:TA}
theorem E.catA {CX CY:List Dat->Prop} (ha:E p K ta τ (fun s=>∃ xs,s = .dat (.list xs)/\CX xs)) (hb:E p K tb τ (fun s=>∃ ys,s = .own ys/\CY ys)) (hz:∀ xs ys,CX xs->CY ys->xs.length + ys.length<=sizeLine):E p K (tOp (rCatS K) ta tb) τ (fun s=>∃ zs,s = .own zs/\∃ xs ys,CX xs/\CY ys/\zs=xs ++ ys):=fun W L σ H Q rs o q =>
  ha W L σ H _ rs o fun x H1 s ⟨xs,e,cx⟩ e1 o1 rv1=>hb W L σ H1 _ (rs.ev e1 o.pw) o1 fun y H2 t ⟨ys,e',cy⟩ e2 o2 rv2=>by
    subst e e'
    cases rv1.ev e2 o1 o with
    | lst h1 h2 =>
      rename_i a vs
      obtain ⟨b,us,rfl,_,h3,h5⟩:=rv2
      refine ⟨a,b,vs,us,rfl,rfl,h1.sq,SqL.of h3,by rw [h2.len,h5.len];exact hz xs ys cx cy,fun l hl=>?_⟩
      have s:=Same.new hl (.lst (vs ++ us))
      have e12:=e1.trans e2
      exact q _ _ _ ⟨_,rfl,xs,ys,cx,cy,rfl⟩ (e12.trans (Ev.of s)) (o2.same s) ⟨l,_,rfl,o2.back e12 hl,upd_same,(h2.app h5).ev (W:=Pp p) (Ev.of s) o2.nw⟩
theorem E.liA {C:List Dat->Prop} (ha:A p K tas τ (fun ss=>∃ ds:List Dat,ss=ds.map .dat/\ds.length<=1000/\C ds)):E p K (tLst tas) τ (fun s=>∃ ds,s = .own ds/\C ds):=fun W L σ H Q rs o q=>ha W L σ H _ rs o fun vs H1 ss ⟨ds,ess,hl,c⟩ e1 o1 rv=>by
  subst ess
  refine ⟨by rw [rv.len,List.length_map];exact Nat.le_trans hl (by decide),fun a ha=>?_⟩
  have s1:=Same.new ha (.lst vs)
  exact q _ _ _ ⟨ds,rfl,c⟩ (e1.trans (Ev.of s1)) (o1.same s1) ⟨a,vs,rfl,o1.back e1 ha,upd_same,rv.dats.ev (W:=Pp p) (Ev.of s1) o1.nw⟩
end
theorem qv_neg (a b:Int):qv (-a) b = -qv a b:=by unfold qv;push_cast;grind
theorem js_nil:Js []:=fun j hj=>by cases hj
theorem _root_.List.set_getElem?_self' {α:Type} {l:List α} {i:Nat} {x:α} (h:l[i]?=some x):l.set i x=l:=by
  refine List.ext_getElem? fun j=>?_
  by_cases e:i=j
  . subst e
    have hi:i < l.length:=(List.getElem?_eq_some_iff.mp h).1
    rw [List.getElem?_set_self hi,h]
  . rw [List.getElem?_set_ne e]
theorem noLs_jts2 (js:List Jt) (j:Jt):noLs (js.map Jt.d ++ [j.d])=true:=noLs_all fun x hx=>by
  rcases List.mem_append.mp hx with h | h
  . obtain ⟨k,_,rfl⟩:=List.mem_map.mp h;exact noL_jt k
  . rw [List.mem_singleton.mp h];exact noL_jt j
theorem js_snoc {js:List Jt} {j:Jt} (h:Js js) (hj:JtOk j):Js (js ++ [j]):=fun k hk=>by
  rcases List.mem_append.mp hk with z | z
  . exact h k z
  . rw [List.mem_singleton.mp z];exact hj
theorem bd01:Bd (2 ^ 31) [0,1]:=by unfold Bd;decide
theorem nz_of_ne2 {ns:List Int} (l:ns.length=2) (h:ns ≠ [0,0]):∃ n ∈ ns,n ≠ 0:=by
  match ns,l with
  | [a,b],_ =>
    by_cases ha:a=0
    . by_cases hb:b=0
      . subst ha hb;exact absurd rfl h
      . exact ⟨b,by simp,hb⟩
    . exact ⟨a,by simp,ha⟩
theorem kqd_list {n:Nat} {ds:List Dat} (h:∀ d ∈ ds,PySem.W.kqdOk n d=true):PySem.W.kqdOk (n + 1) (.list ds)=true:=by
  show ds.all (PySem.W.kqdOk n)=true
  rw [List.all_eq_true];exact h
theorem kqd_tuple {n:Nat} {ds:List Dat} (h:∀ d ∈ ds,PySem.W.kqdOk n d=true):PySem.W.kqdOk (n + 1) (.tuple ds)=true:=by
  show ds.all (PySem.W.kqdOk n)=true
  rw [List.all_eq_true];exact h
theorem kqd_pQ (n:Nat) (v:V3):PySem.W.kqdOk (n + 2) (pQ v)=true:=kqd_tuple fun d hd=>by
  rcases (by simpa using hd:d=_\/d=_\/d=_) with rfl | rfl | rfl <;> exact kqd_ints _ n
theorem kq_pls (n:Nat) (ks:List Jt) (m:Nat):∀ d ∈ (plsD ks).take m,PySem.W.kqdOk (n + 2) d=true:=fun d hd=>by
  obtain ⟨m,_,rfl⟩:=List.mem_map.mp (List.mem_of_mem_take hd)
  exact kqd_pQ n _
theorem kq_seen (ks : List Jt) (i : Nat) : PySem.W.kqdOk 9 (.list (.list ((plsD ks).take (i + 1)) :: behD ks i)) = true := kqd_list fun d hd => by
  rcases List.mem_cons.mp hd with rfl | hd
  . exact kqd_list (kq_pls 5 ks _)
  . unfold behD at hd
    cases e:ks[i]? with
    | none=>rw [e] at hd;cases hd
    | some j =>
      rw [e] at hd
      obtain ⟨m,_,rfl⟩:=List.mem_map.mp hd
      exact kqd_tuple fun x hx=>by
        rcases (by simpa using hx:x=_\/x=_) with rfl | rfl <;> exact kqd_ints _ 6
theorem plsD_eq (ks:List Jt):plsD ks=pQ zeV :: (List.range ks.length).map fun m=>pQ (tipV (ks.take (m + 1))):=by
  unfold plsD
  rw [List.range_succ_eq_map,List.map_cons,List.map_map]
  rfl
theorem plsD_len (ks:List Jt):(plsD ks).length=ks.length + 1:=by unfold plsD;rw [List.length_map,List.length_range]
theorem plsD_at {ks:List Jt} {m:Nat} (h:m<=ks.length):(plsD ks)[m]?=some (pQ (tipV (ks.take m))):=by
  unfold plsD
  rw [List.getElem?_map,List.getElem?_range (by omega)]
  rfl
theorem noLs_pls (ks:List Jt) (m:Nat):noLs ((plsD ks).take m)=true:=noLs_all fun x hx=>by
  obtain ⟨n,_,rfl⟩:=List.mem_map.mp (List.mem_of_mem_take hx);rfl
theorem noLs_plsD (ks:List Jt):noLs (plsD ks)=true:=noLs_all fun x hx=>by
  obtain ⟨n,_,rfl⟩:=List.mem_map.mp hx;rfl
noncomputable def stsD (ks:List Jt):List Dat:=(List.range (ks.length + 1)).map fun m=>tI (stJ (ks.take m))
theorem stsD_eq (ks:List Jt):stsD ks=tI [1,0,0,0] :: (List.range ks.length).map fun m=>tI (stJ (ks.take (m + 1))):=by
  unfold stsD
  rw [List.range_succ_eq_map,List.map_cons,List.map_map]
  rfl
theorem stsD_at {ks:List Jt} {m:Nat} (h:m<=ks.length):(stsD ks)[m]?=some (tI (stJ (ks.take m))):=by
  unfold stsD
  rw [List.getElem?_map,List.getElem?_range (by omega)]
  rfl
theorem pls_pb {ks:List Jt} (h:Js ks) (h6:ks.length<=6) (m n:Nat):PB3 1180 (tipV (ks.take m))/\PB3 1180 (subV (tipV (ks.take m)) (tipV (ks.take n))):=by
  obtain ⟨C,h0,hC,hm⟩:=places_ob h
  have hb:195 * ks.length<=1170:=by omega
  exact ⟨PB.up ((hm m).pb h0 hC) (by omega),PB.up (((hm m).sub (hm n)).pb h0 (hC.up (by omega))) (by omega)⟩
theorem far_pls {ks:List Jt} (h:Js ks) (h6:ks.length<=6) (m n:Nat):RFarV [pQ (tipV (ks.take m)),pQ (tipV (ks.take n))] (tI (qf (inV (subV (tipV (ks.take m)) (tipV (ks.take n))) (subV (tipV (ks.take m)) (tipV (ks.take n)))))) :=
  ⟨_,_,rfl,⟨PB.up (pls_pb h h6 m n).1 (by decide),PB.up (pls_pb h h6 n m).1 (by decide),PB.up (pls_pb h h6 m n).2 (by decide)⟩,rfl⟩
theorem less_pls {ks:List Jt} (h:Js ks) (h6:ks.length<=6) (m n:Nat):RLessV [pQ (tipV (ks.take m)),pQ (tipV (ks.take n))] (pQ (subV (tipV (ks.take m)) (tipV (ks.take n)))) :=
  ⟨_,_,rfl,⟨PB.up (pls_pb h h6 m n).1 (by decide),PB.up (pls_pb h h6 n m).1 (by decide)⟩,rfl⟩
noncomputable def fwOf (q:Rat):Fw:=⟨q.num,q.den⟩
theorem fwOf_q (q:Rat):(fwOf q).q=q:=qf_val q
theorem fwOf_ok {c:Nat} {q:Rat} (h:QN c q):FwOk c c (fwOf q):=⟨den_pos q,h.1,h.2⟩
theorem innerV {m n:Nat} {u v:V3} (hu:PB3 m u) (hv:PB3 n v) (h:m + n<=2600):RInner [pQ u,pQ v] (tI (qf (inV u v))):=by
  obtain ⟨a1,a2,a3⟩:=PB.qn hu
  obtain ⟨b1,b2,b3⟩:=PB.qn hv
  refine ⟨false,fwOf u.1,fwOf u.2.1,fwOf u.2.2,fwOf v.1,fwOf v.2.1,fwOf v.2.2,m,m,n,n,rfl,fwOf_ok a1,fwOf_ok a2,fwOf_ok a3,fwOf_ok b1,fwOf_ok b2,fwOf_ok b3,h,h,?_⟩
  rw [fwOf_q,fwOf_q,fwOf_q,fwOf_q,fwOf_q,fwOf_q]
  rfl
theorem take_at {ks:List Jt} {i m:Nat} {j:Jt} (h:ks[i]?=some j):ks.take (i + 1 + m)=ks.take i ++ j :: (ks.drop (i + 1)).take m:=by
  have hi:i < ks.length:=(List.getElem?_eq_some_iff.mp h).1
  have e:ks.drop i=j :: ks.drop (i + 1):=by
    rw [List.drop_eq_getElem_cons hi]
    rw [List.getElem?_eq_getElem hi] at h
    cases h;rfl
  have e2:ks=ks.take i ++ j :: ks.drop (i + 1):=by rw [<- e,List.take_append_drop]
  have l:(ks.take i).length=i:=by rw [List.length_take];omega
  conv=>lhs;rw [e2]
  rw [List.take_append,l,show i + 1 + m - i=m + 1 by omega,List.take_succ_cons,List.take_of_length_le (by rw [l];omega)]
theorem beh_at {ks:List Jt} {i m:Nat} {j:Jt} (h:ks[i]?=some j) (hm:m < ks.length - i) (hJ:Js ks):(behD ks i)[m]?=some (.tuple [tI (qf (inV (subV (tipV (ks.take (i + 1 + m))) (tipV (ks.take i))) (subV (tipV (ks.take (i + 1 + m))) (tipV (ks.take i))))),tI (qf (inV (tq (stJ (ks.take i)) j.w) (subV (tipV (ks.take (i + 1 + m))) (tipV (ks.take i)))))]):=by
  have hj:JtOk j:=hJ j (List.mem_of_getElem? h)
  unfold behD
  rw [h,take_at h,far_behind hJ.take hj,high_behind hJ.take hj]
  dsimp only
  rw [List.getElem?_map,List.getElem?_range hm]
  rfl
theorem beh_len {ks:List Jt} {i:Nat} (h:i < ks.length):(behD ks i).length=ks.length - i:=by
  unfold behD
  rw [List.getElem?_eq_getElem h]
  dsimp only
  rw [List.length_map,List.length_range]
theorem w_pb {j:Jt} (h:JtOk j):PB3 31 j.w:=PB.int (h.bw _ (by simp)) (h.bw _ (by simp)) (h.bw _ (by simp))
end
end D
section
namespace HT
open PySem PySem.Spec PyProof.Rows
open MeetsSeq MeetsSeq2 MeetsSeq3
theorem tuple_mul1 (l:Addr) (items:Array Value) (n:Nat) (dd:Option Addr) (sl:Array (Option Value)) (u:Tok) :
    Meets (Builtin.«tuple.__mul__» ⟨[.ref l,.int 1 u],[]⟩) (fun _ R s=>s.heap.get? l=some { cls:=.type "tuple",dict:=dd,data:=.seq items n,slots:=sl }/\R (.ok (.ret (Value.ref l))) s) :=
  .of_wp fun prog w A R s h=>by
    obtain ⟨hp,g,d,tk,os⟩:=s;obtain ⟨hl,h⟩:=h
    have c0:¬ (decide ((1:Int) < -2 ^ 63) || decide ((1:Int) ≥ 2 ^ 63))=true:=by simp
    have f0:=decide_eq_false c0
    have c1:(items.isEmpty || (1:Int) == 1)=true:=by simp
    have f1:=decide_eq_true c1
    wp_walk
    exact ⟨_,rfl,h⟩
end HT
namespace L2
open PySem PySem.Spec PyProof.Rows
noncomputable def rRep1 (K:PySem.W.Frag):R2:=fun x y H Q=>∃ a xs,x = .ref a/\y = .int 1/\SqT K H a xs/\Q (.ref a) H
theorem op_rep1 {X:Cx}:OpR X (binaryOp .Mult) (rRep1 X.K):=by
  intro pins s σ H x y v u Q I rx ry h
  obtain ⟨a,xs,rfl,rfl,ha,q⟩:=h
  cases rx
  obtain ⟨t,rfl⟩:=ry
  obtain ⟨its,r1,p1,_⟩:=I.tuple ha
  obtain ⟨⟨cls,dd,data,sl⟩,ho,hc,n,hd⟩:=id p1
  simp only at hc hd
  subst hc hd
  refine wpAny_binaryOp_repeat_ref (T := "tuple") (U := "int") (by decide) ⟨_,ho,rfl⟩ (fun s'=>typeIs_int s' 1 t) HT.noFill_tuple_mul F.fills_int_mul F.slot_int_rmul HT.repeat_tuple F.slot_int_index.lookup
    (call_meets F.slot_int_rmul (typeIs_int s 1 t) F.entry_int_rmul (F.args_int_rmul_2 _ _) (HT.int_rmul_tuple 1 t a its.toArray n dd sl)
      ⟨ho,rfl,⟨_,ho,rfl⟩,call_meets F.slot_tuple_mul ⟨_,ho,rfl⟩ F.entry_tuple_mul (F.args_tuple_mul_2 _ _) (HT.tuple_mul1 a its.toArray n dd sl t) ⟨ho,?_⟩⟩)
  exact ⟨.ref a,H,I,rfl,q⟩
theorem op_repA {X:Cx}:OpR X (binaryOp .Mult) (fun x y H Q=>rRepT X.K x y H Q\/rRep1 X.K x y H Q):=by
  intro pins s σ H x y v u Q I rx ry h
  rcases h with h | h
  . exact op_repT pins s σ H x y v u Q I rx ry h
  . exact op_rep1 pins s σ H x y v u Q I rx ry h
theorem ze_revTC {X:Cx} {e st:Expr} {te ts:TE} {p2 pos:Pos} (he:ZE X e te) (hs:ZE X st ts):ZE X (.Subscript e (.Slice none none (some st) p2) pos) (tRev (rRevT X.K) te ts):=⟨by
  intro pins s σ H Q I h
  refine Subscript_ (thn (he.out pins s σ H _ I h) fun v s1 ⟨x,H1,I1,r1,q1⟩=>?_)
  refine wpAny_Slice ?_
  rw [evalPart_none]
  refine wpAny_pure (wpAny_pure ?_)
  rw [evalPart_some]
  refine thn (hs.out pins s1 σ H1 _ I1 q1) fun vs s2 ⟨y,H2,I2,r2,e2,q2⟩=>?_
  subst e2
  obtain ⟨t,rfl⟩:=r2
  obtain ⟨a,xs,rfl,hx,q⟩:=q2
  cases r1
  have I4:Inv X pins σ H2 { s2 with heap:=s2.heap.push { cls:=.type "slice",data:=.fields #[.none,.none,.int (-1) t] } }:=I2.kept (t':=s2.toks) fun b ob q=>Heap.get?_push_of_some _ q
  obtain ⟨its,r,ht',hz⟩:=I4.tuple hx
  show wpAny (model X.prog X.w) X.A (subscriptTail e (.Slice none none (some st) p2) (.ref a) (.ref s2.heap.objs.size)) (EP X pins σ Q) X.xe { s2 with heap:=s2.heap.push { cls:=.type "slice",data:=.fields #[.none,.none,.int (-1) t] } }
  refine tail_any (ops:=[.ref a,.ref s2.heap.objs.size]) ht'.typeIs PyProof.Rows.slot_tuple_getitem.lookup ?_ (by with_unfolding_all rfl)
  refine HT.getItem_tuple_rev ht' (tk:=t) (Heap.IsSliceOf.new ..) ?_ (by rw [List.size_toArray, <- r.length];exact hz)
  refine ⟨.ref _,_,I4.laid (t':=s2.toks) (o:=.tup xs.reverse) (fun b ob q=>Heap.get?_push_of_some _ q) (Nat.le_refl _) ?_,rfl,q _ (I4.hok.fresh (Nat.le_refl _))⟩
  exact ⟨by rw [List.length_reverse];exact hz,_,r.reverse,IsTup.new _ _⟩⟩
end L2
namespace D
open PySem L2 K0 Num
open PySem.W (Dat)
section
variable {p:Option Addr} {K:PySem.W.Frag} {τ:List Sl} {ta tb:TE}
theorem E1.repA {xs : List Dat} {k : Int} {n : Nat} (ha : E1 p K ta τ (.dat (.tuple xs))) (hb : E1 p K tb τ (.dat (.int k))) (hx : xs ≠ []) (hk : k.toNat = n) (h1 : 1 <= n) (hz : xs.length * n <= sizeLine) (h3 : k < 2 ^ 63 := by decide) : E1 p K (tOp (fun x y H Q => rRepT K x y H Q \/ rRep1 K x y H Q) ta tb) τ (.dat (.tuple (List.replicate n xs).flatten)) :=
  E1.op2 ha hb fun W H0 H x y Q o0 o r1 r2 q=>by
    cases r2.int_inv
    cases r1 with
    | @tup aa ys _ h z =>
      by_cases h2:2<=n
      . subst hk
        refine .inl ⟨_,k,_,rfl,rfl,h,fun e=>hx ?_,by omega,h3,by rw [z.len];exact hz,fun r hr=>?_⟩
        . have:=z.len
          rw [e] at this
          exact List.length_eq_zero_iff.mp this.symm
        have s:=Same.new hr (.tup (List.replicate k.toNat ys).flatten)
        exact q _ _ (Ev.of s) (o.same s) (.tup (SqT.of upd_same) ((Dzs.rep z _).ev (W:=fun _=>False) (Ev.of s) fun _ _ z=>z))
      . have hn:n=1:=by omega
        have hk1:k=1:=by omega
        subst hn hk1
        refine .inr ⟨_,_,rfl,rfl,h,q _ _ Ev.refl o ?_⟩
        rw [show (List.replicate 1 xs).flatten=xs by simp]
        exact .tup h z
end
end D
end
section
namespace K84
open PySem L2 Num K0 D
open PySem.W (Dat)
noncomputable def top (i:Nat):Stmt:=PySem.Challenge.pw_hangrings_k84_whole_bones_stay.main.body.getD i (.Pass ⟨0,0,0,0⟩)
noncomputable abbrev sCD:Stmt:=top 2
noncomputable abbrev sRed:Stmt:=top 3
noncomputable abbrev sNeg:Stmt:=top 4
noncomputable abbrev sCM:Stmt:=top 6
noncomputable abbrev sDLev:Stmt:=top 7
noncomputable abbrev sDLow:Stmt:=top 8
noncomputable abbrev sLAdd:Stmt:=top 9
noncomputable abbrev sPlain:Stmt:=top 12
noncomputable abbrev sSize:Stmt:=top 13
noncomputable abbrev sProd:Stmt:=top 14
noncomputable abbrev sThen:Stmt:=top 15
noncomputable abbrev sWT:Stmt:=top 16
noncomputable abbrev sLT:Stmt:=top 17
noncomputable abbrev sPSet:Stmt:=top 19
noncomputable abbrev sAbout:Stmt:=top 20
noncomputable abbrev sTurnOf:Stmt:=top 29
noncomputable abbrev sTipOf:Stmt:=top 30
noncomputable abbrev sMixed4:Stmt:=top 33
noncomputable abbrev sPurse4:Stmt:=top 34
noncomputable abbrev sDraw:Stmt:=top 35
noncomputable abbrev sNumber9:Stmt:=top 36
noncomputable abbrev sRow9:Stmt:=top 37
noncomputable abbrev sDiv:Stmt:=top 38
noncomputable abbrev sLPlain5:Stmt:=top 39
noncomputable abbrev sLowest4:Stmt:=top 42
noncomputable abbrev sPlus:Stmt:=top 43
noncomputable abbrev sLessV:Stmt:=top 44
noncomputable abbrev sInner:Stmt:=top 45
noncomputable abbrev sTurnedF:Stmt:=top 46
noncomputable abbrev sPoint9:Stmt:=top 47
noncomputable abbrev sSet9:Stmt:=top 48
noncomputable abbrev sJoints:Stmt:=top 49
noncomputable abbrev sChainF:Stmt:=top 50
noncomputable abbrev sFarV:Stmt:=top 51
noncomputable abbrev sBones:Stmt:=top 52
noncomputable abbrev sSeenF:Stmt:=top 53
noncomputable abbrev sLaw:Stmt:=top 54
noncomputable abbrev sCIni:Stmt:=inClass (top 31) 0
noncomputable abbrev sCAdd:Stmt:=inClass (top 31) 1
noncomputable abbrev sCRef:Stmt:=inClass (top 31) 3
noncomputable abbrev sCBend:Stmt:=inClass (top 31) 4
noncomputable abbrev sCStands:Stmt:=inClass (top 31) 6
noncomputable abbrev sCPlaces:Stmt:=inClass (top 31) 7
noncomputable abbrev sCTip:Stmt:=inClass (top 31) 8
noncomputable abbrev sDLatest:Stmt:=inClass (top 26) 1
noncomputable abbrev sDDo:Stmt:=inClass (top 26) 2
noncomputable abbrev sDIni:Stmt:=inClass (top 26) 0
noncomputable abbrev sSop:Stmt:=top 5
local macro_rules | `(tactic| walk_at "bt") => `(tactic| (repeat' (first | assumption | exact bt2 | apply Bt.mul | apply Bt.add' | apply Bt.sub' | apply Bt.neg' | exact bd_lit (k := 64) (by decide))))
local macro_rules | `(tactic| walk_at "au3") => `(tactic| (repeat' (first | exact E1.var rfl | exact E1.varP rfl | exact E1.int | exact E1.bl | exact E1.non | exact E1.str | exact A1.nil | exact O1.none | exact E1.ty | exact T1.all | exact E1.varO rfl | exact E1.varL rfl | apply A1.cons | apply E1.add | apply E1.sub | apply E1.mul | apply E1.neg | apply E1.pow | apply E1.ixT | apply E1.tu | apply E1.li | apply E1.sl1 | apply O1.some | apply T1.test | apply T1.val | apply T1.not | apply T1.and1 | apply T1.or1 | apply E1.eq | apply E1.ne | apply E1.lt | apply E1.le | apply E1.gt | apply E1.ge | apply E1.cSop | apply E1.tupleL | apply E1.su | apply E1.vwo | apply E1.comp3 | apply Wk.r3 | apply Wk.tup | rfl | exact lsz (n := 2) rfl z2 | exact lsz (n := 3) rfl z3 | exact lsz (n := 4) rfl z4 | exact lsz (n := 1) rfl z1 | exact lsz (n := 0) rfl z0 | exact cpow10 (by decide) (by decide) | exact Bt.mulOk (x := _) (y := _) (by walk_at "bt") (by walk_at "bt") (by decide) (by decide))))
section
variable {P:Program} {w:World} {K:PySem.W.Frag} {mg:Str->Option Value} {base:Heap} {dMOST_JOINTS:Value} {C cDeeds cChain j1 j2 j3:Addr} {jd1 jd2 jd3:FuncData} {f g g2 g3 g4 g5 g6 g7 g8:Addr} {fd gd gd2 gd3 gd4 gd5 gd6 gd7 gd8:FuncData}
theorem scCD:FnScope ["numbers","divisor","number","other","left"] ["numbers"] (defScope sCD):=⟨rfl,rfl,rfl,by decide +kernel,rfl,by decide +kernel,by decide +kernel⟩
theorem ok_cd (F : Fun K "common_divisor" "common_divisor" sCD f fd) (ma : mg "abs" = none) : FnOk P w K mg base CX0 1 f fd ["numbers"] (spCD K) := by
  refine F.okZ scCD (fun vs H Q E h=>?_) (fun cdv A outer s H vs Q E hr h=>?_)
  . obtain ⟨a,ns,rfl,_⟩:=h;rfl
  obtain ⟨a,ns,rfl,hS,q⟩:=h
  refine ⟨_,zss_cons (zs_set (i:=1) scCD.nd rfl (Or.inl rfl) ze_int) (zss_cons (zs_for PassesOwn.never rfl (zi_tup (zv 0)) (zg_name (i:=2) scCD.nd rfl (Or.inl rfl))
      (zss_cons (zs_set (i:=3) scCD.nd rfl (Or.inl rfl) (ze_callB call_abs rfl ma (by rfl) (za_cons (zv 2) za_nil)))
        (zss_one (zs_while PassesOwn.never (zt_cmpR op_ne (zv 3) ze_int (nomark _)) (zss_cons (zs_set (i:=4) scCD.nd rfl (Or.inl rfl) (ze_op op_mod (zv 1) (zv 3)))
          (zss_cons (zs_set (i:=1) scCD.nd rfl (Or.inl rfl) (zv 3)) (zss_one (zs_set (i:=3) scCD.nd rfl (Or.inl rfl) (zv 4)))))))))
      (zss_one (zs_ret (zv 1)))),?_⟩
  refine ⟨_,rfl,a,rfl,⟨_,hS⟩,for_tup (xs:=ns.map V.int) (fun i σ H'=>H=H'/\∃ nn o l,σ=[some (.ref a),some (.int (gcdN (ns.take i))),nn,o,l])
    ⟨rfl,_,_,_,rfl⟩ (fun i σ H' _ h=>h.1 ▸ hS) (fun i x σ H' hx h=>?_) (fun σ H' h=>?_)⟩
  . obtain ⟨rfl,nn,o,l,rfl⟩:=h
    rw [List.getElem?_map] at hx
    cases hn:ns[i]? with
    | none=>rw [hn] at hx;cases hx
    | some n =>
      rw [hn] at hx
      cases hx
      refine ⟨_,rfl,n,rfl,?_⟩
      have tk:ns.take (i + 1)=ns.take i ++ [n]:=by rw [List.take_add_one,hn];rfl
      refine while_by (fun σ H'=>H=H'/\∃ (d o:Int) (l:Option V),0<=d/\0<=o/\Nat.gcd d.toNat o.toNat=gcdN (ns.take (i + 1))/\σ=[some (.ref a),some (.int d),some (.int n),some (.int o),l])
        (fun σ _=>match σ with | [_,_,_,some (.int o),_]=>o.toNat | _=>0) ⟨rfl,_,_,_,by omega,by split <;> omega,?_,rfl⟩ (fun σ H' h=>?_) (fun σ H Q Q' hq h=>?_)
      . rw [tk,gcdN_snoc]
        congr 1
        split <;> omega
      . obtain ⟨rfl,d,o,l,hd,ho,hg,rfl⟩:=h
        refine ⟨_,rfl,rfl,_,rfl,?_⟩
        refine ite2 (fun c=>?_) (fun c=>?_)
        . have hne:o ≠ 0:=by
            intro z;subst z;exact absurd c (by decide)
          refine ⟨_,rfl,_,rfl,_,_,rfl,rfl,by omega,_,rfl,_,rfl,⟨rfl,_,_,_,ho,Int.emod_nonneg _ hne,?_,rfl⟩,?_⟩
          . rw [<- hg];exact gcd_step hd (by omega)
          . show (d % o).toNat < o.toNat
            have:=Int.emod_lt_of_pos d (show 0 < o by omega)
            have:=Int.emod_nonneg d hne
            omega
        . have h0:o=0:=by
            by_cases z:o=0
            . exact z
            . exact absurd (by show (!decide (V.int o=V.int 0))=true;rw [decide_eq_false (fun e=>z (by injection e))];rfl) c
          subst h0
          refine ⟨rfl,some (.int n),some (.int 0),l,?_⟩
          have e:(d.toNat:Int)=d:=by omega
          rw [<- hg]
          simp only [Int.toNat_zero,Nat.gcd_zero_right,e]
      . obtain ⟨v,e1,e2,b,e3,q⟩:=h
        exact ⟨v,e1,e2,b,e3,hq _ _ q⟩
  . obtain ⟨rfl,nn,o,l,rfl⟩:=h
    rw [List.length_map,List.take_length]
    exact ⟨_,rfl,q⟩
theorem scRed:FnScope ["numbers","divisor"] ["numbers"] (defScope sRed):=⟨rfl,rfl,rfl,by decide +kernel,rfl,by decide +kernel,by decide +kernel⟩
theorem ok_red (F:Fun K "reduced" "reduced" sRed f fd) (G:FnOk P w K mg base CX0 1 g gd ["numbers"] (spCD K)) (bG:Binds K gd ["numbers"] []) (kG:PySem.W.keepIn K (.ref g)=true) (mG:mg "common_divisor" = some (.ref g)) (mt:mg "tuple" = none) :
    FnOk P w K mg base CX0 2 f fd ["numbers"] (spT K (fun ns=>(∃ n ∈ ns,n ≠ 0)/\Sm ns) red):=by
  refine F.okZ scRed (fun vs H Q E h=>?_) (fun cdv A outer s H vs Q E hr h=>?_)
  . obtain ⟨a,ns,rfl,_⟩:=h;rfl
  obtain ⟨a,ns,rfl,hS,hl,⟨hnz,hsm⟩,q⟩:=h
  refine ⟨_,zss_cons (zs_set (i:=1) scRed.nd rfl (Or.inr rfl) (ze_call G hr rfl mG kG bG .nil pass0 (za_cons (zv 0) za_nil)))
    (zss_one (zs_ret (ze_callTy call_tuple_of rfl mt (by rfl) (za_cons (ze_comp (own:=["number"]) scRed rfl ⟨by decide +kernel,rfl,by decide +kernel,by decide +kernel,by decide +kernel,by decide +kernel,by decide +kernel,by decide +kernel,by decide +kernel⟩ (zi_tup (zv 0))
      (fun C fp s H nd=>zg_name (i:=0) nd rfl (Or.inl rfl)) (fun C fp s H=>zts_nil) (fun C fp s H=>ze_op op_fdivB (zv 0) (zv 2))) za_nil)))),?_⟩
  refine ⟨_,rfl,a,ns,rfl,hS,?_⟩
  refine ⟨_,rfl,a,rfl,⟨_,hS⟩,?_⟩
  have gp:=gcdN_pos hnz
  refine comp_tup (K:=K) (((red ns).map PySem.W.Dat.int)) hS (by simp [red]) (by rw [List.length_map];exact Nat.le_of_lt (small1000 hl)) (fun i x H' d hx hd hs=>?_) (fun σ' H2 Q1 Q2 hq h=>?_) (fun D H' ys hs hy hD hf=>?_)
  . rw [List.getElem?_map] at hx hd
    unfold red at hd
    rw [List.getElem?_map] at hd
    cases e:ns[i]? with
    | none=>rw [e] at hx;cases hx
    | some n =>
      rw [e] at hx hd
      cases hx;cases hd
      refine ⟨_,rfl,_,rfl,n,_,rfl,rfl,⟨by omega,gcd_small hnz hsm⟩,Same.refl _,?_⟩
      dsimp only
      rw [Int.fdiv_eq_ediv_of_nonneg _ (by omega)]
      exact .int _
  . obtain ⟨v1,e1,v2,e2,i,j,e3,e4,e5,q⟩:=h
    exact ⟨v1,e1,v2,e2,i,j,e3,e4,e5,hq _ _ q⟩
  . refine ⟨D,ys,rfl,.inl ⟨SqL.of hy,fun l hl'=>?_⟩⟩
    refine q l _ (hs.trans (Same.new hl' _)) ?_
    rw [Fzs.ints_inv hf]
    exact upd_same
theorem scNeg:FnScope ["numbers"] ["numbers"] (defScope sNeg):=⟨rfl,rfl,rfl,by decide +kernel,rfl,by decide +kernel,by decide +kernel⟩
theorem ok_neg (F:Fun K "negated" "negated" sNeg f fd) (mt:mg "tuple" = none):FnOk P w K mg base CX0 1 f fd ["numbers"] (spT K (fun _=>True) (fun ns=>ns.map fun n => -n)):=by
  refine F.okZ scNeg (fun vs H Q E h=>?_) (fun cdv A outer s H vs Q E hr h=>?_)
  . obtain ⟨a,ns,rfl,_⟩:=h;rfl
  obtain ⟨a,ns,rfl,hS,hl,_,q⟩:=h
  refine ⟨_,zss_one (zs_ret (ze_callTy call_tuple_of rfl mt (by rfl) (za_cons (ze_comp (own:=["number"]) scNeg rfl ⟨by decide +kernel,rfl,by decide +kernel,by decide +kernel,by decide +kernel,by decide +kernel,by decide +kernel,by decide +kernel,by decide +kernel⟩ (zi_tup (zv 0))
      (fun C fp s H nd=>zg_name (i:=0) nd rfl (Or.inl rfl)) (fun C fp s H=>zts_nil) (fun C fp s H=>ze_un un_neg (zv 0))) za_nil))),?_⟩
  refine ⟨_,rfl,a,rfl,⟨_,hS⟩,?_⟩
  refine comp_tup (K:=K) ((ns.map fun n => -n).map PySem.W.Dat.int) hS (by simp) (by rw [List.length_map];exact Nat.le_of_lt (small1000 hl)) (fun i x H' d hx hd hs=>?_) (fun σ' H2 Q1 Q2 hq h=>?_) (fun D H' ys hs hy hD hf=>?_)
  . rw [List.getElem?_map] at hx hd
    rw [List.getElem?_map] at hd
    cases e:ns[i]? with
    | none=>rw [e] at hx;cases hx
    | some n =>
      rw [e] at hx hd
      cases hx;cases hd
      exact ⟨_,rfl,n,rfl,Same.refl _,.int _⟩
  . obtain ⟨v1,e1,i,e3,q⟩:=h
    exact ⟨v1,e1,i,e3,hq _ _ q⟩
  . refine ⟨D,ys,rfl,.inl ⟨SqL.of hy,fun l hl'=>?_⟩⟩
    refine q l _ (hs.trans (Same.new hl' _)) ?_
    rw [Fzs.ints_inv hf]
    exact upd_same
theorem scCM:FnScope ["numbers","multiple","number"] ["numbers"] (defScope sCM):=⟨rfl,rfl,rfl,by decide +kernel,rfl,by decide +kernel,by decide +kernel⟩
theorem ok_cm (F : Fun K "common_multiple" "common_multiple" sCM f fd)
    (G:FnOk P w K mg base CX0 1 g gd ["numbers"] (spCD K)) (bG:Binds K gd ["numbers"] []) (kG:PySem.W.keepIn K (.ref g)=true) (mG:mg "common_divisor" = some (.ref g)) :
    FnOk P w K mg base CX0 2 f fd ["numbers"] (spCM K):=by
  refine F.okZ scCM (fun vs H Q E h=>?_) (fun cdv A outer s H vs Q E hr h=>?_)
  . obtain ⟨a,bs,C,rfl,_⟩:=h;rfl
  obtain ⟨a,bs,C,rfl,hS,hb,C0,bC,q⟩:=h
  have r:=hr.mono (show 1<=1 by decide)
  refine ⟨_,(zss_cons (zs_set (i:=1) scCM.nd rfl (Or.inl rfl) ze_int)
    (zss_cons (zs_for PassesOwn.never rfl (zi_list (zv 0)) (zg_name (i:=2) scCM.nd rfl (Or.inl rfl)) (zss_one (zs_set (i:=1) scCM.nd rfl (Or.inl rfl) (ze_op op_mulB (ze_op op_fdivB (zv 1) (ze_call G r rfl mG kG bG .nil pass0 (za_t (ze_tup (za_n (zv 1) (za_n (zv 2) za_nil))) za_nil))) (zv 2)))))
    (zss_one (zs_ret (zv 1))))),?_⟩
  refine ⟨_,rfl,a,rfl,⟨_,hS⟩,for_list (xs:=bs.map V.int) (fun i σ H'=>Same H H'/\∃ (m:Int) (nn:Option V),σ=[some (.ref a),some (.int m),nn]/\0 < m/\(∀ b ∈ bs.take i,b ∣ m)/\m ∣ C)
    ⟨Same.refl _,1,_,rfl,by decide,by simp,Int.one_dvd _⟩ (fun i σ H' _ h=>h.1.seq hS) (fun i x σ H' hx h=>?_) (fun σ H' h=>?_)⟩
  . obtain ⟨s1,m,nn,rfl,m0,md,mC⟩:=h
    rw [List.getElem?_map] at hx
    cases hn:bs[i]? with
    | none=>rw [hn] at hx;cases hx
    | some n =>
      rw [hn] at hx
      cases hx
      obtain ⟨n0,nC⟩:=hb n (List.mem_of_getElem? hn)
      obtain ⟨g0,gl,gb,p0,pm,pn,pC⟩:=cm_step m0 n0 C0 mC nC bC
      refine ⟨_,rfl,_,rfl,_,rfl,(by show 2<=sizeLine;decide),fun t ht=>?_⟩
      have s2:=Same.new ht (.tup ([m,n].map V.int))
      refine ⟨t,[m,n],rfl,SqT.of upd_same,_,_,rfl,rfl,⟨g0,gl⟩,?_⟩
      refine ⟨_,rfl,_,_,rfl,rfl,gb.mulOk (bt_dvd nC C0 bC),s1.trans s2,_,_,rfl,p0,fun b hb'=>?_,pC⟩
      have tk:bs.take (i + 1)=bs.take i ++ [n]:=by rw [List.take_add_one,hn];rfl
      rw [tk] at hb'
      rcases List.mem_append.mp hb' with z | z
      . exact Int.dvd_trans (md b z) pm
      . have:b=n:=by simpa using z
        rw [this];exact pn
  . obtain ⟨s1,m,nn,rfl,m0,md,mC⟩:=h
    rw [List.length_map,List.take_length] at md
    exact ⟨_,rfl,q m _ s1 m0 md mC⟩
theorem scDLev:FnScope ["fractions","bottom"] ["fractions"] (defScope sDLev):=⟨rfl,rfl,rfl,by decide +kernel,rfl,by decide +kernel,by decide +kernel⟩
theorem ok_dlev (F:Fun K "levelled" "levelled" sDLev f fd)
    (G:FnOk P w K mg base CX0 2 g gd ["numbers"] (spCM K)) (bG:Binds K gd ["numbers"] []) (kG:PySem.W.keepIn K (.ref g)=true) (mG:mg "common_multiple" = some (.ref g)) (m_tuple:mg "tuple" = none) :
    FnOk P w K mg base CX0 3 f fd ["fractions"] (spP K RLev):=by
  refine okP F scDLev (fun ds d h=>?_) (fun cdv A0 outer s0 H0 E0 hr=>?_)
  . obtain ⟨c,x,y,z,rfl,_⟩:=h;rfl
  have r:=hr.mono (show 2<=2 by decide)
  refine ⟨_,(zss_cons (zs_set (i:=1) scDLev.nd rfl (Or.inr rfl) (ze_call G r rfl mG kG bG .nil pass0 (za_cons (ze_comp (own:=["fraction"]) scDLev rfl ⟨by decide +kernel,rfl,by decide +kernel,by decide +kernel,by decide +kernel,by decide +kernel,by decide +kernel,by decide +kernel,by decide +kernel⟩ (zi_tup (zv 0)) (fun C fp s H nd=>zg_name (i:=0) nd rfl (Or.inl rfl)) (fun C fp s H=>zts_nil) (fun C fp s H=>(ze_ix ix_tupC (zv 0) ze_int (fun _ _=>rfl)))) za_nil)))
    (zss_one (zs_ret (ze_tup (za_c (ze_callTy call_tuple_of rfl m_tuple (by rfl) (za_cons (ze_comp (own:=["fraction"]) scDLev rfl ⟨by decide +kernel,rfl,by decide +kernel,by decide +kernel,by decide +kernel,by decide +kernel,by decide +kernel,by decide +kernel,by decide +kernel⟩ (zi_tup (zv 0)) (fun C fp s H nd=>zg_name (i:=0) nd rfl (Or.inl rfl)) (fun C fp s H=>zts_nil) (fun C fp s H=>(ze_op op_mulB (ze_ix ix_tupC (zv 0) ze_int (fun _ _=>rfl)) (ze_op op_fdivB (zv 2) (ze_ix ix_tupC (zv 0) ze_int (fun _ _=>rfl)))))) za_nil)) (za_n (zv 1) za_nil)))))),fun ds d h=>?_⟩
  obtain ⟨c,x,y,z,rfl,pb,hc,rfl⟩:=h
  have lb:=lev_lb pb
  obtain ⟨l1,l2,l3⟩:=pb.lo
  have Lp:=lcm3_pos x y z
  have px:=x.den_pos
  have py:=y.den_pos
  have pz:=z.den_pos
  have d1:(x.den:Int) ∣ (lcm3 x y z:Int):=Int.natCast_dvd_natCast.mpr (lcm3_d1 x y z)
  have d2:(y.den:Int) ∣ (lcm3 x y z:Int):=Int.natCast_dvd_natCast.mpr (lcm3_d2 x y z)
  have d3:(z.den:Int) ∣ (lcm3 x y z:Int):=Int.natCast_dvd_natCast.mpr (lcm3_d3 x y z)
  refine S.letC (EI.cCM (bs:=[(x.den:Int),y.den,z.den]) (C:=lcm3 x y z) (A1.cons (E1.vwo (E1.comp3 (Wk.tup (E1.var rfl)) (E1.ixT (E1.var rfl) E1.int rfl) (E1.ixT (E1.var rfl) E1.int rfl) (E1.ixT (E1.var rfl) E1.int rfl))) A1.nil) ?_ (by omega) (lb.bc.up hc)) (fun s ⟨_,e,_⟩=>by rw [e];rfl) fun s ⟨L,e,L0,Ld,LC⟩=>?_
  . intro b hb
    simp only [List.mem_cons,List.mem_nil_iff,or_false] at hb
    rcases hb with rfl | rfl | rfl
    . exact ⟨by omega,d1⟩
    . exact ⟨by omega,d2⟩
    . exact ⟨by omega,d3⟩
  subst e
  have eL:L=(lcm3 x y z:Int):=by
    obtain ⟨M,rfl⟩:=Int.eq_ofNat_of_zero_le (Int.le_of_lt L0)
    have h1:lcm3 x y z ∣ M:=Nat.lcm_dvd (Nat.lcm_dvd (Int.natCast_dvd_natCast.mp (Ld x.den (by simp))) (Int.natCast_dvd_natCast.mp (Ld y.den (by simp)))) (Int.natCast_dvd_natCast.mp (Ld z.den (by simp)))
    have h2:M ∣ lcm3 x y z:=Int.natCast_dvd_natCast.mp LC
    exact congrArg _ (Nat.dvd_antisymm h2 h1)
  subst eL
  have bL:Bt (lcm3 x y z:Int) 3000:=lb.bc.up hc
  have one:∀ {w:Rat},0 < w.den->(w.den:Int) ∣ (lcm3 x y z:Int)->CDivB (lcm3 x y z:Int) w.den/\(lcm3 x y z:Int).fdiv w.den=(lcm3 x y z:Int) / w.den/\Bt ((lcm3 x y z:Int) / w.den) 3000:=fun {w} pw dw=>by
    have h:=lev_part (b:=(w.den:Int)) (by omega) (show (0:Int) < lcm3 x y z by omega) dw bL
    have e:=Int.fdiv_eq_ediv_of_dvd dw
    rw [e] at h
    exact ⟨⟨by omega,(bt_dvd dw (by omega) bL).log (by omega)⟩,e,h.2⟩
  obtain ⟨c1,f1,g1⟩:=one px d1
  obtain ⟨c2,f2,g2⟩:=one py d2
  obtain ⟨c3,f3,g3⟩:=one pz d3
  refine S.ret1 (s:=.dat (lev x y z)) ?_ ⟨rfl,rfl⟩
  unfold lev lvD
  refine E1.tu (A1.cons (E1.tupleL (A1.cons (E1.vwo (E1.comp3 (Wk.tup (E1.var rfl)) (E1.mul (E1.ixT (E1.var rfl) E1.int rfl) (E1.to (E1.fdiv (E1.var rfl) (E1.ixT (E1.var rfl) E1.int rfl) c1) (by rw [f1])) ((l1.bt.up hc).mulOk g1)) (E1.mul (E1.ixT (E1.var rfl) E1.int rfl) (E1.to (E1.fdiv (E1.var rfl) (E1.ixT (E1.var rfl) E1.int rfl) c2) (by rw [f2])) ((l2.bt.up hc).mulOk g2)) (E1.mul (E1.ixT (E1.var rfl) E1.int rfl) (E1.to (E1.fdiv (E1.var rfl) (E1.ixT (E1.var rfl) E1.int rfl) c3) (by rw [f3])) ((l3.bt.up hc).mulOk g3)))) A1.nil)) (A1.cons (E1.var rfl) A1.nil)) rfl (lsz (n:=2) rfl z2)
theorem scDLow:FnScope ["level"] ["level"] (defScope sDLow):=⟨rfl,rfl,rfl,by decide +kernel,rfl,by decide +kernel,by decide +kernel⟩
theorem ok_dlow (F:Fun K "lowered" "lowered" sDLow f fd)
    (G:FnOk P w K mg base CX0 2 g gd ["numbers"] (spT K (fun ns=>(∃ n ∈ ns,n ≠ 0)/\Sm ns) red)) (bG:Binds K gd ["numbers"] []) (kG:PySem.W.keepIn K (.ref g)=true) (mG:mg "reduced" = some (.ref g)) (m_tuple:mg "tuple" = none) :
    FnOk P w K mg base CX0 3 f fd ["level"] (spP K RLow):=by
  refine okP F scDLow (fun ds d h=>?_) (fun cdv A0 outer s0 H0 E0 hr=>?_)
  . obtain ⟨c,T1,T2,T3,C,x,y,z,rfl,_⟩:=h;rfl
  have r:=hr.mono (show 2<=2 by decide)
  refine ⟨_,(zss_one (zs_ret (ze_callTy call_tuple_of rfl m_tuple (by rfl) (za_cons (ze_comp (own:=["top"]) scDLow rfl ⟨by decide +kernel,rfl,by decide +kernel,by decide +kernel,by decide +kernel,by decide +kernel,by decide +kernel,by decide +kernel,by decide +kernel⟩ (zi_tup (ze_ix ix_tup (zv 0) ze_int (fun _ _=>rfl))) (fun C fp s H nd=>zg_name (i:=0) nd rfl (Or.inl rfl)) (fun C fp s H=>zts_nil) (fun C fp s H=>(ze_call G r rfl mG kG bG .nil pass0 (za_t (ze_tup (za_n (zv 0) (za_s (ze_ix ix_tupC (zv 1) ze_int (fun _ _=>rfl)) za_nil))) za_nil)))) za_nil)))),fun ds d h=>?_⟩
  obtain ⟨c,T1,T2,T3,C,x,y,z,rfl,lb,hc,rfl⟩:=h
  have sm:∀ {T:Int},Bt T c->(∃ n ∈ [T,C],n ≠ 0)/\Sm [T,C]:=fun h=>⟨⟨C,by simp,by have:=lb.pos;omega⟩,sm2 h lb.bc (by omega)⟩
  have fr1:red [T1,C]=qf x:=by rw [show red [T1,C]=fr T1 C from rfl,fr_qf lb.pos,lb.e1]
  have fr2:red [T2,C]=qf y:=by rw [show red [T2,C]=fr T2 C from rfl,fr_qf lb.pos,lb.e2]
  have fr3:red [T3,C]=qf z:=by rw [show red [T3,C]=fr T3 C from rfl,fr_qf lb.pos,lb.e3]
  refine S.ret1 (s:=.dat (ptQ x y z)) ?_ ⟨rfl,rfl⟩
  unfold ptQ ptD
  refine E1.tupleL (A1.cons (E1.vwo (E1.comp3 (d1:=.int T1) (d2:=.int T2) (d3:=.int T3) (Wk.tup (E1.ixT (E1.var rfl) E1.int rfl)) (E1.to (E1.cT (ns:=[T1,C]) (by (walk_at "au3")) (by show 2<=1000;decide) (sm lb.b1)) (by rw [fr1])) (E1.to (E1.cT (ns:=[T2,C]) (by (walk_at "au3")) (by show 2<=1000;decide) (sm lb.b2)) (by rw [fr2])) (E1.to (E1.cT (ns:=[T3,C]) (by (walk_at "au3")) (by show 2<=1000;decide) (sm lb.b3)) (by rw [fr3])))) A1.nil)
theorem scLAdd:FnScope ["one","other","tops"] ["one","other"] (defScope sLAdd):=⟨rfl,rfl,rfl,by decide +kernel,rfl,by decide +kernel,by decide +kernel⟩
theorem ok_ladd (F:Fun K "levels_added" "levels_added" sLAdd f fd) (m_tuple:mg "tuple" = none) (m_zip:mg "zip" = none) :
    FnOk P w K mg base CX0 1 f fd ["one","other"] (spP K RLAdd):=by
  refine okP F scLAdd (fun ds d h=>?_) (fun cdv A0 outer s0 H0 E0 hr=>?_)
  . obtain ⟨c,T1,T2,T3,C,S1,S2,S3,B,x,y,z,u,v,w,rfl,_⟩:=h;rfl
  refine ⟨_,(zss_cons (zs_set (i:=2) scLAdd.nd rfl (Or.inl rfl) (ze_callTy call_tuple_of rfl m_tuple (by rfl) (za_cons (ze_comp (own:=["left","right"]) scLAdd rfl ⟨by decide +kernel,rfl,by decide +kernel,by decide +kernel,by decide +kernel,by decide +kernel,by decide +kernel,by decide +kernel,by decide +kernel⟩ (zi_zip rfl m_zip (za_s (ze_ix ix_tup (zv 0) ze_int (fun _ _=>rfl)) (za_s (ze_ix ix_tup (zv 1) ze_int (fun _ _=>rfl)) za_nil))) (fun C fp s H nd=>zg_pair rfl nd rfl rfl rfl rfl) (fun C fp s H=>zts_nil) (fun C fp s H=>(ze_op op_add (ze_op op_mulB (zv 0) (ze_ix ix_tupC (zv 3) ze_int (fun _ _=>rfl))) (ze_op op_mulB (zv 1) (ze_ix ix_tupC (zv 2) ze_int (fun _ _=>rfl)))))) za_nil)))
    (zss_one (zs_ret (ze_tup (za_n (zv 2) (za_b (ze_op op_mulB (ze_ix ix_tup (zv 0) ze_int (fun _ _=>rfl)) (ze_ix ix_tup (zv 1) ze_int (fun _ _=>rfl))) za_nil)))))),fun ds d h=>?_⟩
  obtain ⟨c,T1,T2,T3,C,S1,S2,S3,B,x,y,z,u,v,w,rfl,h,g,hc,rfl⟩:=h
  have mo:∀ {a b:Int},Bt a c->Bt b c->IntMulOk a b:=fun ha hb=>(ha.up hc).mulOk (hb.up hc)
  have one:∀ {T S:Int},Bt T c->Bt S c->E1 none K (tOp (rI0 fun i j=>.int (i + j)) (tOp (rI IntMulOk fun i j=>.int (i * j)) (tVar 0) (tOp (rIxT K) (tVar 3) (tC (.int 1)))) (tOp (rI IntMulOk fun i j=>.int (i * j)) (tVar 1) (tOp (rIxT K) (tVar 2) (tC (.int 1))))) [.dat (.int T),.dat (.int S),.dat (lvD T1 T2 T3 C),.dat (lvD S1 S2 S3 B),.un] (.dat (.int (T * B + S * C))):=fun hT hS =>
    E1.add (E1.mul (E1.var rfl) (E1.ixT (E1.var rfl) E1.int rfl) (mo hT g.bc)) (E1.mul (E1.var rfl) (E1.ixT (E1.var rfl) E1.int rfl) (mo hS h.bc))
  refine S.let1 (s:=.dat (tI [T1 * B + S1 * C,T2 * B + S2 * C,T3 * B + S3 * C])) (E1.tupleL (A1.cons (E1.vwo (E1.compZ3 (x1:=.int T1) (x2:=.int T2) (x3:=.int T3) (y1:=.int S1) (y2:=.int S2) (y3:=.int S3) (Wk.zip (A1.cons (E1.ixT (E1.var rfl) E1.int rfl) (A1.cons (E1.ixT (E1.var rfl) E1.int rfl) A1.nil)) rfl) (one h.b1 g.b1) (one h.b2 g.b2) (one h.b3 g.b3))) A1.nil)) ?_
  refine S.ret1 (s:=.dat (lvD (T1 * B + S1 * C) (T2 * B + S2 * C) (T3 * B + S3 * C) (C * B))) ?_ ⟨rfl,rfl⟩
  exact E1.tu (A1.cons (E1.var rfl) (A1.cons (E1.mul (E1.ixT (E1.var rfl) E1.int rfl) (E1.ixT (E1.var rfl) E1.int rfl) (mo h.bc g.bc)) A1.nil)) rfl (lsz (n:=2) rfl z2)
theorem scPlain:FnScope ["four","lowest"] ["four"] (defScope sPlain):=⟨rfl,rfl,rfl,by decide +kernel,rfl,by decide +kernel,by decide +kernel⟩
theorem ok_plain (F:Fun K "plain" "plain" sPlain f fd) (G:FnOk P w K mg base CX0 2 g gd ["numbers"] (spT K (fun ns=>(∃ n ∈ ns,n ≠ 0)/\Sm ns) red)) (bG:Binds K gd ["numbers"] []) (kG:PySem.W.keepIn K (.ref g)=true) (mG:mg "reduced" = some (.ref g))
    (G2:FnOk P w K mg base CX0 1 g2 gd2 ["numbers"] (spT K (fun _=>True) (fun ns=>ns.map fun n => -n))) (bG2:Binds K gd2 ["numbers"] []) (kG2:PySem.W.keepIn K (.ref g2)=true) (mG2:mg "negated" = some (.ref g2)) :
    FnOk P w K mg base CX0 3 f fd ["four"] (spT K PlainPre pl):=by
  refine F.okZ scPlain (fun vs H Q E h=>?_) (fun cdv A outer s H vs Q E hr h=>?_)
  . obtain ⟨a,ns,rfl,_⟩:=h;rfl
  obtain ⟨a,ns,rfl,hS,hl,⟨h4,hnz,hsm⟩,q⟩:=h
  refine ⟨_,zss_cons (zs_set (i:=1) scPlain.nd rfl (Or.inl rfl) (ze_call G hr rfl mG kG bG .nil pass0 (za_cons (zv 0) za_nil)))
    (zss_cons (zs_if (zt_cmpR (op_ltT hr.units0) (zv 1) (ze_tup (za_cons ze_int (za_cons ze_int (za_cons ze_int (za_cons ze_int za_nil))))) (nomark _)) (zss_one (zs_ret (ze_call G2 (hr.mono (by decide)) rfl mG2 kG2 bG2 .nil pass0 (za_cons (zv 1) za_nil)))) zss_nil)
    (zss_one (zs_ret (zv 1)))),?_⟩
  refine ⟨_,rfl,a,ns,rfl,hS,hl,⟨hnz,hsm⟩,fun r H1 s1 h1=>?_⟩
  refine ⟨_,rfl,(by show 4<=sizeLine;decide),fun p hp=>?_⟩
  have s2:Same H1 (upd H1 p (.tup [.int 0,.int 0,.int 0,.int 0])):=Same.new hp _
  refine ⟨r,p,red ns,[0,0,0,0],rfl,rfl,SqT.of (s2 _ _ h1),SqT.of upd_same,_,rfl,?_⟩
  have hl4:(red ns).length=4:=by unfold red;rw [List.length_map];exact h4
  have lx:HT.lexLt (red ns) [0,0,0,0]=decide (fst0 (red ns) < 0):=lex_fst0 (n:=4) hl4
  rw [lx]
  have pe:=plain_eq hnz
  refine ite2 (fun c=>?_) (fun c=>?_)
  . rw [if_pos (of_decide_eq_true c)] at pe
    refine ⟨_,rfl,r,red ns,rfl,SqT.of (s2 _ _ h1),by omega,trivial,fun r2 H2 s3 h2=>?_⟩
    exact q r2 H2 (s1.trans (s2.trans s3)) (by rw [<- pe];exact h2)
  . rw [if_neg (fun z=>c (decide_eq_true z))] at pe
    exact ⟨_,rfl,q r _ (s1.trans s2) (by rw [<- pe];exact s2 _ _ h1)⟩
theorem scSize:FnScope ["four"] ["four"] (defScope sSize):=⟨rfl,rfl,rfl,by decide +kernel,rfl,by decide +kernel,by decide +kernel⟩
theorem ok_size (F:Fun K "size" "size" sSize f fd) (G:FnOk P w K mg base CX0 1 g gd ["one","other"] (spSop K)) (bG:Binds K gd ["one","other"] []) (kG:PySem.W.keepIn K (.ref g)=true) (mG:mg "sum_of_products" = some (.ref g)):FnOk P w K mg base CX0 2 f fd ["four"] (spSize K):=by
  refine F.okZ scSize (fun vs H Q E h=>?_) (fun cdv A outer s H vs Q E hr h=>?_)
  . obtain ⟨a,ns,rfl,_⟩:=h;rfl
  obtain ⟨a,ns,rfl,hS,hl,sm,q⟩:=h
  refine ⟨_,zss_one (zs_ret (ze_call G hr rfl mG kG bG .nil pass0 (za_cons (zv 0) (za_cons (zv 0) za_nil)))),?_⟩
  exact ⟨_,rfl,_,rfl,a,a,ns,ns,rfl,hS,hS,hl,rfl,sm,sm,q⟩
theorem scProd:FnScope ["one","other"] ["one","other"] (defScope sProd):=⟨rfl,rfl,rfl,by decide +kernel,rfl,by decide +kernel,by decide +kernel⟩
theorem ok_prod (F:Fun K "product" "product" sProd f fd) :
    FnOk P w K mg base CX0 1 f fd ["one","other"] (sp2 K qm):=by
  refine F.okZ scProd (fun vs H Q E h=>?_) (fun cdv A outer s H vs Q E hr h=>?_)
  . obtain ⟨x,y,ns,ms,rfl,_⟩:=h;rfl
  obtain ⟨x,y,ns,ms,rfl,hS,hT,l1,l2,s1,s2,q⟩:=h
  obtain ⟨a,b,c,d,rfl⟩:=four_of l1
  obtain ⟨e,f,g,i,rfl⟩:=four_of l2
  refine ⟨_,(zss_one (zs_ret (ze_tup (za_b (ze_op op_sub (ze_op op_sub (ze_op op_sub (ze_op op_mulB (ze_ix ix_tup (zv 0) ze_int (fun _ _=>rfl)) (ze_ix ix_tup (zv 1) ze_int (fun _ _=>rfl))) (ze_op op_mulB (ze_ix ix_tup (zv 0) ze_int (fun _ _=>rfl)) (ze_ix ix_tup (zv 1) ze_int (fun _ _=>rfl)))) (ze_op op_mulB (ze_ix ix_tup (zv 0) ze_int (fun _ _=>rfl)) (ze_ix ix_tup (zv 1) ze_int (fun _ _=>rfl)))) (ze_op op_mulB (ze_ix ix_tup (zv 0) ze_int (fun _ _=>rfl)) (ze_ix ix_tup (zv 1) ze_int (fun _ _=>rfl)))) (za_b (ze_op op_sub (ze_op op_add (ze_op op_add (ze_op op_mulB (ze_ix ix_tup (zv 0) ze_int (fun _ _=>rfl)) (ze_ix ix_tup (zv 1) ze_int (fun _ _=>rfl))) (ze_op op_mulB (ze_ix ix_tup (zv 0) ze_int (fun _ _=>rfl)) (ze_ix ix_tup (zv 1) ze_int (fun _ _=>rfl)))) (ze_op op_mulB (ze_ix ix_tup (zv 0) ze_int (fun _ _=>rfl)) (ze_ix ix_tup (zv 1) ze_int (fun _ _=>rfl)))) (ze_op op_mulB (ze_ix ix_tup (zv 0) ze_int (fun _ _=>rfl)) (ze_ix ix_tup (zv 1) ze_int (fun _ _=>rfl)))) (za_b (ze_op op_add (ze_op op_add (ze_op op_sub (ze_op op_mulB (ze_ix ix_tup (zv 0) ze_int (fun _ _=>rfl)) (ze_ix ix_tup (zv 1) ze_int (fun _ _=>rfl))) (ze_op op_mulB (ze_ix ix_tup (zv 0) ze_int (fun _ _=>rfl)) (ze_ix ix_tup (zv 1) ze_int (fun _ _=>rfl)))) (ze_op op_mulB (ze_ix ix_tup (zv 0) ze_int (fun _ _=>rfl)) (ze_ix ix_tup (zv 1) ze_int (fun _ _=>rfl)))) (ze_op op_mulB (ze_ix ix_tup (zv 0) ze_int (fun _ _=>rfl)) (ze_ix ix_tup (zv 1) ze_int (fun _ _=>rfl)))) (za_b (ze_op op_add (ze_op op_sub (ze_op op_add (ze_op op_mulB (ze_ix ix_tup (zv 0) ze_int (fun _ _=>rfl)) (ze_ix ix_tup (zv 1) ze_int (fun _ _=>rfl))) (ze_op op_mulB (ze_ix ix_tup (zv 0) ze_int (fun _ _=>rfl)) (ze_ix ix_tup (zv 1) ze_int (fun _ _=>rfl)))) (ze_op op_mulB (ze_ix ix_tup (zv 0) ze_int (fun _ _=>rfl)) (ze_ix ix_tup (zv 1) ze_int (fun _ _=>rfl)))) (ze_op op_mulB (ze_ix ix_tup (zv 0) ze_int (fun _ _=>rfl)) (ze_ix ix_tup (zv 1) ze_int (fun _ _=>rfl)))) za_nil))))))),?_⟩
  refine ⟨_,rfl,x,_,_,_,rfl,rfl,hS,at40,_,rfl,y,_,_,_,rfl,rfl,hT,at40,_,_,rfl,rfl,mulSm s1 s2 (by simp) (by simp),_,rfl,x,_,_,_,rfl,rfl,hS,at41,_,rfl,y,_,_,_,rfl,rfl,hT,at41,_,_,rfl,rfl,mulSm s1 s2 (by simp) (by simp),_,_,rfl,rfl,_,rfl,x,_,_,_,rfl,rfl,hS,at42,_,rfl,y,_,_,_,rfl,rfl,hT,at42,_,_,rfl,rfl,mulSm s1 s2 (by simp) (by simp),_,_,rfl,rfl,_,rfl,x,_,_,_,rfl,rfl,hS,at43,_,rfl,y,_,_,_,rfl,rfl,hT,at43,_,_,rfl,rfl,mulSm s1 s2 (by simp) (by simp),_,_,rfl,rfl,?_⟩
  refine ⟨_,rfl,x,_,_,_,rfl,rfl,hS,at40,_,rfl,y,_,_,_,rfl,rfl,hT,at41,_,_,rfl,rfl,mulSm s1 s2 (by simp) (by simp),_,rfl,x,_,_,_,rfl,rfl,hS,at41,_,rfl,y,_,_,_,rfl,rfl,hT,at40,_,_,rfl,rfl,mulSm s1 s2 (by simp) (by simp),_,_,rfl,rfl,_,rfl,x,_,_,_,rfl,rfl,hS,at42,_,rfl,y,_,_,_,rfl,rfl,hT,at43,_,_,rfl,rfl,mulSm s1 s2 (by simp) (by simp),_,_,rfl,rfl,_,rfl,x,_,_,_,rfl,rfl,hS,at43,_,rfl,y,_,_,_,rfl,rfl,hT,at42,_,_,rfl,rfl,mulSm s1 s2 (by simp) (by simp),_,_,rfl,rfl,?_⟩
  refine ⟨_,rfl,x,_,_,_,rfl,rfl,hS,at40,_,rfl,y,_,_,_,rfl,rfl,hT,at42,_,_,rfl,rfl,mulSm s1 s2 (by simp) (by simp),_,rfl,x,_,_,_,rfl,rfl,hS,at41,_,rfl,y,_,_,_,rfl,rfl,hT,at43,_,_,rfl,rfl,mulSm s1 s2 (by simp) (by simp),_,_,rfl,rfl,_,rfl,x,_,_,_,rfl,rfl,hS,at42,_,rfl,y,_,_,_,rfl,rfl,hT,at40,_,_,rfl,rfl,mulSm s1 s2 (by simp) (by simp),_,_,rfl,rfl,_,rfl,x,_,_,_,rfl,rfl,hS,at43,_,rfl,y,_,_,_,rfl,rfl,hT,at41,_,_,rfl,rfl,mulSm s1 s2 (by simp) (by simp),_,_,rfl,rfl,?_⟩
  refine ⟨_,rfl,x,_,_,_,rfl,rfl,hS,at40,_,rfl,y,_,_,_,rfl,rfl,hT,at43,_,_,rfl,rfl,mulSm s1 s2 (by simp) (by simp),_,rfl,x,_,_,_,rfl,rfl,hS,at41,_,rfl,y,_,_,_,rfl,rfl,hT,at42,_,_,rfl,rfl,mulSm s1 s2 (by simp) (by simp),_,_,rfl,rfl,_,rfl,x,_,_,_,rfl,rfl,hS,at42,_,rfl,y,_,_,_,rfl,rfl,hT,at41,_,_,rfl,rfl,mulSm s1 s2 (by simp) (by simp),_,_,rfl,rfl,_,rfl,x,_,_,_,rfl,rfl,hS,at43,_,rfl,y,_,_,_,rfl,rfl,hT,at40,_,_,rfl,rfl,mulSm s1 s2 (by simp) (by simp),_,_,rfl,rfl,?_⟩
  refine ⟨(by show 4<=sizeLine;decide),fun r hr'=>q r _ (Same.new hr' _) upd_same⟩
theorem scThen:FnScope ["one","other"] ["one","other"] (defScope sThen):=⟨rfl,rfl,rfl,by decide +kernel,rfl,by decide +kernel,by decide +kernel⟩
theorem ok_then (F:Fun K "then" "then" sThen f fd)
    (G:FnOk P w K mg base CX0 3 g gd ["four"] (spT K PlainPre pl)) (bG:Binds K gd ["four"] []) (kG:PySem.W.keepIn K (.ref g)=true) (mG:mg "plain" = some (.ref g))
    (G2:FnOk P w K mg base CX0 1 g2 gd2 ["one","other"] (sp2 K qm)) (bG2:Binds K gd2 ["one","other"] []) (kG2:PySem.W.keepIn K (.ref g2)=true) (mG2:mg "product" = some (.ref g2)) :
    FnOk P w K mg base CX0 4 f fd ["one","other"] (spThen K):=by
  refine F.okZ scThen (fun vs H Q E h=>?_) (fun cdv A outer s H vs Q E hr h=>?_)
  . obtain ⟨x,y,ns,ms,rfl,_⟩:=h;rfl
  obtain ⟨x,y,ns,ms,rfl,hS,hT,l1,l2,z1,z2,b1,b2,q⟩:=h
  have r:=hr.mono (show 3<=3 by decide)
  have r2:=hr.mono (show 1<=3 by decide)
  refine ⟨_,(zss_one (zs_ret (ze_call G r rfl mG kG bG .nil pass0 (za_c (ze_call G2 r2 rfl mG2 kG2 bG2 .nil pass0 (za_n (zv 1) (za_n (zv 0) za_nil))) za_nil)))),?_⟩
  refine ⟨_,rfl,_,rfl,y,x,ms,ns,rfl,hT,hS,l2,l1,sm4000 b2,sm4000 b1,fun p H1 t1 h1=>?_⟩
  refine ⟨p,_,rfl,SqT.of h1,by rw [qm_len l2 l1];decide,⟨qm_len l2 l1,nz_qm l2 l1 z2 z1,sm_bd (bd_qm l2 l1 b2 b1) two8002⟩,fun p2 H2 t2 h2=>?_⟩
  exact q p2 H2 (t1.trans t2) h2
theorem scWT:FnScope ["four","w","x","y","z"] ["four"] (defScope sWT):=⟨rfl,rfl,rfl,by decide +kernel,rfl,by decide +kernel,by decide +kernel⟩
theorem ok_wt (F:Fun K "whole_table" "whole_table" sWT f fd) :
    FnOk P w K mg base CX0 1 f fd ["four"] (spWT K):=by
  refine F.okZ scWT (fun vs H Q E h=>?_) (fun cdv A outer s H vs Q E hr h=>?_)
  . obtain ⟨x,a,b,c,d,rfl,_⟩:=h;rfl
  obtain ⟨x,a,b,c,d,rfl,hS,hB,q⟩:=h
  refine ⟨_,(zss_cons (zs_set (i:=1) scWT.nd rfl (Or.inl rfl) (ze_ix ix_tup (zv 0) ze_int (fun _ _=>rfl)) sw_sub)
    (zss_cons (zs_set (i:=2) scWT.nd rfl (Or.inl rfl) (ze_ix ix_tup (zv 0) ze_int (fun _ _=>rfl)) sw_sub)
    (zss_cons (zs_set (i:=3) scWT.nd rfl (Or.inl rfl) (ze_ix ix_tup (zv 0) ze_int (fun _ _=>rfl)) sw_sub)
    (zss_cons (zs_set (i:=4) scWT.nd rfl (Or.inl rfl) (ze_ix ix_tup (zv 0) ze_int (fun _ _=>rfl)) sw_sub)
    (zss_one (zs_ret (ze_tup (za_t (ze_tup (za_b (ze_op op_sub (ze_op op_sub (ze_op op_add (ze_op op_mulB (zv 1) (zv 1)) (ze_op op_mulB (zv 2) (zv 2))) (ze_op op_mulB (zv 3) (zv 3))) (ze_op op_mulB (zv 4) (zv 4))) (za_b (ze_op op_mulB ze_int (ze_op op_sub (ze_op op_mulB (zv 2) (zv 3)) (ze_op op_mulB (zv 1) (zv 4)))) (za_b (ze_op op_mulB ze_int (ze_op op_add (ze_op op_mulB (zv 2) (zv 4)) (ze_op op_mulB (zv 1) (zv 3)))) za_nil)))) (za_t (ze_tup (za_b (ze_op op_mulB ze_int (ze_op op_add (ze_op op_mulB (zv 2) (zv 3)) (ze_op op_mulB (zv 1) (zv 4)))) (za_b (ze_op op_sub (ze_op op_add (ze_op op_sub (ze_op op_mulB (zv 1) (zv 1)) (ze_op op_mulB (zv 2) (zv 2))) (ze_op op_mulB (zv 3) (zv 3))) (ze_op op_mulB (zv 4) (zv 4))) (za_b (ze_op op_mulB ze_int (ze_op op_sub (ze_op op_mulB (zv 3) (zv 4)) (ze_op op_mulB (zv 1) (zv 2)))) za_nil)))) (za_t (ze_tup (za_b (ze_op op_mulB ze_int (ze_op op_sub (ze_op op_mulB (zv 2) (zv 4)) (ze_op op_mulB (zv 1) (zv 3)))) (za_b (ze_op op_mulB ze_int (ze_op op_add (ze_op op_mulB (zv 3) (zv 4)) (ze_op op_mulB (zv 1) (zv 2)))) (za_b (ze_op op_add (ze_op op_sub (ze_op op_sub (ze_op op_mulB (zv 1) (zv 1)) (ze_op op_mulB (zv 2) (zv 2))) (ze_op op_mulB (zv 3) (zv 3))) (ze_op op_mulB (zv 4) (zv 4))) za_nil)))) za_nil)))))))))),?_⟩
  have ha:Bt a 1000:=hB a (by simp)
  have hb:Bt b 1000:=hB b (by simp)
  have hc:Bt c 1000:=hB c (by simp)
  have hd:Bt d 1000:=hB d (by simp)
  refine ⟨_,rfl,x,_,_,_,rfl,rfl,hS,at40,?_⟩
  refine ⟨_,rfl,x,_,_,_,rfl,rfl,hS,at41,?_⟩
  refine ⟨_,rfl,x,_,_,_,rfl,rfl,hS,at42,?_⟩
  refine ⟨_,rfl,x,_,_,_,rfl,rfl,hS,at43,?_⟩
  dsimp only [gName]
  show tRet _ _ [some (.ref x),some (.int a),some (.int b),some (.int c),some (.int d)] _
  refine ⟨_,rfl,_,rfl,_,_,rfl,rfl,ha.mulOk ha,_,rfl,_,rfl,_,_,rfl,rfl,hb.mulOk hb,_,_,rfl,rfl,_,rfl,_,rfl,_,_,rfl,rfl,hc.mulOk hc,_,_,rfl,rfl,_,rfl,_,rfl,_,_,rfl,rfl,hd.mulOk hd,_,_,rfl,rfl,_,rfl,_,rfl,_,_,rfl,rfl,hb.mulOk hc,_,rfl,_,rfl,_,_,rfl,rfl,ha.mulOk hd,_,_,rfl,rfl,_,_,rfl,rfl,two1.mulOk ((hb.mul hc).sub (ha.mul hd)),_,rfl,_,rfl,_,_,rfl,rfl,hb.mulOk hd,_,rfl,_,rfl,_,_,rfl,rfl,ha.mulOk hc,_,_,rfl,rfl,_,_,rfl,rfl,two1.mulOk ((hb.mul hd).add (ha.mul hc)),(by show 3<=sizeLine;decide),fun p1 e1=>?_⟩
  refine ⟨_,rfl,_,rfl,_,_,rfl,rfl,hb.mulOk hc,_,rfl,_,rfl,_,_,rfl,rfl,ha.mulOk hd,_,_,rfl,rfl,_,_,rfl,rfl,two1.mulOk ((hb.mul hc).add (ha.mul hd)),_,rfl,_,rfl,_,_,rfl,rfl,ha.mulOk ha,_,rfl,_,rfl,_,_,rfl,rfl,hb.mulOk hb,_,_,rfl,rfl,_,rfl,_,rfl,_,_,rfl,rfl,hc.mulOk hc,_,_,rfl,rfl,_,rfl,_,rfl,_,_,rfl,rfl,hd.mulOk hd,_,_,rfl,rfl,_,rfl,_,rfl,_,_,rfl,rfl,hc.mulOk hd,_,rfl,_,rfl,_,_,rfl,rfl,ha.mulOk hb,_,_,rfl,rfl,_,_,rfl,rfl,two1.mulOk ((hc.mul hd).sub (ha.mul hb)),(by show 3<=sizeLine;decide),fun p2 e2=>?_⟩
  refine ⟨_,rfl,_,rfl,_,_,rfl,rfl,hb.mulOk hd,_,rfl,_,rfl,_,_,rfl,rfl,ha.mulOk hc,_,_,rfl,rfl,_,_,rfl,rfl,two1.mulOk ((hb.mul hd).sub (ha.mul hc)),_,rfl,_,rfl,_,_,rfl,rfl,hc.mulOk hd,_,rfl,_,rfl,_,_,rfl,rfl,ha.mulOk hb,_,_,rfl,rfl,_,_,rfl,rfl,two1.mulOk ((hc.mul hd).add (ha.mul hb)),_,rfl,_,rfl,_,_,rfl,rfl,ha.mulOk ha,_,rfl,_,rfl,_,_,rfl,rfl,hb.mulOk hb,_,_,rfl,rfl,_,rfl,_,rfl,_,_,rfl,rfl,hc.mulOk hc,_,_,rfl,rfl,_,rfl,_,rfl,_,_,rfl,rfl,hd.mulOk hd,_,_,rfl,rfl,(by show 3<=sizeLine;decide),fun p3 e3=>?_⟩
  refine ⟨(by show 3<=sizeLine;decide),fun r e4=>?_⟩
  have s1:=Same.new e1 (.tup ((rw1 a b c d).map V.int))
  have s2:=Same.new e2 (.tup ((rw2 a b c d).map V.int))
  have s3:=Same.new e3 (.tup ((rw3 a b c d).map V.int))
  have s4:=Same.new e4 (.tup [.ref p1,.ref p2,.ref p3])
  exact q r _ (s1.trans (s2.trans (s3.trans s4))) ⟨p1,p2,p3,upd_same,s4 _ _ (s3 _ _ (s2 _ _ upd_same)),s4 _ _ (s3 _ _ upd_same),s4 _ _ upd_same⟩
theorem scLT:FnScope ["four","level","tops"] ["four","level"] (defScope sLT):=⟨rfl,rfl,rfl,by decide +kernel,rfl,by decide +kernel,by decide +kernel⟩
theorem ok_lt (F:Fun K "level_turned" "level_turned" sLT f fd)
    (G:FnOk P w K mg base CX0 1 g gd ["four"] (spWT K)) (bG:Binds K gd ["four"] []) (kG:PySem.W.keepIn K (.ref g)=true) (mG:mg "whole_table" = some (.ref g))
    (G2:FnOk P w K mg base CX0 1 g2 gd2 ["one","other"] (spSop K)) (bG2:Binds K gd2 ["one","other"] []) (kG2:PySem.W.keepIn K (.ref g2)=true) (mG2:mg "sum_of_products" = some (.ref g2))
    (G3:FnOk P w K mg base CX0 2 g3 gd3 ["four"] (spSize K)) (bG3:Binds K gd3 ["four"] []) (kG3:PySem.W.keepIn K (.ref g3)=true) (mG3:mg "size" = some (.ref g3)) (m_tuple:mg "tuple" = none) :
    FnOk P w K mg base CX0 3 f fd ["four","level"] (spLT K):=by
  refine F.okZ scLT (fun vs H Q E h=>?_) (fun cdv A outer s H vs Q E hr h=>?_)
  . obtain ⟨x,p,q0,a,b,c,d,n1,n2,n3,m,rfl,_⟩:=h;rfl
  obtain ⟨x,p,q0,a,b,c,d,n1,n2,n3,m,rfl,hS,hB,hp,hq,m1,m2,m3,mm,q⟩:=h
  have r:=hr.mono (show 1<=2 by decide)
  have r2:=hr.mono (show 1<=2 by decide)
  have r3:=hr.mono (show 2<=2 by decide)
  refine ⟨_,(zss_cons (zs_set (i:=2) scLT.nd rfl (Or.inl rfl) (ze_callTy call_tuple_of rfl m_tuple (by rfl) (za_cons (ze_comp (own:=["row"]) scLT rfl ⟨by decide +kernel,rfl,by decide +kernel,by decide +kernel,by decide +kernel,by decide +kernel,by decide +kernel,by decide +kernel,by decide +kernel⟩ (zi_tup (ze_call G r rfl mG kG bG .nil pass0 (za_n (zv 0) za_nil))) (fun C fp s H nd=>zg_name (i:=0) nd rfl (Or.inl rfl)) (fun C fp s H=>zts_nil) (fun C fp s H=>(ze_call G2 r2 rfl mG2 kG2 bG2 .nil pass0 (za_n (zv 0) (za_s (ze_ix ix_tupC (zv 2) ze_int (fun _ _=>rfl)) za_nil))))) za_nil)))
    (zss_one (zs_ret (ze_tup (za_n (zv 2) (za_b (ze_op op_mulB (ze_ix ix_tup (zv 1) ze_int (fun _ _=>rfl)) (ze_call G3 r3 rfl mG3 kG3 bG3 .nil pass0 (za_n (zv 0) za_nil))) za_nil)))))),?_⟩
  obtain ⟨R1,R2,R3⟩:=rows_bt hB
  refine ⟨_,rfl,x,a,b,c,d,rfl,hS,hB,fun w H1 s1 hw=>?_⟩
  obtain ⟨w1,w2,w3,hw0,hw1,hw2,hw3⟩:=hw.ex
  refine ⟨w,rfl,⟨_,SqT.of hw0⟩,?_⟩
  refine comp3 (n1:=sop (rw1 a b c d) [n1,n2,n3]) (n2:=sop (rw2 a b c d) [n1,n2,n3]) (n3:=sop (rw3 a b c d) [n1,n2,n3]) (src_tup (SqT.of (K:=K) hw0)) (fun H' s R k=>?_) (fun H' s R k=>?_) (fun H' s R k=>?_) fun D H2 s2 hD _=>?_
  . exact ⟨_,rfl,_,rfl,p,_,_,_,rfl,rfl,(s1.trans s).tup hp,atA,w1,q0,rw1 a b c d,[n1,n2,n3],rfl,SqT.of (s _ _ hw1),(s1.trans s).tup hq,(by show 3<=1000;decide),rfl,bts R1,sm3 m1 m2 m3,fun H5 s5=>k _ s5⟩
  . exact ⟨_,rfl,_,rfl,p,_,_,_,rfl,rfl,(s1.trans s).tup hp,atA,w2,q0,rw2 a b c d,[n1,n2,n3],rfl,SqT.of (s _ _ hw2),(s1.trans s).tup hq,(by show 3<=1000;decide),rfl,bts R2,sm3 m1 m2 m3,fun H5 s5=>k _ s5⟩
  . exact ⟨_,rfl,_,rfl,p,_,_,_,rfl,rfl,(s1.trans s).tup hp,atA,w3,q0,rw3 a b c d,[n1,n2,n3],rfl,SqT.of (s _ _ hw3),(s1.trans s).tup hq,(by show 3<=1000;decide),rfl,bts R3,sm3 m1 m2 m3,fun H5 s5=>k _ s5⟩
  refine ⟨D,_,rfl,.inl ⟨SqL.of hD,fun u hu=>?_⟩⟩
  have s3:=Same.new hu (.tup ([sop (rw1 a b c d) [n1,n2,n3],sop (rw2 a b c d) [n1,n2,n3],sop (rw3 a b c d) [n1,n2,n3]].map V.int))
  have S3:=s1.trans (s2.trans s3)
  have hu3:upd H2 u (.tup ([sop (rw1 a b c d) [n1,n2,n3],sop (rw2 a b c d) [n1,n2,n3],sop (rw3 a b c d) [n1,n2,n3]].map V.int)) u=_:=upd_same
  refine ⟨_,rfl,_,rfl,p,_,_,_,rfl,rfl,S3.tup hp,atB,_,rfl,x,[a,b,c,d],rfl,S3.tup hS,(by show 4<=1000;decide),bts (k:=1000) (fun n hn=>hB n hn),fun H4 s4=>?_⟩
  have bn:Bt (sop [a,b,c,d] [a,b,c,d]) 2003:=by rw [sop4];exact nrm_bt hB
  refine ⟨_,_,rfl,rfl,mm.mulOk bn,(by show 2<=sizeLine;decide),fun r hr'=>?_⟩
  have s5:=Same.new hr' (.tup [.ref u,.int (m * sop [a,b,c,d] [a,b,c,d])])
  exact q r u _ (S3.trans (s4.trans s5)) upd_same (s5 _ _ (s4 _ _ hu3))
theorem scPSet:FnScope ["setting","lowest"] ["setting"] (defScope sPSet):=⟨rfl,rfl,rfl,by decide +kernel,rfl,by decide +kernel,by decide +kernel⟩
theorem ok_pset (F:Fun K "plain_setting" "plain_setting" sPSet f fd)
    (G:FnOk P w K mg base CX0 2 g gd ["numbers"] (spT K (fun ns=>(∃ n ∈ ns,n ≠ 0)/\Sm ns) red)) (bG:Binds K gd ["numbers"] []) (kG:PySem.W.keepIn K (.ref g)=true) (mG:mg "reduced" = some (.ref g))
    (G2:FnOk P w K mg base CX0 1 g2 gd2 ["numbers"] (spT K (fun _=>True) (fun ns=>ns.map fun n => -n))) (bG2:Binds K gd2 ["numbers"] []) (kG2:PySem.W.keepIn K (.ref g2)=true) (mG2:mg "negated" = some (.ref g2)) :
    FnOk P w K mg base CX0 3 f fd ["setting"] (spPS2 K):=by
  refine F.okZ scPSet (fun vs H Q E h=>?_) (fun cdv A outer s H vs Q E hr h=>?_)
  . obtain ⟨x,k,l,rfl,_⟩:=h;rfl
  obtain ⟨x,k,l,rfl,hS,hnz,hsm,q⟩:=h
  have r:=hr.mono (show 2<=2 by decide)
  have r2:=hr.mono (show 1<=2 by decide)
  refine ⟨_,(zss_cons (zs_set (i:=1) scPSet.nd rfl (Or.inl rfl) (ze_call G r rfl mG kG bG .nil pass0 (za_n (zv 0) za_nil)))
    (zss_cons (zs_if (ZW.pt (zw_or (zt_cmpR op_lt (ze_ix ix_tup (zv 1) ze_int (fun _ _=>rfl)) ze_int (nomark _)) (zw_or1 (zt_cmpR (op_eqD hr.units) (zv 1) (ze_tup (za_u (ze_un un_neg ze_int) (za_i za_nil))) (nomark _))))) (zss_one (zs_ret (ze_call G2 r2 rfl mG2 kG2 bG2 .nil pass0 (za_n (zv 1) za_nil)))) zss_nil)
    (zss_one (zs_ret (zv 1))))),?_⟩
  have nz':∃ n ∈ [k,l],n ≠ 0:=by
    obtain ⟨n,hn,h0⟩:=hnz
    exact ⟨n,by simp at hn ⊢;omega,h0⟩
  have sm':Sm [k,l]:=fun n hn=>hsm n (by simp at hn ⊢;omega)
  refine ⟨_,rfl,x,[k,l],rfl,hS,(by show 2<=1000;decide),⟨nz',sm'⟩,fun r1 H1 s1 h1=>?_⟩
  replace h1:H1 r1=some (.tup ([k / ((gcdN [k,l]:Nat):Int),l / ((gcdN [k,l]:Nat):Int)].map V.int)):=h1
  have PR:=ps_red hnz
  dsimp only [gName]
  show tSeq (tIfS _ _ _) _ _ [some (.ref x),some (.ref r1)] H1
  have pos:(l < 0\/(l=0/\k < 0))->∀ (H2:Hp),Same H1 H2->∀ (Z:VK),(∀ (r:Addr) (H':Hp),Same H H'->H' r=some (.tup ((ps k l).map V.int))->Z (.ref r) H')->∃ (a:Addr) (ns:List Int),[V.ref r1]=[.ref a]/\SqT K H2 a (ns.map V.int)/\ns.length<=1000/\True/\∀ (r:Addr) (H':Hp),Same H2 H'->H' r=some (.tup ((ns.map fun n => -n).map V.int))->Z (.ref r) H':=fun y H2 s2 Z z=>by
    refine ⟨r1,red [k,l],rfl,SqT.of (s2 _ _ h1),(by show 2<=1000;decide),trivial,fun r2 H3 s3 h3=>?_⟩
    rw [ps_pos y] at h3
    exact z r2 H3 (s1.trans (s2.trans s3)) h3
  refine ⟨_,rfl,r1,_,_,_,rfl,rfl,SqT.of h1,at21,_,_,rfl,rfl,_,rfl,?_⟩
  refine ite2 (fun z=>?_) (fun z=>?_)
  . have z:l / ((gcdN [k,l]:Nat):Int) < 0:=by simpa using z
    exact ⟨_,rfl,pos (PR.mp (.inl z)) H1 (Same.refl _) _ q⟩
  have z:¬ l / ((gcdN [k,l]:Nat):Int) < 0:=fun y=>z (by simpa using y)
  refine ⟨_,rfl,_,rfl,(by show 2<=sizeLine;decide),fun w1 k1=>?_⟩
  have t1:=Same.new k1 (.tup ([-1,0].map V.int))
  refine ⟨.tuple ([k / ((gcdN [k,l]:Nat):Int),l / ((gcdN [k,l]:Nat):Int)].map .int),.tuple ([-1,0].map .int),.tup (SqT.of (t1 _ _ h1)) (Iss.ints _),.tup (SqT.of upd_same) (Iss.ints [-1,0]),kqd_tup,kqd_tup,_,rfl,?_⟩
  show if deq _ _=true then _ else _
  rw [deq_tup]
  refine ite2 (fun y=>?_) (fun y=>?_)
  . have y:=of_decide_eq_true y
    injection y with y1 y2
    injection y2 with y2 _
    exact ⟨_,rfl,pos (PR.mp (.inr ⟨y1,y2⟩)) _ t1 _ q⟩
  . have n:¬ (l < 0\/(l=0/\k < 0)):=fun u=>by
      rcases PR.mpr u with u | ⟨u,v⟩
      . exact z u
      . exact y (decide_eq_true (by rw [u,v]))
    refine ⟨_,rfl,q r1 _ (s1.trans t1) ?_⟩
    rw [<- ps_neg n]
    exact t1 _ _ h1
theorem scAbout:FnScope ["way","setting"] ["way","setting"] (defScope sAbout):=⟨rfl,rfl,rfl,by decide +kernel,rfl,by decide +kernel,by decide +kernel⟩
theorem ok_about (F:Fun K "about" "about" sAbout f fd)
    (G:FnOk P w K mg base CX0 3 g gd ["four"] (spT K PlainPre pl)) (bG:Binds K gd ["four"] []) (kG:PySem.W.keepIn K (.ref g)=true) (mG:mg "plain" = some (.ref g)) :
    FnOk P w K mg base CX0 4 f fd ["way","setting"] (spAbout K):=by
  refine F.okZ scAbout (fun vs H Q E h=>?_) (fun cdv A outer s H vs Q E hr h=>?_)
  . obtain ⟨x,y,p,t,u,k,l,rfl,_⟩:=h;rfl
  obtain ⟨x,y,p,t,u,k,l,rfl,hS,hT,hz,bw,bs,q⟩:=h
  have r:=hr.mono (show 3<=3 by decide)
  refine ⟨_,(zss_one (zs_ret (ze_call G r rfl mG kG bG .nil pass0 (za_t (ze_tup (za_s (ze_ix ix_tup (zv 1) ze_int (fun _ _=>rfl)) (za_b (ze_op op_mulB (ze_ix ix_tup (zv 1) ze_int (fun _ _=>rfl)) (ze_ix ix_tup (zv 0) ze_int (fun _ _=>rfl))) (za_b (ze_op op_mulB (ze_ix ix_tup (zv 1) ze_int (fun _ _=>rfl)) (ze_ix ix_tup (zv 0) ze_int (fun _ _=>rfl))) (za_b (ze_op op_mulB (ze_ix ix_tup (zv 1) ze_int (fun _ _=>rfl)) (ze_ix ix_tup (zv 0) ze_int (fun _ _=>rfl))) za_nil))))) za_nil)))),?_⟩
  have b1:Bt p 1000:=bw p (by simp)
  have b2:Bt t 1000:=bw t (by simp)
  have b3:Bt u 1000:=bw u (by simp)
  have b4:Bt k 1000:=bs k (by simp)
  have b5:Bt l 1000:=bs l (by simp)
  refine ⟨_,rfl,y,_,_,_,rfl,rfl,hT,at21,_,rfl,y,_,_,_,rfl,rfl,hT,at20,_,rfl,x,_,_,_,rfl,rfl,hS,at30,_,_,rfl,rfl,b4.mulOk b1,?_⟩
  refine ⟨_,rfl,y,_,_,_,rfl,rfl,hT,at20,_,rfl,x,_,_,_,rfl,rfl,hS,at31,_,_,rfl,rfl,b4.mulOk b2,?_⟩
  refine ⟨_,rfl,y,_,_,_,rfl,rfl,hT,at20,_,rfl,x,_,_,_,rfl,rfl,hS,at32,_,_,rfl,rfl,b4.mulOk b3,(by show 4<=sizeLine;decide),fun r0 k0=>?_⟩
  have s1:=Same.new k0 (.tup ([l,k * p,k * t,k * u].map V.int))
  refine ⟨r0,[l,k * p,k * t,k * u],rfl,SqT.of upd_same,(by show 4<=1000;decide),⟨rfl,hz,fun n hn=>?_⟩,fun r H2 s2 h2=>q r H2 (s1.trans s2) h2⟩
  simp only [List.mem_cons,List.mem_nil_iff,or_false] at hn
  rcases hn with rfl | rfl | rfl | rfl
  . exact b5.lt (by decide)
  . exact (b4.mul b1).lt (by decide)
  . exact (b4.mul b2).lt (by decide)
  . exact (b4.mul b3).lt (by decide)
theorem scTurnOf:FnScope ["joint"] ["joint"] (defScope sTurnOf):=⟨rfl,rfl,rfl,by decide +kernel,rfl,by decide +kernel,by decide +kernel⟩
theorem ok_turnof (F:Fun K "turn_of" "turn_of" sTurnOf f fd)
    (G:FnOk P w K mg base CX0 4 g gd ["way","setting"] (spAbout K)) (bG:Binds K gd ["way","setting"] []) (kG:PySem.W.keepIn K (.ref g)=true) (mG:mg "about" = some (.ref g)) :
    FnOk P w K mg base CX0 5 f fd ["joint"] (spP K RTurnOf):=by
  refine okP F scTurnOf (fun ds d h=>?_) (fun cdv A0 outer s0 H0 E0 hr=>?_)
  . obtain ⟨j,rfl,_⟩:=h;rfl
  have r:=hr.mono (show 4<=4 by decide)
  refine ⟨_,(zss_one (zs_ret (ze_call G r rfl mG kG bG .nil pass0 (za_s (ze_ix ix_tup (zv 0) ze_int (fun _ _=>rfl)) (za_s (ze_ix ix_tup (zv 0) ze_int (fun _ _=>rfl)) za_nil))))),fun ds d h=>?_⟩
  obtain ⟨j,rfl,hj,rfl⟩:=h
  exact S.ret1 (s:=.dat (tI j.t)) (E1.cAbout (A1.cons (E1.ixT (ds:=[tI [j.x,j.y,j.z],pQ j.a,tI [j.k,j.l]]) (E1.var rfl) E1.int rfl) (A1.cons (E1.ixT (ds:=[tI [j.x,j.y,j.z],pQ j.a,tI [j.k,j.l]]) (E1.var rfl) E1.int rfl) A1.nil)) hj.nz (bd_mono hj.bw (Nat.pow_le_pow_right (by decide) (by decide))) (bd_mono hj.bs (Nat.pow_le_pow_right (by decide) (by decide)))) ⟨rfl,noL_tI⟩
theorem scTipOf:FnScope ["joints","tip","joint"] ["joints"] (defScope sTipOf):=⟨rfl,rfl,rfl,by decide +kernel,rfl,by decide +kernel,by decide +kernel⟩
theorem ok_tipof (F:Fun K "tip_of" "tip_of" sTipOf f fd)
    (G:FnOk P w K mg base CX0 3 g gd ["four","level"] (spLT K)) (bG:Binds K gd ["four","level"] []) (kG:PySem.W.keepIn K (.ref g)=true) (mG:mg "level_turned" = some (.ref g))
    (G2:FnOk P w K mg base CX0 1 g2 gd2 ["one","other"] (spP K RLAdd)) (bG2:Binds K gd2 ["one","other"] []) (kG2:PySem.W.keepIn K (.ref g2)=true) (mG2:mg "levels_added" = some (.ref g2))
    (G3:FnOk P w K mg base CX0 3 g3 gd3 ["fractions"] (spP K RLev)) (bG3:Binds K gd3 ["fractions"] []) (kG3:PySem.W.keepIn K (.ref g3)=true) (mG3:mg "levelled" = some (.ref g3))
    (G4:FnOk P w K mg base CX0 5 g4 gd4 ["joint"] (spP K RTurnOf)) (bG4:Binds K gd4 ["joint"] []) (kG4:PySem.W.keepIn K (.ref g4)=true) (mG4:mg "turn_of" = some (.ref g4)) (m_reversed:mg "reversed" = none) :
    FnOk P w K mg base CX0 6 f fd ["joints"] (spQ K RTipOf):=by
  refine okQ F scTipOf (fun ds d h=>?_) (fun cdv A0 outer s0 H0 E0 hr=>?_)
  . obtain ⟨js,rfl,_⟩:=h;rfl
  have r:=hr.mono (show 3<=5 by decide)
  have r2:=hr.mono (show 1<=5 by decide)
  have r3:=hr.mono (show 3<=5 by decide)
  have r4:=hr.mono (show 5<=5 by decide)
  refine ⟨_,(zss_cons (zs_set (i:=1) scTipOf.nd rfl (Or.inl rfl) (ze_tup (za_t (ze_tup (za_i (za_i (za_i za_nil)))) (za_i za_nil))))
    (zss_cons (zs_for PassesOwn.never rfl (zi_revT rfl m_reversed (za_n (zv 0) za_nil)) (zg_name (i:=2) scTipOf.nd rfl (Or.inl rfl)) (zss_one (zs_set (i:=1) scTipOf.nd rfl (Or.inl rfl) (ze_call G r rfl mG kG bG .nil pass0 (za_c (ze_call G4 r4 rfl mG4 kG4 bG4 .nil pass0 (za_n (zv 2) za_nil)) (za_c (ze_call G2 r2 rfl mG2 kG2 bG2 .nil pass0 (za_c (ze_call G3 r3 rfl mG3 kG3 bG3 .nil pass0 (za_s (ze_ix ix_tup (zv 2) ze_int (fun _ _=>rfl)) za_nil)) (za_n (zv 1) za_nil))) za_nil))))))
    (zss_one (zs_ret (zv 1))))),fun ds C h=>?_⟩
  obtain ⟨js,rfl,hJ,h8,rfl⟩:=h
  have z0':=lb_zero
  refine S.let1 (s:=.dat (lvD 0 0 0 1)) (E1.tu (ds:=[tI [0,0,0],.int 1]) (A1.cons (E1.tu (ds:=[.int 0,.int 0,.int 0]) (A1.cons E1.int (A1.cons E1.int (A1.cons E1.int A1.nil))) rfl (lsz (n:=3) rfl z3)) (A1.cons E1.int A1.nil)) rfl (lsz (n:=2) rfl z2)) ?_
  refine S.seq (M:=fun τ'=>∃ (T1 T2 T3 B:Int) (o:Sl),τ'=[.dat (chD js),.dat (lvD T1 T2 T3 B),o]/\LB3 (195 * js.length) T1 T2 T3 B (tipV js)) ?_ fun τ' ⟨T1,T2,T3,B,o,eτ,lb⟩=>?_
  . refine S.for (Wk.revT (ds:=js.map Jt.d) (A1.cons (E1.var rfl) A1.nil)) (fun i τ'=>∃ (T1 T2 T3 B:Int) (o:Sl),τ'=[.dat (chD js),.dat (lvD T1 T2 T3 B),o]/\LB3 (195 * i) T1 T2 T3 B (tipV (js.drop (js.length - i)))) ⟨0,0,0,1,_,rfl,by rw [Nat.sub_zero,List.drop_length];exact z0'⟩ (fun i d τ1 hi ⟨T1,T2,T3,B,o,e1,lb⟩=>?_) (fun τ1 ⟨T1,T2,T3,B,o,e1,lb⟩=>⟨T1,T2,T3,B,o,e1,by rw [List.length_reverse,List.length_map,Nat.sub_self,List.drop_zero] at lb;exact lb⟩)
    subst e1
    have hi':i < js.length:=by simpa using (List.getElem?_eq_some_iff.mp hi).1
    rw [List.getElem?_reverse (by rw [List.length_map];exact hi'),List.length_map,List.getElem?_map] at hi
    have hx:js[js.length - 1 - i]?=some js[js.length - 1 - i]:=List.getElem?_eq_getElem (by omega)
    rw [hx] at hi
    obtain ⟨j,hj⟩:∃ j,j=js[js.length - 1 - i]:=⟨_,rfl⟩
    rw [<- hj] at hx hi
    cases hi
    have oj:JtOk j:=hJ j (List.mem_of_getElem? hx)
    have ed:js.drop (js.length - (i + 1))=j :: js.drop (js.length - i):=by
      have e0:=List.drop_eq_getElem_cons (l:=js) (i:=js.length - 1 - i) (by omega)
      rw [show js.length - (i + 1)=js.length - 1 - i by omega,e0, <- hj,show js.length - 1 - i + 1=js.length - i by omega]
    obtain ⟨p1,q1,r1,s1,et⟩:=four_of oj.t4.1
    have t4:=oj.t4
    rw [et] at t4
    have l1:=lev_lb (show PB 60 j.a.1 j.a.2.1 j.a.2.2 from oj.pa)
    have l3:=LB.add l1 lb
    have l4:=l3.turned t4.2.1 t4.2.2
    have b8:195 * i<=1365:=by omega
    refine ⟨_,Gd.name,?_⟩
    refine S.asg1 (E1.cLT (c:=60 + 195 * i + 1) (m:=62) (A1.cons (E1.to (s':=.dat (tI [p1,q1,r1,s1])) (E1.call (R:=RTurnOf) (ds:=[j.d]) (A1.cons (E1.var rfl) A1.nil) ⟨j,rfl,oj,rfl⟩) (by rw [et])) (A1.cons (E1.call (R:=RLAdd) (ds:=[lev j.a.1 j.a.2.1 j.a.2.2,lvD T1 T2 T3 B]) (A1.cons (E1.call (R:=RLev) (ds:=[pQ j.a]) (A1.cons (E1.ixT (ds:=[tI [j.x,j.y,j.z],pQ j.a,tI [j.k,j.l]]) (E1.var rfl) E1.int rfl) A1.nil) ⟨60,_,_,_,rfl,oj.pa,by decide,rfl⟩) (A1.cons (E1.var rfl) A1.nil)) ⟨1365,_,_,_,_,_,_,_,_,_,_,_,_,_,_,rfl,LB3.up (v:=j.a) l1 (by decide),LB3.up lb b8,by decide,rfl⟩) A1.nil)) t4.2.2 l3 (by decide) (by omega)) ⟨_,_,_,_,_,rfl,?_⟩
    rw [ed]
    show LB3 _ _ _ _ _ (tq j.t (addV j.a (tipV (js.drop (js.length - i)))))
    rw [et]
    exact LB3.up (v:=tq [p1,q1,r1,s1] (addV j.a (tipV (js.drop (js.length - i))))) l4 (by omega)
  subst eτ
  exact S.ret1 (E1.var rfl) ⟨_,⟨T1,T2,T3,B,rfl,lb⟩,rfl,rfl⟩
theorem scMixed4:FnScope ["_law_cell","_law_k","_law_number_here"] ["_law_cell","_law_k"] (defScope sMixed4):=⟨rfl,rfl,rfl,by decide +kernel,rfl,by decide +kernel,by decide +kernel⟩
theorem ok_mixed4 (F:Fun K "_law_mixed" "_law_mixed" sMixed4 f fd) :
    FnOk P w K mg base CX0 1 f fd ["_law_cell","_law_k"] spMixed4:=by
  refine F.okZ scMixed4 (fun vs H Q E h=>?_) (fun cdv A outer s H vs Q E hr h=>?_)
  . obtain ⟨c,k,rfl,_⟩:=h;rfl
  obtain ⟨c,k,rfl,hb,k0,k1,q⟩:=h
  refine ⟨_,(zss_cons (zs_set (i:=2) scMixed4.nd rfl (Or.inl rfl) (ze_op op_mod (ze_op op_mulB (ze_op op_add (ze_op op_add (ze_op op_add (ze_op op_mulB (zv 0) (zv 0)) (ze_op op_mulB ze_int (zv 0))) (ze_op op_mulB ze_int (zv 1))) ze_int) ze_int) ze_int))
    (zss_cons (zs_set (i:=2) scMixed4.nd rfl (Or.inl rfl) (ze_op op_mod (ze_op op_add (ze_op op_mulB (zv 2) (zv 2)) ze_int) ze_int))
    (zss_one (zs_ret (ze_op op_mod (ze_op op_mulB (zv 2) (ze_op op_add (zv 2) ze_int)) ze_int))))),?_⟩
  refine ⟨_,rfl,_,rfl,c,c,rfl,rfl,IntMulOk.of_bits hb hb,_,rfl,_,_,rfl,rfl,okL (by decide) (by decide),_,_,rfl,rfl,_,rfl,_,_,rfl,rfl,okL (by decide) (by decide),_,_,rfl,rfl,_,_,rfl,rfl,_,_,rfl,rfl,okR (by decide) (by decide),_,_,rfl,rfl,(show (0:Int) < 2147483629 by decide),?_⟩
  have x0:(0:Int)<=((c * c + 3 * c + 7919 * k + 1) * 48271) % 2147483629:=Int.emod_nonneg _ (by decide)
  have x1:((c * c + 3 * c + 7919 * k + 1) * 48271) % 2147483629 < (2147483629:Int):=Int.emod_lt_of_pos _ (by decide)
  generalize ((c * c + 3 * c + 7919 * k + 1) * 48271) % 2147483629=n at *
  refine ⟨_,rfl,_,rfl,_,_,rfl,rfl,okL (by omega) (by omega),_,_,rfl,rfl,_,_,rfl,rfl,(show (0:Int) < 2147483587 by decide),?_⟩
  have y0:(0:Int)<=(n * n + 7) % 2147483587:=Int.emod_nonneg _ (by decide)
  have y1:(n * n + 7) % 2147483587 < (2147483587:Int):=Int.emod_lt_of_pos _ (by decide)
  generalize (n * n + 7) % 2147483587=m at *
  refine ⟨_,rfl,_,rfl,_,_,rfl,rfl,_,_,rfl,rfl,okL (by omega) (by omega),_,_,rfl,rfl,(show (0:Int) < 2147483563 by decide),?_⟩
  exact q _ (Int.emod_nonneg _ (by decide)) (Int.lt_trans (Int.emod_lt_of_pos _ (by decide)) (by decide))
theorem scPurse4:FnScope ["_law_script","_law_cells","_law_number_here","_law_k"] ["_law_script"] (defScope sPurse4):=⟨rfl,rfl,rfl,by decide +kernel,rfl,by decide +kernel,by decide +kernel⟩
theorem ok_purse4 (F:Fun K "_law_purse" "_law_purse" sPurse4 f fd)
    (G:FnOk P w K mg base CX0 1 g gd ["_law_cell","_law_k"] spMixed4) (bG:Binds K gd ["_law_cell","_law_k"] []) (kG:PySem.W.keepIn K (.ref g)=true) (mG:mg "_law_mixed" = some (.ref g)) (m_range:mg "range" = none) (m_len:mg "len" = none) :
    FnOk P w K mg base CX0 2 f fd ["_law_script"] (spPurse K):=by
  refine F.okZ scPurse4 (fun vs H Q E h=>?_) (fun cdv A outer s H vs Q E hr h=>?_)
  . obtain ⟨a,ns,rfl,_⟩:=h;rfl
  obtain ⟨a,ns,rfl,hS,hl,hb,q⟩:=h
  have r:=hr.mono (show 1<=1 by decide)
  refine ⟨_,(zss_cons (zs_set (i:=1) scPurse4.nd rfl (Or.inl rfl) (ze_op op_cat (ze_slice sl_list (zv 0) zo_none (zo_some ze_int)) (ze_lst (za_i za_nil))))
    (zss_cons (zs_set (i:=2) scPurse4.nd rfl (Or.inl rfl) ze_int)
    (zss_cons (zs_for PassesOwn.never rfl (zi_range1 rfl m_range (za_i za_nil)) (zg_name (i:=3) scPurse4.nd rfl (Or.inl rfl)) (zss_one (zs_set (i:=2) scPurse4.nd rfl (Or.inl rfl) (ze_op op_add (ze_op op_mulB (zv 2) ze_int) (ze_call G r rfl mG kG bG .nil pass0 (za_s (ze_ix ix_list (zv 1) (ze_op op_mod (zv 3) (ze_callB call_len_seq rfl m_len PySem.boot_len (za_n (zv 1) za_nil))) (fun _ _=>rfl)) (za_n (zv 3) za_nil)))))))
    (zss_cons (zs_if (zt_cmpR op_ge (ze_ix ix_list (zv 1) ze_int (fun _ _=>rfl)) (ze_op op_pow ze_int ze_int) (nomark _)) (zss_one (zs_ret (ze_lst (za_b (ze_op op_fdivB (ze_ix ix_list (zv 1) ze_int (fun _ _=>rfl)) (ze_op op_pow ze_int ze_int)) (za_n (zv 2) za_nil))))) zss_nil)
    (zss_one (zs_ret (ze_lst (za_n (zv 2) (za_n (zv 2) za_nil))))))))),?_⟩
  refine ⟨_,rfl,63,rfl,a,_,rfl,hS,fun p1 hp1=>⟨(by show 1<=sizeLine;decide),fun p2 hp2=>?_⟩⟩
  rw [cut63 hl] at hp2 ⊢
  have s1:Same H (upd H p1 (.lst (ns.map V.int))):=Same.new hp1 _
  have s2:=Same.new hp2 (.lst [V.int 0])
  refine ⟨p1,p2,ns.map V.int,[.int 0],rfl,rfl,s2 _ _ upd_same,upd_same,?_,fun c hc=>?_⟩
  . rw [List.length_map];exact Nat.le_of_lt (small1000 (by show ns.length + 1<=1000;omega))
  have s3:=Same.new hc (.lst (ns.map V.int ++ [V.int 0]))
  have cs:ns.map V.int ++ [V.int 0]=(ns ++ [0]).map V.int:=by rw [List.map_append];rfl
  have S:=(s1.trans s2).trans s3
  have hcn:H c=none:=(s1.trans s2).free hc
  have hC:SqL K (upd (upd (upd H p1 (.lst (ns.map V.int))) p2 (.lst [V.int 0])) c (.lst (ns.map V.int ++ [V.int 0]))) c ((ns ++ [0]).map V.int):=by rw [<- cs];exact SqL.of upd_same
  generalize upd (upd (upd H p1 (.lst (ns.map V.int))) p2 (.lst [V.int 0])) c (.lst (ns.map V.int ++ [V.int 0]))=H3 at S hC ⊢
  have bits:∀ v ∈ ns ++ [0],Builtin.Int.intBits v<=2 ^ 20:=fun v hv=>by
    rcases List.mem_append.mp hv with h | h
    . exact hb v h
    . have:v=0:=by simpa using h
      subst this;decide
  generalize hcs:ns ++ [0]=cs at hC bits
  have lc:0 < cs.length/\cs.length<=64:=by rw [<- hcs,List.length_append];simp;omega
  refine ⟨150,rfl,by decide,by decide,for_range (n:=150) (fun i σ H'=>H3=H'/\∃ (x:Int) (k:Option V),σ=[some (.ref a),some (.ref c),some (.int x),k]) ⟨rfl,1,_,rfl⟩ (fun i σ H' hi h=>?_) (fun σ H' h=>?_)⟩
  . obtain ⟨rfl,x,k,rfl⟩:=h
    have m0:(0:Int)<=(0 + (i:Int)) % (cs.length:Int):=Int.emod_nonneg _ (by omega)
    have m1:(0 + (i:Int)) % (cs.length:Int) < (cs.length:Int):=Int.emod_lt_of_pos _ (by omega)
    generalize hj:(0 + (i:Int)) % (cs.length:Int)=j at m0 m1
    obtain ⟨c1,hc1,at1⟩:=at_draw m0 m1
    refine ⟨_,rfl,_,_,rfl,rfl,okR (by decide) (by decide),_,rfl,_,rfl,_,rfl,c,_,rfl,.inl hC,_,_,rfl,rfl,(show (0:Int) < ((cs.map V.int).length:Nat) by rw [List.length_map];omega),c,_,_,_,rfl,rfl,hC,?_,_,rfl,c1,_,rfl,bits _ hc1,by omega,by omega,fun d _ _=>?_⟩
    . rw [List.length_map,hj];exact at1
    . exact ⟨_,_,rfl,rfl,rfl,_,_,rfl⟩
  . obtain ⟨rfl,x,k,rfl⟩:=h
    have hl0:0 < cs.length:=lc.1
    have at0:atI (cs.map V.int) 0=some (.int cs[0]):=atI_nat (j:=0) (by rw [List.getElem?_map];simp [hl0])
    refine ⟨_,rfl,c,_,_,_,rfl,rfl,hC,at0,_,_,rfl,rfl,⟨by decide,by decide,by decide⟩,_,_,rfl,rfl,_,rfl,?_⟩
    refine ite2 (fun c'=>?_) (fun c'=>?_)
    . refine ⟨_,rfl,c,_,_,_,rfl,rfl,hC,at0,_,_,rfl,rfl,⟨by decide,by decide,by decide⟩,_,_,rfl,rfl,⟨by decide,by decide⟩,_,rfl,(by show 2<=sizeLine;decide),fun p hp=>?_⟩
      exact q p _ (S.free hp) (S.trans (Same.new hp _)) ⟨_,_,upd_same⟩
    . refine ⟨_,rfl,_,rfl,(by show 2<=sizeLine;decide),fun p hp=>?_⟩
      exact q p _ (S.free hp) (S.trans (Same.new hp _)) ⟨_,_,upd_same⟩
theorem scDraw:FnScope ["_law_purse_here","_law_out_of","_law_drawn"] ["_law_purse_here","_law_out_of"] (defScope sDraw):=⟨rfl,rfl,rfl,by decide +kernel,rfl,by decide +kernel,by decide +kernel⟩
theorem ok_draw (F:Fun K "_law_draw" "_law_draw" sDraw f fd):FnOk P w K mg base CX0 1 f fd ["_law_purse_here","_law_out_of"] spDraw:=by
  refine F.okZ scDraw (fun vs H Q E h=>?_) (fun cdv A outer s H vs Q E hr h=>?_)
  . obtain ⟨p,m,rfl,_⟩:=h;rfl
  obtain ⟨p,m,rfl,⟨a,b,hp⟩,m0,m1,q⟩:=h
  refine ⟨_,zss_cons (zs_if (zt_cmpR op_eq (ze_ix ix_list (zv 0) ze_int (fun _ _=>rfl)) ze_int (nomark _)) (zss_one (zs_asg (ze_ix ix_list (zv 0) ze_int (fun _ _=>rfl)) (zg_sub (zv 0) ze_int set_list (fun _=>rfl)))) zss_nil)
    (zss_cons (zs_set (i:=2) scDraw.nd rfl (Or.inl rfl) (ze_op op_mod (ze_ix ix_list (zv 0) ze_int (fun _ _=>rfl)) (zv 1)))
    (zss_cons (zs_asg (ze_op op_fdivB (ze_ix ix_list (zv 0) ze_int (fun _ _=>rfl)) (zv 1)) (zg_sub (zv 0) ze_int set_list (fun _=>rfl)))
    (zss_one (zs_ret (zv 2))))),?_⟩
  have rest:∀ (a:Int) (H1:Hp),SB p H H1->H1 p=some (.lst [.int a,.int b])->tSeq (tAsg (tOp (rI (fun x j=>0 < j) fun i j=>V.int (i % j)) (tOp (rIxL K) (tVar 0) (tC (.int 0))) (tVar 1)) (gName 2))
      (tSeq (tAsg (tOp (rI CDivB fun i j=>V.int (i.fdiv j)) (tOp (rIxL K) (tVar 0) (tC (.int 0))) (tVar 1)) (gSub (tVar 0) (tC (.int 0)) rSetL)) (tRet (tVar 2))) { nx:=fun _ H'=>Q .non H',rt:=Q } [some (.ref p),some (.int m),none] H1:=by
    intro a H1 s1 h1
    refine ⟨_,rfl,p,_,_,_,rfl,rfl,SqL.of h1,rfl,_,rfl,a,m,rfl,rfl,m0,?_⟩
    refine ⟨_,rfl,p,_,_,_,rfl,rfl,SqL.of h1,rfl,_,rfl,a,m,rfl,rfl,⟨by omega,?_⟩,_,rfl,p,_,_,0,rfl,rfl,h1,rfl,_,rfl,?_⟩
    . have:m.natAbs < 2 ^ 9000:=Nat.lt_of_lt_of_le (show m.natAbs < 2 ^ 200 by omega) (Nat.pow_le_pow_right (by decide) (by decide))
      exact (Nat.log2_lt (by omega)).mpr this
    . exact q _ _ (Int.emod_nonneg _ (by omega)) (Int.emod_lt_of_pos _ m0) (s1.trans SB.upd) ⟨_,_,upd_same⟩
  refine ⟨_,rfl,p,_,_,_,rfl,rfl,SqL.of hp,rfl,rfl,_,rfl,?_⟩
  refine ite2 (fun c=>?_) (fun c=>?_)
  . refine ⟨_,rfl,p,_,_,_,rfl,rfl,SqL.of hp,rfl,_,rfl,p,_,_,0,rfl,rfl,hp,rfl,?_⟩
    exact rest b _ SB.upd upd_same
  . exact rest a H (SB.refl _ _) hp
theorem scNumber9:FnScope ["_law_purse_here"] ["_law_purse_here"] (defScope sNumber9):=⟨rfl,rfl,rfl,by decide +kernel,rfl,by decide +kernel,by decide +kernel⟩
theorem ok_number9 (F:Fun K "_law_number" "_law_number" sNumber9 f fd)
    (G:FnOk P w K mg base CX0 1 g gd ["_law_purse_here","_law_out_of"] spDraw) (bG:Binds K gd ["_law_purse_here","_law_out_of"] []) (kG:PySem.W.keepIn K (.ref g)=true) (mG:mg "_law_draw" = some (.ref g)) :
    FnOk P w K mg base CX0 2 f fd ["_law_purse_here"] (spU K (RNum (10 ^ 9))):=by
  refine okU F scNumber9 (fun ds d h=>?_) (fun cdv A0 outer s0 H0 E0 hr=>?_)
  . obtain ⟨rfl,_⟩:=h;rfl
  have r:=hr.mono (show 1<=1 by decide)
  refine ⟨_,(zss_cons (zs_if (zt_cmpR op_eq (ze_call G r rfl mG kG bG .nil pass0 (za_n (zv 0) (za_i za_nil))) ze_int (nomark _)) (zss_one (zs_ret (ze_op op_add (ze_op op_sub (ze_call G r rfl mG kG bG .nil pass0 (za_n (zv 0) (za_b (ze_op op_sub (ze_op op_mulB ze_int (ze_op op_pow ze_int ze_int)) ze_int) za_nil))) (ze_op op_pow ze_int ze_int)) ze_int))) zss_nil)
    (zss_one (zs_ret (ze_ix ix_list (ze_lst (za_i (za_i (za_i (za_u (ze_un un_neg ze_int) (za_i (za_u (ze_un un_neg ze_int) (za_b (ze_op op_sub (ze_call G r rfl mG kG bG .nil pass0 (za_n (zv 0) (za_i za_nil))) ze_int) (za_b (ze_op op_sub (ze_call G r rfl mG kG bG .nil pass0 (za_n (zv 0) (za_i za_nil))) ze_int) za_nil))))))))) (ze_call G r rfl mG kG bG .nil pass0 (za_n (zv 0) (za_i za_nil))) pix_call)))),fun q0 ds C h=>?_⟩
  obtain ⟨rfl,rfl⟩:=h
  have b24:Bt (10 ^ Int.toNat 9) 30:=by unfold Bt;decide
  have e24:(10:Int) ^ Int.toNat 9=1000000000:=by decide
  refine S.ifsC (T.eqI (EI.draw (A1.cons (E1.varP rfl) (A1.cons E1.int A1.nil)) (by decide:(0:Int) < 32) (by decide)) EI.lit) (fun _=>?_) (fun _=>?_)
  . refine S.ret (EI.mono (P':=fun n=>n.natAbs<=10 ^ 9) (EI.op (EI.op (EI.draw (m:=2 * 10 ^ Int.toNat 9 - 1) (A1.cons (E1.varP rfl) (A1.cons (by (walk_at "au3")) A1.nil)) (by decide) (by decide)) (EI.of (P:=fun j=>j=10 ^ Int.toNat 9) (by (walk_at "au3")) rfl)) EI.lit) fun k ⟨i,j,⟨i1,j1,hi,hj,e1⟩,hj2,ek⟩=>by
      rw [e24] at hi hj
      subst ek e1 hj hj2;omega) ?_
    rintro s ⟨n,rfl,hn⟩
    exact ⟨_,⟨n,rfl,hn⟩,rfl,rfl⟩
  have lit:∀ {i:Int},i.natAbs<=10 ^ 9->EI (some q0) K (tC (.int i)) [.pu] (fun n=>n.natAbs<=10 ^ 9):=fun h=>EI.of E1.int h
  have litn:∀ {i:Int},(-i).natAbs<=10 ^ 9->EI (some q0) K (tUn (rU fun i=>.int (-i)) (tC (.int i))) [.pu] (fun n=>n.natAbs<=10 ^ 9):=fun h=>EI.of (E1.neg E1.int) h
  refine S.ret (EI.pickC (P:=fun n=>n.natAbs<=10 ^ 9) (EL.li (AL.cons (lit (by decide)) (AL.cons (lit (by decide)) (AL.cons (lit (by decide)) (AL.cons (litn (by decide)) (AL.cons (lit (by decide)) (AL.cons (litn (by decide)) (AL.cons (EI.mono (EI.op (EI.draw (A1.cons (E1.varP rfl) (A1.cons E1.int A1.nil)) (by decide:(0:Int) < 19) (by decide)) EI.lit) fun k ⟨i,j,hi,hj,ek⟩=>by omega) (AL.cons (EI.mono (EI.op (EI.draw (A1.cons (E1.varP rfl) (A1.cons E1.int A1.nil)) (by decide:(0:Int) < 199) (by decide)) EI.lit) fun k ⟨i,j,hi,hj,ek⟩=>by omega) AL.nil)))))))) (by show 8<=sizeLine;decide)) (EI.draw (A1.cons (E1.varP rfl) (A1.cons E1.int A1.nil)) (by decide:(0:Int) < 8) (by decide)) fun d h=>h) ?_
  rintro s ⟨n,rfl,hn⟩
  exact ⟨_,⟨n,rfl,hn⟩,rfl,rfl⟩
theorem scRow9:FnScope ["_law_purse_here","_law_many","_law_row_here"] ["_law_purse_here","_law_many"] (defScope sRow9):=⟨rfl,rfl,rfl,by decide +kernel,rfl,by decide +kernel,by decide +kernel⟩
theorem ok_row9 (F:Fun K "_law_row" "_law_row" sRow9 f fd)
    (G:FnOk P w K mg base CX0 2 g gd ["_law_purse_here"] (spU K (RNum (10 ^ 9)))) (bG:Binds K gd ["_law_purse_here"] []) (kG:PySem.W.keepIn K (.ref g)=true) (mG:mg "_law_number" = some (.ref g)) (m_tuple:mg "tuple" = none) (m_range:mg "range" = none) :
    FnOk P w K mg base CX0 3 f fd ["_law_purse_here","_law_many"] (spU K RRow9):=by
  refine okU F scRow9 (fun ds d h=>?_) (fun cdv A0 outer s0 H0 E0 hr=>?_)
  . obtain ⟨rfl,_⟩ | ⟨rfl,_⟩:=h <;> rfl
  have r:=hr.mono (show 2<=2 by decide)
  refine ⟨_,(zss_cons (zs_set (i:=2) scRow9.nd rfl (Or.inl rfl) (ze_callTy call_tuple_of rfl m_tuple (by rfl) (za_cons (ze_comp (own:=["_law_k"]) scRow9 rfl ⟨by decide +kernel,rfl,by decide +kernel,by decide +kernel,by decide +kernel,by decide +kernel,by decide +kernel,by decide +kernel,by decide +kernel⟩ (zi_range1 rfl m_range (za_n (zv 1) za_nil)) (fun C fp s H nd=>zg_name (i:=0) nd rfl (Or.inl rfl)) (fun C fp s H=>zts_nil) (fun C fp s H=>(ze_call G r rfl mG kG bG .nil pass0 (za_n (zv 1) za_nil)))) za_nil)))
    (zss_cons (zs_if (zt_cmpR (op_eqD hr.units) (zv 2) (ze_op op_repA (ze_tup (za_i za_nil)) (zv 1)) (nomark _)) (zss_one (zs_ret (ze_op op_catW (ze_tup (za_i za_nil)) (ze_op op_repA (ze_tup (za_i za_nil)) (ze_op op_sub (zv 1) ze_int))))) zss_nil)
    (zss_one (zs_ret (zv 2))))),fun q0 ds C h=>?_⟩
  obtain ⟨rfl,rfl⟩ | ⟨rfl,rfl⟩:=h
  . skip
    refine S.letC (EL.row (EL.comp (n:=3) (P:=fun m=>m.natAbs<=10 ^ 9) (Wk.rng (n:=3) (A1.cons (E1.var rfl) A1.nil) rfl) rangeD_len (fun d _=>E.mono (E.callU (R:=RNum (10 ^ 9)) (ds:=[]) (A1.cons (E1.varP rfl) A1.nil) ⟨rfl,rfl⟩) fun s ⟨d,e,n,e2,hn⟩=>⟨n,by rw [e,e2],hn⟩) z3)) (fun s ⟨_,e,_⟩=>by rw [e];rfl) fun s ⟨ns,e,ln,bn⟩=>?_
    subst e
    match ns,ln with
    | [a,b,c],_ =>
    have bd:Bd (2 ^ 30) [a,b,c]:=bd_mono (show Bd (10 ^ 9) [a,b,c] from bn) (by decide)
    refine S.ifs (T1.test (E1.eqD (d:=tI [a,b,c]) (e:=tI [0,0,0]) (E1.var rfl) (E1.repA (xs:=[.int 0]) (k:=3) (n:=3) (E1.tu (A1.cons E1.int A1.nil) rfl (lsz (n:=1) rfl z1)) (E1.var rfl) (by simp) rfl (by decide) (by show 3<=sizeLine;decide)) rfl rfl kqd_tup kqd_tup)) (fun h=>?_) (fun h=>?_)
    . exact S.ret1 (s:=.dat (tI [1,0,0])) (E1.catT (xs:=[.int 1]) (ys:=[.int 0,.int 0]) (E1.tu (A1.cons E1.int A1.nil) rfl (lsz (n:=1) rfl z1)) (E1.repA (xs:=[.int 0]) (k:=3 - 1) (n:=2) (E1.tu (A1.cons E1.int A1.nil) rfl (lsz (n:=1) rfl z1)) (E1.sub (E1.var rfl) E1.int) (by simp) rfl (by decide) (by show 2<=sizeLine;decide)) (by show 3<=sizeLine;decide)) ⟨_,⟨1,0,0,rfl,⟨1,by simp,by decide⟩,bd_mono (show Bd 1 _ by unfold Bd;decide) (by decide)⟩,rfl,rfl⟩
    . rw [deq_tup] at h
      exact S.ret1 (s:=.dat (tI [a,b,c])) (E1.var rfl) ⟨_,⟨a,b,c,rfl,nz_of_ne3 rfl (of_decide_eq_false h),bd⟩,rfl,rfl⟩
  . skip
    refine S.letC (EL.row (EL.comp (n:=2) (P:=fun m=>m.natAbs<=10 ^ 9) (Wk.rng (n:=2) (A1.cons (E1.var rfl) A1.nil) rfl) rangeD_len (fun d _=>E.mono (E.callU (R:=RNum (10 ^ 9)) (ds:=[]) (A1.cons (E1.varP rfl) A1.nil) ⟨rfl,rfl⟩) fun s ⟨d,e,n,e2,hn⟩=>⟨n,by rw [e,e2],hn⟩) z2)) (fun s ⟨_,e,_⟩=>by rw [e];rfl) fun s ⟨ns,e,ln,bn⟩=>?_
    subst e
    match ns,ln with
    | [a,b],_ =>
    have bd:Bd (2 ^ 30) [a,b]:=bd_mono (show Bd (10 ^ 9) [a,b] from bn) (by decide)
    refine S.ifs (T1.test (E1.eqD (d:=tI [a,b]) (e:=tI [0,0]) (E1.var rfl) (E1.repA (xs:=[.int 0]) (k:=2) (n:=2) (E1.tu (A1.cons E1.int A1.nil) rfl (lsz (n:=1) rfl z1)) (E1.var rfl) (by simp) rfl (by decide) (by show 2<=sizeLine;decide)) rfl rfl kqd_tup kqd_tup)) (fun h=>?_) (fun h=>?_)
    . exact S.ret1 (s:=.dat (tI [1,0])) (E1.catT (xs:=[.int 1]) (ys:=[.int 0]) (E1.tu (A1.cons E1.int A1.nil) rfl (lsz (n:=1) rfl z1)) (E1.repA (xs:=[.int 0]) (k:=2 - 1) (n:=1) (E1.tu (A1.cons E1.int A1.nil) rfl (lsz (n:=1) rfl z1)) (E1.sub (E1.var rfl) E1.int) (by simp) rfl (by decide) (by show 1<=sizeLine;decide)) (by show 2<=sizeLine;decide)) ⟨_,⟨1,0,rfl,⟨1,by simp,by decide⟩,bd_mono (show Bd 1 _ by unfold Bd;decide) (by decide)⟩,rfl,rfl⟩
    . rw [deq_tup] at h
      exact S.ret1 (s:=.dat (tI [a,b])) (E1.var rfl) ⟨_,⟨a,b,rfl,nz_of_ne2 rfl (of_decide_eq_false h),bd⟩,rfl,rfl⟩
theorem scDiv:FnScope ["_law_one","_law_other"] ["_law_one","_law_other"] (defScope sDiv):=⟨rfl,rfl,rfl,by decide +kernel,rfl,by decide +kernel,by decide +kernel⟩
theorem ok_div (F : Fun K "_law_divisor" "_law_divisor" sDiv f fd) (ma : mg "abs" = none) :
    FnOk P w K mg base CX0 1 f fd ["_law_one","_law_other"] spDiv:=by
  refine F.okZ scDiv (fun vs H Q E h=>?_) (fun cdv A outer s H vs Q E hr h=>?_)
  . obtain ⟨a,b,rfl,_⟩:=h;rfl
  obtain ⟨a,b,rfl,q⟩:=h
  refine ⟨_,zss_cons (zs_set (i:=0) scDiv.nd rfl (Or.inl rfl) (ze_callB call_abs rfl ma (by rfl) (za_n (zv 0) za_nil)))
    (zss_cons (zs_set (i:=1) scDiv.nd rfl (Or.inl rfl) (ze_callB call_abs rfl ma (by rfl) (za_n (zv 1) za_nil)))
    (zss_cons (zs_while PassesOwn.never (zt_cmpR op_gt (zv 1) ze_int (nomark _)) (zss_one (zs_par (i:=0) (j:=1) rfl scDiv.nd rfl rfl (by decide) rfl rfl (za_n (zv 1) (za_b (ze_op op_mod (zv 0) (zv 1)) za_nil)) rfl)))
    (zss_one (zs_ret (zv 0))))),?_⟩
  refine ⟨_,rfl,_,rfl,_,rfl,_,rfl,?_⟩
  refine while_by (fun σ H'=>H=H'/\∃ (c d:Int),0<=c/\0<=d/\Nat.gcd c.toNat d.toNat=Nat.gcd a.natAbs b.natAbs/\σ=[some (.int c),some (.int d)])
    (fun σ _=>match σ with | [_,some (.int o)]=>o.toNat | _=>0) ⟨rfl,_,_,by split <;> omega,by split <;> omega,?_,rfl⟩ (fun σ H' h=>?_) (fun σ H Q Q' hq h=>?_)
  . congr 1 <;> (split <;> omega)
  . obtain ⟨rfl,c,d,hc,hd,hg,rfl⟩:=h
    refine ⟨_,rfl,_,_,rfl,rfl,_,rfl,?_⟩
    refine ite2 (fun z=>?_) (fun z=>?_)
    . have h0:0 < d:=by simpa using z
      refine ⟨_,rfl,_,rfl,_,rfl,_,_,rfl,rfl,h0,_,_,rfl,⟨rfl,_,_,hd,Int.emod_nonneg _ (by omega),?_,rfl⟩,?_⟩
      . rw [<- hg];exact gcd_step hc h0
      . show (c % d).toNat < d.toNat
        have:=Int.emod_lt_of_pos c h0
        have:=Int.emod_nonneg c (show d ≠ 0 by omega)
        omega
    . have h0:d=0:=by
        have:¬ 0 < d:=fun y=>z (by simpa using y)
        omega
      subst h0
      refine ⟨_,rfl,?_⟩
      have e:(c.toNat:Int)=c:=by omega
      rw [<- hg] at q
      simp only [Int.toNat_zero,Nat.gcd_zero_right,e] at q
      exact q
  . obtain ⟨v,e1,i,j,e2,e3,b,e4,q⟩:=h
    exact ⟨v,e1,i,j,e2,e3,b,e4,hq _ _ q⟩
theorem scLPlain5:FnScope ["_law_four","_law_by","_law_number_here"] ["_law_four"] (defScope sLPlain5):=⟨rfl,rfl,rfl,by decide +kernel,rfl,by decide +kernel,by decide +kernel⟩
theorem ok_lplain5 (F:Fun K "_law_plain" "_law_plain" sLPlain5 f fd)
    (G:FnOk P w K mg base CX0 1 g gd ["_law_one","_law_other"] spDiv) (bG:Binds K gd ["_law_one","_law_other"] []) (kG:PySem.W.keepIn K (.ref g)=true) (mG:mg "_law_divisor" = some (.ref g)) (m_tuple:mg "tuple" = none) :
    FnOk P w K mg base CX0 2 f fd ["_law_four"] (spP K RPl):=by
  refine okP F scLPlain5 (fun ds d h=>?_) (fun cdv A0 outer s0 H0 E0 hr=>?_)
  . obtain ⟨ns,rfl,_⟩:=h;rfl
  have r:=hr.mono (show 1<=1 by decide)
  refine ⟨_,(zss_cons (zs_set (i:=1) scLPlain5.nd rfl (Or.inr rfl) ze_int)
    (zss_cons (zs_for PassesOwn.never rfl (zi_tup (zv 0)) (zg_name (i:=2) scLPlain5.nd rfl (Or.inl rfl)) (zss_one (zs_set (i:=1) scLPlain5.nd rfl (Or.inr rfl) (ze_call G r rfl mG kG bG .nil pass0 (za_n (zv 1) (za_n (zv 2) za_nil))))))
    (zss_cons (zs_if (zt_cmpR op_lt (ze_ix ix_list (ze_comp (own:=["_law_number_here"]) scLPlain5 rfl ⟨by decide +kernel,rfl,by decide +kernel,by decide +kernel,by decide +kernel,by decide +kernel,by decide +kernel,by decide +kernel,by decide +kernel⟩ (zi_tup (zv 0)) (fun C fp s H nd=>zg_name (i:=0) nd rfl (Or.inl rfl)) (fun C fp s H=>zts_one (zt_cmpR op_ne (zv 0) ze_int (nomark _))) (fun C fp s H=>(zv 0))) ze_int (fun _ _=>rfl)) ze_int (nomark _)) (zss_one (zs_set (i:=1) scLPlain5.nd rfl (Or.inr rfl) (ze_un un_neg (zv 1)))) zss_nil)
    (zss_one (zs_ret (ze_callTy call_tuple_of rfl m_tuple (by rfl) (za_cons (ze_comp (own:=["_law_number_here"]) scLPlain5 rfl ⟨by decide +kernel,rfl,by decide +kernel,by decide +kernel,by decide +kernel,by decide +kernel,by decide +kernel,by decide +kernel,by decide +kernel⟩ (zi_tup (zv 0)) (fun C fp s H nd=>zg_name (i:=0) nd rfl (Or.inl rfl)) (fun C fp s H=>zts_nil) (fun C fp s H=>(ze_op op_fdivB (zv 0) (zv 2)))) za_nil))))))),fun ds d h=>?_⟩
  obtain ⟨ns,rfl,hl,nz,sm,rfl⟩:=h
  have lz:ns.length<=sizeLine:=Nat.le_of_lt (small1000 hl)
  refine S.let1 (s:=.dat (.int 0)) E1.int ?_
  refine S.seq (M:=fun τ'=>∃ o:Sl,τ'=[.dat (tI ns),.dat (.int (gcdN ns:Nat)),o]) ?_ fun τ' ⟨o,eτ⟩=>?_
  . refine S.for (Wk.tup (E1.var rfl)) (fun i τ'=>∃ o:Sl,τ'=[.dat (tI ns),.dat (.int (gcdN (ns.take i):Nat)),o]) ⟨_,rfl⟩ (fun i d τ1 hd ⟨o,e1⟩=>?_) (fun τ1 ⟨o,h⟩=>⟨o,by rw [h,List.length_map,List.take_length]⟩)
    subst e1
    rw [List.getElem?_map] at hd
    cases hn:ns[i]? with
    | none=>rw [hn] at hd;cases hd
    | some n =>
      rw [hn] at hd
      cases hd
      refine ⟨_,Gd.name,?_⟩
      refine S.asg1 (E1.cDiv (A1.cons (E1.var rfl) (A1.cons (E1.var rfl) A1.nil))) ⟨.dat (.int n),?_⟩
      have tk:ns.take (i + 1)=ns.take i ++ [n]:=by rw [List.take_add_one,hn];rfl
      rw [tk,gcdN_snoc,Int.natAbs_natCast]
      rfl
  subst eτ
  have un:=unit_ne nz
  have ub:(unit ns).natAbs.log2 < 9000:=by
    rw [unit_natAbs]
    have:=gcd_small nz sm
    rwa [Int.natAbs_natCast] at this
  refine S.seq (M:=fun τ'=>τ'=[.dat (tI ns),.dat (.int (unit ns)),o]) ?_ fun τ' eτ=>?_
  . refine S.if1 (T1.test (E1.lt (i:=fst0 ns) (j:=0) (E1.ixL (E1.vwo (E1.compIF (kp:=fun n => !decide (n=0)) (Wk.tup (E1.var rfl)) (fun n _=>T1.test (E1.ne (E1.var rfl) E1.int)) (fun n _=>(E1.var rfl)) lz)) E1.int (atI_nat (j:=0) (by rw [List.getElem?_map,first_at' nz];rfl))) E1.int)) (fun h=>?_) (fun h=>?_)
    . have h:fst0 ns < 0:=by simpa using h
      exact S.asg1 (E1.neg (E1.var rfl)) (by unfold unit;rw [if_pos h];try rfl)
    . have h:¬ fst0 ns < 0:=by simpa using h
      exact S.next (by unfold unit;rw [if_neg h])
  subst eτ
  exact S.ret1 (s:=.dat (tI (pl ns))) (E1.tupleL (A1.cons (E1.vwo (E1.compI (g:=fun n=>n / unit ns) (Wk.tup (E1.var rfl)) (fun n hn=>E1.to (E1.fdiv (E1.var rfl) (E1.var rfl) ⟨un,ub⟩) (by rw [Int.fdiv_eq_ediv_of_dvd (unit_dvd hn)])) lz)) A1.nil)) ⟨rfl,noLs_ints _⟩
theorem scLowest4:FnScope ["_law_top","_law_bottom","_law_by"] ["_law_top","_law_bottom"] (defScope sLowest4):=⟨rfl,rfl,rfl,by decide +kernel,rfl,by decide +kernel,by decide +kernel⟩
theorem ok_lowest4 (F:Fun K "_law_lowest" "_law_lowest" sLowest4 f fd)
    (G:FnOk P w K mg base CX0 1 g gd ["_law_one","_law_other"] spDiv) (bG:Binds K gd ["_law_one","_law_other"] []) (kG:PySem.W.keepIn K (.ref g)=true) (mG:mg "_law_divisor" = some (.ref g)) :
    FnOk P w K mg base CX0 2 f fd ["_law_top","_law_bottom"] (spP K RMk):=by
  refine okP F scLowest4 (fun ds d h=>?_) (fun cdv A0 outer s0 H0 E0 hr=>?_)
  . obtain ⟨t,b,rfl,_⟩:=h;rfl
  have r:=hr.mono (show 1<=1 by decide)
  refine ⟨_,(zss_cons (zs_set (i:=2) scLowest4.nd rfl (Or.inl rfl) (ze_call G r rfl mG kG bG .nil pass0 (za_n (zv 0) (za_n (zv 1) za_nil))))
    (zss_one (zs_ret (ze_tup (za_b (ze_op op_fdivB (zv 0) (zv 2)) (za_b (ze_op op_fdivB (zv 1) (zv 2)) za_nil)))))),fun ds d h=>?_⟩
  obtain ⟨t,b,rfl,b0,bb,rfl⟩:=h
  have hg:gcdN [t,b]=Nat.gcd t.natAbs b.natAbs:=by
    rw [gcdN_cons,gcdN_cons]
    show Nat.gcd t.natAbs (Nat.gcd b.natAbs 0)=_
    rw [Nat.gcd_zero_right]
  have nz:∃ n ∈ [t,b],n ≠ 0:=⟨b,by simp,by omega⟩
  have gp:=gcdN_pos nz
  have gl:gcdN [t,b]<=b.natAbs:=gcdN_le (by simp) (by omega)
  have bg:Bt (gcdN [t,b]:Nat) 8000:=by unfold Bt at *;omega
  have cd:∀ n:Int,CDivB n (gcdN [t,b]:Nat):=fun n=>⟨by omega,bg.log (by omega)⟩
  have ed:∀ n ∈ [t,b],n.fdiv (gcdN [t,b]:Nat)=n / (gcdN [t,b]:Nat):=fun n hn=>Int.fdiv_eq_ediv_of_dvd (gcdN_dvd hn)
  refine S.let1 (s:=.dat (.int (gcdN [t,b]:Nat))) (E1.to (E1.cDiv (A1.cons (E1.var rfl) (A1.cons (E1.var rfl) A1.nil))) (by rw [hg])) ?_
  exact S.ret1 (s:=.dat (tI (fr t b))) (E1.tu (A1.cons (E1.to (E1.fdiv (E1.var rfl) (E1.var rfl) (cd _)) (by rw [ed t (by simp)])) (A1.cons (E1.to (E1.fdiv (E1.var rfl) (E1.var rfl) (cd _)) (by rw [ed b (by simp)])) A1.nil)) rfl (lsz (n:=2) rfl z2)) ⟨rfl,noLs_ints _⟩
theorem scPlus:FnScope ["_law_one","_law_other"] ["_law_one","_law_other"] (defScope sPlus):=⟨rfl,rfl,rfl,by decide +kernel,rfl,by decide +kernel,by decide +kernel⟩
theorem ok_plus (F:Fun K "_law_plus" "_law_plus" sPlus f fd)
    (G:FnOk P w K mg base CX0 2 g gd ["_law_top","_law_bottom"] (spP K RMk)) (bG:Binds K gd ["_law_top","_law_bottom"] []) (kG:PySem.W.keepIn K (.ref g)=true) (mG:mg "_law_lowest" = some (.ref g)) :
    FnOk P w K mg base CX0 3 f fd ["_law_one","_law_other"] (spP K RPlus):=by
  refine okP F scPlus (fun ds d h=>?_) (fun cdv A0 outer s0 H0 E0 hr=>?_)
  . obtain ⟨a,b,c,e,rfl,_⟩:=h;rfl
  have r:=hr.mono (show 2<=2 by decide)
  refine ⟨_,(zss_one (zs_ret (ze_call G r rfl mG kG bG .nil pass0 (za_b (ze_op op_add (ze_op op_mulB (ze_ix ix_tup (zv 0) ze_int (fun _ _=>rfl)) (ze_ix ix_tup (zv 1) ze_int (fun _ _=>rfl))) (ze_op op_mulB (ze_ix ix_tup (zv 1) ze_int (fun _ _=>rfl)) (ze_ix ix_tup (zv 0) ze_int (fun _ _=>rfl)))) (za_b (ze_op op_mulB (ze_ix ix_tup (zv 0) ze_int (fun _ _=>rfl)) (ze_ix ix_tup (zv 1) ze_int (fun _ _=>rfl))) za_nil))))),fun ds d h=>?_⟩
  obtain ⟨a,b,c,e,rfl,hb,he,ba,bc,bb,be,bm,rfl⟩:=h
  exact S.ret1 (s:=.dat (tI (qf (qv a b + qv c e)))) (E1.to (E1.call (R:=RMk) (ds:=[.int (a * e + c * b),.int (b * e)]) (A1.cons (E1.add (E1.mul (E1.ixT (E1.var rfl) E1.int rfl) (E1.ixT (E1.var rfl) E1.int rfl) (ba.mulOk be)) (E1.mul (E1.ixT (E1.var rfl) E1.int rfl) (E1.ixT (E1.var rfl) E1.int rfl) (bc.mulOk bb))) (A1.cons (E1.mul (E1.ixT (E1.var rfl) E1.int rfl) (E1.ixT (E1.var rfl) E1.int rfl) (bb.mulOk be)) A1.nil)) ⟨_,_,rfl,Int.mul_pos hb he,bm,rfl⟩) (by rw [fr_add hb he])) ⟨rfl,noL_tI⟩
theorem scLessV:FnScope ["_law_one","_law_other"] ["_law_one","_law_other"] (defScope sLessV):=⟨rfl,rfl,rfl,by decide +kernel,rfl,by decide +kernel,by decide +kernel⟩
theorem ok_lessv (F:Fun K "_law_less_by" "_law_less_by" sLessV f fd)
    (G:FnOk P w K mg base CX0 3 g gd ["_law_one","_law_other"] (spP K RPlus)) (bG:Binds K gd ["_law_one","_law_other"] []) (kG:PySem.W.keepIn K (.ref g)=true) (mG:mg "_law_plus" = some (.ref g)) (m_tuple:mg "tuple" = none) (m_zip:mg "zip" = none) :
    FnOk P w K mg base CX0 4 f fd ["_law_one","_law_other"] (spP K RLessV):=by
  refine okP F scLessV (fun ds d h=>?_) (fun cdv A0 outer s0 H0 E0 hr=>?_)
  . obtain ⟨u,v,rfl,_⟩:=h;rfl
  have r:=hr.mono (show 3<=3 by decide)
  refine ⟨_,(zss_one (zs_ret (ze_callTy call_tuple_of rfl m_tuple (by rfl) (za_cons (ze_comp (own:=["_law_a","_law_b"]) scLessV rfl ⟨by decide +kernel,rfl,by decide +kernel,by decide +kernel,by decide +kernel,by decide +kernel,by decide +kernel,by decide +kernel,by decide +kernel⟩ (zi_zip rfl m_zip (za_n (zv 0) (za_n (zv 1) za_nil))) (fun C fp s H nd=>zg_pair rfl nd rfl rfl rfl rfl) (fun C fp s H=>zts_nil) (fun C fp s H=>(ze_call G r rfl mG kG bG .nil pass0 (za_n (zv 0) (za_t (ze_tup (za_u (ze_un un_neg (ze_ix ix_tupC (zv 1) ze_int (fun _ _=>rfl))) (za_s (ze_ix ix_tupC (zv 1) ze_int (fun _ _=>rfl)) za_nil))) za_nil))))) za_nil)))),fun ds d h=>?_⟩
  obtain ⟨⟨x,y,z⟩,⟨p1,p2,p3⟩,rfl,⟨hu,hv⟩,rfl⟩:=h
  obtain ⟨a1,a2,a3⟩:=PB.qn hu
  obtain ⟨b1,b2,b3⟩:=PB.qn hv
  exact S.ret1 (s:=.dat (pQ (subV (x,y,z) (p1,p2,p3)))) (E1.tupleL (A1.cons (E1.vwo (E1.compZ3 (x1:=tI (qf x)) (x2:=tI (qf y)) (x3:=tI (qf z)) (y1:=tI (qf p1)) (y2:=tI (qf p2)) (y3:=tI (qf p3)) (e1:=tI (qf (x - p1))) (e2:=tI (qf (y - p2))) (e3:=tI (qf (z - p3))) (Wk.zip (A1.cons (E1.var rfl) (A1.cons (E1.var rfl) A1.nil)) rfl) (E1.to (E1.call (R:=RPlus) (ds:=[tI (qf x),tI [-p1.num,p1.den]]) (A1.cons (E1.var rfl) (A1.cons (E1.tu (ds:=[.int (-p1.num),.int p1.den]) (A1.cons (E1.neg (E1.ixT (ds:=[.int p1.num,.int p1.den]) (E1.var rfl) E1.int rfl)) (A1.cons (E1.ixT (ds:=[.int p1.num,.int p1.den]) (E1.var rfl) E1.int rfl) A1.nil)) rfl (lsz (n:=2) rfl z2)) A1.nil)) ⟨_,_,_,_,rfl,den_pos _,den_pos _,a1.1.up (by decide),(Bt.neg' b1.1).up (by decide),a1.2.up (by decide),b1.2.up (by decide),(a1.2.mul b1.2).up (by decide),rfl⟩) (by rw [qf_val,qv_neg,qf_val, <- Rat.sub_eq_add_neg])) (E1.to (E1.call (R:=RPlus) (ds:=[tI (qf y),tI [-p2.num,p2.den]]) (A1.cons (E1.var rfl) (A1.cons (E1.tu (ds:=[.int (-p2.num),.int p2.den]) (A1.cons (E1.neg (E1.ixT (ds:=[.int p2.num,.int p2.den]) (E1.var rfl) E1.int rfl)) (A1.cons (E1.ixT (ds:=[.int p2.num,.int p2.den]) (E1.var rfl) E1.int rfl) A1.nil)) rfl (lsz (n:=2) rfl z2)) A1.nil)) ⟨_,_,_,_,rfl,den_pos _,den_pos _,a2.1.up (by decide),(Bt.neg' b2.1).up (by decide),a2.2.up (by decide),b2.2.up (by decide),(a2.2.mul b2.2).up (by decide),rfl⟩) (by rw [qf_val,qv_neg,qf_val, <- Rat.sub_eq_add_neg])) (E1.to (E1.call (R:=RPlus) (ds:=[tI (qf z),tI [-p3.num,p3.den]]) (A1.cons (E1.var rfl) (A1.cons (E1.tu (ds:=[.int (-p3.num),.int p3.den]) (A1.cons (E1.neg (E1.ixT (ds:=[.int p3.num,.int p3.den]) (E1.var rfl) E1.int rfl)) (A1.cons (E1.ixT (ds:=[.int p3.num,.int p3.den]) (E1.var rfl) E1.int rfl) A1.nil)) rfl (lsz (n:=2) rfl z2)) A1.nil)) ⟨_,_,_,_,rfl,den_pos _,den_pos _,a3.1.up (by decide),(Bt.neg' b3.1).up (by decide),a3.2.up (by decide),b3.2.up (by decide),(a3.2.mul b3.2).up (by decide),rfl⟩) (by rw [qf_val,qv_neg,qf_val, <- Rat.sub_eq_add_neg])))) A1.nil)) ⟨rfl,rfl⟩
theorem scInner:FnScope ["_law_one","_law_other","_law_total","_law_a","_law_b"] ["_law_one","_law_other"] (defScope sInner):=⟨rfl,rfl,rfl,by decide +kernel,rfl,by decide +kernel,by decide +kernel⟩
theorem ok_inner (F:Fun K "_law_inner" "_law_inner" sInner f fd)
    (G:FnOk P w K mg base CX0 3 g gd ["_law_one","_law_other"] (spP K RPlus)) (bG:Binds K gd ["_law_one","_law_other"] []) (kG:PySem.W.keepIn K (.ref g)=true) (mG:mg "_law_plus" = some (.ref g)) (m_zip:mg "zip" = none) :
    FnOk P w K mg base CX0 4 f fd ["_law_one","_law_other"] (spP K RInner):=by
  refine okP F scInner (fun ds d h=>?_) (fun cdv A0 outer s0 H0 E0 hr=>?_)
  . obtain ⟨l,_,_,_,_,_,_,_,_,_,_,rfl,_⟩:=h;rfl
  have r:=hr.mono (show 3<=3 by decide)
  refine ⟨_,(zss_cons (zs_set (i:=2) scInner.nd rfl (Or.inl rfl) (ze_tup (za_i (za_i za_nil))))
    (zss_cons (zs_for PassesOwn.never rfl (zi_or (zi_zip rfl m_zip (za_n (zv 0) (za_n (zv 1) za_nil))) (zi_zipG true false rfl m_zip (za_n (zv 0) (za_n (zv 1) za_nil)))) (zg_tup rfl (zgs_cons (zg_name (i:=3) scInner.nd rfl (Or.inl rfl)) (zgs_cons (zg_name (i:=4) scInner.nd rfl (Or.inl rfl)) zgs_nil))) (zss_one (zs_set (i:=2) scInner.nd rfl (Or.inl rfl) (ze_call G r rfl mG kG bG .nil pass0 (za_n (zv 2) (za_t (ze_tup (za_b (ze_op op_mulB (ze_ix ix_tup (zv 3) ze_int (fun _ _=>rfl)) (ze_ix ix_tup (zv 4) ze_int (fun _ _=>rfl))) (za_b (ze_op op_mulB (ze_ix ix_tup (zv 3) ze_int (fun _ _=>rfl)) (ze_ix ix_tup (zv 4) ze_int (fun _ _=>rfl))) za_nil))) za_nil))))))
    (zss_one (zs_ret (zv 2))))),fun ds d h=>?_⟩
  obtain ⟨l,a,b,c,u,v,w,m,n,m1,n1,rfl,ha,hb,hc,hu,hv,hw,hm,hn,rfl⟩:=h
  refine S.let1 (s:=.dat (tI (qf 0))) (E1.tu (ds:=[.int 0,.int 1]) (A1.cons E1.int (A1.cons E1.int A1.nil)) rfl (lsz (n:=2) rfl z2)) ?_
  have stp:∀ (f g:Fw) (s:Rat) (k:Nat) (d1 d2:Dat) (nx:List Sl->Prop),FwOk m n f->FwOk m1 n1 g->QN k s->k<=5202->(∀ o1 o2:Sl,QN (k + 2601) (s + f.q * g.q)->nx [.dat d1,.dat d2,.dat (tI (qf (s + f.q * g.q))),o1,o2])->S none K (tAsg (tCall (spP K RPlus) [] L2.E0 (tCons (tVar 2) (tCons (tTup (tCons (tOp (rI IntMulOk fun i j=>.int (i * j)) (tOp (rIxT K) (tVar 3) (tC (.int 0))) (tOp (rIxT K) (tVar 4) (tC (.int 0)))) (tCons (tOp (rI IntMulOk fun i j=>.int (i * j)) (tOp (rIxT K) (tVar 3) (tC (.int 1))) (tOp (rIxT K) (tVar 4) (tC (.int 1)))) tNil))) tNil))) (gName 2)) [.dat d1,.dat d2,.dat (tI (qf s)),.dat f.d,.dat g.d] nx (fun s'=>Gives (tI (qf (a.q * u.q + b.q * v.q + c.q * w.q))) s'):=fun f g s k d1 d2 nx hf hg hs hk hx=>by
    obtain ⟨f0,ft,fb⟩:=hf
    obtain ⟨g0,gt,gb⟩:=hg
    have qn:QN 2600 (f.q * g.q):=by
      have e:=qv_mul (a:=f.t) (b:=f.b) (c:=g.t) (e:=g.b) f0 g0
      show QN 2600 (qv f.t f.b * qv g.t g.b)
      rw [<- e]
      exact QN.of (Int.mul_pos f0 g0) ((ft.mul gt).up hm) ((fb.mul gb).up (by omega))
    refine S.asg1 (s:=.dat (tI (qf (s + f.q * g.q)))) (E1.to (E1.call (R:=RPlus) (ds:=[tI (qf s),tI [f.t * g.t,f.b * g.b]]) (A1.cons (E1.var rfl) (A1.cons (E1.tu (ds:=[.int (f.t * g.t),.int (f.b * g.b)]) (A1.cons (E1.mul (E1.ixT (ds:=[.int f.t,.int f.b]) (E1.var rfl) E1.int rfl) (E1.ixT (ds:=[.int g.t,.int g.b]) (E1.var rfl) E1.int rfl) (ft.mulOk gt (by omega) (by omega))) (A1.cons (E1.mul (E1.ixT (ds:=[.int f.t,.int f.b]) (E1.var rfl) E1.int rfl) (E1.ixT (ds:=[.int g.t,.int g.b]) (E1.var rfl) E1.int rfl) (fb.mulOk gb (by omega) (by omega))) A1.nil)) rfl (lsz (n:=2) rfl z2)) A1.nil)) ⟨s.num,s.den,f.t * g.t,f.b * g.b,rfl,den_pos s,Int.mul_pos f0 g0,hs.1.up (by omega),(ft.mul gt).up (by omega),hs.2.up (by omega),(fb.mul gb).up (by omega),(hs.2.mul (fb.mul gb)).up (by omega),rfl⟩) (by rw [qf_val,qv_mul f0 g0];rfl)) (hx _ _ ?_)
    exact (hs.add qn).up (by omega)
  have walk:∀ {wi:TI} {tb:TS},Wk none K wi [.dat (sqD l [a.d,b.d,c.d]),.dat (.tuple [u.d,v.d,w.d]),.dat (tI (qf 0)),.un,.un] [.tuple [a.d,u.d],.tuple [b.d,v.d],.tuple [c.d,w.d]] ->
      (∀ (f g:Fw) (s:Rat) (k:Nat) (d1 d2:Dat) (nx:List Sl->Prop),FwOk m n f->FwOk m1 n1 g->QN k s->k<=5202->(∀ o1 o2:Sl,QN (k + 2601) (s + f.q * g.q)->nx [.dat d1,.dat d2,.dat (tI (qf (s + f.q * g.q))),o1,o2])->S none K tb [.dat d1,.dat d2,.dat (tI (qf s)),.dat f.d,.dat g.d] nx (fun s'=>Gives (tI (qf (a.q * u.q + b.q * v.q + c.q * w.q))) s')) ->
      S none K (tFor wi (gTup K 2 (gCons (gName 3) (gCons (gName 4) gNil))) tb) [.dat (sqD l [a.d,b.d,c.d]),.dat (.tuple [u.d,v.d,w.d]),.dat (tI (qf 0)),.un,.un] (fun τ'=>∃ o1 o2:Sl,τ'=[.dat (sqD l [a.d,b.d,c.d]),.dat (.tuple [u.d,v.d,w.d]),.dat (tI (qf (0 + a.q * u.q + b.q * v.q + c.q * w.q))),o1,o2]) (fun s'=>Gives (tI (qf (a.q * u.q + b.q * v.q + c.q * w.q))) s'):=fun {wi tb} hw0 hs0=>by
    refine S.for hw0 (fun i τ'=>∃ (s:Rat) (o1 o2:Sl),τ'=[.dat (sqD l [a.d,b.d,c.d]),.dat (.tuple [u.d,v.d,w.d]),.dat (tI (qf s)),o1,o2]/\QN (2601 * i) s/\s=([a.q * u.q,b.q * v.q,c.q * w.q].take i).foldl (· + ·) 0) ⟨0,_,_,rfl,⟨by unfold Bt;decide,by unfold Bt;decide⟩,rfl⟩ (fun i d τ1 hd ⟨s,o1,o2,e1,hq,hs⟩=>?_) (fun τ1 ⟨s,o1,o2,e1,hq,hs⟩=>⟨o1,o2,by rw [e1,hs];rfl⟩)
    subst e1
    rcases get3 hd with ⟨rfl,rfl⟩ | ⟨rfl,rfl⟩ | ⟨rfl,rfl⟩
    . exact ⟨_,Gd.pair,hs0 a u s _ _ _ _ ha hu hq (by decide) fun o1 o2 q=>⟨_,o1,o2,rfl,q,by rw [hs];rfl⟩⟩
    . exact ⟨_,Gd.pair,hs0 b v s _ _ _ _ hb hv hq (by decide) fun o1 o2 q=>⟨_,o1,o2,rfl,q,by rw [hs];rfl⟩⟩
    . exact ⟨_,Gd.pair,hs0 c w s _ _ _ _ hc hw hq (by decide) fun o1 o2 q=>⟨_,o1,o2,rfl,q,by rw [hs];rfl⟩⟩
  refine S.seq (walk ?_ stp) fun τ' ⟨o1,o2,eτ⟩=>?_
  . cases l with
    | false=>exact Wk.orL (Wk.zip (xs:=[a.d,b.d,c.d]) (ys:=[u.d,v.d,w.d]) (A1.cons (E1.var rfl) (A1.cons (E1.var rfl) A1.nil)) rfl)
    | true=>exact Wk.orR (Wk.zipG (b1:=true) (b2:=false) (xs:=[a.d,b.d,c.d]) (ys:=[u.d,v.d,w.d]) (A1.cons (E1.var rfl) (A1.cons (E1.var rfl) A1.nil)) rfl)
  subst eτ
  rw [Rat.zero_add]
  exact S.ret1 (E1.var rfl) ⟨rfl,noL_tI⟩
theorem scTurnedF:FnScope ["_law_four","_law_point_here","_law_w","_law_x","_law_y","_law_z","_law_long","_law_rows","_law_found","_law_row_here","_law_total"] ["_law_four","_law_point_here"] (defScope sTurnedF):=⟨rfl,rfl,rfl,by decide +kernel,rfl,by decide +kernel,by decide +kernel⟩
theorem ok_turnedf (F : Fun K "_law_turned" "_law_turned" sTurnedF f fd)
    (G:FnOk P w K mg base CX0 4 g gd ["_law_one","_law_other"] (spP K RInner)) (bG:Binds K gd ["_law_one","_law_other"] []) (kG:PySem.W.keepIn K (.ref g)=true) (mG:mg "_law_inner" = some (.ref g))
    (G2:FnOk P w K mg base CX0 2 g2 gd2 ["_law_top","_law_bottom"] (spP K RMk)) (bG2:Binds K gd2 ["_law_top","_law_bottom"] []) (kG2:PySem.W.keepIn K (.ref g2)=true) (mG2:mg "_law_lowest" = some (.ref g2)) (m_tuple:mg "tuple" = none) :
    FnOk P w K mg base CX0 5 f fd ["_law_four","_law_point_here"] (spP K RTurnF):=by
  refine okP F scTurnedF (fun ds d h=>?_) (fun cdv A0 outer s0 H0 E0 hr=>?_)
  . obtain ⟨m,c,a,b,d,e,x,y,z,rfl,_⟩:=h;rfl
  have r:=hr.mono (show 4<=4 by decide)
  have r2:=hr.mono (show 2<=4 by decide)
  refine ⟨_,(zss_cons (zs_asg (zv 0) (zg_tup rfl (zgs_cons (zg_name (i:=2) scTurnedF.nd rfl (Or.inl rfl)) (zgs_cons (zg_name (i:=3) scTurnedF.nd rfl (Or.inl rfl)) (zgs_cons (zg_name (i:=4) scTurnedF.nd rfl (Or.inl rfl)) (zgs_cons (zg_name (i:=5) scTurnedF.nd rfl (Or.inl rfl)) zgs_nil))))))
    (zss_cons (zs_set (i:=6) scTurnedF.nd rfl (Or.inl rfl) (ze_op op_add (ze_op op_add (ze_op op_add (ze_op op_mulB (zv 2) (zv 2)) (ze_op op_mulB (zv 3) (zv 3))) (ze_op op_mulB (zv 4) (zv 4))) (ze_op op_mulB (zv 5) (zv 5))))
    (zss_cons (zs_set (i:=7) scTurnedF.nd rfl (Or.inl rfl) (ze_lst (za_t (ze_tup (za_b (ze_op op_sub (ze_op op_sub (ze_op op_add (ze_op op_mulB (zv 2) (zv 2)) (ze_op op_mulB (zv 3) (zv 3))) (ze_op op_mulB (zv 4) (zv 4))) (ze_op op_mulB (zv 5) (zv 5))) (za_b (ze_op op_mulB ze_int (ze_op op_sub (ze_op op_mulB (zv 3) (zv 4)) (ze_op op_mulB (zv 2) (zv 5)))) (za_b (ze_op op_mulB ze_int (ze_op op_add (ze_op op_mulB (zv 3) (zv 5)) (ze_op op_mulB (zv 2) (zv 4)))) za_nil)))) za_nil)))
    (zss_cons (zs_expr (ze_append (zv 7) (ze_tup (za_b (ze_op op_mulB ze_int (ze_op op_add (ze_op op_mulB (zv 3) (zv 4)) (ze_op op_mulB (zv 2) (zv 5)))) (za_b (ze_op op_sub (ze_op op_add (ze_op op_sub (ze_op op_mulB (zv 2) (zv 2)) (ze_op op_mulB (zv 3) (zv 3))) (ze_op op_mulB (zv 4) (zv 4))) (ze_op op_mulB (zv 5) (zv 5))) (za_b (ze_op op_mulB ze_int (ze_op op_sub (ze_op op_mulB (zv 4) (zv 5)) (ze_op op_mulB (zv 2) (zv 3)))) za_nil))))))
    (zss_cons (zs_expr (ze_append (zv 7) (ze_tup (za_b (ze_op op_mulB ze_int (ze_op op_sub (ze_op op_mulB (zv 3) (zv 5)) (ze_op op_mulB (zv 2) (zv 4)))) (za_b (ze_op op_mulB ze_int (ze_op op_add (ze_op op_mulB (zv 4) (zv 5)) (ze_op op_mulB (zv 2) (zv 3)))) (za_b (ze_op op_add (ze_op op_sub (ze_op op_sub (ze_op op_mulB (zv 2) (zv 2)) (ze_op op_mulB (zv 3) (zv 3))) (ze_op op_mulB (zv 4) (zv 4))) (ze_op op_mulB (zv 5) (zv 5))) za_nil))))))
    (zss_cons (zs_set (i:=8) scTurnedF.nd rfl (Or.inl rfl) (ze_lst za_nil))
    (zss_cons (zs_for PassesOwn.never rfl (zi_list (zv 7)) (zg_name (i:=9) scTurnedF.nd rfl (Or.inl rfl)) (zss_cons (zs_set (i:=10) scTurnedF.nd rfl (Or.inl rfl) (ze_call G r rfl mG kG bG .nil pass0 (za_cons (ze_comp (own:=["_law_number_here"]) scTurnedF rfl ⟨by decide +kernel,rfl,by decide +kernel,by decide +kernel,by decide +kernel,by decide +kernel,by decide +kernel,by decide +kernel,by decide +kernel⟩ (zi_tup (zv 9)) (fun C fp s H nd=>zg_name (i:=0) nd rfl (Or.inl rfl)) (fun C fp s H=>zts_nil) (fun C fp s H=>(ze_tup (za_n (zv 0) (za_i za_nil))))) (za_n (zv 1) za_nil))))
    (zss_one (zs_expr (ze_append (zv 8) (ze_call G2 r2 rfl mG2 kG2 bG2 .nil pass0 (za_s (ze_ix ix_tup (zv 10) ze_int (fun _ _=>rfl)) (za_b (ze_op op_mulB (ze_ix ix_tup (zv 10) ze_int (fun _ _=>rfl)) (zv 6)) za_nil))))))))
    (zss_one (zs_ret (ze_callTy call_tuple_of rfl m_tuple (by rfl) (za_n (zv 8) za_nil))))))))))),fun ds d h=>?_⟩
  obtain ⟨m,c,a,b,d,e,x,y,z,rfl,nz,bd,pb,hm,hc,hmc,rfl⟩:=h
  have bs:∀ n ∈ [a,b,d,e],Bt n 700:=fun n hn=>Bt.up (bd n hn) hm
  have ba:=bs a (by simp)
  have bb:=bs b (by simp)
  have bc:=bs d (by simp)
  have be:=bs e (by simp)
  have lit2:Bt 2 1:=by unfold Bt;decide
  obtain ⟨W1,W2,W3⟩:=rows_btG bd
  have np:=nrm_pos (ns:=[a,b,d,e]) rfl nz
  have bn:=nrm_btG bd
  obtain ⟨qx,qy,qz⟩:=pb.qn
  refine S.letG (d:=tI [a,b,d,e]) (E1.var rfl) Gd.four ?_
  refine S.let1 (s:=.dat (.int (nrm [a,b,d,e]))) (E1.to (E1.add (E1.add (E1.add (E1.mul (E1.var rfl) (E1.var rfl) (ba.mulOk ba)) (E1.mul (E1.var rfl) (E1.var rfl) (bb.mulOk bb))) (E1.mul (E1.var rfl) (E1.var rfl) (bc.mulOk bc))) (E1.mul (E1.var rfl) (E1.var rfl) (be.mulOk be))) (by unfold nrm;rfl)) ?_
  refine S.letO (ds:=[tI (rw1 a b d e)]) (E1.li (ds:=[tI (rw1 a b d e)]) (A1.cons (E1.tu (ds:=(rw1 a b d e).map .int) (by walk_at "au3") rfl (lsz (n:=3) rfl z3)) A1.nil) rfl (lsz (n:=1) rfl z1)) rfl ?_
  refine S.seq (M:=fun τ'=>τ'=[.dat (tI [a,b,d,e]),.dat (ptQ x y z),.dat (.int a),.dat (.int b),.dat (.int d),.dat (.int e),.dat (.int (nrm [a,b,d,e])),.own [tI (rw1 a b d e),tI (rw2 a b d e)],.un,.un,.un]) (S.append1 (i:=7) rfl (E1.tu (ds:=(rw2 a b d e).map .int) (by walk_at "au3") rfl (lsz (n:=3) rfl z3)) rfl (by show 1 < sizeLine;decide) rfl) fun τ' eτ=>?_
  subst eτ
  refine S.seq (M:=fun τ'=>τ'=[.dat (tI [a,b,d,e]),.dat (ptQ x y z),.dat (.int a),.dat (.int b),.dat (.int d),.dat (.int e),.dat (.int (nrm [a,b,d,e])),.own [tI (rw1 a b d e),tI (rw2 a b d e),tI (rw3 a b d e)],.un,.un,.un]) (S.append1 (i:=7) rfl (E1.tu (ds:=(rw3 a b d e).map .int) (by walk_at "au3") rfl (lsz (n:=3) rfl z3)) rfl (by show 2 < sizeLine;decide) rfl) fun τ' eτ=>?_
  subst eτ
  refine S.frz (i:=7) rfl ?_
  refine S.letO (ds:=[]) (E1.li (ds:=[]) A1.nil rfl (lsz (n:=0) rfl z0)) rfl ?_
  refine S.seq (M:=fun τ'=>∃ o1 o2:Sl,τ'=[.dat (tI [a,b,d,e]),.dat (ptQ x y z),.dat (.int a),.dat (.int b),.dat (.int d),.dat (.int e),.dat (.int (nrm [a,b,d,e])),.dat (.list [tI (rw1 a b d e),tI (rw2 a b d e),tI (rw3 a b d e)]),.own [tI (qf (Q1 a b d e x y z)),tI (qf (Q2 a b d e x y z)),tI (qf (Q3 a b d e x y z))],o1,o2]) ?_ fun τ' ⟨o1,o2,eτ⟩=>?_
  . refine S.for (Wk.lst (ds:=[tI (rw1 a b d e),tI (rw2 a b d e),tI (rw3 a b d e)]) (E1.var rfl)) (fun i τ'=>∃ o1 o2:Sl,τ'=[.dat (tI [a,b,d,e]),.dat (ptQ x y z),.dat (.int a),.dat (.int b),.dat (.int d),.dat (.int e),.dat (.int (nrm [a,b,d,e])),.dat (.list [tI (rw1 a b d e),tI (rw2 a b d e),tI (rw3 a b d e)]),.own ([tI (qf (Q1 a b d e x y z)),tI (qf (Q2 a b d e x y z)),tI (qf (Q3 a b d e x y z))].take i),o1,o2]) ⟨_,_,rfl⟩ (fun i dd τ1 hd ⟨o1,o2,e1⟩=>?_) (fun τ1 h=>h)
    subst e1
    have cN:((nrm [a,b,d,e]:Int):Rat)=N4 a b d e:=by unfold nrm N4;push_cast;rfl
    have nN:(N4 a b d e:Rat) ≠ 0:=by rw [<- cN];exact cast_ne (by omega)
    obtain ⟨r1,r2,r3,Z,q,rfl,W,hz,eq,hq⟩:∃ (r1 r2 r3:Int) (Z q:Rat),dd=tI [r1,r2,r3]/\(∀ n ∈ [r1,r2,r3],Bt n (2 * m + 3))/\Z=(r1:Rat) * x + r2 * y + r3 * z/\q=Z / N4 a b d e/\[tI (qf (Q1 a b d e x y z)),tI (qf (Q2 a b d e x y z)),tI (qf (Q3 a b d e x y z))].take (i + 1)=[tI (qf (Q1 a b d e x y z)),tI (qf (Q2 a b d e x y z)),tI (qf (Q3 a b d e x y z))].take i ++ [tI (qf q)]:=by
      rcases get3 hd with ⟨rfl,rfl⟩ | ⟨rfl,rfl⟩ | ⟨rfl,rfl⟩
      . exact ⟨_,_,_,_,_,rfl,W1,rfl,rfl,by show _=[] ++ _;unfold Q1 K0.R1;push_cast;rfl⟩
      . exact ⟨_,_,_,_,_,rfl,W2,rfl,rfl,by show _=[_] ++ _;unfold Q2 K0.R2;push_cast;rfl⟩
      . exact ⟨_,_,_,_,_,rfl,W3,rfl,rfl,by show _=[_,_] ++ _;unfold Q3 K0.R3;push_cast;rfl⟩
    have i3:i < 3:=by rcases get3 hd with ⟨rfl,_⟩ | ⟨rfl,_⟩ | ⟨rfl,_⟩ <;> decide
    have w1:=W r1 (by simp)
    have w2:=W r2 (by simp)
    have w3:=W r3 (by simp)
    refine ⟨_,Gd.name,?_⟩
    have one1:Bt 1 0:=by unfold Bt;decide
    have fw:∀ n:Int,Bt n (2 * m + 3)->FwOk (2 * m + 3) 0 ⟨n,1⟩:=fun n h=>⟨(by decide:(0:Int) < 1),h,one1⟩
    have fq:∀ t:Rat,QN c t->FwOk c c ⟨t.num,t.den⟩:=fun t h=>⟨den_pos t,h.1,h.2⟩
    have vq:∀ t:Rat,(Fw.mk t.num t.den).q=t:=fun t=>qf_val t
    have vn:∀ n:Int,(Fw.mk n 1).q=(n:Rat):=fun n=>by show qv n 1=_;unfold qv;grind
    have qZ:QN 4000 Z:=by
      rw [hz]
      obtain ⟨C0,T1,T2,T3,h0,h1,h2,h3,h4,h5,h6,h7⟩:=pb
      have e0:(r1:Rat) * x + r2 * y + r3 * z=qv (r1 * T1 + r2 * T2 + r3 * T3) C0:=by
        rw [<- h5, <- h6, <- h7]
        have:=cast_ne (show C0 ≠ 0 by omega)
        unfold qv;push_cast;grind
      rw [e0]
      exact QN.of h0 ((((w1.mul h2).add (w2.mul h3)).add ((w3.mul h4).up (by omega))).up (by omega)) (h1.up (by omega))
    refine S.let1 (s:=.dat (tI (qf Z))) (E1.to (E1.call (R:=RInner) (ds:=[.list [tI [r1,1],tI [r2,1],tI [r3,1]],ptQ x y z]) (A1.cons (E1.frz (E1.comp3 (d1:=.int r1) (d2:=.int r2) (d3:=.int r3) (Wk.tup (ds:=[.int r1,.int r2,.int r3]) (E1.var rfl)) (E1.tu (ds:=[_,.int 1]) (A1.cons (E1.var rfl) (A1.cons E1.int A1.nil)) rfl (lsz (n:=2) rfl z2)) (E1.tu (ds:=[_,.int 1]) (A1.cons (E1.var rfl) (A1.cons E1.int A1.nil)) rfl (lsz (n:=2) rfl z2)) (E1.tu (ds:=[_,.int 1]) (A1.cons (E1.var rfl) (A1.cons E1.int A1.nil)) rfl (lsz (n:=2) rfl z2)))) (A1.cons (E1.var rfl) A1.nil)) ⟨true,⟨r1,1⟩,⟨r2,1⟩,⟨r3,1⟩,⟨x.num,x.den⟩,⟨y.num,y.den⟩,⟨z.num,z.den⟩,2 * m + 3,0,c,c,rfl,fw _ w1,fw _ w2,fw _ w3,fq _ qx,fq _ qy,fq _ qz,by omega,by omega,rfl⟩) (by rw [hz,vq,vq,vq,vn,vn,vn])) ?_
    refine S.append1 (i:=8) rfl (d:=tI (qf q)) (E1.to (E1.call (R:=RMk) (ds:=[.int Z.num,.int (Z.den * nrm [a,b,d,e])]) (A1.cons (E1.ixT (ds:=[.int Z.num,.int Z.den]) (E1.var rfl) E1.int rfl) (A1.cons (E1.mul (E1.ixT (ds:=[.int Z.num,.int Z.den]) (E1.var rfl) E1.int rfl) (E1.var rfl) (qZ.2.mulOk bn (by decide) (by omega))) A1.nil)) ⟨_,_,rfl,Int.mul_pos (den_pos Z) np,(qZ.2.mul bn).up (by omega),rfl⟩) ?_) noL_tI (by rw [List.length_take];exact Nat.lt_of_le_of_lt (Nat.min_le_right _ _) (by show 3 < sizeLine;decide)) ⟨.dat (tI [r1,r2,r3]),.dat (tI (qf Z)),?_⟩
    . rw [fr_qf (Int.mul_pos (den_pos Z) np)]
      have e0:qv Z.num (Z.den * nrm [a,b,d,e])=q:=by
        rw [eq, <- cN]
        have h1:=qf_val Z
        unfold qv at h1 ⊢
        have h2:((nrm [a,b,d,e]:Int):Rat) ≠ 0:=cast_ne (by omega)
        have h3:(((Z.den:Int)):Rat) ≠ 0:=cast_ne (by have:=den_pos Z;omega)
        push_cast
        push_cast at h1 h3
        rw [<- h1]
        grind
      rw [e0]
    . rw [hq]
      rfl
  subst eτ
  exact S.ret1 (s:=.dat (ptQ (Q1 a b d e x y z) (Q2 a b d e x y z) (Q3 a b d e x y z))) (E1.tupleL (A1.cons (E1.varO rfl) A1.nil)) ⟨rfl,rfl⟩
theorem scPoint9:FnScope ["_law_purse_here","_law_point_here","_law_k","_law_bottom"] ["_law_purse_here"] (defScope sPoint9):=⟨rfl,rfl,rfl,by decide +kernel,rfl,by decide +kernel,by decide +kernel⟩
theorem ok_point9 (F:Fun K "_law_point" "_law_point" sPoint9 f fd)
    (G:FnOk P w K mg base CX0 1 g gd ["_law_purse_here","_law_out_of"] spDraw) (bG:Binds K gd ["_law_purse_here","_law_out_of"] []) (kG:PySem.W.keepIn K (.ref g)=true) (mG:mg "_law_draw" = some (.ref g))
    (G2:FnOk P w K mg base CX0 2 g2 gd2 ["_law_top","_law_bottom"] (spP K RMk)) (bG2:Binds K gd2 ["_law_top","_law_bottom"] []) (kG2:PySem.W.keepIn K (.ref g2)=true) (mG2:mg "_law_lowest" = some (.ref g2))
    (G3:FnOk P w K mg base CX0 2 g3 gd3 ["_law_purse_here"] (spU K (RNum (10 ^ 9)))) (bG3:Binds K gd3 ["_law_purse_here"] []) (kG3:PySem.W.keepIn K (.ref g3)=true) (mG3:mg "_law_number" = some (.ref g3)) (m_range:mg "range" = none) (m_tuple:mg "tuple" = none) :
    FnOk P w K mg base CX0 3 f fd ["_law_purse_here"] (spU K RPt9):=by
  refine okU F scPoint9 (fun ds d h=>?_) (fun cdv A0 outer s0 H0 E0 hr=>?_)
  . obtain ⟨rfl,_⟩:=h;rfl
  have r:=hr.mono (show 1<=2 by decide)
  have r2:=hr.mono (show 2<=2 by decide)
  have r3:=hr.mono (show 2<=2 by decide)
  refine ⟨_,(zss_cons (zs_set (i:=1) scPoint9.nd rfl (Or.inl rfl) (ze_lst za_nil))
    (zss_cons (zs_for PassesOwn.never rfl (zi_range1 rfl m_range (za_i za_nil)) (zg_name (i:=2) scPoint9.nd rfl (Or.inl rfl)) (zss_cons (zs_set (i:=3) scPoint9.nd rfl (Or.inl rfl) (ze_ix ix_list (ze_lst (za_i (za_i (za_i (za_i (za_b (ze_op op_add ze_int (ze_call G r rfl mG kG bG .nil pass0 (za_n (zv 0) (za_i za_nil)))) (za_b (ze_op op_add ze_int (ze_call G r rfl mG kG bG .nil pass0 (za_n (zv 0) (za_i za_nil)))) za_nil))))))) (ze_call G r rfl mG kG bG .nil pass0 (za_n (zv 0) (za_i za_nil))) pix_call) sw_sub)
    (zss_one (zs_expr (ze_append (zv 1) (ze_call G2 r2 rfl mG2 kG2 bG2 .nil pass0 (za_c (ze_call G3 r3 rfl mG3 kG3 bG3 .nil pass0 (za_n (zv 0) za_nil)) (za_n (zv 3) za_nil))))))))
    (zss_one (zs_ret (ze_callTy call_tuple_of rfl m_tuple (by rfl) (za_n (zv 1) za_nil)))))),fun q0 ds C h=>?_⟩
  obtain ⟨rfl,rfl⟩:=h
  refine S.letO (ds:=[]) (E1.li (ds:=[]) A1.nil rfl (lsz (n:=0) rfl z0)) rfl ?_
  refine S.seq (M:=fun τ'=>∃ (ws:List Rat) (o1 o2:Sl),τ'=[.pu,.own (ws.map fun w=>tI (qf w)),o1,o2]/\ws.length=3/\∀ w ∈ ws,∃ t b:Int,w=qv t b/\0 < b/\Bt t 30/\Bt b 7) ?_ fun τ' ⟨ws,o1,o2,eτ,l,hw⟩=>?_
  . refine S.for (Wk.r3 (A1.cons E1.int A1.nil)) (fun i τ'=>∃ (ws:List Rat) (o1 o2:Sl),τ'=[.pu,.own (ws.map fun w=>tI (qf w)),o1,o2]/\ws.length=i/\∀ w ∈ ws,∃ t b:Int,w=qv t b/\0 < b/\Bt t 30/\Bt b 7) ⟨[],_,_,rfl,rfl,fun w hw=>by cases hw⟩ (fun i d τ1 hd ⟨ws,o1,o2,e1,l,hw⟩=>?_) (fun τ1 h=>h)
    subst e1
    have hi:i < 3:=by rcases get3 hd with ⟨rfl,_⟩ | ⟨rfl,_⟩ | ⟨rfl,_⟩ <;> decide
    refine ⟨_,Gd.name,?_⟩
    refine S.letC (EI.pickC (P:=fun n=>0 < n/\n<=99) (EL.li (AL.cons (EI.of E1.int (by decide)) (AL.cons (EI.of E1.int (by decide)) (AL.cons (EI.of E1.int (by decide)) (AL.cons (EI.of E1.int (by decide)) (AL.cons (EI.mono (EI.op EI.lit (EI.draw (A1.cons (E1.varP rfl) (A1.cons E1.int A1.nil)) (by decide:(0:Int) < 12) (by decide))) fun k ⟨i,j,hi,hj,ek⟩=>by omega) (AL.cons (EI.mono (EI.op EI.lit (EI.draw (A1.cons (E1.varP rfl) (A1.cons E1.int A1.nil)) (by decide:(0:Int) < 99) (by decide))) fun k ⟨i,j,hi,hj,ek⟩=>by omega) AL.nil)))))) (by show 6<=sizeLine;decide)) (EI.draw (A1.cons (E1.varP rfl) (A1.cons E1.int A1.nil)) (by decide:(0:Int) < 6) (by decide)) fun d h=>h) (fun s ⟨_,e,_⟩=>by rw [e];rfl) fun s ⟨bo,es,b0,b1⟩=>?_
    subst es
    refine S.append (i:=1) (C:=fun d=>∃ w,d=tI (qf w)/\∃ t b:Int,w=qv t b/\0 < b/\Bt t 30/\Bt b 7) rfl (fun W L σ H Q rs o q=>?_) (by rw [List.length_map,l];exact Nat.lt_trans hi (by decide)) ?_
    . refine (E.callCQ (R:=RMk) (C:=fun ss=>∃ t:Int,ss=[.dat (.int t),.dat (.int bo)]/\t.natAbs<=(10 ^ 9)) (CD:=fun d=>∃ w,d=tI (qf w)/\∃ t b:Int,w=qv t b/\0 < b/\Bt t 30/\Bt b 7) (A.cons (C1:=fun s=>∃ n:Int,s = .dat (.int n)/\n.natAbs<=(10 ^ 9)) (E.mono (E.callU (R:=RNum (10 ^ 9)) (ds:=[]) (A1.cons (E1.varP rfl) A1.nil) ⟨rfl,rfl⟩) fun s ⟨d,e,n,e2,hn⟩=>⟨n,by rw [e,e2],hn⟩) (fun s _=>A1.cons (E1.var rfl) A1.nil) (fun s ss ⟨n,es,hn⟩ ess=>⟨n,by rw [es, <- ess],hn⟩)) (fun ss ⟨t,ess,ht⟩=>⟨[.int t,.int bo],tI (fr t bo),by rw [ess];rfl,⟨t,bo,rfl,b0,by unfold Bt;omega,rfl⟩,qv t bo,by rw [fr_qf b0],t,bo,rfl,b0,Nat.le_trans ht (by decide),by unfold Bt;omega⟩)) W L σ H Q rs o fun v H' s ⟨d,es,w,ed,hw⟩=>q v H' s ⟨d,es,by rw [ed];exact noL_tI,w,ed,hw⟩
    . rintro d ⟨w,rfl,hn⟩
      refine ⟨ws ++ [w],_,_,by rw [List.map_append];rfl,by simp [l],fun v hv=>?_⟩
      rcases List.mem_append.mp hv with h | h
      . exact hw v h
      . rw [List.mem_singleton.mp h];exact hn
  subst eτ
  obtain ⟨x,y,z,rfl⟩:∃ x y z,ws=[x,y,z]:=by
    match ws,l with
    | [x,y,z],_=>exact ⟨x,y,z,rfl⟩
  exact S.ret1 (s:=.dat (ptQ x y z)) (E1.tupleL (A1.cons (E1.varO rfl) A1.nil)) ⟨_,⟨x,y,z,rfl,pb_of3 (hw x (by simp)) (hw y (by simp)) (hw z (by simp)) (by decide)⟩,rfl,rfl⟩
theorem scSet9:FnScope ["_law_setting_here"] ["_law_setting_here"] (defScope sSet9):=⟨rfl,rfl,rfl,by decide +kernel,rfl,by decide +kernel,by decide +kernel⟩
theorem ok_set9 (F:Fun K "_law_setting" "_law_setting" sSet9 f fd)
    (G:FnOk P w K mg base CX0 2 g gd ["_law_four"] (spP K RPl)) (bG:Binds K gd ["_law_four"] []) (kG:PySem.W.keepIn K (.ref g)=true) (mG:mg "_law_plain" = some (.ref g)) :
    FnOk P w K mg base CX0 3 f fd ["_law_setting_here"] (spP K RSet9):=by
  refine okP F scSet9 (fun ds d h=>?_) (fun cdv A0 outer s0 H0 E0 hr=>?_)
  . obtain ⟨k,l,_,_,rfl,_⟩:=h;rfl
  have r:=hr.mono (show 2<=2 by decide)
  refine ⟨_,(zss_one (zs_ret (ze_revTC (ze_call G r rfl mG kG bG .nil pass0 (za_s (ze_revT (zv 0) (ze_un un_neg ze_int)) za_nil)) (ze_un un_neg ze_int)))),fun ds d h=>?_⟩
  obtain ⟨k,l,k',l',rfl,nz,bs,eps,rfl⟩:=h
  have nz2:∃ n ∈ [l,k],n ≠ 0:=by rcases nz with h | h;exact ⟨k,by simp,h⟩;exact ⟨l,by simp,h⟩
  refine S.ret1 (s:=.dat (tI [k',l'])) (E1.to (E1.revT (ds:=(pl [l,k]).map .int) (E1.call (R:=RPl) (ds:=[tI [l,k]]) (A1.cons (E1.revT (ds:=[.int k,.int l]) (E1.var rfl) (E1.neg E1.int)) A1.nil) ⟨[l,k],rfl,by show 2<=1000;decide,nz2,sm_bd31 bs,rfl⟩) (E1.neg E1.int)) ?_) ⟨rfl,noL_tI⟩
  rw [<- List.map_reverse, <- ps_eq,eps]
theorem scJoints:FnScope ["_law_purse_here","_law_most","_law_rows","_law_k","_law_way","_law_arm","_law_times"] ["_law_purse_here","_law_most"] (defScope sJoints):=⟨rfl,rfl,rfl,by decide +kernel,rfl,by decide +kernel,by decide +kernel⟩
theorem ok_joints (F : Fun K "_law_joints" "_law_joints" sJoints f fd)
    (G:FnOk P w K mg base CX0 1 g gd ["_law_purse_here","_law_out_of"] spDraw) (bG:Binds K gd ["_law_purse_here","_law_out_of"] []) (kG:PySem.W.keepIn K (.ref g)=true) (mG:mg "_law_draw" = some (.ref g))
    (G2:FnOk P w K mg base CX0 3 g2 gd2 ["_law_purse_here","_law_many"] (spU K RRow9)) (bG2:Binds K gd2 ["_law_purse_here","_law_many"] []) (kG2:PySem.W.keepIn K (.ref g2)=true) (mG2:mg "_law_row" = some (.ref g2))
    (G3:FnOk P w K mg base CX0 3 g3 gd3 ["_law_purse_here"] (spU K RPt9)) (bG3:Binds K gd3 ["_law_purse_here"] []) (kG3:PySem.W.keepIn K (.ref g3)=true) (mG3:mg "_law_point" = some (.ref g3))
    (G4:FnOk P w K mg base CX0 3 g4 gd4 ["_law_setting_here"] (spP K RSet9)) (bG4:Binds K gd4 ["_law_setting_here"] []) (kG4:PySem.W.keepIn K (.ref g4)=true) (mG4:mg "_law_setting" = some (.ref g4)) (m_range:mg "range" = none) (m_tuple:mg "tuple" = none) :
    FnOk P w K mg base CX0 4 f fd ["_law_purse_here","_law_most"] (spU K RJoints):=by
  refine okU F scJoints (fun ds d h=>?_) (fun cdv A0 outer s0 H0 E0 hr=>?_)
  . obtain ⟨n,rfl,_⟩:=h;rfl
  have r:=hr.mono (show 1<=3 by decide)
  have r2:=hr.mono (show 3<=3 by decide)
  have r3:=hr.mono (show 3<=3 by decide)
  have r4:=hr.mono (show 3<=3 by decide)
  refine ⟨_,(zss_cons (zs_set (i:=2) scJoints.nd rfl (Or.inl rfl) (ze_lst za_nil))
    (zss_cons (zs_for PassesOwn.never rfl (zi_range1 rfl m_range (za_c (ze_call G r rfl mG kG bG .nil pass0 (za_n (zv 0) (za_b (ze_op op_add (zv 1) ze_int) za_nil))) za_nil)) (zg_name (i:=3) scJoints.nd rfl (Or.inl rfl)) (zss_cons (zs_set (i:=4) scJoints.nd rfl (Or.inl rfl) (ze_call G2 r2 rfl mG2 kG2 bG2 .nil pass0 (za_n (zv 0) (za_i za_nil))))
    (zss_cons (zs_set (i:=5) scJoints.nd rfl (Or.inl rfl) (ze_call G3 r3 rfl mG3 kG3 bG3 .nil pass0 (za_n (zv 0) za_nil)))
    (zss_cons (zs_if (zt_cmpR op_eq (ze_call G r rfl mG kG bG .nil pass0 (za_n (zv 0) (za_i za_nil))) ze_int (nomark _)) (zss_cons (zs_set (i:=6) scJoints.nd rfl (Or.inr rfl) (ze_op op_sub (ze_call G r rfl mG kG bG .nil pass0 (za_n (zv 0) (za_i za_nil))) ze_int))
    (zss_one (zs_set (i:=5) scJoints.nd rfl (Or.inl rfl) (ze_callTy call_tuple_of rfl m_tuple (by rfl) (za_cons (ze_comp (own:=["_law_number_here"]) scJoints rfl ⟨by decide +kernel,rfl,by decide +kernel,by decide +kernel,by decide +kernel,by decide +kernel,by decide +kernel,by decide +kernel,by decide +kernel⟩ (zi_tup (zv 4)) (fun C fp s H nd=>zg_name (i:=0) nd rfl (Or.inl rfl)) (fun C fp s H=>zts_nil) (fun C fp s H=>(ze_tup (za_b (ze_op op_mulB (zv 7) (zv 0)) (za_i za_nil))))) za_nil))))) zss_nil)
    (zss_one (zs_expr (ze_append (zv 2) (ze_tup (za_n (zv 4) (za_n (zv 5) (za_c (ze_call G4 r4 rfl mG4 kG4 bG4 .nil pass0 (za_c (ze_call G2 r2 rfl mG2 kG2 bG2 .nil pass0 (za_n (zv 0) (za_i za_nil))) za_nil)) za_nil)))))))))))
    (zss_one (zs_ret (zv 2))))),fun q0 ds C h=>?_⟩
  obtain ⟨n,rfl,hn,rfl⟩:=h
  refine S.letO (ds:=[]) (E1.li (ds:=[]) A1.nil rfl (lsz (n:=0) rfl z0)) rfl ?_
  refine S.seq (M:=fun τ'=>∃ (js:List Jt) (o3 o4 o5 o6:Sl),τ'=[.pu,.dat (.int n),.own (js.map Jt.d),o3,o4,o5,o6]/\Js js/\js.length<=n) ?_ fun τ' ⟨js,o3,o4,o5,o6,eτ,hJ,hl⟩=>?_
  . refine S.forC (WkC.rng (EI.draw (m:=(n:Int) + 1) (A1.cons (E1.varP rfl) (A1.cons (E1.add (E1.var rfl) E1.int) A1.nil)) (by omega) (by omega)) (fun j h=>by omega)) fun rs ⟨m,hm,er⟩=>⟨fun i τ'=>∃ (js:List Jt) (o3 o4 o5 o6:Sl),τ'=[.pu,.dat (.int n),.own (js.map Jt.d),o3,o4,o5,o6]/\Js js/\js.length=i,⟨[],_,_,_,_,rfl,js_nil,rfl⟩,fun i d τ1 hi ⟨js,o3,o4,o5,o6,e1,hJ,hl⟩=>?_,fun τ1 ⟨js,o3,o4,o5,o6,e1,hJ,hl⟩=>⟨js,o3,o4,o5,o6,e1,hJ,by subst er;rw [rangeD_len] at hl;omega⟩⟩
    subst e1
    have hi6:i < n:=by subst er;have:=(rangeD_get hi).1;omega
    refine ⟨_,Gd.name,?_⟩
    refine S.letC (E.callU (R:=RRow9) (ds:=[.int 3]) (A1.cons (E1.varP rfl) (A1.cons E1.int A1.nil)) (.inl ⟨rfl,rfl⟩)) (fun s ⟨_,e,_⟩=>by rw [e];rfl) fun s ⟨_,es,x,y,z,e2,nw,bw⟩=>?_
    subst es e2
    have bx:Bt x 30:=bw x (by simp)
    have by':Bt y 30:=bw y (by simp)
    have bz:Bt z 30:=bw z (by simp)
    refine S.letC (E.callU (R:=RPt9) (ds:=[]) (A1.cons (E1.varP rfl) A1.nil) ⟨rfl,rfl⟩) (fun s ⟨_,e,_⟩=>by rw [e];rfl) fun s ⟨_,es,p1,p2,p3,e2,pb⟩=>?_
    subst es e2
    refine S.seq (M:=fun τ'=>∃ (v:V3) (o6:Sl),τ'=[.pu,.dat (.int n),.own (js.map Jt.d),.dat d,.dat (tI [x,y,z]),.dat (pQ v),o6]/\PB3 60 v) ?_ fun τ' ⟨v,o6,eτ,pv⟩=>?_
    . refine S.iff (T.eqI (EI.draw (A1.cons (E1.varP rfl) (A1.cons E1.int A1.nil)) (by decide:(0:Int) < 4) (by decide)) EI.lit) (fun _=>?_) (fun _=>S.next ⟨(p1,p2,p3),_,rfl,PB.up pb (by decide)⟩)
      refine S.letC (EI.mono (P':=fun t => -2<=t/\t<=2) (EI.op (EI.draw (A1.cons (E1.varP rfl) (A1.cons E1.int A1.nil)) (by decide:(0:Int) < 5) (by decide)) EI.lit) fun k ⟨i,j,hi,hj,ek⟩=>by omega) (fun s ⟨_,e,_⟩=>by rw [e];rfl) fun s ⟨t,es,t0,t1⟩=>?_
      subst es
      have bt:Bt t 2:=by unfold Bt;omega
      exact S.asg1 (s:=.dat (pQ ((t * x:Int),(t * y:Int),(t * z:Int)))) (E1.tupleL (A1.cons (E1.vwo (E1.comp3 (Wk.tup (ds:=[.int x,.int y,.int z]) (E1.var rfl)) (E1.tu (ds:=[.int (t * x),.int 1]) (A1.cons (E1.mul (E1.var rfl) (E1.var rfl) (bt.mulOk bx)) (A1.cons E1.int A1.nil)) rfl (lsz (n:=2) rfl z2)) (E1.tu (ds:=[.int (t * y),.int 1]) (A1.cons (E1.mul (E1.var rfl) (E1.var rfl) (bt.mulOk by')) (A1.cons E1.int A1.nil)) rfl (lsz (n:=2) rfl z2)) (E1.tu (ds:=[.int (t * z),.int 1]) (A1.cons (E1.mul (E1.var rfl) (E1.var rfl) (bt.mulOk bz)) (A1.cons E1.int A1.nil)) rfl (lsz (n:=2) rfl z2)))) A1.nil)) ⟨((t * x:Int),(t * y:Int),(t * z:Int)),_,rfl,PB.int (c:=60) ((bt.mul bx).up (by decide)) ((bt.mul by').up (by decide)) ((bt.mul bz).up (by decide))⟩
    subst eτ
    refine S.append (i:=2) (C:=fun d=>∃ j:Jt,d=j.d/\JtOk j) rfl (E.mono (E.tupA (C:=fun es=>∃ k l:Int,es=[tI [x,y,z],pQ v,tI [k,l]]/\(k ≠ 0\/l ≠ 0)/\Bd (2 ^ 31) [k,l]) (A.cons (C1:=fun s=>s = .dat (tI [x,y,z])) (E.mono (E1.var rfl) fun s e=>e.symm) (fun s _=>A.cons (C1:=fun s=>s = .dat (pQ v)) (E.mono (E1.var rfl) fun s e=>e.symm) (fun s _=>A.cons (C1:=fun s=>∃ k l:Int,s = .dat (tI [k,l])/\(k ≠ 0\/l ≠ 0)/\Bd (2 ^ 31) [k,l]) (E.mono (E.callCQ (R:=RSet9) (C:=fun ss=>∃ k l:Int,ss=[.dat (tI [k,l])]/\(k ≠ 0\/l ≠ 0)/\Bd (2 ^ 31) [k,l]) (CD:=fun d=>∃ k l:Int,d=tI [k,l]/\(k ≠ 0\/l ≠ 0)/\Bd (2 ^ 31) [k,l]) (A.cons (C1:=fun s=>∃ k l:Int,s = .dat (tI [k,l])/\(k ≠ 0\/l ≠ 0)/\Bd (2 ^ 31) [k,l]) (E.mono (E.callU (R:=RRow9) (ds:=[.int 2]) (A1.cons (E1.varP rfl) (A1.cons E1.int A1.nil)) (.inr ⟨rfl,rfl⟩)) fun s ⟨d,es,a,b,ed,nz,bd⟩=>⟨a,b,by rw [es,ed],by obtain ⟨n,hn,h0⟩:=nz;rcases (by simpa using hn:n=a\/n=b) with rfl | rfl;exact .inl h0;exact .inr h0,bd_mono bd (by decide)⟩) (fun s _=>A1.nil) (fun s ss ⟨k,l,es,h1,h2⟩ ess=>⟨k,l,by rw [es, <- ess],h1,h2⟩)) (fun ss ⟨k,l,ess,h1,h2⟩=>by
        obtain ⟨k',l',e,g1,g2⟩:=ps_two h1 h2
        exact ⟨[tI [k,l]],tI [k',l'],by rw [ess];rfl,⟨k,l,k',l',rfl,h1,h2,e,rfl⟩,k',l',rfl,g1,g2⟩)) fun s ⟨d,es,k,l,ed,h1,h2⟩=>⟨k,l,by rw [es,ed],h1,h2⟩) (fun s _=>A1.nil) (C:=fun ss=>∃ k l:Int,ss=[.dat (tI [k,l])]/\(k ≠ 0\/l ≠ 0)/\Bd (2 ^ 31) [k,l]) (fun s ss ⟨k,l,es,h1,h2⟩ ess=>⟨k,l,by rw [es, <- ess],h1,h2⟩)) (C:=fun ss=>∃ k l:Int,ss=[.dat (pQ v),.dat (tI [k,l])]/\(k ≠ 0\/l ≠ 0)/\Bd (2 ^ 31) [k,l]) (fun s ss es ⟨k,l,ess,h1,h2⟩=>⟨k,l,by rw [es,ess],h1,h2⟩)) (fun s ss es ⟨k,l,ess,h1,h2⟩=>⟨[tI [x,y,z],pQ v,tI [k,l]],by rw [es,ess];rfl,by show 3<=1000;decide,k,l,rfl,h1,h2⟩))) fun s ⟨es,ess,k,l,ee,h1,h2⟩=>⟨.tuple es,ess,by rw [ee];exact noL_jt ⟨x,y,z,v,k,l⟩,⟨x,y,z,v,k,l⟩,by rw [ee];rfl,⟨nw,bd_mono bw (by decide),pv,h1,h2⟩⟩) (by rw [List.length_map,hl];exact Nat.lt_of_lt_of_le (show i < 7 by omega) (by decide)) ?_
    rintro d ⟨j,rfl,hj⟩
    refine ⟨js ++ [j],_,_,_,_,by rw [List.map_append];rfl,fun k hk=>?_,by rw [List.length_append,hl];rfl⟩
    rcases List.mem_append.mp hk with h | h
    . exact hJ k h
    . rw [List.mem_singleton.mp h];exact hj
  subst eτ
  exact S.retO (i:=2) rfl ⟨_,⟨js,rfl,hJ,hl⟩,rfl,noLs_all fun x hx=>by obtain ⟨j,_,rfl⟩:=List.mem_map.mp hx;exact noL_jt j⟩
theorem scChainF:FnScope ["_law_rows","_law_chain_here","_law_way","_law_arm","_law_setting_here"] ["_law_rows"] (defScope sChainF):=⟨rfl,rfl,rfl,by decide +kernel,rfl,by decide +kernel,by decide +kernel⟩
theorem ok_chainf (F : Fun K "_law_chain" "_law_chain" sChainF f fd) (ocChain : ObC K cChain)
    (J1:FnOk P w K mg base CX0 2 j1 jd1 ["self"] (spIn K cChain RCIni)) (bJ1:Binds K jd1 ["self"] []) (mJ1:Mk K cChain j1)
    (J2:FnOk P w K mg base CX0 4 j2 jd2 ["self","way","arm","setting"] (spMw K cChain RAdd)) (bJ2:Binds K jd2 ["self","way","arm","setting"] []) (mJ2:Meth K cChain "add" j2) (m_Chain:mg "Chain" = some (.ref cChain)) :
    FnOk P w K mg base CX0 5 f fd ["_law_rows"] (spO K (RChainO cChain)):=by
  refine okO F scChainF (fun ds d h=>?_) (fun cdv A0 outer s0 H0 E0 hr=>?_)
  . obtain ⟨js,rfl,_⟩:=h;rfl
  have rj1:=hr.mono (show 3<=4 by decide)
  have rj2:=hr.mono (show 4<=4 by decide)
  refine ⟨_,(zss_cons (zs_set (i:=1) scChainF.nd rfl (Or.inl rfl) (ze_make0 mJ1 J1 rj1 rfl m_Chain bJ1 .nil pass0))
    (zss_cons (zs_for PassesOwn.never rfl (zi_list (zv 0)) (zg_tup rfl (zgs_cons (zg_name (i:=2) scChainF.nd rfl (Or.inl rfl)) (zgs_cons (zg_name (i:=3) scChainF.nd rfl (Or.inl rfl)) (zgs_cons (zg_name (i:=4) scChainF.nd rfl (Or.inl rfl)) zgs_nil)))) (zss_one (zs_expr (ze_meth (zv 1) ocChain.cls mJ2 J2 rj2 bJ2 .nil pass0 (za_n (zv 2) (za_n (zv 3) (za_n (zv 4) za_nil)))))))
    (zss_one (zs_ret (zv 1))))),fun ds C h=>?_⟩
  obtain ⟨js,rfl,hJ,h6,rfl⟩:=h
  refine S.letTC (C:=fun o=>∃ a,o=obO a cChain [chD []] []) (E.mono (E.make (R:=RCIni) ⟨rfl,rfl,rfl⟩) fun s ⟨a,e⟩=>⟨_,e,obO_self,a,rfl⟩) fun o ⟨a,e⟩=>?_
  subst e
  refine S.seq (M:=fun τ'=>∃ (dn:List Dat) (ks:List Jt) (o2 o3 o4:Sl),τ'=[.dat (.list (js.map Jt.d)),.dt (obO a cChain dn []),o2,o3,o4]/\ChA dn ks/\dn.length<=7/\Tog ks js) ?_ fun τ' ⟨dn,ks,o2,o3,o4,eτ,hc,hl,tg⟩=>?_
  . refine S.for (Wk.lst (E1.var rfl)) (fun i τ'=>∃ (dn:List Dat) (ks:List Jt) (o2 o3 o4:Sl),τ'=[.dat (.list (js.map Jt.d)),.dt (obO a cChain dn []),o2,o3,o4]/\ChA dn ks/\dn.length=i + 1/\Tog ks (js.take i)) ⟨[chD []],[],_,_,_,rfl,⟨⟨[],rfl⟩,js_nil,Nat.zero_le _⟩,rfl,rfl⟩ (fun i d τ1 hi ⟨dn,ks,o2,o3,o4,e1,hc,hl,tg⟩=>?_) (fun τ1 ⟨dn,ks,o2,o3,o4,e1,hc,hl,tg⟩=>⟨dn,ks,o2,o3,o4,e1,hc,by rw [hl,List.length_map];omega,by rw [List.length_map,List.take_length] at tg;exact tg⟩)
    subst e1
    rw [List.getElem?_map] at hi
    cases e:js[i]? with
    | none=>rw [e] at hi;cases hi
    | some j =>
      rw [e] at hi;cases hi
      have hj:=hJ j (List.mem_of_getElem? e)
      have hi':i < js.length:=(List.getElem?_eq_some_iff.mp e).1
      have lk:ks.length=i:=by rw [tg.len,List.length_take];omega
      obtain ⟨k',l',eps,ns,bs⟩:=ps_two hj.ns hj.bs
      have hj':JtOk { j with k:=k',l:=l' }:=⟨hj.nw,hj.bw,hj.pa,ns,bs⟩
      refine ⟨_,Gd.tri,?_⟩
      refine S.callMw1 (i:=1) (ds:=[tI [j.x,j.y,j.z],pQ j.a,tI [j.k,j.l]]) rfl (A1.cons (E1.var rfl) (A1.cons (E1.var rfl) (A1.cons (E1.var rfl) A1.nil))) ⟨ks,{ j with k:=k',l:=l' },j.k,j.l,hc,by omega,by omega,rfl,hj.ns,hj.bs,eps,rfl,rfl⟩ ⟨_,ks ++ [{ j with k:=k',l:=l' }],_,_,_,rfl,⟨⟨dn,rfl⟩,fun x hx=>?_,by rw [List.length_append,lk];show i + 1<=6;omega⟩,by rw [List.length_append,hl];rfl,?_⟩
      . rcases List.mem_append.mp hx with h | h
        . exact hc.2.1 x h
        . rw [List.mem_singleton.mp h];exact hj'
      . unfold Tog
        rw [take_snoc e,List.map_append,List.map_append,tg]
        rfl
  subst eτ
  exact S.retT (i:=1) rfl ⟨_,rfl,⟨a,dn,ks,rfl,hc,hl,tg⟩,fun _ _ _ _ _ _ h=>h⟩
theorem scFarV:FnScope ["_law_one","_law_other","_law_between"] ["_law_one","_law_other"] (defScope sFarV):=⟨rfl,rfl,rfl,by decide +kernel,rfl,by decide +kernel,by decide +kernel⟩
theorem ok_farv (F:Fun K "_law_far" "_law_far" sFarV f fd)
    (G:FnOk P w K mg base CX0 4 g gd ["_law_one","_law_other"] (spP K RLessV)) (bG:Binds K gd ["_law_one","_law_other"] []) (kG:PySem.W.keepIn K (.ref g)=true) (mG:mg "_law_less_by" = some (.ref g))
    (G2:FnOk P w K mg base CX0 4 g2 gd2 ["_law_one","_law_other"] (spP K RInner)) (bG2:Binds K gd2 ["_law_one","_law_other"] []) (kG2:PySem.W.keepIn K (.ref g2)=true) (mG2:mg "_law_inner" = some (.ref g2)) :
    FnOk P w K mg base CX0 5 f fd ["_law_one","_law_other"] (spP K RFarV):=by
  refine okP F scFarV (fun ds d h=>?_) (fun cdv A0 outer s0 H0 E0 hr=>?_)
  . obtain ⟨u,v,rfl,_⟩:=h;rfl
  have r:=hr.mono (show 4<=4 by decide)
  have r2:=hr.mono (show 4<=4 by decide)
  refine ⟨_,(zss_cons (zs_set (i:=2) scFarV.nd rfl (Or.inl rfl) (ze_call G r rfl mG kG bG .nil pass0 (za_n (zv 0) (za_n (zv 1) za_nil))))
    (zss_one (zs_ret (ze_call G2 r2 rfl mG2 kG2 bG2 .nil pass0 (za_n (zv 2) (za_n (zv 2) za_nil)))))),fun ds d h=>?_⟩
  obtain ⟨u,v,rfl,⟨hu,hv,hd⟩,rfl⟩:=h
  refine S.let1 (s:=.dat (pQ (subV u v))) (E1.call (R:=RLessV) (ds:=[pQ u,pQ v]) (A1.cons (E1.var rfl) (A1.cons (E1.var rfl) A1.nil)) ⟨u,v,rfl,⟨PB.up hu (by decide),PB.up hv (by decide)⟩,rfl⟩) ?_
  exact S.ret1 (E1.call (R:=RInner) (ds:=[pQ (subV u v),pQ (subV u v)]) (A1.cons (E1.var rfl) (A1.cons (E1.var rfl) A1.nil)) (innerV hd hd (by decide))) ⟨rfl,noL_tI⟩
theorem scBones:FnScope ["_law_chain_here","_law_rows","_law_places","_law_k"] ["_law_chain_here","_law_rows"] (defScope sBones):=⟨rfl,rfl,rfl,by decide +kernel,rfl,by decide +kernel,by decide +kernel⟩
theorem ok_bones (F:Fun K "_law_bones" "_law_bones" sBones f fd) (ocChain:ObC K cChain)
    (J1:FnOk P w K mg base CX0 7 j1 jd1 ["self"] (spMr K cChain RPlacesC)) (bJ1:Binds K jd1 ["self"] []) (mJ1:Meth K cChain "places" j1)
    (J2:FnOk P w K mg base CX0 7 j2 jd2 ["self"] (spMr K cChain RTipC)) (bJ2:Binds K jd2 ["self"] []) (mJ2:Meth K cChain "tip" j2)
    (G:FnOk P w K mg base CX0 5 g gd ["_law_one","_law_other"] (spP K RFarV)) (bG:Binds K gd ["_law_one","_law_other"] []) (kG:PySem.W.keepIn K (.ref g)=true) (mG:mg "_law_far" = some (.ref g))
    (G2:FnOk P w K mg base CX0 4 g2 gd2 ["_law_one","_law_other"] (spP K RInner)) (bG2:Binds K gd2 ["_law_one","_law_other"] []) (kG2:PySem.W.keepIn K (.ref g2)=true) (mG2:mg "_law_inner" = some (.ref g2)) (m_range:mg "range" = none) (m_len:mg "len" = none) :
    FnOk P w K mg base CX0 8 f fd ["_law_chain_here","_law_rows"] (spMr K cChain RBones):=by
  refine okMr (C:=cChain) F scBones (fun dn gn ds d h=>?_) (fun cdv A0 outer s0 H0 E0 hr=>?_)
  . obtain ⟨ks,js,_,rfl,_⟩:=h;rfl
  have r:=hr.mono (show 5<=7 by decide)
  have r2:=hr.mono (show 4<=7 by decide)
  have rj1:=hr.mono (show 7<=7 by decide)
  have rj2:=hr.mono (show 7<=7 by decide)
  refine ⟨_,(zss_cons (zs_set (i:=2) scBones.nd rfl (Or.inl rfl) (ze_op op_catS (ze_lst (za_t (ze_tup (za_t (ze_tup (za_i (za_i za_nil))) (za_t (ze_tup (za_i (za_i za_nil))) (za_t (ze_tup (za_i (za_i za_nil))) za_nil)))) za_nil)) (ze_meth0 (zv 0) ocChain.cls mJ1 J1 rj1 bJ1 .nil pass0)))
    (zss_cons (zs_for PassesOwn.never rfl (zi_range1 rfl m_range (za_c (ze_callB call_len_seq rfl m_len PySem.boot_len (za_n (zv 1) za_nil)) za_nil)) (zg_name (i:=3) scBones.nd rfl (Or.inl rfl)) (zss_one (zs_if (zt_cmpR (op_neD hr.units) (ze_call G r rfl mG kG bG .nil pass0 (za_s (ze_ix ix_list (zv 2) (ze_op op_add (zv 3) ze_int) (fun _ _=>rfl)) (za_s (ze_ix ix_list (zv 2) (zv 3) (fun _ _=>rfl)) za_nil))) (ze_call G2 r2 rfl mG2 kG2 bG2 .nil pass0 (za_s (ze_ix ix_tup (ze_ix ix_list (zv 1) (zv 3) (fun _ _=>rfl)) ze_int (fun _ _=>rfl)) (za_s (ze_ix ix_tup (ze_ix ix_list (zv 1) (zv 3) (fun _ _=>rfl)) ze_int (fun _ _=>rfl)) za_nil))) (nomark _)) (zss_one (zs_ret ze_bl)) zss_nil)))
    (zss_one (zs_ret (ze_and (ze_cmpR op_eq (ze_callB call_len_seq rfl m_len PySem.boot_len (za_n (zv 2) za_nil)) (ze_op op_add (ze_callB call_len_seq rfl m_len PySem.boot_len (za_n (zv 1) za_nil)) ze_int) (nomark _)) (ze_one (ze_cmpR (op_eqD hr.units) (ze_meth0 (zv 0) ocChain.cls mJ2 J2 rj2 bJ2 .nil pass0) (ze_ix ix_list (zv 2) (ze_un un_neg ze_int) (fun _ _=>rfl)) (nomark _)))))))),fun a dn gn ds d h=>?_⟩
  obtain ⟨ks,js,⟨⟨xs,rfl⟩,hJ,h6⟩,rfl,tg,rfl⟩:=h
  have lk:=tg.len
  refine S.letO (ds:=plsD ks) (E1.to (E1.catVV (xs:=[pQ zeV]) (ys:=(List.range ks.length).map fun m=>pQ (tipV (ks.take (m + 1)))) (E1.vwo (E1.li (ds:=[pQ zeV]) (A1.cons (E1.tu (ds:=[tI [0,1],tI [0,1],tI [0,1]]) (A1.cons (E1.tu (ds:=[.int 0,.int 1]) (A1.cons E1.int (A1.cons E1.int A1.nil)) rfl (lsz (n:=2) rfl z2)) (A1.cons (E1.tu (ds:=[.int 0,.int 1]) (A1.cons E1.int (A1.cons E1.int A1.nil)) rfl (lsz (n:=2) rfl z2)) (A1.cons (E1.tu (ds:=[.int 0,.int 1]) (A1.cons E1.int (A1.cons E1.int A1.nil)) rfl (lsz (n:=2) rfl z2)) A1.nil))) rfl (lsz (n:=3) rfl z3)) A1.nil) rfl (lsz (n:=1) rfl z1))) (E1.vwd (E1.callMr (i:=0) (ds:=[]) rfl (.inr rfl) A1.nil ⟨ks,rfl,⟨⟨xs,rfl⟩,hJ,h6⟩,rfl⟩)) (by rw [List.length_map,List.length_range];exact Nat.le_trans (show 1 + ks.length<=7 by omega) (by decide))) (by rw [plsD_eq];rfl)) (noLs_plsD ks) ?_
  refine S.frz (i:=2) rfl ?_
  refine S.seq (M:=fun τ'=>∃ o3:Sl,τ'=[.dt (obV a cChain (xs ++ [chD ks]) gn),.dat (.list (js.map Jt.d)),.dat (.list (plsD ks)),o3]) ?_ fun τ' ⟨o3,eτ⟩=>?_
  . refine S.for (Wk.rng (j:=(js.length:Int)) (n:=js.length) (A1.cons (E1.to (E1.lenL (A1.cons (E1.varL rfl) A1.nil)) (by rw [List.length_map])) A1.nil) (by omega) (by omega) (by omega)) (fun _ τ'=>∃ o3:Sl,τ'=[.dt (obV a cChain (xs ++ [chD ks]) gn),.dat (.list (js.map Jt.d)),.dat (.list (plsD ks)),o3]) ⟨_,rfl⟩ (fun i d τ1 hd ⟨o3,e1⟩=>?_) (fun τ1 h=>h)
    subst e1
    obtain ⟨hi,rfl⟩:=rangeD_get hd
    obtain ⟨j,ej⟩:∃ j,js[i]?=some j:=⟨_,List.getElem?_eq_getElem hi⟩
    obtain ⟨k,ek⟩:∃ k,ks[i]?=some k:=⟨_,List.getElem?_eq_getElem (by omega)⟩
    have hk:=hJ k (List.mem_of_getElem? ek)
    have ea:=(tg.get ek ej).2
    have pj:PB3 60 j.a:=by rw [<- ea];exact hk.pa
    have eb:inV (subV (tipV (ks.take (i + 1))) (tipV (ks.take i))) (subV (tipV (ks.take (i + 1))) (tipV (ks.take i)))=inV j.a j.a:=by
      rw [take_snoc ek,bone hJ.take hk,ea]
    refine ⟨_,Gd.name,?_⟩
    refine S.ifF (T1.neDT (d:=tI (qf (inV j.a j.a))) (E1.to (E1.call (R:=RFarV) (ds:=[pQ (tipV (ks.take (i + 1))),pQ (tipV (ks.take i))]) (A1.cons (E1.ixL (ds:=plsD ks) (E1.varL rfl) (E1.to (E1.add (E1.var rfl) E1.int) (by rw [Int.zero_add];rfl)) (atI_nat (plsD_at (m:=i + 1) (by omega)))) (A1.cons (E1.ixL (ds:=plsD ks) (E1.varL rfl) (E1.to (E1.var rfl) (by rw [Int.zero_add])) (atI_nat (plsD_at (m:=i) (by omega)))) A1.nil)) (far_pls hJ h6 (i + 1) i)) (by rw [eb])) (E1.call (R:=RInner) (ds:=[pQ j.a,pQ j.a]) (A1.cons (E1.ixT (ds:=[tI [j.x,j.y,j.z],pQ j.a,tI [j.k,j.l]]) (E1.ixL (ds:=js.map Jt.d) (E1.varL rfl) (E1.to (E1.var rfl) (by rw [Int.zero_add])) (atI_nat (by rw [List.getElem?_map,ej];rfl))) E1.int rfl) (A1.cons (E1.ixT (ds:=[tI [j.x,j.y,j.z],pQ j.a,tI [j.k,j.l]]) (E1.ixL (ds:=js.map Jt.d) (E1.varL rfl) (E1.to (E1.var rfl) (by rw [Int.zero_add])) (atI_nat (by rw [List.getElem?_map,ej];rfl))) E1.int rfl) A1.nil)) (innerV pj pj (by decide))) rfl rfl kqd_tup) (S.next ⟨_,rfl⟩)
  subst eτ
  have el:(plsD ks).getLast?=some (pQ (tipV ks)):=by
    have h:=plsD_at (ks:=ks) (m:=ks.length) (Nat.le_refl _)
    rw [List.take_length] at h
    rw [List.getLast?_eq_getElem?,plsD_len,Nat.add_sub_cancel];exact h
  exact S.ret1 (s:=.dat (.bool true)) (E1.andV (b:=true) (E1.to (E1.eq (E1.lenL (ds:=plsD ks) (A1.cons (E1.varL rfl) A1.nil)) (E1.add (E1.lenL (ds:=js.map Jt.d) (A1.cons (E1.varL rfl) A1.nil)) E1.int)) (by rw [plsD_len,List.length_map,lk];simp)) (fun _=>E1.to (E1.eqD (d:=pQ (tipV ks)) (e:=pQ (tipV ks)) (E1.callMr (i:=0) (ds:=[]) rfl (.inr rfl) A1.nil ⟨ks,rfl,⟨⟨xs,rfl⟩,hJ,h6⟩,rfl⟩) (E1.ixL (ds:=plsD ks) (E1.varL rfl) (E1.neg E1.int) (atI_last el)) rfl rfl kq_ptQ kq_ptQ) (by rw [deq_self])) (fun z=>by cases z)) ⟨rfl,rfl⟩
theorem scSeenF:FnScope ["_law_chain_here","_law_rows","_law_joint","_law_places","_law_stand","_law_axle","_law_home","_law_found","_law_place"] ["_law_chain_here","_law_rows","_law_joint"] (defScope sSeenF):=⟨rfl,rfl,rfl,by decide +kernel,rfl,by decide +kernel,by decide +kernel⟩
theorem ok_seenf (F:Fun K "_law_seen" "_law_seen" sSeenF f fd) (ocChain:ObC K cChain)
    (J1:FnOk P w K mg base CX0 7 j1 jd1 ["self"] (spMr K cChain RPlacesC)) (bJ1:Binds K jd1 ["self"] []) (mJ1:Meth K cChain "places" j1)
    (J2:FnOk P w K mg base CX0 6 j2 jd2 ["self"] (spMr K cChain RStandsC)) (bJ2:Binds K jd2 ["self"] []) (mJ2:Meth K cChain "stands" j2)
    (G:FnOk P w K mg base CX0 5 g gd ["_law_four","_law_point_here"] (spP K RTurnF)) (bG:Binds K gd ["_law_four","_law_point_here"] []) (kG:PySem.W.keepIn K (.ref g)=true) (mG:mg "_law_turned" = some (.ref g))
    (G2:FnOk P w K mg base CX0 4 g2 gd2 ["_law_one","_law_other"] (spP K RInner)) (bG2:Binds K gd2 ["_law_one","_law_other"] []) (kG2:PySem.W.keepIn K (.ref g2)=true) (mG2:mg "_law_inner" = some (.ref g2))
    (G3:FnOk P w K mg base CX0 4 g3 gd3 ["_law_one","_law_other"] (spP K RLessV)) (bG3:Binds K gd3 ["_law_one","_law_other"] []) (kG3:PySem.W.keepIn K (.ref g3)=true) (mG3:mg "_law_less_by" = some (.ref g3))
    (G4:FnOk P w K mg base CX0 5 g4 gd4 ["_law_one","_law_other"] (spP K RFarV)) (bG4:Binds K gd4 ["_law_one","_law_other"] []) (kG4:PySem.W.keepIn K (.ref g4)=true) (mG4:mg "_law_far" = some (.ref g4)) (m_tuple:mg "tuple" = none) :
    FnOk P w K mg base CX0 8 f fd ["_law_chain_here","_law_rows","_law_joint"] (spMo K cChain RSeenC):=by
  refine okMo (C:=cChain) F scSeenF (fun dn gn ds d h=>?_) (fun cdv A0 outer s0 H0 E0 hr=>?_)
  . obtain ⟨ks,js,i,_,rfl,_⟩:=h;rfl
  have r:=hr.mono (show 5<=7 by decide)
  have r2:=hr.mono (show 4<=7 by decide)
  have r3:=hr.mono (show 4<=7 by decide)
  have r4:=hr.mono (show 5<=7 by decide)
  have rj1:=hr.mono (show 7<=7 by decide)
  have rj2:=hr.mono (show 6<=7 by decide)
  refine ⟨_,(zss_cons (zs_set (i:=3) scSeenF.nd rfl (Or.inl rfl) (ze_op op_catS (ze_lst (za_t (ze_tup (za_t (ze_tup (za_i (za_i za_nil))) (za_t (ze_tup (za_i (za_i za_nil))) (za_t (ze_tup (za_i (za_i za_nil))) za_nil)))) za_nil)) (ze_meth0 (zv 0) ocChain.cls mJ1 J1 rj1 bJ1 .nil pass0)))
    (zss_cons (zs_set (i:=4) scSeenF.nd rfl (Or.inl rfl) (ze_ix ix_list (ze_op op_catS (ze_lst (za_t (ze_tup (za_i (za_i (za_i (za_i za_nil))))) za_nil)) (ze_meth0 (zv 0) ocChain.cls mJ2 J2 rj2 bJ2 .nil pass0)) (zv 2) (fun _ _=>rfl)) sw_sub)
    (zss_cons (zs_set (i:=5) scSeenF.nd rfl (Or.inl rfl) (ze_call G r rfl mG kG bG .nil pass0 (za_n (zv 4) (za_c (ze_callTy call_tuple_of rfl m_tuple (by rfl) (za_cons (ze_comp (own:=["_law_number_here"]) scSeenF rfl ⟨by decide +kernel,rfl,by decide +kernel,by decide +kernel,by decide +kernel,by decide +kernel,by decide +kernel,by decide +kernel,by decide +kernel⟩ (zi_tup (ze_ix ix_tup (ze_ix ix_list (zv 1) (zv 2) (fun _ _=>rfl)) ze_int (fun _ _=>rfl))) (fun C fp s H nd=>zg_name (i:=0) nd rfl (Or.inl rfl)) (fun C fp s H=>zts_nil) (fun C fp s H=>(ze_tup (za_n (zv 0) (za_i za_nil))))) za_nil)) za_nil))))
    (zss_cons (zs_set (i:=6) scSeenF.nd rfl (Or.inl rfl) (ze_ix ix_list (zv 3) (zv 2) (fun _ _=>rfl)) sw_sub)
    (zss_cons (zs_set (i:=7) scSeenF.nd rfl (Or.inl rfl) (ze_lst (za_s (ze_slice sl_list (zv 3) zo_none (zo_some (ze_op op_add (zv 2) ze_int))) za_nil)))
    (zss_cons (zs_for PassesOwn.never rfl (zi_list (ze_slice sl_list (zv 3) (zo_some (ze_op op_add (zv 2) ze_int)) zo_none)) (zg_name (i:=8) scSeenF.nd rfl (Or.inl rfl)) (zss_one (zs_expr (ze_append (zv 7) (ze_tup (za_c (ze_call G4 r4 rfl mG4 kG4 bG4 .nil pass0 (za_n (zv 8) (za_n (zv 6) za_nil))) (za_c (ze_call G2 r2 rfl mG2 kG2 bG2 .nil pass0 (za_n (zv 5) (za_c (ze_call G3 r3 rfl mG3 kG3 bG3 .nil pass0 (za_n (zv 8) (za_n (zv 6) za_nil))) za_nil))) za_nil)))))))
    (zss_one (zs_ret (zv 7))))))))),fun a dn gn ds d h=>?_⟩
  obtain ⟨ks,js,i,⟨⟨xs,rfl⟩,hJ,h6⟩,rfl,hi,tg,rfl⟩:=h
  refine ⟨seenO_free,?_⟩
  have lk:=tg.len
  obtain ⟨j,ej⟩:∃ j,js[i]?=some j:=⟨_,List.getElem?_eq_getElem (by omega)⟩
  obtain ⟨k,ek⟩:∃ k,ks[i]?=some k:=⟨_,List.getElem?_eq_getElem hi⟩
  have hk:=hJ k (List.mem_of_getElem? ek)
  have ew:=(tg.get ek ej).1
  have s4:=stJ_f4 (hJ.take (m:=i))
  have s5:F4 384 (stJ (ks.take i)):=s4.up (by rw [List.length_take];omega)
  have pax:PB3 804 (tq (stJ (ks.take i)) k.w):=PB.up (PB3.tq s5 (w_pb hk)) (by decide)
  refine S.letO (ds:=plsD ks) (E1.to (E1.catVV (xs:=[pQ zeV]) (ys:=(List.range ks.length).map fun m=>pQ (tipV (ks.take (m + 1)))) (E1.vwo (E1.li (ds:=[pQ zeV]) (A1.cons (E1.tu (ds:=[tI [0,1],tI [0,1],tI [0,1]]) (A1.cons (E1.tu (ds:=[.int 0,.int 1]) (A1.cons E1.int (A1.cons E1.int A1.nil)) rfl (lsz (n:=2) rfl z2)) (A1.cons (E1.tu (ds:=[.int 0,.int 1]) (A1.cons E1.int (A1.cons E1.int A1.nil)) rfl (lsz (n:=2) rfl z2)) (A1.cons (E1.tu (ds:=[.int 0,.int 1]) (A1.cons E1.int (A1.cons E1.int A1.nil)) rfl (lsz (n:=2) rfl z2)) A1.nil))) rfl (lsz (n:=3) rfl z3)) A1.nil) rfl (lsz (n:=1) rfl z1))) (E1.vwd (E1.callMr (i:=0) (ds:=[]) rfl (.inr rfl) A1.nil ⟨ks,rfl,⟨⟨xs,rfl⟩,hJ,h6⟩,rfl⟩)) (by rw [List.length_map,List.length_range];exact Nat.le_trans (show 1 + ks.length<=7 by omega) (by decide))) (by rw [plsD_eq];rfl)) (noLs_plsD ks) ?_
  refine S.frz (i:=3) rfl ?_
  refine S.let1 (s:=.dat (tI (stJ (ks.take i)))) (E1.ixL (ds:=stsD ks) (E1.vwo (E1.to (E1.catVV (xs:=[tI [1,0,0,0]]) (ys:=(List.range ks.length).map fun m=>tI (stJ (ks.take (m + 1)))) (E1.vwo (E1.li (ds:=[tI [1,0,0,0]]) (A1.cons (E1.tu (ds:=[.int 1,.int 0,.int 0,.int 0]) (A1.cons E1.int (A1.cons E1.int (A1.cons E1.int (A1.cons E1.int A1.nil)))) rfl (lsz (n:=4) rfl z4)) A1.nil) rfl (lsz (n:=1) rfl z1))) (E1.vwd (E1.callMr (i:=0) (ds:=[]) rfl (.inr rfl) A1.nil ⟨ks,rfl,⟨⟨xs,rfl⟩,hJ,h6⟩,rfl⟩)) (by rw [List.length_map,List.length_range];exact Nat.le_trans (show 1 + ks.length<=7 by omega) (by decide))) (s':=.own (stsD ks)) (by rw [stsD_eq];rfl))) (E1.var rfl) (atI_nat (stsD_at (by omega)))) ?_
  refine S.let1 (s:=.dat (pQ (tq (stJ (ks.take i)) k.w))) (E1.call (R:=RTurnF) (ds:=[tI (stJ (ks.take i)),pQ k.w]) (A1.cons (E1.var rfl) (A1.cons (E1.to (s':=.dat (pQ k.w)) (E1.tupleL (A1.cons (E1.vwo (E1.comp3 (d1:=.int j.x) (d2:=.int j.y) (d3:=.int j.z) (Wk.tup (ds:=[.int j.x,.int j.y,.int j.z]) (E1.ixT (ds:=[tI [j.x,j.y,j.z],pQ j.a,tI [j.k,j.l]]) (E1.ixL (ds:=js.map Jt.d) (E1.varL rfl) (E1.var rfl) (atI_nat (by rw [List.getElem?_map,ej];rfl))) E1.int rfl)) (E1.tu (ds:=[_,.int 1]) (A1.cons (E1.var rfl) (A1.cons E1.int A1.nil)) rfl (lsz (n:=2) rfl z2)) (E1.tu (ds:=[_,.int 1]) (A1.cons (E1.var rfl) (A1.cons E1.int A1.nil)) rfl (lsz (n:=2) rfl z2)) (E1.tu (ds:=[_,.int 1]) (A1.cons (E1.var rfl) (A1.cons E1.int A1.nil)) rfl (lsz (n:=2) rfl z2)))) A1.nil)) (by rw [ew];rfl)) A1.nil)) (turnF s5 (w_pb hk) (by decide))) ?_
  refine S.let1 (s:=.dat (pQ (tipV (ks.take i)))) (E1.ixL (ds:=plsD ks) (E1.varL rfl) (E1.var rfl) (atI_nat (plsD_at (m:=i) (by omega)))) ?_
  refine S.letT (o:=seenO ((plsD ks).take (i + 1)) []) (E1.seen1 (E1.to (E1.slL (ds:=plsD ks) (lo:=none) (hi:=some ((i + 1:Nat):Int)) (E1.varL rfl) O1.none (O1.some (E1.to (E1.add (E1.var rfl) E1.int) (by simp)))) (by rw [cutG_to])) (noLs_pls ks _)) seenO_free.self ?_
  have bl:=beh_len hi
  have eT:(behD ks i).take (ks.length + 1 - (i + 1))=behD ks i:=List.take_of_length_le (by rw [bl];omega)
  refine S.seq (M:=fun τ'=>∃ o8:Sl,τ'=[.dt (obV a cChain (xs ++ [chD ks]) gn),.dat (.list (js.map Jt.d)),.dat (.int i),.dat (.list (plsD ks)),.dat (tI (stJ (ks.take i))),.dat (pQ (tq (stJ (ks.take i)) k.w)),.dat (pQ (tipV (ks.take i))),.dt (seenO ((plsD ks).take (i + 1)) (behD ks i)),o8]) ?_ fun τ' ⟨o8,eτ⟩=>?_
  . refine S.for (Wk.lst (ds:=(plsD ks).drop (i + 1)) (E1.frz (E1.to (E1.slL (ds:=plsD ks) (lo:=some ((i + 1:Nat):Int)) (hi:=none) (E1.varL rfl) (O1.some (E1.to (E1.add (E1.var rfl) E1.int) (by simp))) O1.none) (by rw [cutG_from])))) (fun m τ'=>∃ o8:Sl,τ'=[.dt (obV a cChain (xs ++ [chD ks]) gn),.dat (.list (js.map Jt.d)),.dat (.int i),.dat (.list (plsD ks)),.dat (tI (stJ (ks.take i))),.dat (pQ (tq (stJ (ks.take i)) k.w)),.dat (pQ (tipV (ks.take i))),.dt (seenO ((plsD ks).take (i + 1)) ((behD ks i).take m)),o8]) ⟨_,rfl⟩ (fun m d τ1 hd ⟨o8,e1⟩=>?_) (fun τ1 ⟨o8,e1⟩=>⟨o8,by rw [List.length_drop,plsD_len,eT] at e1;exact e1⟩)
    subst e1
    have hm:m < ks.length - i:=by
      have:=(List.getElem?_eq_some_iff.mp hd).1
      rw [List.length_drop,plsD_len] at this
      omega
    rw [List.getElem?_drop,plsD_at (by omega)] at hd
    cases hd
    have hb:=beh_at ek hm hJ
    have pp:=pls_pb hJ h6 (i + 1 + m) i
    refine ⟨_,Gd.name,?_⟩
    refine S.seenApp (i:=7) (τ':=[.dt (obV a cChain (xs ++ [chD ks]) gn),.dat (.list (js.map Jt.d)),.dat (.int i),.dat (.list (plsD ks)),.dat (tI (stJ (ks.take i))),.dat (pQ (tq (stJ (ks.take i)) k.w)),.dat (pQ (tipV (ks.take i))),.dt (seenO ((plsD ks).take (i + 1)) ((behD ks i).take m ++ [.tuple [tI (qf (inV (subV (tipV (ks.take (i + 1 + m))) (tipV (ks.take i))) (subV (tipV (ks.take (i + 1 + m))) (tipV (ks.take i))))),tI (qf (inV (tq (stJ (ks.take i)) k.w) (subV (tipV (ks.take (i + 1 + m))) (tipV (ks.take i)))))]])),.dat (pQ (tipV (ks.take (i + 1 + m))))]) rfl (E1.tu (ss:=[.dat (tI _),.dat (tI _)]) (A1.cons (E1.call (R:=RFarV) (ds:=[pQ (tipV (ks.take (i + 1 + m))),pQ (tipV (ks.take i))]) (A1.cons (E1.var rfl) (A1.cons (E1.var rfl) A1.nil)) (far_pls hJ h6 (i + 1 + m) i)) (A1.cons (E1.call (R:=RInner) (ds:=[pQ (tq (stJ (ks.take i)) k.w),pQ (subV (tipV (ks.take (i + 1 + m))) (tipV (ks.take i)))]) (A1.cons (E1.var rfl) (A1.cons (E1.call (R:=RLessV) (ds:=[pQ (tipV (ks.take (i + 1 + m))),pQ (tipV (ks.take i))]) (A1.cons (E1.var rfl) (A1.cons (E1.var rfl) A1.nil)) (less_pls hJ h6 (i + 1 + m) i)) A1.nil)) (innerV pax pp.2 (by decide))) A1.nil)) rfl (lsz (n:=2) rfl z2)) (noL_t2 noL_tI noL_tI) (by rw [List.length_take,bl];omega) ⟨.dat (pQ (tipV (ks.take (i + 1 + m)))),?_⟩
    rw [take_snoc hb]
  subst eτ
  exact S.retT (i:=7) rfl rfl
theorem scLaw:FnScope ["_law_script","_law_purse_here","_law_rows","_law_chain_here","_law_turn","_law_joint","_law_ahead"] ["_law_script"] (defScope sLaw):=⟨rfl,rfl,rfl,by decide +kernel,rfl,by decide +kernel,by decide +kernel⟩
theorem ok_law (F : Fun K "law" "law" sLaw f fd) (ocChain : ObC K cChain)
    (J1:FnOk P w K mg base CX0 4 j1 jd1 ["self","joint","setting"] (spMw K cChain RBend)) (bJ1:Binds K jd1 ["self","joint","setting"] []) (mJ1:Meth K cChain "bend" j1)
    (G:FnOk P w K mg base CX0 2 g gd ["_law_script"] (spPurse K)) (bG:Binds K gd ["_law_script"] []) (kG:PySem.W.keepIn K (.ref g)=true) (mG:mg "_law_purse" = some (.ref g))
    (G2:FnOk P w K mg base CX0 4 g2 gd2 ["_law_purse_here","_law_most"] (spU K RJoints)) (bG2:Binds K gd2 ["_law_purse_here","_law_most"] []) (kG2:PySem.W.keepIn K (.ref g2)=true) (mG2:mg "_law_joints" = some (.ref g2))
    (G3:FnOk P w K mg base CX0 3 g3 gd3 ["_law_purse_here"] (spU K RPt9)) (bG3:Binds K gd3 ["_law_purse_here"] []) (kG3:PySem.W.keepIn K (.ref g3)=true) (mG3:mg "_law_point" = some (.ref g3))
    (G4:FnOk P w K mg base CX0 3 g4 gd4 ["_law_purse_here","_law_many"] (spU K RRow9)) (bG4:Binds K gd4 ["_law_purse_here","_law_many"] []) (kG4:PySem.W.keepIn K (.ref g4)=true) (mG4:mg "_law_row" = some (.ref g4))
    (G5:FnOk P w K mg base CX0 5 g5 gd5 ["_law_rows"] (spO K (RChainO cChain))) (bG5:Binds K gd5 ["_law_rows"] []) (kG5:PySem.W.keepIn K (.ref g5)=true) (mG5:mg "_law_chain" = some (.ref g5))
    (G6:FnOk P w K mg base CX0 8 g6 gd6 ["_law_chain_here","_law_rows"] (spMr K cChain RBones)) (bG6:Binds K gd6 ["_law_chain_here","_law_rows"] []) (kG6:PySem.W.keepIn K (.ref g6)=true) (mG6:mg "_law_bones" = some (.ref g6))
    (G7:FnOk P w K mg base CX0 1 g7 gd7 ["_law_purse_here","_law_out_of"] spDraw) (bG7:Binds K gd7 ["_law_purse_here","_law_out_of"] []) (kG7:PySem.W.keepIn K (.ref g7)=true) (mG7:mg "_law_draw" = some (.ref g7))
    (G8:FnOk P w K mg base CX0 8 g8 gd8 ["_law_chain_here","_law_rows","_law_joint"] (spMo K cChain RSeenC)) (bG8:Binds K gd8 ["_law_chain_here","_law_rows","_law_joint"] []) (kG8:PySem.W.keepIn K (.ref g8)=true) (mG8:mg "_law_seen" = some (.ref g8)) (m_range:mg "range" = none) (m_len:mg "len" = none) :
    FnOk P w K mg base CX0 9 f fd ["_law_script"] (spLaw K):=by
  refine okL F scLaw rfl (fun cdv A0 outer s0 H0 E0 hr=>?_)
  have r:=hr.mono (show 2<=8 by decide)
  have r2:=hr.mono (show 4<=8 by decide)
  have r3:=hr.mono (show 3<=8 by decide)
  have r4:=hr.mono (show 3<=8 by decide)
  have r5:=hr.mono (show 5<=8 by decide)
  have r6:=hr.mono (show 8<=8 by decide)
  have r7:=hr.mono (show 1<=8 by decide)
  have r8:=hr.mono (show 8<=8 by decide)
  have rj1:=hr.mono (show 4<=8 by decide)
  refine ⟨_,(zss_cons (zs_set (i:=1) scLaw.nd rfl (Or.inl rfl) (ze_call G r rfl mG kG bG .nil pass0 (za_n (zv 0) za_nil)))
    (zss_cons (zs_set (i:=2) scLaw.nd rfl (Or.inl rfl) (ze_op op_catS (ze_call G2 r2 rfl mG2 kG2 bG2 .nil pass0 (za_n (zv 1) (za_i za_nil))) (ze_lst (za_t (ze_tup (za_c (ze_call G4 r4 rfl mG4 kG4 bG4 .nil pass0 (za_n (zv 1) (za_i za_nil))) (za_c (ze_call G3 r3 rfl mG3 kG3 bG3 .nil pass0 (za_n (zv 1) za_nil)) (za_t (ze_tup (za_i (za_i za_nil))) za_nil)))) za_nil))))
    (zss_cons (zs_set (i:=3) scLaw.nd rfl (Or.inl rfl) (ze_call G5 r5 rfl mG5 kG5 bG5 .nil pass0 (za_n (zv 2) za_nil)))
    (zss_cons (zs_if (zt_not (zt_val (ze_call G6 r6 rfl mG6 kG6 bG6 .nil pass0 (za_n (zv 3) (za_n (zv 2) za_nil))))) (zss_one (zs_ret ze_bl)) zss_nil)
    (zss_cons (zs_for PassesOwn.never rfl (zi_range1 rfl m_range (za_i za_nil)) (zg_name (i:=4) scLaw.nd rfl (Or.inl rfl)) (zss_cons (zs_set (i:=5) scLaw.nd rfl (Or.inl rfl) (ze_call G7 r7 rfl mG7 kG7 bG7 .nil pass0 (za_n (zv 1) (za_c (ze_callB call_len_seq rfl m_len PySem.boot_len (za_n (zv 2) za_nil)) za_nil))))
    (zss_cons (zs_set (i:=6) scLaw.nd rfl (Or.inl rfl) (ze_call G8 r8 rfl mG8 kG8 bG8 .nil pass0 (za_n (zv 3) (za_n (zv 2) (za_n (zv 5) za_nil)))))
    (zss_cons (zs_expr (ze_meth (zv 3) ocChain.cls mJ1 J1 rj1 bJ1 .nil pass0 (za_n (zv 5) (za_c (ze_call G4 r4 rfl mG4 kG4 bG4 .nil pass0 (za_n (zv 1) (za_i za_nil))) za_nil))))
    (zss_one (zs_if (ZW.pt (zw_or (zt_cmpR (op_neD hr.units) (ze_call G8 r8 rfl mG8 kG8 bG8 .nil pass0 (za_n (zv 3) (za_n (zv 2) (za_n (zv 5) za_nil)))) (zv 6) (nomark _)) (zw_or1 (zt_not (zt_val (ze_call G6 r6 rfl mG6 kG6 bG6 .nil pass0 (za_n (zv 3) (za_n (zv 2) za_nil)))))))) (zss_one (zs_ret ze_bl)) zss_nil))))))
    (zss_one (zs_ret ze_bl))))))),fun sc hl hb=>?_⟩
  refine S.purse1 (ns:=sc) (A1.cons (E1.var rfl) A1.nil) hl hb (fun q=>?_) (fun s h=>⟨_,h⟩)
  refine S.letOC (C:=fun ds=>∃ js:List Jt,ds=js.map Jt.d/\Js js/\1<=js.length/\js.length<=6) (E.mono (E.catA (CX:=fun xs=>∃ js:List Jt,xs=js.map Jt.d/\Js js/\js.length<=5) (CY:=fun ys=>∃ j:Jt,ys=[j.d]/\JtOk j) (E.mono (E.callU (R:=RJoints) (ds:=[.int (5:Nat)]) (A1.cons (E1.varP rfl) (A1.cons E1.int A1.nil)) ⟨5,rfl,by decide,rfl⟩) fun s ⟨d,es,js,ed,h1,h2⟩=>⟨js.map Jt.d,by rw [es,ed],js,rfl,h1,h2⟩) (E.mono (E.liA (C:=fun ds=>∃ j:Jt,ds=[j.d]/\JtOk j) (A.cons (C1:=fun s=>∃ j:Jt,s = .dat j.d/\JtOk j) (E.mono (E.tupA (C:=fun es=>∃ (x y z:Int) (v:V3),es=[tI [x,y,z],pQ v,tI [0,1]]/\(∃ n ∈ [x,y,z],n ≠ 0)/\Bd (2 ^ 30) [x,y,z]/\PB3 60 v) (A.cons (C1:=fun s=>∃ x y z:Int,s = .dat (tI [x,y,z])/\(∃ n ∈ [x,y,z],n ≠ 0)/\Bd (2 ^ 30) [x,y,z]) (E.mono (E.callU (R:=RRow9) (ds:=[.int 3]) (A1.cons (E1.varP rfl) (A1.cons E1.int A1.nil)) (.inl ⟨rfl,rfl⟩)) fun s ⟨d,es,x,y,z,ed,h1,h2⟩=>⟨x,y,z,by rw [es,ed],h1,h2⟩) (fun s _=>A.cons (C1:=fun s=>∃ v:V3,s = .dat (pQ v)/\PB3 60 v) (E.mono (E.callU (R:=RPt9) (ds:=[]) (A1.cons (E1.varP rfl) A1.nil) ⟨rfl,rfl⟩) fun s ⟨d,es,x,y,z,ed,pb⟩=>⟨(x,y,z),by rw [es,ed];rfl,PB.up pb (by decide)⟩) (fun s _=>A1.cons (E1.tu (ds:=[.int 0,.int 1]) (A1.cons E1.int (A1.cons E1.int A1.nil)) rfl (lsz (n:=2) rfl z2)) A1.nil) (C:=fun ss=>∃ v:V3,ss=[.dat (pQ v),.dat (tI [0,1])]/\PB3 60 v) (fun s ss ⟨v,es,pv⟩ ess=>⟨v,by rw [es, <- ess];rfl,pv⟩)) (fun s ss ⟨x,y,z,es,h1,h2⟩ ⟨v,ess,pv⟩=>⟨[tI [x,y,z],pQ v,tI [0,1]],by rw [es,ess];rfl,by show 3<=1000;decide,x,y,z,v,rfl,h1,h2,pv⟩))) fun s ⟨es,ess,x,y,z,v,ee,h1,h2,pv⟩=>⟨⟨x,y,z,v,0,1⟩,by rw [ess,ee];rfl,⟨h1,bd_mono h2 (by decide),pv,.inr (by show (1:Int) ≠ 0;decide),bd01⟩⟩) (fun s _=>A1.nil) (fun s ss ⟨j,es,hj⟩ ess=>⟨[j.d],by rw [es, <- ess];rfl,by show 1<=1000;decide,j,rfl,hj⟩))) fun s ⟨ds,es,h⟩=>⟨ds,es,h⟩) (fun xs ys ⟨js,ex,h1,h2⟩ ⟨j,ey,hj⟩=>by rw [ex,ey,List.length_map];exact Nat.le_trans (show js.length + 1<=6 by omega) (by decide))) fun s ⟨zs,es,xs,ys,⟨js,ex,h1,h2⟩,⟨j,ey,hj⟩,ez⟩=>⟨zs,es,by rw [ez,ex,ey];exact noLs_jts2 js j,js ++ [j],by rw [ez,ex,ey,List.map_append];rfl,js_snoc h1 hj,by rw [List.length_append];show 1<=js.length + 1;omega,by rw [List.length_append];show js.length + 1<=6;omega⟩) fun ds ⟨js,ed,hJ,l1,l6⟩=>?_
  subst ed
  refine S.frz (i:=2) rfl ?_
  refine S.letTC (C:=fun o=>∃ (a:Addr) (dn:List Dat) (ks:List Jt),o=obO a cChain dn []/\ChA dn ks/\dn.length<=7/\Tog ks js) (E.callO (R:=RChainO cChain) (ds:=[.list (js.map Jt.d)]) (A1.cons (E1.var rfl) A1.nil) ⟨js,rfl,hJ,l6,rfl⟩ (fun o ⟨a,dn,ks,e,_⟩=>by rw [e];exact fun _ _ _ _ _ _ h=>h)) fun o ⟨a,dn,ks,e,hc,hdl,tg⟩=>?_
  subst e
  refine S.ifsF (T1.notT (T1.val (E1.callFr (i:=3) (ds:=[.list (js.map Jt.d)]) rfl (.inl rfl) (A1.cons (E1.var rfl) A1.nil) ⟨ks,js,hc,rfl,tg,rfl⟩))) ?_
  refine S.seq (M:=fun τ'=>∃ (dn:List Dat) (o4 o5 o6:Sl),τ'=[.dat (.list (sc.map .int)),.pu,.dat (.list (js.map Jt.d)),.dt (obO a cChain dn []),o4,o5,o6]) ?_ fun τ' ⟨dn,o4,o5,o6,eτ⟩=>?_
  . refine S.for (Wk.r3 (A1.cons E1.int A1.nil)) (fun i τ'=>∃ (dn:List Dat) (ks:List Jt) (o4 o5 o6:Sl),τ'=[.dat (.list (sc.map .int)),.pu,.dat (.list (js.map Jt.d)),.dt (obO a cChain dn []),o4,o5,o6]/\ChA dn ks/\dn.length<=7 + i/\Tog ks js) ⟨dn,ks,_,_,_,rfl,hc,hdl,tg⟩ (fun i d τ1 hi ⟨dn,ks,o4,o5,o6,e1,hc,hdl,tg⟩=>?_) (fun τ1 ⟨dn,ks,o4,o5,o6,e1,_⟩=>⟨dn,o4,o5,o6,e1⟩)
    subst e1
    have hi3:i < 3:=by rcases get3 hi with ⟨rfl,_⟩ | ⟨rfl,_⟩ | ⟨rfl,_⟩ <;> decide
    have lk:=tg.len
    refine ⟨_,Gd.name,?_⟩
    refine S.letC (EI.draw (m:=(js.length:Int)) (A1.cons (E1.varP rfl) (A1.cons (E1.to (E1.lenL (A1.cons (E1.varL rfl) A1.nil)) (by rw [List.length_map])) A1.nil)) (by omega) (by omega)) (fun s ⟨_,e,_⟩=>by rw [e];rfl) fun s ⟨n,es,n0,n1⟩=>?_
    subst es
    obtain ⟨m,rfl⟩:∃ m:Nat,n=(m:Int):=⟨n.toNat,by omega⟩
    have hm:m < ks.length:=by omega
    obtain ⟨k,ek⟩:∃ k,ks[m]?=some k:=⟨_,List.getElem?_eq_getElem hm⟩
    have hk:=hc.2.1 k (List.mem_of_getElem? ek)
    refine S.letT (o:=seenO ((plsD ks).take (m + 1)) (behD ks m)) (E1.callFo (i:=3) (ds:=[.list (js.map Jt.d),.int m]) rfl (.inl rfl) (A1.cons (E1.var rfl) (A1.cons (E1.var rfl) A1.nil)) ⟨ks,js,m,hc,rfl,hm,tg,rfl⟩ seenO_free) seenO_free.self ?_
    refine S.seq (M:=fun τ'=>∃ k' l':Int,(k' ≠ 0\/l' ≠ 0)/\Bd (2 ^ 31) [k',l']/\τ'=[.dat (.list (sc.map .int)),.pu,.dat (.list (js.map Jt.d)),.dt (obO a cChain (dn ++ [chD (ks.set m { k with k:=k',l:=l' })]) []),.dat d,.dat (.int m),.dt (seenO ((plsD ks).take (m + 1)) (behD ks m))]) ?_ fun τ' ⟨k',l',ns,bs,eτ⟩=>?_
    . refine S.callMw (i:=3) (R:=RBend) (CA:=fun ds=>∃ k l:Int,ds=[.int m,tI [k,l]]/\(k ≠ 0\/l ≠ 0)/\Bd (2 ^ 31) [k,l]) rfl (A.cons (C1:=fun s=>s = .dat (.int m)) (E.mono (E1.var rfl) fun s e=>e.symm) (fun s _=>A.cons (C1:=fun s=>∃ k l:Int,s = .dat (tI [k,l])/\(k ≠ 0\/l ≠ 0)/\Bd (2 ^ 31) [k,l]) (E.mono (E.callU (R:=RRow9) (ds:=[.int 2]) (A1.cons (E1.varP rfl) (A1.cons E1.int A1.nil)) (.inr ⟨rfl,rfl⟩)) fun s ⟨d,es,a,b,ed,nz,bd⟩=>⟨a,b,by rw [es,ed],by obtain ⟨n,hn,h0⟩:=nz;rcases (by simpa using hn:n=a\/n=b) with rfl | rfl;exact .inl h0;exact .inr h0,bd_mono bd (by decide)⟩) (fun s _=>A1.nil) (C:=fun ss=>∃ k l:Int,ss=[.dat (tI [k,l])]/\(k ≠ 0\/l ≠ 0)/\Bd (2 ^ 31) [k,l]) (fun s ss ⟨k,l,es,h1,h2⟩ ess=>⟨k,l,by rw [es, <- ess],h1,h2⟩)) (fun s ss es ⟨k,l,ess,h1,h2⟩=>⟨[.int m,tI [k,l]],by rw [es,ess];rfl,k,l,rfl,h1,h2⟩)) (fun ds ⟨x,y,ed,h1,h2⟩=>by
        obtain ⟨k',l',eps,ns,bs⟩:=ps_two h1 h2
        exact ⟨_,_,⟨ks,m,k,x,y,k',l',hc,ek,by omega,ed,h1,h2,eps,rfl,rfl⟩,k',l',ns,bs,rfl⟩)
    subst eτ
    have hk':JtOk { k with k:=k',l:=l' }:=⟨hk.nw,hk.bw,hk.pa,ns,bs⟩
    have hc':ChA (dn ++ [chD (ks.set m { k with k:=k',l:=l' })]) (ks.set m { k with k:=k',l:=l' }):=⟨⟨dn,rfl⟩,hc.2.1.set hk',by rw [List.length_set];exact hc.2.2⟩
    have tg':Tog (ks.set m { k with k:=k',l:=l' }) js:=by
      unfold Tog
      rw [List.map_set, <- tg]
      exact List.set_getElem?_self' (by rw [List.getElem?_map,ek];rfl)
    obtain ⟨sb1,sb2⟩:=seen_bent (k':=k') (l':=l') ek
    have hm':m < (ks.set m { k with k:=k',l:=l' }).length:=by rw [List.length_set];exact hm
    refine S.ifF (T1.orF (T1.neFo (i:=3) (j:=6) (ds:=[.list (js.map Jt.d),.int m]) (oo:=seenO ((plsD (ks.set m { k with k:=k',l:=l' })).take (m + 1)) (behD (ks.set m { k with k:=k',l:=l' }) m)) rfl (.inl rfl) (A1.cons (E1.var rfl) (A1.cons (E1.var rfl) A1.nil)) ⟨_,js,m,hc',rfl,hm',tg',rfl⟩ seenO_reads rfl (d:=.list (.list ((plsD (ks.set m { k with k:=k',l:=l' })).take (m + 1)) :: behD (ks.set m { k with k:=k',l:=l' }) m)) (by rw [sb1,sb2];exact seenO_reads) (kq_seen _ _)) (T1.notT (T1.val (E1.callFr (i:=3) (ds:=[.list (js.map Jt.d)]) rfl (.inl rfl) (A1.cons (E1.var rfl) A1.nil) ⟨_,js,hc',rfl,tg',rfl⟩)))) (S.next ⟨_,_,_,_,_,rfl,hc',by rw [List.length_append];show dn.length + 1<=7 + (i + 1);omega,tg'⟩)
  subst eτ
  exact S.ret1 (s:=.dat (.bool true)) E1.bl rfl
theorem scCIni:FnScope ["self"] ["self"] (defScope sCIni):=⟨rfl,rfl,rfl,by decide +kernel,rfl,by decide +kernel,by decide +kernel⟩
theorem ok_cini (F:Fun K "__init__" "Chain.__init__" sCIni f fd) (oc:ObC K C)
    (J1:FnOk P w K mg base CX0 1 j1 jd1 ["self","first"] (spIn K C RIni)) (bJ1:Binds K jd1 ["self","first"] []) (mJ1:CMeth K cDeeds "__init__" j1) (m_Deeds:mg "Deeds" = some (.ref cDeeds)) :
    FnOk P w K mg base CX0 2 f fd ["self"] (spIn K C RCIni):=by
  refine okIn (C:=C) F scCIni (fun ds dn gn h=>?_) (fun cdv A0 outer s0 H0 E0 hr=>?_)
  . obtain ⟨rfl,_⟩:=h;rfl
  have rj1:=hr.mono (show 1<=1 by decide)
  refine ⟨_,(zss_one (zs_expr (ze_cmeth mJ1 J1 rj1 rfl m_Deeds bJ1 .nil pass0 (za_n (zv 0) (za_t (ze_tup za_nil) za_nil))))),fun a ds dn gn h=>?_⟩
  obtain ⟨rfl,rfl,rfl⟩:=h
  exact S.init (i:=0) rfl (ds:=[chD []]) (A1.cons (E1.tu (ds:=[]) A1.nil rfl (lsz (n:=0) rfl z0)) A1.nil) ⟨_,rfl,rfl,rfl,rfl⟩ rfl
theorem scCAdd:FnScope ["self","way","arm","setting","joints"] ["self","way","arm","setting"] (defScope sCAdd):=⟨rfl,rfl,rfl,by decide +kernel,rfl,by decide +kernel,by decide +kernel⟩
theorem ok_cadd (F:Fun K "add" "Chain.add" sCAdd f fd) (oc:ObC K C)
    (J1:FnOk P w K mg base CX0 1 j1 jd1 ["self"] (spMr K C RLatest)) (bJ1:Binds K jd1 ["self"] []) (mJ1:Meth K C "latest" j1)
    (J2:FnOk P w K mg base CX0 1 j2 jd2 ["self","made"] (spMw K C RDo)) (bJ2:Binds K jd2 ["self","made"] []) (mJ2:Meth K C "do" j2)
    (G:FnOk P w K mg base CX0 3 g gd ["setting"] (spPS2 K)) (bG:Binds K gd ["setting"] []) (kG:PySem.W.keepIn K (.ref g)=true) (mG:mg "plain_setting" = some (.ref g)) (m_len:mg "len" = none) (m_MOST_JOINTS:mg "MOST_JOINTS" = some dMOST_JOINTS) (t_MOST_JOINTS:IntT 6 dMOST_JOINTS) :
    FnOk P w K mg base CX0 4 f fd ["self","way","arm","setting"] (spMw K C RAdd):=by
  refine okMw (C:=C) F scCAdd (fun dn gn ds dn2 gn2 h=>?_) (fun cdv A0 outer s0 H0 E0 hr=>?_)
  . obtain ⟨js,j,k,l,_,_,_,rfl,_⟩:=h;rfl
  have r:=hr.mono (show 3<=3 by decide)
  have rj1:=hr.mono (show 1<=3 by decide)
  have rj2:=hr.mono (show 1<=3 by decide)
  refine ⟨_,(zss_cons (zs_set (i:=4) scCAdd.nd rfl (Or.inl rfl) (ze_meth0 (zv 0) oc.cls mJ1 J1 rj1 bJ1 .nil pass0))
    (zss_cons (zs_if (zt_cmpR op_ge (ze_callB call_len_seq rfl m_len PySem.boot_len (za_n (zv 4) za_nil)) (ze_globI rfl m_MOST_JOINTS t_MOST_JOINTS) (nomark _)) (zss_one zs_never) zss_nil)
    (zss_one (zs_expr (ze_meth (zv 0) oc.cls mJ2 J2 rj2 bJ2 .nil pass0 (za_b (ze_op op_catW (zv 4) (ze_tup (za_t (ze_tup (za_n (zv 1) (za_n (zv 2) (za_c (ze_call G r rfl mG kG bG .nil pass0 (za_n (zv 3) za_nil)) za_nil)))) za_nil))) za_nil)))))),fun a dn gn ds dn2 gn2 h=>?_⟩
  obtain ⟨js,j,k,l,⟨⟨xs,rfl⟩,hJ,h6⟩,h5,hl,rfl,nz,bs,eps,rfl,rfl⟩:=h
  have nz2:∃ n ∈ [l,k],n ≠ 0:=by rcases nz with h | h;exact ⟨k,by simp,h⟩;exact ⟨l,by simp,h⟩
  refine S.let1 (s:=.dat (chD js)) (E1.callMr (i:=0) (ds:=[]) rfl (.inl rfl) A1.nil ⟨rfl,noL_chD js,xs,rfl⟩) ?_
  refine S.ifsF (T1.test (E1.to (E1.ge (E1.lenT (ds:=js.map Jt.d) (A1.cons (E1.var rfl) A1.nil)) E1.int) (by rw [List.length_map];simp <;> omega))) ?_
  exact S.callMw1 (i:=0) (ds:=[chD (js ++ [j])]) rfl (A1.cons (E1.to (E1.catT (xs:=js.map Jt.d) (ys:=[j.d]) (E1.var rfl) (E1.tu (ds:=[j.d]) (A1.cons (E1.tu (ds:=[tI [j.x,j.y,j.z],pQ j.a,tI [j.k,j.l]]) (A1.cons (E1.var rfl) (A1.cons (E1.var rfl) (A1.cons (E1.to (E1.cPS (A1.cons (E1.var rfl) A1.nil) nz2 (sm_bd31 bs)) (by rw [eps])) A1.nil))) rfl (lsz (n:=3) rfl z3)) A1.nil) rfl (lsz (n:=1) rfl z1)) (by rw [List.length_map];exact Nat.le_trans (show js.length + 1<=7 by omega) (by decide))) (by unfold chD;rw [List.map_append];rfl)) A1.nil) ⟨_,rfl,noL_chD _,hl,rfl,rfl⟩ rfl
theorem scCRef:FnScope ["self","joint"] ["self","joint"] (defScope sCRef):=⟨rfl,rfl,rfl,by decide +kernel,rfl,by decide +kernel,by decide +kernel⟩
theorem ok_cref (F:Fun K "refuse_no_joint" "Chain.refuse_no_joint" sCRef f fd) (oc:ObC K C)
    (J1:FnOk P w K mg base CX0 1 j1 jd1 ["self"] (spMr K C RLatest)) (bJ1:Binds K jd1 ["self"] []) (mJ1:Meth K C "latest" j1) (m_len:mg "len" = none) :
    FnOk P w K mg base CX0 2 f fd ["self","joint"] (spMr K C RRefJ):=by
  refine okMr (C:=C) F scCRef (fun dn gn ds d h=>?_) (fun cdv A0 outer s0 H0 E0 hr=>?_)
  . obtain ⟨js,i,_,rfl,_⟩:=h;rfl
  have rj1:=hr.mono (show 1<=1 by decide)
  refine ⟨_,(zss_one (zs_if (ZW.pt (zw_or (zt_cmpR op_lt (zv 1) ze_int (nomark _)) (zw_or1 (zt_cmpR op_ge (zv 1) (ze_callB call_len_seq rfl m_len PySem.boot_len (za_c (ze_meth0 (zv 0) oc.cls mJ1 J1 rj1 bJ1 .nil pass0) za_nil)) (nomark _))))) (zss_one zs_never) zss_nil)),fun a dn gn ds d h=>?_⟩
  obtain ⟨js,i,⟨⟨xs,rfl⟩,hJ,h6⟩,rfl,hi,rfl⟩:=h
  exact S.ifF (T1.orF (T1.test (E1.to (E1.lt (E1.var rfl) E1.int) (by simp <;> omega))) (T1.test (E1.to (E1.ge (E1.var rfl) (E1.lenT (ds:=js.map Jt.d) (A1.cons (E1.callMr (i:=0) (ds:=[]) rfl (.inr rfl) A1.nil ⟨rfl,noL_chD js,xs,rfl⟩) A1.nil))) (by rw [List.length_map];simp <;> omega)))) (S.next rfl)
theorem scCBend:FnScope ["self","joint","setting","joints","bent"] ["self","joint","setting"] (defScope sCBend):=⟨rfl,rfl,rfl,by decide +kernel,rfl,by decide +kernel,by decide +kernel⟩
theorem ok_cbend (F:Fun K "bend" "Chain.bend" sCBend f fd) (oc:ObC K C)
    (J1:FnOk P w K mg base CX0 2 j1 jd1 ["self","joint"] (spMr K C RRefJ)) (bJ1:Binds K jd1 ["self","joint"] []) (mJ1:Meth K C "refuse_no_joint" j1)
    (J2:FnOk P w K mg base CX0 1 j2 jd2 ["self"] (spMr K C RLatest)) (bJ2:Binds K jd2 ["self"] []) (mJ2:Meth K C "latest" j2)
    (J3:FnOk P w K mg base CX0 1 j3 jd3 ["self","made"] (spMw K C RDo)) (bJ3:Binds K jd3 ["self","made"] []) (mJ3:Meth K C "do" j3)
    (G:FnOk P w K mg base CX0 3 g gd ["setting"] (spPS2 K)) (bG:Binds K gd ["setting"] []) (kG:PySem.W.keepIn K (.ref g)=true) (mG:mg "plain_setting" = some (.ref g)) :
    FnOk P w K mg base CX0 4 f fd ["self","joint","setting"] (spMw K C RBend):=by
  refine okMw (C:=C) F scCBend (fun dn gn ds dn2 gn2 h=>?_) (fun cdv A0 outer s0 H0 E0 hr=>?_)
  . obtain ⟨js,i,j0,k,l,_,_,_,_,_,rfl,_⟩:=h;rfl
  have r:=hr.mono (show 3<=3 by decide)
  have rj1:=hr.mono (show 2<=3 by decide)
  have rj2:=hr.mono (show 1<=3 by decide)
  have rj3:=hr.mono (show 1<=3 by decide)
  refine ⟨_,(zss_cons (zs_expr (ze_meth (zv 0) oc.cls mJ1 J1 rj1 bJ1 .nil pass0 (za_n (zv 1) za_nil)))
    (zss_cons (zs_set (i:=3) scCBend.nd rfl (Or.inl rfl) (ze_meth0 (zv 0) oc.cls mJ2 J2 rj2 bJ2 .nil pass0))
    (zss_cons (zs_set (i:=4) scCBend.nd rfl (Or.inl rfl) (ze_tup (za_s (ze_ix ix_tup (ze_ix ix_tup (zv 3) (zv 1) (fun _ _=>rfl)) ze_int (fun _ _=>rfl)) (za_s (ze_ix ix_tup (ze_ix ix_tup (zv 3) (zv 1) (fun _ _=>rfl)) ze_int (fun _ _=>rfl)) (za_c (ze_call G r rfl mG kG bG .nil pass0 (za_n (zv 2) za_nil)) za_nil)))))
    (zss_one (zs_expr (ze_meth (zv 0) oc.cls mJ3 J3 rj3 bJ3 .nil pass0 (za_b (ze_op op_catW (ze_op op_catW (ze_slice sl_tupA (zv 3) zo_none (zo_some (zv 1))) (ze_tup (za_n (zv 4) za_nil))) (ze_slice sl_tupA (zv 3) (zo_some (ze_op op_add (zv 1) ze_int)) zo_none)) za_nil))))))),fun a dn gn ds dn2 gn2 h=>?_⟩
  obtain ⟨js,i,j0,k,l,k',l',⟨⟨xs,rfl⟩,hJ,h6⟩,hj,hl,rfl,nz,bs,eps,rfl,rfl⟩:=h
  have nz2:∃ n ∈ [l,k],n ≠ 0:=by rcases nz with h | h;exact ⟨k,by simp,h⟩;exact ⟨l,by simp,h⟩
  have hi:i < js.length:=(List.getElem?_eq_some_iff.mp hj).1
  refine S.dropS (E1.callMr (i:=0) (ds:=[.int i]) rfl (.inl rfl) (A1.cons (E1.var rfl) A1.nil) ⟨js,i,⟨⟨xs,rfl⟩,hJ,h6⟩,rfl,hi,rfl⟩) ?_
  refine S.let1 (s:=.dat (chD js)) (E1.callMr (i:=0) (ds:=[]) rfl (.inl rfl) A1.nil ⟨rfl,noL_chD js,xs,rfl⟩) ?_
  refine S.let1 (s:=.dat (Jt.d { j0 with k:=k',l:=l' })) (E1.tu (ds:=[tI [j0.x,j0.y,j0.z],pQ j0.a,tI [k',l']]) (A1.cons (E1.ixT (ds:=[tI [j0.x,j0.y,j0.z],pQ j0.a,tI [j0.k,j0.l]]) (E1.ixT (ds:=js.map Jt.d) (E1.var rfl) (E1.var rfl) (atI_nat (by rw [List.getElem?_map,hj];rfl))) E1.int rfl) (A1.cons (E1.ixT (ds:=[tI [j0.x,j0.y,j0.z],pQ j0.a,tI [j0.k,j0.l]]) (E1.ixT (ds:=js.map Jt.d) (E1.var rfl) (E1.var rfl) (atI_nat (by rw [List.getElem?_map,hj];rfl))) E1.int rfl) (A1.cons (E1.to (E1.cPS (A1.cons (E1.var rfl) A1.nil) nz2 (sm_bd31 bs)) (by rw [eps])) A1.nil))) rfl (lsz (n:=3) rfl z3)) ?_
  have es:chD (js.set i { j0 with k:=k',l:=l' }) = .tuple ((js.map Jt.d).take i ++ [Jt.d { j0 with k:=k',l:=l' }] ++ (js.map Jt.d).drop (i + 1)):=by
    unfold chD
    rw [List.map_set,List.set_eq_take_append_cons_drop,if_pos (by rw [List.length_map];exact hi),List.append_assoc]
    rfl
  exact S.callMw1 (i:=0) (ds:=[chD (js.set i { j0 with k:=k',l:=l' })]) rfl (A1.cons (E1.to (E1.catT (xs:=(js.map Jt.d).take i ++ [Jt.d { j0 with k:=k',l:=l' }]) (ys:=(js.map Jt.d).drop (i + 1)) (E1.catT (xs:=(js.map Jt.d).take i) (ys:=[Jt.d { j0 with k:=k',l:=l' }]) (E1.to (E1.slTA (ds:=js.map Jt.d) (lo:=none) (hi:=some (i:Int)) (E1.var rfl) O1.none (O1.some (E1.var rfl))) (by rw [cutG_to])) (E1.tu (ds:=[Jt.d { j0 with k:=k',l:=l' }]) (A1.cons (E1.var rfl) A1.nil) rfl (lsz (n:=1) rfl z1)) (by rw [List.length_take,List.length_map];exact Nat.le_trans (show min i js.length + 1<=7 by omega) (by decide))) (E1.to (E1.slTA (ds:=js.map Jt.d) (lo:=some ((i + 1:Nat):Int)) (hi:=none) (E1.var rfl) (O1.some (E1.to (E1.add (E1.var rfl) E1.int) (by simp))) O1.none) (by rw [cutG_from])) (by rw [List.length_append,List.length_take,List.length_drop,List.length_map];exact Nat.le_trans (show min i js.length + 1 + (js.length - (i + 1))<=13 by omega) (by decide))) (by rw [es])) A1.nil) ⟨_,rfl,noL_chD _,hl,rfl,rfl⟩ rfl
theorem scCStands:FnScope ["self","found","stand","joint"] ["self"] (defScope sCStands):=⟨rfl,rfl,rfl,by decide +kernel,rfl,by decide +kernel,by decide +kernel⟩
theorem ok_cstands (F:Fun K "stands" "Chain.stands" sCStands f fd) (oc:ObC K C)
    (J1:FnOk P w K mg base CX0 1 j1 jd1 ["self"] (spMr K C RLatest)) (bJ1:Binds K jd1 ["self"] []) (mJ1:Meth K C "latest" j1)
    (G:FnOk P w K mg base CX0 4 g gd ["one","other"] (spThen K)) (bG:Binds K gd ["one","other"] []) (kG:PySem.W.keepIn K (.ref g)=true) (mG:mg "then" = some (.ref g))
    (G2:FnOk P w K mg base CX0 5 g2 gd2 ["joint"] (spP K RTurnOf)) (bG2:Binds K gd2 ["joint"] []) (kG2:PySem.W.keepIn K (.ref g2)=true) (mG2:mg "turn_of" = some (.ref g2)) (m_NOTHING:mg "NOTHING" = some (.ref dNOTHING)) (t_NOTHING:TupT K dNOTHING [1,0,0,0]) :
    FnOk P w K mg base CX0 6 f fd ["self"] (spMr K C RStandsC):=by
  refine okMr (C:=C) F scCStands (fun dn gn ds d h=>?_) (fun cdv A0 outer s0 H0 E0 hr=>?_)
  . obtain ⟨js,rfl,_⟩:=h;rfl
  have r:=hr.mono (show 4<=5 by decide)
  have r2:=hr.mono (show 5<=5 by decide)
  have rj1:=hr.mono (show 1<=5 by decide)
  refine ⟨_,(zss_cons (zs_set (i:=1) scCStands.nd rfl (Or.inl rfl) (ze_lst za_nil))
    (zss_cons (zs_set (i:=2) scCStands.nd rfl (Or.inl rfl) (ze_glob (v:=.ref dNOTHING) rfl m_NOTHING rfl))
    (zss_cons (zs_for PassesOwn.never rfl (zi_tup (ze_meth0 (zv 0) oc.cls mJ1 J1 rj1 bJ1 .nil pass0)) (zg_name (i:=3) scCStands.nd rfl (Or.inl rfl)) (zss_cons (zs_set (i:=2) scCStands.nd rfl (Or.inl rfl) (ze_call G r rfl mG kG bG .nil pass0 (za_c (ze_call G2 r2 rfl mG2 kG2 bG2 .nil pass0 (za_n (zv 3) za_nil)) (za_n (zv 2) za_nil))))
    (zss_one (zs_expr (ze_append (zv 1) (zv 2))))))
    (zss_one (zs_ret (zv 1)))))),fun a dn gn ds d h=>?_⟩
  obtain ⟨js,rfl,⟨⟨xs,rfl⟩,hJ,h6⟩,rfl⟩:=h
  refine S.letO (ds:=[]) (E1.li (ds:=[]) A1.nil rfl (lsz (n:=0) rfl z0)) rfl ?_
  refine S.let1 (s:=.dat (tI (stJ (js.take 0)))) (E1.gT t_NOTHING) ?_
  refine S.seq (M:=fun τ'=>∃ o2 o3:Sl,τ'=[.dt (obV a C (xs ++ [chD js]) gn),.own ((List.range js.length).map fun m=>tI (stJ (js.take (m + 1)))),o2,o3]) ?_ fun τ' ⟨o2,o3,eτ⟩=>?_
  . refine S.for (Wk.tup (ds:=js.map Jt.d) (E1.callMr (i:=0) (ds:=[]) rfl (.inr rfl) A1.nil ⟨rfl,noL_chD js,xs,rfl⟩)) (fun i τ'=>∃ o3:Sl,τ'=[.dt (obV a C (xs ++ [chD js]) gn),.own ((List.range i).map fun m=>tI (stJ (js.take (m + 1)))),.dat (tI (stJ (js.take i))),o3]) ⟨_,rfl⟩ (fun i d τ1 hi ⟨o3,e1⟩=>?_) (fun τ1 ⟨o3,e1⟩=>⟨.dat (tI (stJ (js.take js.length))),o3,by rw [e1,List.length_map]⟩)
    subst e1
    rw [List.getElem?_map] at hi
    cases e:js[i]? with
    | none=>rw [e] at hi;cases hi
    | some j =>
      rw [e] at hi;cases hi
      have oj:=hJ j (List.mem_of_getElem? e)
      have hi':i < js.length:=(List.getElem?_eq_some_iff.mp e).1
      have s4:=stJ_f4 (hJ.take (m:=i))
      have s5:F4 4000 (stJ (js.take i)):=s4.up (by rw [List.length_take];omega)
      have t5:=oj.t4.up (show 62<=4000 by decide)
      have en:stJ (js.take (i + 1))=pl (qm (stJ (js.take i)) j.t):=by rw [take_snoc e,stJ_snoc]
      refine ⟨_,Gd.name,?_⟩
      refine S.let1 (s:=.dat (tI (stJ (js.take (i + 1))))) (E1.to (E1.cThen (ns:=j.t) (ms:=stJ (js.take i)) (A1.cons (E1.call (R:=RTurnOf) (ds:=[j.d]) (A1.cons (E1.var rfl) A1.nil) ⟨j,rfl,oj,rfl⟩) (A1.cons (E1.var rfl) A1.nil)) t5.1 s5.1 t5.2.1 s5.2.1 t5.2.2 s5.2.2) (by rw [en])) ?_
      have er:(List.range (i + 1)).map (fun m=>tI (stJ (js.take (m + 1))))=(List.range i).map (fun m=>tI (stJ (js.take (m + 1)))) ++ [tI (stJ (js.take (i + 1)))]:=by rw [List.range_succ,List.map_append];rfl
      exact S.append1 (i:=1) (τ':=[.dt (obV a C (xs ++ [chD js]) gn),.own ((List.range i).map (fun m=>tI (stJ (js.take (m + 1)))) ++ [tI (stJ (js.take (i + 1)))]),.dat (tI (stJ (js.take (i + 1)))),.dat j.d]) rfl (E1.var rfl) noL_tI (by rw [List.length_map,List.length_range];exact Nat.lt_of_lt_of_le (show i < 7 by omega) (by decide)) ⟨.dat j.d,by rw [er]⟩
  subst eτ
  exact S.retO (i:=1) rfl ⟨rfl,noLs_all fun x hx=>by obtain ⟨m,_,rfl⟩:=List.mem_map.mp hx;exact noL_tI⟩
theorem scCPlaces:FnScope ["self","joints"] ["self"] (defScope sCPlaces):=⟨rfl,rfl,rfl,by decide +kernel,rfl,by decide +kernel,by decide +kernel⟩
theorem ok_cplaces (F:Fun K "places" "Chain.places" sCPlaces f fd) (oc:ObC K C)
    (J1:FnOk P w K mg base CX0 1 j1 jd1 ["self"] (spMr K C RLatest)) (bJ1:Binds K jd1 ["self"] []) (mJ1:Meth K C "latest" j1)
    (G:FnOk P w K mg base CX0 3 g gd ["level"] (spP K RLow)) (bG:Binds K gd ["level"] []) (kG:PySem.W.keepIn K (.ref g)=true) (mG:mg "lowered" = some (.ref g))
    (G2:FnOk P w K mg base CX0 6 g2 gd2 ["joints"] (spQ K RTipOf)) (bG2:Binds K gd2 ["joints"] []) (kG2:PySem.W.keepIn K (.ref g2)=true) (mG2:mg "tip_of" = some (.ref g2)) (m_range:mg "range" = none) (m_len:mg "len" = none) :
    FnOk P w K mg base CX0 7 f fd ["self"] (spMr K C RPlacesC):=by
  refine okMr (C:=C) F scCPlaces (fun dn gn ds d h=>?_) (fun cdv A0 outer s0 H0 E0 hr=>?_)
  . obtain ⟨js,rfl,_⟩:=h;rfl
  have r:=hr.mono (show 3<=6 by decide)
  have r2:=hr.mono (show 6<=6 by decide)
  have rj1:=hr.mono (show 1<=6 by decide)
  refine ⟨_,(zss_cons (zs_set (i:=1) scCPlaces.nd rfl (Or.inr rfl) (ze_meth0 (zv 0) oc.cls mJ1 J1 rj1 bJ1 .nil pass0))
    (zss_one (zs_ret (ze_comp (own:=["many"]) scCPlaces rfl ⟨by decide +kernel,rfl,by decide +kernel,by decide +kernel,by decide +kernel,by decide +kernel,by decide +kernel,by decide +kernel,by decide +kernel⟩ (zi_range2 rfl m_range (za_i (za_b (ze_op op_add (ze_callB call_len_seq rfl m_len PySem.boot_len (za_n (zv 1) za_nil)) ze_int) za_nil))) (fun C fp s H nd=>zg_name (i:=0) nd rfl (Or.inl rfl)) (fun C fp s H=>zts_nil) (fun C fp s H=>(ze_call G r rfl mG kG bG .nil pass0 (za_c (ze_call G2 r2 rfl mG2 kG2 bG2 .nil pass0 (za_s (ze_slice sl_tupAC (zv 2) zo_none (zo_some (zv 0))) za_nil)) za_nil))))))),fun a dn gn ds d h=>?_⟩
  obtain ⟨js,rfl,⟨⟨xs,rfl⟩,hJ,h6⟩,rfl⟩:=h
  refine S.let1 (s:=.dat (chD js)) (E1.callMr (i:=0) (ds:=[]) rfl (.inr rfl) A1.nil ⟨rfl,noL_chD js,xs,rfl⟩) ?_
  have rl:(rangeD 1 js.length).length=js.length:=by unfold rangeD;rw [List.length_map,List.length_range]
  refine S.ret1 (s:=.own ((List.range js.length).map fun m=>pQ (tipV (js.take (m + 1))))) (E1.compX (no:=1) _ (Wk.rng2 (j:=(js.length:Int) + 1) (n:=js.length) (A1.cons E1.int (A1.cons (E1.add (E1.to (E1.lenT (ds:=js.map Jt.d) (A1.cons (E1.var rfl) A1.nil)) (by rw [List.length_map])) E1.int) A1.nil)) (by omega) (by omega)) (fun d=>[.dat d]) (fun d _=>Gc.name) (by rw [List.length_map,List.length_range,rl]) (fun i d f h1 h2=>?_) (by rw [rl];exact Nat.le_trans h6 (by decide))) ⟨rfl,noLs_all fun x hx=>by obtain ⟨m,_,rfl⟩:=List.mem_map.mp hx;rfl⟩
  obtain ⟨hi,rfl⟩:=rangeD_get h1
  rw [List.getElem?_map,List.getElem?_range hi] at h2
  cases h2
  have hT:Js (js.take (i + 1)):=hJ.take
  have hL:(js.take (i + 1)).length<=6:=by rw [List.length_take];omega
  exact E.callC (R:=RLow) (C:=fun ss=>∃ T1 T2 T3 B:Int,ss=[.dat (lvD T1 T2 T3 B)]/\LB3 (195 * (js.take (i + 1)).length) T1 T2 T3 B (tipV (js.take (i + 1)))) (A.cons (C1:=fun s=>∃ T1 T2 T3 B:Int,s = .dat (lvD T1 T2 T3 B)/\LB3 (195 * (js.take (i + 1)).length) T1 T2 T3 B (tipV (js.take (i + 1)))) (E.mono (E.callQ (R:=RTipOf) (ds:=[chD (js.take (i + 1))]) (A1.cons (E1.to (s':=.dat (chD (js.take (i + 1)))) (E1.slTA (ds:=js.map Jt.d) (lo:=none) (hi:=some ((i + 1:Nat):Int)) (E1.var rfl) O1.none (O1.some (E1.to (E1.var rfl) (by rw [Int.add_comm];rfl)))) (by rw [cutG_to];unfold chD;rw [List.map_take])) A1.nil) ⟨js.take (i + 1),rfl,hT,by omega,rfl⟩) fun s ⟨d,es,T1,T2,T3,B,ed,lb⟩=>⟨T1,T2,T3,B,by rw [es,ed],lb⟩) (fun s _=>A1.nil) (fun s ss ⟨T1,T2,T3,B,es,lb⟩ ess=>⟨T1,T2,T3,B,by rw [es, <- ess],lb⟩)) (fun ss ⟨T1,T2,T3,B,ess,lb⟩=>⟨[lvD T1 T2 T3 B],by rw [ess];rfl,_,T1,T2,T3,B,_,_,_,rfl,lb,by omega,rfl⟩)
theorem scCTip:FnScope ["self"] ["self"] (defScope sCTip):=⟨rfl,rfl,rfl,by decide +kernel,rfl,by decide +kernel,by decide +kernel⟩
theorem ok_ctip (F:Fun K "tip" "Chain.tip" sCTip f fd) (oc:ObC K C)
    (J1:FnOk P w K mg base CX0 1 j1 jd1 ["self"] (spMr K C RLatest)) (bJ1:Binds K jd1 ["self"] []) (mJ1:Meth K C "latest" j1)
    (G:FnOk P w K mg base CX0 3 g gd ["level"] (spP K RLow)) (bG:Binds K gd ["level"] []) (kG:PySem.W.keepIn K (.ref g)=true) (mG:mg "lowered" = some (.ref g))
    (G2:FnOk P w K mg base CX0 6 g2 gd2 ["joints"] (spQ K RTipOf)) (bG2:Binds K gd2 ["joints"] []) (kG2:PySem.W.keepIn K (.ref g2)=true) (mG2:mg "tip_of" = some (.ref g2)) :
    FnOk P w K mg base CX0 7 f fd ["self"] (spMr K C RTipC):=by
  refine okMr (C:=C) F scCTip (fun dn gn ds d h=>?_) (fun cdv A0 outer s0 H0 E0 hr=>?_)
  . obtain ⟨js,rfl,_⟩:=h;rfl
  have r:=hr.mono (show 3<=6 by decide)
  have r2:=hr.mono (show 6<=6 by decide)
  have rj1:=hr.mono (show 1<=6 by decide)
  refine ⟨_,(zss_one (zs_ret (ze_call G r rfl mG kG bG .nil pass0 (za_c (ze_call G2 r2 rfl mG2 kG2 bG2 .nil pass0 (za_c (ze_meth0 (zv 0) oc.cls mJ1 J1 rj1 bJ1 .nil pass0) za_nil)) za_nil)))),fun a dn gn ds d h=>?_⟩
  obtain ⟨js,rfl,⟨⟨xs,rfl⟩,hJ,h6⟩,rfl⟩:=h
  exact S.ret1 (s:=.dat (pQ (tipV js))) (E.callC (R:=RLow) (C:=fun ss=>∃ T1 T2 T3 B:Int,ss=[.dat (lvD T1 T2 T3 B)]/\LB3 (195 * js.length) T1 T2 T3 B (tipV js)) (A.cons (C1:=fun s=>∃ T1 T2 T3 B:Int,s = .dat (lvD T1 T2 T3 B)/\LB3 (195 * js.length) T1 T2 T3 B (tipV js)) (E.mono (E.callQ (R:=RTipOf) (ds:=[chD js]) (A1.cons (E1.callMr (i:=0) (ds:=[]) rfl (.inr rfl) A1.nil ⟨rfl,noL_chD js,xs,rfl⟩) A1.nil) ⟨js,rfl,hJ,by omega,rfl⟩) fun s ⟨d,es,T1,T2,T3,B,ed,lb⟩=>⟨T1,T2,T3,B,by rw [es,ed],lb⟩) (fun s _=>A1.nil) (fun s ss ⟨T1,T2,T3,B,es,lb⟩ ess=>⟨T1,T2,T3,B,by rw [es, <- ess],lb⟩)) (fun ss ⟨T1,T2,T3,B,ess,lb⟩=>⟨[lvD T1 T2 T3 B],by rw [ess];rfl,_,T1,T2,T3,B,_,_,_,rfl,lb,by omega,rfl⟩)) ⟨rfl,rfl⟩
theorem scDLatest:FnScope ["self"] ["self"] (defScope sDLatest):=⟨rfl,rfl,rfl,by decide +kernel,rfl,by decide +kernel,by decide +kernel⟩
theorem ok_dlatest (F:Fun K "latest" "Deeds.latest" sDLatest f fd) (oc:ObC K C) :
    FnOk P w K mg base CX0 1 f fd ["self"] (spMr K C RLatest):=by
  refine okMr (C:=C) F scDLatest (fun dn gn ds d h=>?_) (fun cdv A0 outer s0 H0 E0 hr=>?_)
  . obtain ⟨rfl,_⟩:=h;rfl
  refine ⟨_,(zss_one (zs_ret (ze_ix ix_list (ze_fld (zv 0)) (ze_un un_neg ze_int) (fun _ _=>rfl)))),fun a dn gn ds d h=>?_⟩
  obtain ⟨rfl,nl,xs,rfl⟩:=h
  exact S.ret1 (E1.ixL (E1.vwd (E1.fldDV oc rfl)) (E1.neg E1.int) (atI_last (by simp))) ⟨rfl,nl⟩
theorem scDDo:FnScope ["self","made"] ["self","made"] (defScope sDDo):=⟨rfl,rfl,rfl,by decide +kernel,rfl,by decide +kernel,by decide +kernel⟩
theorem ok_ddo (F:Fun K "do" "Deeds.do" sDDo f fd) (oc:ObC K C) :
    FnOk P w K mg base CX0 1 f fd ["self","made"] (spMw K C RDo):=by
  refine okMw (C:=C) F scDDo (fun dn gn ds dn2 gn2 h=>?_) (fun cdv A0 outer s0 H0 E0 hr=>?_)
  . obtain ⟨d,rfl,_⟩:=h;rfl
  refine ⟨_,(zss_cons (zs_expr (ze_append (ze_fld (zv 0)) (zv 1)))
    (zss_one (zs_fld (zv 0) (ze_lst za_nil)))),fun a dn gn ds dn2 gn2 h=>?_⟩
  obtain ⟨d,rfl,nl,hl,rfl,rfl⟩:=h
  refine S.seq (M:=fun τ'=>τ'=[.dt (obO a C (dn ++ [d]) gn),.dat d]) (S.appDone oc rfl (E1.var rfl) nl (lt_size1000 hl) rfl) fun τ' e=>?_
  subst e
  exact S.newGone oc rfl (τ':=[.dt (obO a C (dn ++ [d]) []),.dat d]) rfl
theorem scDIni:FnScope ["self","first"] ["self","first"] (defScope sDIni):=⟨rfl,rfl,rfl,by decide +kernel,rfl,by decide +kernel,by decide +kernel⟩
theorem ok_dini (F:Fun K "__init__" "Deeds.__init__" sDIni f fd) (oc:ObC K C) :
    FnOk P w K mg base CX0 1 f fd ["self","first"] (spIn K C RIni):=by
  refine F.okZ scDIni (fun vs H Q E h=>by obtain ⟨a,us,dx,ds,dn,gn,rfl,_,z,⟨d,rfl,_⟩,_⟩:=h;rw [List.length_cons,z.len];rfl) (fun cdv A outer s H vs Q E hr h=>?_)
  refine ⟨_,(zss_cons (zs_fld (zv 0) (ze_lst (za_n (zv 1) za_nil)))
    (zss_one (zs_fld (zv 0) (ze_lst za_nil)))),ini_run oc h⟩
theorem scSop:FnScope ["one","other"] ["one","other"] (defScope sSop):=⟨rfl,rfl,rfl,by decide +kernel,rfl,by decide +kernel,by decide +kernel⟩
theorem ok_sop (F : Fun K "sum_of_products" "sum_of_products" sSop f fd) (ms : mg "sum" = none) (mz : mg "zip" = none) : FnOk P w K mg base CX0 1 f fd ["one", "other"] (spSop K) := by
  refine F.okZ scSop (fun vs H Q E h=>?_) (fun cdv A outer s H vs Q E hr h=>?_)
  . obtain ⟨a,b,ns,ms,rfl,_⟩:=h;rfl
  obtain ⟨a,b,ns,ms,rfl,hS,hT,hl,hl2,s1,s2,q⟩:=h
  refine ⟨_,zss_one (zs_ret (ze_callB (call_sumL rfl) rfl ‹_› (by rfl) (za_cons (ze_comp (own:=["left","right"]) scSop rfl ⟨by decide +kernel,rfl,by decide +kernel,by decide +kernel,by decide +kernel,by decide +kernel,by decide +kernel,by decide +kernel,by decide +kernel⟩
      (zi_zip rfl mz (za_cons (zv 0) (za_cons (zv 1) za_nil)))
      (fun C fp s H nd=>zg_pair rfl nd rfl rfl rfl rfl) (fun C fp s H=>zts_nil) (fun C fp s H=>ze_op op_mulB (zv 0) (zv 1))) za_nil))),?_⟩
  refine ⟨_,rfl,_,rfl,a,b,rfl,⟨_,hS⟩,⟨_,hT⟩,?_⟩
  refine comp_zip (K:=K) ((List.zipWith (· * ·) ns ms).map PySem.W.Dat.int) hS hT (by simp [hl2]) (by simp [hl2]) (by rw [List.length_map];exact Nat.le_of_lt (small1000 hl)) (fun i x y H' d hx hy hd hs=>?_) (fun σ' H2 Q1 Q2 hq h=>?_) (fun D H' ys hs hy hD hf=>?_)
  . rw [List.getElem?_map] at hx hy hd
    rw [List.getElem?_zipWith] at hd
    cases e:ns[i]? with
    | none=>rw [e] at hx;cases hx
    | some n =>
      cases e2:ms[i]? with
      | none=>rw [e2] at hy;cases hy
      | some m =>
        rw [e] at hx hd
        rw [e2] at hy hd
        cases hx;cases hy;cases hd
        exact ⟨_,rfl,_,rfl,n,m,rfl,rfl,mulOk_of (pow_lift (s1 n (List.mem_of_getElem? e))) (pow_lift (s2 m (List.mem_of_getElem? e2))),Same.refl _,.int _⟩
  . obtain ⟨v1,e1,v2,e2,i,j,e3,e4,e5,q⟩:=h
    exact ⟨v1,e1,v2,e2,i,j,e3,e4,e5,hq _ _ q⟩
  . refine ⟨D,_,rfl,?_,q _ hs⟩
    rw [Fzs.ints_inv hf] at hy
    exact SqL.of hy
end
end K84
end
section
namespace K84
open PySem L2 Num K0 D
open PySem.W (Dat)
theorem us1 {P:List Value->Prop} (h:∀ a,P [a]):∀ (us:List Value),us.length=1->P us:=fun us l=>by
  cases us with
  | nil=>cases l
  | cons x0 us =>
  cases us with
  | cons _ _=>simp at l
  | nil=>exact h x0
theorem us2 {P:List Value->Prop} (h:∀ a b,P [a,b]):∀ (us:List Value),us.length=2->P us:=fun us l=>by
  cases us with
  | nil=>cases l
  | cons x0 us =>
  cases us with
  | nil=>cases l
  | cons x1 us =>
  cases us with
  | cons _ _=>simp at l
  | nil=>exact h x0 x1
theorem us3 {P:List Value->Prop} (h:∀ a b c,P [a,b,c]):∀ (us:List Value),us.length=3->P us:=fun us l=>by
  cases us with
  | nil=>cases l
  | cons x0 us =>
  cases us with
  | nil=>cases l
  | cons x1 us =>
  cases us with
  | nil=>cases l
  | cons x2 us =>
  cases us with
  | cons _ _=>simp at l
  | nil=>exact h x0 x1 x2
theorem us4 {P:List Value->Prop} (h:∀ a b c d,P [a,b,c,d]):∀ (us:List Value),us.length=4->P us:=fun us l=>by
  cases us with
  | nil=>cases l
  | cons x0 us =>
  cases us with
  | nil=>cases l
  | cons x1 us =>
  cases us with
  | nil=>cases l
  | cons x2 us =>
  cases us with
  | nil=>cases l
  | cons x3 us =>
  cases us with
  | cons _ _=>simp at l
  | nil=>exact h x0 x1 x2 x3
theorem all_mk {l:PySem.W.OpenLaw} {w:World} {K:PySem.W.Frag} {h:Heap} {mg:Str->Option Value} {fa cDeeds cChain:Addr} (X:K.In h) (G:h.Ns mainGlobals mg) (hfa:mg "law" = some (.ref fa))
    (g_Deeds:PySem.W.nsIn K mainGlobals "Deeds" = some (some (.ref cDeeds))) (g_Chain:PySem.W.nsIn K mainGlobals "Chain" = some (some (.ref cChain))) (ocChain:ObC K cChain) (d2:DefAt K "common_divisor" sCD) (d3:DefAt K "reduced" sRed) (d4:DefAt K "negated" sNeg) (d6:DefAt K "common_multiple" sCM) (d7:DefAt K "levelled" sDLev) (d8:DefAt K "lowered" sDLow) (d9:DefAt K "levels_added" sLAdd) (d12:DefAt K "plain" sPlain) (d13:DefAt K "size" sSize) (d14:DefAt K "product" sProd) (d15:DefAt K "then" sThen) (d16:DefAt K "whole_table" sWT) (d17:DefAt K "level_turned" sLT) (d19:DefAt K "plain_setting" sPSet) (d20:DefAt K "about" sAbout) (d29:DefAt K "turn_of" sTurnOf) (d30:DefAt K "tip_of" sTipOf) (d33:DefAt K "_law_mixed" sMixed4) (d34:DefAt K "_law_purse" sPurse4) (d35:DefAt K "_law_draw" sDraw) (d36:DefAt K "_law_number" sNumber9) (d37:DefAt K "_law_row" sRow9) (d38:DefAt K "_law_divisor" sDiv) (d39:DefAt K "_law_plain" sLPlain5) (d42:DefAt K "_law_lowest" sLowest4) (d43:DefAt K "_law_plus" sPlus) (d44:DefAt K "_law_less_by" sLessV) (d45:DefAt K "_law_inner" sInner) (d46:DefAt K "_law_turned" sTurnedF) (d47:DefAt K "_law_point" sPoint9) (d48:DefAt K "_law_setting" sSet9) (d49:DefAt K "_law_joints" sJoints) (d50:DefAt K "_law_chain" sChainF) (d51:DefAt K "_law_far" sFarV) (d52:DefAt K "_law_bones" sBones) (d53:DefAt K "_law_seen" sSeenF) (d54:DefAt K "law" sLaw) (d31_0_Chain:InitAt K cChain "__init__" "Chain.__init__" sCIni) (d31_1_Chain:MethAt K cChain "add" "Chain.add" sCAdd) (d31_3_Chain:MethAt K cChain "refuse_no_joint" "Chain.refuse_no_joint" sCRef) (d31_4_Chain:MethAt K cChain "bend" "Chain.bend" sCBend) (d31_6_Chain:MethAt K cChain "stands" "Chain.stands" sCStands) (d31_7_Chain:MethAt K cChain "places" "Chain.places" sCPlaces) (d31_8_Chain:MethAt K cChain "tip" "Chain.tip" sCTip) (d26_1_Chain:MethAt K cChain "latest" "Deeds.latest" sDLatest) (d26_2_Chain:MethAt K cChain "do" "Deeds.do" sDDo) (d26_0_Chain_c:CMethAt K cDeeds "__init__" "Deeds.__init__" sDIni) (d5:DefAt K "sum_of_products" sSop)
    (tb_MOST_JOINTS:IntTAt K "MOST_JOINTS" 6) (tb_NOTHING:TupTAt K "NOTHING" [1,0,0,0]) (z_abs:PySem.W.nsIn K mainGlobals "abs" = some none) (z_tuple:PySem.W.nsIn K mainGlobals "tuple" = some none) (z_zip:PySem.W.nsIn K mainGlobals "zip" = some none) (z_reversed:PySem.W.nsIn K mainGlobals "reversed" = some none) (z_range:PySem.W.nsIn K mainGlobals "range" = some none) (z_len:PySem.W.nsIn K mainGlobals "len" = some none) (z_sum:PySem.W.nsIn K mainGlobals "sum" = some none) :
    ∃ fd:FuncData,(∀ (s:Shared) (v:Value),BindsTo s fd ⟨[v],[]⟩ [("_law_script",v)])/\∀ base:Heap,K.In base->base.Ns mainGlobals mg->FnOk l.prog w K mg base CX0 9 fa fd ["_law_script"] (spLaw K):=by
  obtain ⟨f2,fd2,F2,m2,k2⟩:=d2.get X G
  have b2:=F2.binds (ps:=["numbers"]) (by refine fun _ _ _ _ _ _=>us1 ?_;intros;rfl)
  obtain ⟨f3,fd3,F3,m3,k3⟩:=d3.get X G
  have b3:=F3.binds (ps:=["numbers"]) (by refine fun _ _ _ _ _ _=>us1 ?_;intros;rfl)
  obtain ⟨f4,fd4,F4,m4,k4⟩:=d4.get X G
  have b4:=F4.binds (ps:=["numbers"]) (by refine fun _ _ _ _ _ _=>us1 ?_;intros;rfl)
  obtain ⟨f6,fd6,F6,m6,k6⟩:=d6.get X G
  have b6:=F6.binds (ps:=["numbers"]) (by refine fun _ _ _ _ _ _=>us1 ?_;intros;rfl)
  obtain ⟨f7,fd7,F7,m7,k7⟩:=d7.get X G
  have b7:=F7.binds (ps:=["fractions"]) (by refine fun _ _ _ _ _ _=>us1 ?_;intros;rfl)
  obtain ⟨f8,fd8,F8,m8,k8⟩:=d8.get X G
  have b8:=F8.binds (ps:=["level"]) (by refine fun _ _ _ _ _ _=>us1 ?_;intros;rfl)
  obtain ⟨f9,fd9,F9,m9,k9⟩:=d9.get X G
  have b9:=F9.binds (ps:=["one","other"]) (by refine fun _ _ _ _ _ _=>us2 ?_;intros;rfl)
  obtain ⟨f12,fd12,F12,m12,k12⟩:=d12.get X G
  have b12:=F12.binds (ps:=["four"]) (by refine fun _ _ _ _ _ _=>us1 ?_;intros;rfl)
  obtain ⟨f13,fd13,F13,m13,k13⟩:=d13.get X G
  have b13:=F13.binds (ps:=["four"]) (by refine fun _ _ _ _ _ _=>us1 ?_;intros;rfl)
  obtain ⟨f14,fd14,F14,m14,k14⟩:=d14.get X G
  have b14:=F14.binds (ps:=["one","other"]) (by refine fun _ _ _ _ _ _=>us2 ?_;intros;rfl)
  obtain ⟨f15,fd15,F15,m15,k15⟩:=d15.get X G
  have b15:=F15.binds (ps:=["one","other"]) (by refine fun _ _ _ _ _ _=>us2 ?_;intros;rfl)
  obtain ⟨f16,fd16,F16,m16,k16⟩:=d16.get X G
  have b16:=F16.binds (ps:=["four"]) (by refine fun _ _ _ _ _ _=>us1 ?_;intros;rfl)
  obtain ⟨f17,fd17,F17,m17,k17⟩:=d17.get X G
  have b17:=F17.binds (ps:=["four","level"]) (by refine fun _ _ _ _ _ _=>us2 ?_;intros;rfl)
  obtain ⟨f19,fd19,F19,m19,k19⟩:=d19.get X G
  have b19:=F19.binds (ps:=["setting"]) (by refine fun _ _ _ _ _ _=>us1 ?_;intros;rfl)
  obtain ⟨f20,fd20,F20,m20,k20⟩:=d20.get X G
  have b20:=F20.binds (ps:=["way","setting"]) (by refine fun _ _ _ _ _ _=>us2 ?_;intros;rfl)
  obtain ⟨f29,fd29,F29,m29,k29⟩:=d29.get X G
  have b29:=F29.binds (ps:=["joint"]) (by refine fun _ _ _ _ _ _=>us1 ?_;intros;rfl)
  obtain ⟨f30,fd30,F30,m30,k30⟩:=d30.get X G
  have b30:=F30.binds (ps:=["joints"]) (by refine fun _ _ _ _ _ _=>us1 ?_;intros;rfl)
  obtain ⟨f33,fd33,F33,m33,k33⟩:=d33.get X G
  have b33:=F33.binds (ps:=["_law_cell","_law_k"]) (by refine fun _ _ _ _ _ _=>us2 ?_;intros;rfl)
  obtain ⟨f34,fd34,F34,m34,k34⟩:=d34.get X G
  have b34:=F34.binds (ps:=["_law_script"]) (by refine fun _ _ _ _ _ _=>us1 ?_;intros;rfl)
  obtain ⟨f35,fd35,F35,m35,k35⟩:=d35.get X G
  have b35:=F35.binds (ps:=["_law_purse_here","_law_out_of"]) (by refine fun _ _ _ _ _ _=>us2 ?_;intros;rfl)
  obtain ⟨f36,fd36,F36,m36,k36⟩:=d36.get X G
  have b36:=F36.binds (ps:=["_law_purse_here"]) (by refine fun _ _ _ _ _ _=>us1 ?_;intros;rfl)
  obtain ⟨f37,fd37,F37,m37,k37⟩:=d37.get X G
  have b37:=F37.binds (ps:=["_law_purse_here","_law_many"]) (by refine fun _ _ _ _ _ _=>us2 ?_;intros;rfl)
  obtain ⟨f38,fd38,F38,m38,k38⟩:=d38.get X G
  have b38:=F38.binds (ps:=["_law_one","_law_other"]) (by refine fun _ _ _ _ _ _=>us2 ?_;intros;rfl)
  obtain ⟨f39,fd39,F39,m39,k39⟩:=d39.get X G
  have b39:=F39.binds (ps:=["_law_four"]) (by refine fun _ _ _ _ _ _=>us1 ?_;intros;rfl)
  obtain ⟨f42,fd42,F42,m42,k42⟩:=d42.get X G
  have b42:=F42.binds (ps:=["_law_top","_law_bottom"]) (by refine fun _ _ _ _ _ _=>us2 ?_;intros;rfl)
  obtain ⟨f43,fd43,F43,m43,k43⟩:=d43.get X G
  have b43:=F43.binds (ps:=["_law_one","_law_other"]) (by refine fun _ _ _ _ _ _=>us2 ?_;intros;rfl)
  obtain ⟨f44,fd44,F44,m44,k44⟩:=d44.get X G
  have b44:=F44.binds (ps:=["_law_one","_law_other"]) (by refine fun _ _ _ _ _ _=>us2 ?_;intros;rfl)
  obtain ⟨f45,fd45,F45,m45,k45⟩:=d45.get X G
  have b45:=F45.binds (ps:=["_law_one","_law_other"]) (by refine fun _ _ _ _ _ _=>us2 ?_;intros;rfl)
  obtain ⟨f46,fd46,F46,m46,k46⟩:=d46.get X G
  have b46:=F46.binds (ps:=["_law_four","_law_point_here"]) (by refine fun _ _ _ _ _ _=>us2 ?_;intros;rfl)
  obtain ⟨f47,fd47,F47,m47,k47⟩:=d47.get X G
  have b47:=F47.binds (ps:=["_law_purse_here"]) (by refine fun _ _ _ _ _ _=>us1 ?_;intros;rfl)
  obtain ⟨f48,fd48,F48,m48,k48⟩:=d48.get X G
  have b48:=F48.binds (ps:=["_law_setting_here"]) (by refine fun _ _ _ _ _ _=>us1 ?_;intros;rfl)
  obtain ⟨f49,fd49,F49,m49,k49⟩:=d49.get X G
  have b49:=F49.binds (ps:=["_law_purse_here","_law_most"]) (by refine fun _ _ _ _ _ _=>us2 ?_;intros;rfl)
  obtain ⟨f50,fd50,F50,m50,k50⟩:=d50.get X G
  have b50:=F50.binds (ps:=["_law_rows"]) (by refine fun _ _ _ _ _ _=>us1 ?_;intros;rfl)
  obtain ⟨f51,fd51,F51,m51,k51⟩:=d51.get X G
  have b51:=F51.binds (ps:=["_law_one","_law_other"]) (by refine fun _ _ _ _ _ _=>us2 ?_;intros;rfl)
  obtain ⟨f52,fd52,F52,m52,k52⟩:=d52.get X G
  have b52:=F52.binds (ps:=["_law_chain_here","_law_rows"]) (by refine fun _ _ _ _ _ _=>us2 ?_;intros;rfl)
  obtain ⟨f53,fd53,F53,m53,k53⟩:=d53.get X G
  have b53:=F53.binds (ps:=["_law_chain_here","_law_rows","_law_joint"]) (by refine fun _ _ _ _ _ _=>us3 ?_;intros;rfl)
  obtain ⟨fd54,F54,b54⟩:=d54.law (y := "_law_script") X G hfa fun _ _ _ _ _ _ _=>rfl
  obtain ⟨f31_0_Chain,fd31_0_Chain,F31_0_Chain,m31_0_Chain⟩:=d31_0_Chain.get
  have b31_0_Chain:=F31_0_Chain.binds (ps:=["self"]) (by refine fun _ _ _ _ _ _=>us1 ?_;intros;rfl)
  obtain ⟨f31_1_Chain,fd31_1_Chain,F31_1_Chain,m31_1_Chain⟩:=d31_1_Chain.get
  have b31_1_Chain:=F31_1_Chain.binds (ps:=["self","way","arm","setting"]) (by refine fun _ _ _ _ _ _=>us4 ?_;intros;rfl)
  obtain ⟨f31_3_Chain,fd31_3_Chain,F31_3_Chain,m31_3_Chain⟩:=d31_3_Chain.get
  have b31_3_Chain:=F31_3_Chain.binds (ps:=["self","joint"]) (by refine fun _ _ _ _ _ _=>us2 ?_;intros;rfl)
  obtain ⟨f31_4_Chain,fd31_4_Chain,F31_4_Chain,m31_4_Chain⟩:=d31_4_Chain.get
  have b31_4_Chain:=F31_4_Chain.binds (ps:=["self","joint","setting"]) (by refine fun _ _ _ _ _ _=>us3 ?_;intros;rfl)
  obtain ⟨f31_6_Chain,fd31_6_Chain,F31_6_Chain,m31_6_Chain⟩:=d31_6_Chain.get
  have b31_6_Chain:=F31_6_Chain.binds (ps:=["self"]) (by refine fun _ _ _ _ _ _=>us1 ?_;intros;rfl)
  obtain ⟨f31_7_Chain,fd31_7_Chain,F31_7_Chain,m31_7_Chain⟩:=d31_7_Chain.get
  have b31_7_Chain:=F31_7_Chain.binds (ps:=["self"]) (by refine fun _ _ _ _ _ _=>us1 ?_;intros;rfl)
  obtain ⟨f31_8_Chain,fd31_8_Chain,F31_8_Chain,m31_8_Chain⟩:=d31_8_Chain.get
  have b31_8_Chain:=F31_8_Chain.binds (ps:=["self"]) (by refine fun _ _ _ _ _ _=>us1 ?_;intros;rfl)
  obtain ⟨f26_1_Chain,fd26_1_Chain,F26_1_Chain,m26_1_Chain⟩:=d26_1_Chain.get
  have b26_1_Chain:=F26_1_Chain.binds (ps:=["self"]) (by refine fun _ _ _ _ _ _=>us1 ?_;intros;rfl)
  obtain ⟨f26_2_Chain,fd26_2_Chain,F26_2_Chain,m26_2_Chain⟩:=d26_2_Chain.get
  have b26_2_Chain:=F26_2_Chain.binds (ps:=["self","made"]) (by refine fun _ _ _ _ _ _=>us2 ?_;intros;rfl)
  obtain ⟨f26_0_Chain_c,fd26_0_Chain_c,F26_0_Chain_c,m26_0_Chain_c⟩:=d26_0_Chain_c.get
  have b26_0_Chain_c:=F26_0_Chain_c.binds (ps:=["self","first"]) (by refine fun _ _ _ _ _ _=>us2 ?_;intros;rfl)
  obtain ⟨f5,fd5,F5,m5,k5⟩:=d5.get X G
  have b5:=F5.binds (ps:=["one","other"]) (by refine fun _ _ _ _ _ _=>us2 ?_;intros;rfl)
  have m_Deeds:=PySem.W.mg_of X G g_Deeds
  have m_Chain:=PySem.W.mg_of X G g_Chain
  obtain ⟨dMOST_JOINTS,m_MOST_JOINTS,t_MOST_JOINTS⟩:=tb_MOST_JOINTS.get X G
  obtain ⟨dNOTHING,m_NOTHING,t_NOTHING⟩:=tb_NOTHING.get X G
  have m_abs:=PySem.W.mg_none_of X G z_abs
  have m_tuple:=PySem.W.mg_none_of X G z_tuple
  have m_zip:=PySem.W.mg_none_of X G z_zip
  have m_reversed:=PySem.W.mg_none_of X G z_reversed
  have m_range:=PySem.W.mg_none_of X G z_range
  have m_len:=PySem.W.mg_none_of X G z_len
  have m_sum:=PySem.W.mg_none_of X G z_sum
  refine ⟨fd54,b54,fun base _ _=>?_⟩
  have o2_CD:=ok_cd (P:=l.prog) (w:=w) (mg:=mg) (base:=base) F2     m_abs 
  have o3_Red:=ok_red (P:=l.prog) (w:=w) (mg:=mg) (base:=base) F3    o2_CD b2 k2 m2 m_tuple 
  have o4_Neg:=ok_neg (P:=l.prog) (w:=w) (mg:=mg) (base:=base) F4     m_tuple 
  have o6_CM:=ok_cm (P:=l.prog) (w:=w) (mg:=mg) (base:=base) F6    o2_CD b2 k2 m2  
  have o7_DLev:=ok_dlev (P:=l.prog) (w:=w) (mg:=mg) (base:=base) F7    o6_CM b6 k6 m6 m_tuple 
  have o8_DLow:=ok_dlow (P:=l.prog) (w:=w) (mg:=mg) (base:=base) F8    o3_Red b3 k3 m3 m_tuple 
  have o9_LAdd:=ok_ladd (P:=l.prog) (w:=w) (mg:=mg) (base:=base) F9     m_tuple m_zip 
  have o12_Plain:=ok_plain (P:=l.prog) (w:=w) (mg:=mg) (base:=base) F12    o3_Red b3 k3 m3 o4_Neg b4 k4 m4  
  have o14_Prod:=ok_prod (P:=l.prog) (w:=w) (mg:=mg) (base:=base) F14      
  have o15_Then:=ok_then (P:=l.prog) (w:=w) (mg:=mg) (base:=base) F15    o12_Plain b12 k12 m12 o14_Prod b14 k14 m14  
  have o16_WT:=ok_wt (P:=l.prog) (w:=w) (mg:=mg) (base:=base) F16      
  have o19_PSet:=ok_pset (P:=l.prog) (w:=w) (mg:=mg) (base:=base) F19    o3_Red b3 k3 m3 o4_Neg b4 k4 m4  
  have o20_About:=ok_about (P:=l.prog) (w:=w) (mg:=mg) (base:=base) F20    o12_Plain b12 k12 m12  
  have o29_TurnOf:=ok_turnof (P:=l.prog) (w:=w) (mg:=mg) (base:=base) F29    o20_About b20 k20 m20  
  have o33_Mixed4:=ok_mixed4 (P:=l.prog) (w:=w) (mg:=mg) (base:=base) F33      
  have o34_Purse4:=ok_purse4 (P:=l.prog) (w:=w) (mg:=mg) (base:=base) F34    o33_Mixed4 b33 k33 m33 m_range m_len 
  have o35_Draw:=ok_draw (P:=l.prog) (w:=w) (mg:=mg) (base:=base) F35      
  have o36_Number9:=ok_number9 (P:=l.prog) (w:=w) (mg:=mg) (base:=base) F36    o35_Draw b35 k35 m35  
  have o37_Row9:=ok_row9 (P:=l.prog) (w:=w) (mg:=mg) (base:=base) F37    o36_Number9 b36 k36 m36 m_tuple m_range 
  have o38_Div:=ok_div (P:=l.prog) (w:=w) (mg:=mg) (base:=base) F38     m_abs 
  have o39_LPlain5:=ok_lplain5 (P:=l.prog) (w:=w) (mg:=mg) (base:=base) F39    o38_Div b38 k38 m38 m_tuple 
  have o42_Lowest4:=ok_lowest4 (P:=l.prog) (w:=w) (mg:=mg) (base:=base) F42    o38_Div b38 k38 m38  
  have o43_Plus:=ok_plus (P:=l.prog) (w:=w) (mg:=mg) (base:=base) F43    o42_Lowest4 b42 k42 m42  
  have o44_LessV:=ok_lessv (P:=l.prog) (w:=w) (mg:=mg) (base:=base) F44    o43_Plus b43 k43 m43 m_tuple m_zip 
  have o45_Inner:=ok_inner (P:=l.prog) (w:=w) (mg:=mg) (base:=base) F45    o43_Plus b43 k43 m43 m_zip 
  have o46_TurnedF:=ok_turnedf (P:=l.prog) (w:=w) (mg:=mg) (base:=base) F46    o45_Inner b45 k45 m45 o42_Lowest4 b42 k42 m42 m_tuple 
  have o47_Point9:=ok_point9 (P:=l.prog) (w:=w) (mg:=mg) (base:=base) F47    o35_Draw b35 k35 m35 o42_Lowest4 b42 k42 m42 o36_Number9 b36 k36 m36 m_range m_tuple 
  have o48_Set9:=ok_set9 (P:=l.prog) (w:=w) (mg:=mg) (base:=base) F48    o39_LPlain5 b39 k39 m39  
  have o49_Joints:=ok_joints (P:=l.prog) (w:=w) (mg:=mg) (base:=base) F49    o35_Draw b35 k35 m35 o37_Row9 b37 k37 m37 o47_Point9 b47 k47 m47 o48_Set9 b48 k48 m48 m_range m_tuple 
  have o51_FarV:=ok_farv (P:=l.prog) (w:=w) (mg:=mg) (base:=base) F51    o44_LessV b44 k44 m44 o45_Inner b45 k45 m45  
  have o26_1_Chain_DLatest:=ok_dlatest (P:=l.prog) (w:=w) (mg:=mg) (base:=base) F26_1_Chain ocChain     
  have o31_3_Chain_CRef:=ok_cref (P:=l.prog) (w:=w) (mg:=mg) (base:=base) F31_3_Chain ocChain o26_1_Chain_DLatest b26_1_Chain m26_1_Chain   m_len 
  have o31_6_Chain_CStands:=ok_cstands (P:=l.prog) (w:=w) (mg:=mg) (base:=base) F31_6_Chain ocChain o26_1_Chain_DLatest b26_1_Chain m26_1_Chain  o15_Then b15 k15 m15 o29_TurnOf b29 k29 m29  m_NOTHING t_NOTHING
  have o26_2_Chain_DDo:=ok_ddo (P:=l.prog) (w:=w) (mg:=mg) (base:=base) F26_2_Chain ocChain     
  have o31_1_Chain_CAdd:=ok_cadd (P:=l.prog) (w:=w) (mg:=mg) (base:=base) F31_1_Chain ocChain o26_1_Chain_DLatest b26_1_Chain m26_1_Chain o26_2_Chain_DDo b26_2_Chain m26_2_Chain  o19_PSet b19 k19 m19 m_len m_MOST_JOINTS t_MOST_JOINTS
  have o31_4_Chain_CBend:=ok_cbend (P:=l.prog) (w:=w) (mg:=mg) (base:=base) F31_4_Chain ocChain o31_3_Chain_CRef b31_3_Chain m31_3_Chain o26_1_Chain_DLatest b26_1_Chain m26_1_Chain o26_2_Chain_DDo b26_2_Chain m26_2_Chain  o19_PSet b19 k19 m19  
  have o26_0_Chain_c_DIni:=ok_dini (P:=l.prog) (w:=w) (mg:=mg) (base:=base) F26_0_Chain_c ocChain     
  have o31_0_Chain_CIni:=ok_cini (P:=l.prog) (w:=w) (mg:=mg) (base:=base) F31_0_Chain ocChain o26_0_Chain_c_DIni b26_0_Chain_c m26_0_Chain_c m_Deeds   
  have o50_ChainF:=ok_chainf (P:=l.prog) (w:=w) (mg:=mg) (base:=base) F50 ocChain o31_0_Chain_CIni b31_0_Chain m31_0_Chain o31_1_Chain_CAdd b31_1_Chain m31_1_Chain m_Chain   
  have o5_Sop:=ok_sop (P:=l.prog) (w:=w) (mg:=mg) (base:=base) F5     m_sum m_zip 
  have o13_Size:=ok_size (P:=l.prog) (w:=w) (mg:=mg) (base:=base) F13    o5_Sop b5 k5 m5  
  have o17_LT:=ok_lt (P:=l.prog) (w:=w) (mg:=mg) (base:=base) F17    o16_WT b16 k16 m16 o5_Sop b5 k5 m5 o13_Size b13 k13 m13 m_tuple 
  have o30_TipOf:=ok_tipof (P:=l.prog) (w:=w) (mg:=mg) (base:=base) F30    o17_LT b17 k17 m17 o9_LAdd b9 k9 m9 o7_DLev b7 k7 m7 o29_TurnOf b29 k29 m29 m_reversed 
  have o31_7_Chain_CPlaces:=ok_cplaces (P:=l.prog) (w:=w) (mg:=mg) (base:=base) F31_7_Chain ocChain o26_1_Chain_DLatest b26_1_Chain m26_1_Chain  o8_DLow b8 k8 m8 o30_TipOf b30 k30 m30 m_range m_len 
  have o53_SeenF:=ok_seenf (P:=l.prog) (w:=w) (mg:=mg) (base:=base) F53 ocChain o31_7_Chain_CPlaces b31_7_Chain m31_7_Chain o31_6_Chain_CStands b31_6_Chain m31_6_Chain  o46_TurnedF b46 k46 m46 o45_Inner b45 k45 m45 o44_LessV b44 k44 m44 o51_FarV b51 k51 m51 m_tuple 
  have o31_8_Chain_CTip:=ok_ctip (P:=l.prog) (w:=w) (mg:=mg) (base:=base) F31_8_Chain ocChain o26_1_Chain_DLatest b26_1_Chain m26_1_Chain  o8_DLow b8 k8 m8 o30_TipOf b30 k30 m30  
  have o52_Bones:=ok_bones (P:=l.prog) (w:=w) (mg:=mg) (base:=base) F52 ocChain o31_7_Chain_CPlaces b31_7_Chain m31_7_Chain o31_8_Chain_CTip b31_8_Chain m31_8_Chain  o51_FarV b51 k51 m51 o45_Inner b45 k45 m45 m_range m_len 
  exact ok_law (P:=l.prog) (w:=w) (mg:=mg) (base:=base) F54 ocChain o31_4_Chain_CBend b31_4_Chain m31_4_Chain  o34_Purse4 b34 k34 m34 o49_Joints b49 k49 m49 o47_Point9 b47 k47 m47 o37_Row9 b37 k37 m37 o50_ChainF b50 k50 m50 o52_Bones b52 k52 m52 o35_Draw b35 k35 m35 o53_SeenF b53 k53 m53 m_range m_len 
theorem walk {l:PySem.W.OpenLaw} {q:Program} {loose:List Str} {XP:(Str->Option Value)->Heap->Prop} {YP:World->Heap->Prop} {d:DefRec} {K:Params->PySem.W.Frag} (hn:l.most=some 63) (hdf:d.params.defaults=[])
    (hY:∀ (w:World) (h:Heap),YP w h->(K w.params).In h)
    (F:∀ (w:World) (mg:Str->Option Value) (fa:Addr) (h:Heap),(K w.params).In h->h.Ns mainGlobals mg->mg d.name=some (.ref fa) ->
      ∃ fd:FuncData,(∀ (s:Shared) (u:Value),BindsTo s fd ⟨[u],[]⟩ [("_law_script",u)])/\∀ base:Heap,(K w.params).In base->base.Ns mainGlobals mg->FnOk l.prog w (K w.params) mg base CX0 9 fa fd ["_law_script"] (spLaw (K w.params))) :
    PySem.W.WalkO q loose XP YP l.row.toRowW d [] (fun f vs=>PySem.call f vs) :=
  L2.walkB (n:=63) (k:=9) (x := "_law_script") (sp:=spLaw) hn (by decide) hdf ⟨rfl,by decide,by decide⟩ hY F (fun K H a ns hl hb hS=>⟨a,ns,rfl,hS,hl,hb,fun _=>rfl⟩)
end K84
open PySem PySem.W PyProof.Rows
namespace K84
noncomputable def vw:PySem.Program:={ PySem.Challenge.pw_hangrings_k84_whole_bones_stay with main:={ PySem.Challenge.pw_hangrings_k84_whole_bones_stay.main with body:=(PySem.Challenge.pw_hangrings_k84_whole_bones_stay.main.body.zipIdx.filter fun x => !([1,10,18,21,25,27,32].contains x.2)).map (·.1) } }
noncomputable def hRun (T:PySem.W.BT) (w:PySem.World) (os:PySem.OsState):Option PySem.W.SharedT:=TopT.goes PySem.Challenge.pw_hangrings_k84_whole_bones_stay 20000 T w os
noncomputable def hA (h0:PySem.Heap) (s:PySem.W.SharedT):Bool:=PySem.W.staticsOk (PySem.importedModules PySem.Challenge.pw_hangrings_k84_whole_bones_stay.main.body) h0 s.abs.heap && PySem.W.namesBound PySem.Challenge.pw_hangrings_k84_whole_bones_stay s.abs.heap && PySem.W.gensDone s.abs && PySem.W.laidKept h0 s.abs.heap
noncomputable def hB (s:PySem.W.SharedT):=PySem.W.openSeen vw [] (PySem.importedModules PySem.Challenge.pw_hangrings_k84_whole_bones_stay.main.body) (fun s=>PySem.W.xlAt vw [] s && PySem.W.recOk [] s) true s.abs
noncomputable def hG:=PySem.W.openGood vw []
end K84
lay_quick K84.hRun K84.hA K84.hB K84.hG
theorem K84.lookA:∀ w os,(PySem.W.Fast.tw15137133648154978470 (TopT.bt w.params) w os).map (K84.hA (PySem.W.boot_heap w.params))=some true:=by
  rw [PySem.W.Fast.te6591580973076369516]
  intro w os
  kernel_rfl
theorem K84.lookB:∀ w os,(PySem.W.Fast.tw15137133648154978470 (TopT.bt w.params) w os).map K84.hB=some K84.hG:=by
  rw [PySem.W.Fast.te8121775163659854052,PySem.W.Fast.te13805803648436143421]
  intro w os
  kernel_rfl
local macro_rules | `(tactic| o_head $H) => `(tactic| (refine PySem.W.holds_open (q := K84.vw) (loose := []) (Xt := fun s => PySem.W.xlAt K84.vw [] s && PySem.W.recOk [] s) (XP := PySem.W.XL K84.vw []) (Yf := PySem.W.Hook.obs $H) (Ya := PySem.W.Hook.val $H) (YP := PySem.W.Hook.says $H) (N := 20000) ?hl (PySem.W.Hook.of $H) (PySem.W.Hook.keeps $H) (fun s e => PySem.W.xl_of s (Bool.and_eq_true_iff.mp e).1) PySem.W.XL.keeps (by rfl) (by rfl) (by rfl) (fun s e => PySem.W.recFacts_of (Bool.and_eq_true_iff.mp e).2) (by rfl) (by first | assumption | decide +kernel) (by decide +kernel) ⟨rfl, rfl, rfl, rfl, rfl, by decide +kernel⟩ ?hw ?hc))
set_option maxRecDepth 100000 in
set_option maxHeartbeats 0 in
theorem PySem.Challenge.cw_hangrings_k84_whole_bones_stay_holds : PySem.Challenge.rw_hangrings_k84_whole_bones_stay.Holds := by
  w_on;o_law;k_head;(case hl=>exact TopT.leftT 20000 PySem.W.Fast.te15137133648154978470 (by kernel_rfl) (fun s=>by kernel_rfl) rfl rfl K84.lookA K84.lookB (fun w os=>by kernel_rfl));(case hw=>w_witness2)
  k_fill
  refine K84.walk (l:=PySem.Challenge.rw_hangrings_k84_whole_bones_stay) rfl rfl (fun w h Y=>PySem.W.kIn_of Y) ?F
  case F =>
    intro w mg fa h KX G hmg
    refine' K84.all_mk KX G hmg ?gDeeds ?gChain (D.ObC.of ?oaChain ?obChain ?ocChain ?odChain ?oeChain ?ofChain) (L2.DefAt.mk ?a2 ?l2 ?c2 ?k2) (L2.DefAt.mk ?a3 ?l3 ?c3 ?k3) (L2.DefAt.mk ?a4 ?l4 ?c4 ?k4) (L2.DefAt.mk ?a6 ?l6 ?c6 ?k6) (L2.DefAt.mk ?a7 ?l7 ?c7 ?k7) (L2.DefAt.mk ?a8 ?l8 ?c8 ?k8) (L2.DefAt.mk ?a9 ?l9 ?c9 ?k9) (L2.DefAt.mk ?a12 ?l12 ?c12 ?k12) (L2.DefAt.mk ?a13 ?l13 ?c13 ?k13) (L2.DefAt.mk ?a14 ?l14 ?c14 ?k14) (L2.DefAt.mk ?a15 ?l15 ?c15 ?k15) (L2.DefAt.mk ?a16 ?l16 ?c16 ?k16) (L2.DefAt.mk ?a17 ?l17 ?c17 ?k17) (L2.DefAt.mk ?a19 ?l19 ?c19 ?k19) (L2.DefAt.mk ?a20 ?l20 ?c20 ?k20) (L2.DefAt.mk ?a29 ?l29 ?c29 ?k29) (L2.DefAt.mk ?a30 ?l30 ?c30 ?k30) (L2.DefAt.mk ?a33 ?l33 ?c33 ?k33) (L2.DefAt.mk ?a34 ?l34 ?c34 ?k34) (L2.DefAt.mk ?a35 ?l35 ?c35 ?k35) (L2.DefAt.mk ?a36 ?l36 ?c36 ?k36) (L2.DefAt.mk ?a37 ?l37 ?c37 ?k37) (L2.DefAt.mk ?a38 ?l38 ?c38 ?k38) (L2.DefAt.mk ?a39 ?l39 ?c39 ?k39) (L2.DefAt.mk ?a42 ?l42 ?c42 ?k42) (L2.DefAt.mk ?a43 ?l43 ?c43 ?k43) (L2.DefAt.mk ?a44 ?l44 ?c44 ?k44) (L2.DefAt.mk ?a45 ?l45 ?c45 ?k45) (L2.DefAt.mk ?a46 ?l46 ?c46 ?k46) (L2.DefAt.mk ?a47 ?l47 ?c47 ?k47) (L2.DefAt.mk ?a48 ?l48 ?c48 ?k48) (L2.DefAt.mk ?a49 ?l49 ?c49 ?k49) (L2.DefAt.mk ?a50 ?l50 ?c50 ?k50) (L2.DefAt.mk ?a51 ?l51 ?c51 ?k51) (L2.DefAt.mk ?a52 ?l52 ?c52 ?k52) (L2.DefAt.mk ?a53 ?l53 ?c53 ?k53) (L2.DefAt.mk ?a54 ?l54 ?c54 ?k54) (L2.InitAt.mk (L2.MethAt.mk ?a31_0_Chain ?l31_0_Chain ?c31_0_Chain ?k31_0_Chain ?n31_0_Chain) ?p31_0_Chain ?q31_0_Chain) (L2.MethAt.mk ?a31_1_Chain ?l31_1_Chain ?c31_1_Chain ?k31_1_Chain ?n31_1_Chain) (L2.MethAt.mk ?a31_3_Chain ?l31_3_Chain ?c31_3_Chain ?k31_3_Chain ?n31_3_Chain) (L2.MethAt.mk ?a31_4_Chain ?l31_4_Chain ?c31_4_Chain ?k31_4_Chain ?n31_4_Chain) (L2.MethAt.mk ?a31_6_Chain ?l31_6_Chain ?c31_6_Chain ?k31_6_Chain ?n31_6_Chain) (L2.MethAt.mk ?a31_7_Chain ?l31_7_Chain ?c31_7_Chain ?k31_7_Chain ?n31_7_Chain) (L2.MethAt.mk ?a31_8_Chain ?l31_8_Chain ?c31_8_Chain ?k31_8_Chain ?n31_8_Chain) (L2.MethAt.mk ?a26_1_Chain ?l26_1_Chain ?c26_1_Chain ?k26_1_Chain ?n26_1_Chain) (L2.MethAt.mk ?a26_2_Chain ?l26_2_Chain ?c26_2_Chain ?k26_2_Chain ?n26_2_Chain) (L2.CMethAt.mk ?a26_0_Chain_c ?l26_0_Chain_c ?c26_0_Chain_c ?k26_0_Chain_c ?n26_0_Chain_c ?p26_0_Chain_c) (L2.DefAt.mk ?a5 ?l5 ?c5 ?k5) (L2.IntTAt.mk ?tAMOST_JOINTS) (L2.TupTAt.four ?tANOTHING ?tLNOTHING ?tCNOTHING ?tENOTHING) ?z0 ?z1 ?z2 ?z3 ?z4 ?z5 ?z6
    (case gDeeds=>k_is)
    (case gChain=>k_is)
    (case oaChain=>k_is);(case obChain=>k_is);(case ocChain=>k_is);(case odChain=>k_is);(case oeChain=>k_is);(case ofChain=>k_is)
    (case a2=>k_is);(case l2=>k_is);(case c2=>k_is);(case k2=>k_is)
    (case a3=>k_is);(case l3=>k_is);(case c3=>k_is);(case k3=>k_is)
    (case a4=>k_is);(case l4=>k_is);(case c4=>k_is);(case k4=>k_is)
    (case a6=>k_is);(case l6=>k_is);(case c6=>k_is);(case k6=>k_is)
    (case a7=>k_is);(case l7=>k_is);(case c7=>k_is);(case k7=>k_is)
    (case a8=>k_is);(case l8=>k_is);(case c8=>k_is);(case k8=>k_is)
    (case a9=>k_is);(case l9=>k_is);(case c9=>k_is);(case k9=>k_is)
    (case a12=>k_is);(case l12=>k_is);(case c12=>k_is);(case k12=>k_is)
    (case a13=>k_is);(case l13=>k_is);(case c13=>k_is);(case k13=>k_is)
    (case a14=>k_is);(case l14=>k_is);(case c14=>k_is);(case k14=>k_is)
    (case a15=>k_is);(case l15=>k_is);(case c15=>k_is);(case k15=>k_is)
    (case a16=>k_is);(case l16=>k_is);(case c16=>k_is);(case k16=>k_is)
    (case a17=>k_is);(case l17=>k_is);(case c17=>k_is);(case k17=>k_is)
    (case a19=>k_is);(case l19=>k_is);(case c19=>k_is);(case k19=>k_is)
    (case a20=>k_is);(case l20=>k_is);(case c20=>k_is);(case k20=>k_is)
    (case a29=>k_is);(case l29=>k_is);(case c29=>k_is);(case k29=>k_is)
    (case a30=>k_is);(case l30=>k_is);(case c30=>k_is);(case k30=>k_is)
    (case a33=>k_is);(case l33=>k_is);(case c33=>k_is);(case k33=>k_is)
    (case a34=>k_is);(case l34=>k_is);(case c34=>k_is);(case k34=>k_is)
    (case a35=>k_is);(case l35=>k_is);(case c35=>k_is);(case k35=>k_is)
    (case a36=>k_is);(case l36=>k_is);(case c36=>k_is);(case k36=>k_is)
    (case a37=>k_is);(case l37=>k_is);(case c37=>k_is);(case k37=>k_is)
    (case a38=>k_is);(case l38=>k_is);(case c38=>k_is);(case k38=>k_is)
    (case a39=>k_is);(case l39=>k_is);(case c39=>k_is);(case k39=>k_is)
    (case a42=>k_is);(case l42=>k_is);(case c42=>k_is);(case k42=>k_is)
    (case a43=>k_is);(case l43=>k_is);(case c43=>k_is);(case k43=>k_is)
    (case a44=>k_is);(case l44=>k_is);(case c44=>k_is);(case k44=>k_is)
    (case a45=>k_is);(case l45=>k_is);(case c45=>k_is);(case k45=>k_is)
    (case a46=>k_is);(case l46=>k_is);(case c46=>k_is);(case k46=>k_is)
    (case a47=>k_is);(case l47=>k_is);(case c47=>k_is);(case k47=>k_is)
    (case a48=>k_is);(case l48=>k_is);(case c48=>k_is);(case k48=>k_is)
    (case a49=>k_is);(case l49=>k_is);(case c49=>k_is);(case k49=>k_is)
    (case a50=>k_is);(case l50=>k_is);(case c50=>k_is);(case k50=>k_is)
    (case a51=>k_is);(case l51=>k_is);(case c51=>k_is);(case k51=>k_is)
    (case a52=>k_is);(case l52=>k_is);(case c52=>k_is);(case k52=>k_is)
    (case a53=>k_is);(case l53=>k_is);(case c53=>k_is);(case k53=>k_is)
    (case a54=>k_is);(case l54=>k_is);(case c54=>k_is);(case k54=>k_is)
    (case a31_0_Chain=>k_is);(case l31_0_Chain=>k_is);(case c31_0_Chain=>k_is);(case k31_0_Chain=>k_is);(case n31_0_Chain=>k_is);(case p31_0_Chain=>k_is);(case q31_0_Chain=>k_is)
    (case a31_1_Chain=>k_is);(case l31_1_Chain=>k_is);(case c31_1_Chain=>k_is);(case k31_1_Chain=>k_is);(case n31_1_Chain=>k_is)
    (case a31_3_Chain=>k_is);(case l31_3_Chain=>k_is);(case c31_3_Chain=>k_is);(case k31_3_Chain=>k_is);(case n31_3_Chain=>k_is)
    (case a31_4_Chain=>k_is);(case l31_4_Chain=>k_is);(case c31_4_Chain=>k_is);(case k31_4_Chain=>k_is);(case n31_4_Chain=>k_is)
    (case a31_6_Chain=>k_is);(case l31_6_Chain=>k_is);(case c31_6_Chain=>k_is);(case k31_6_Chain=>k_is);(case n31_6_Chain=>k_is)
    (case a31_7_Chain=>k_is);(case l31_7_Chain=>k_is);(case c31_7_Chain=>k_is);(case k31_7_Chain=>k_is);(case n31_7_Chain=>k_is)
    (case a31_8_Chain=>k_is);(case l31_8_Chain=>k_is);(case c31_8_Chain=>k_is);(case k31_8_Chain=>k_is);(case n31_8_Chain=>k_is)
    (case a26_1_Chain=>k_is);(case l26_1_Chain=>k_is);(case c26_1_Chain=>k_is);(case k26_1_Chain=>k_is);(case n26_1_Chain=>k_is)
    (case a26_2_Chain=>k_is);(case l26_2_Chain=>k_is);(case c26_2_Chain=>k_is);(case k26_2_Chain=>k_is);(case n26_2_Chain=>k_is)
    (case a26_0_Chain_c=>k_is);(case l26_0_Chain_c=>k_is);(case c26_0_Chain_c=>k_is);(case k26_0_Chain_c=>k_is);(case n26_0_Chain_c=>k_is);(case p26_0_Chain_c=>k_is)
    (case a5=>k_is);(case l5=>k_is);(case c5=>k_is);(case k5=>k_is)
    (case tAMOST_JOINTS=>k_is)
    (case tANOTHING=>k_is);(case tLNOTHING=>k_is);(case tCNOTHING=>exact rfl);(case tENOTHING=>exact rfl)
    (case z0=>k_is)
    (case z1=>k_is)
    (case z2=>k_is)
    (case z3=>k_is)
    (case z4=>k_is)
    (case z5=>k_is)
    (case z6=>k_is)
#print axioms PySem.Challenge.cw_hangrings_k84_whole_bones_stay_holds
end
