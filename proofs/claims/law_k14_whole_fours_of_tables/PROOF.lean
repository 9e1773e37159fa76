import PyProof.Rows.All
import Wide.All
import OpenK.AllK
import Wide.FinOn
import Lean
import PyProof.EqAt
import PyProof.EqKinds
import PyProof.TupleCall
import KE.KUnpack
import KE.KTab
import KE.LcSums
import KE.KSortTup
import KE.KDictAny
import PyProof.WalkInts
import PyProof.MinMaxWalk
import PyProof.P3In
import KE.KxIndex
import KE.KTryMore
import PyProof.NsDelKeeps
import KE.KIsNot
import KE.KIsAll
import PyProof.ExcArgsOwn
import PyProof.ExcAttrAll.ValueError
import PyProof.StrBlockH
import PySem.Challenge.RW_hangrings_k14_whole_fours_of_tables
set_option linter.all false
set_option maxRecDepth 100000
set_option Elab.async false
set_option maxHeartbeats 4000000
set_option exponentiation.threshold 200000
section
set_option maxHeartbeats 0
namespace TopT
open PySem PySem.W
noncomputable def topRunT (tb:String->Option Builtin) (p:Program) (w:World) (n₀:Nat) (ann:Option Value):Nat->SharedT->Thread->Option SharedT
  | 0,_,_=>none
  | n + 1, s, t => match through t with
    | true=>some s
    | false=>match stepOk n₀ ann t with
      | false=>none
      | true=>match stepT (denote tb) p w s t with
        | some (s',t')=>topRunT tb p w n₀ ann n s' t'
        | none=>none
theorem topRun_of {tb:String->Option Builtin} {p:Program} {w:World} {n₀:Nat} {ann:Option Value}:∀ {n:Nat} {s s':SharedT} {t:Thread},topRunT tb p w n₀ ann n s t=some s'->topRun tb p w n₀ ann n s.abs t=some s'.abs
  | 0,_,_,_,h=>by cases h
  | n + 1, s, s', t, h => by
    unfold topRunT at h
    unfold topRun
    cases he:through t with
    | true=>rw [he] at h;cases h;rfl
    | false =>
      rw [he] at h
      cases hk:stepOk n₀ ann t with
      | false=>rw [hk] at h;cases h
      | true =>
        rw [hk] at h
        cases hs:stepT (denote tb) p w s t with
        | none=>rw [hs] at h;cases h
        | some r=>obtain ⟨s₂,t₂⟩:=r;rw [hs] at h;rw [stepT_spec hs];exact topRun_of h
noncomputable def ofL:BT->Nat->List Obj->BT
 | t,_,[]=>t
 | t,n,o :: l=>ofL (t.ins n o) (n + 1) l
noncomputable def bt (P:Params):BT:=ofL .nil 0 (boot_heap P).objs.toList
theorem bt_abs (P:Params):absHeap (bt P) 11 {}=boot_heap P:=by kernel_rfl
theorem size0 (P:Params):((boot_heap P).isNs mainGlobals,(boot_heap P).objs.size,(boot_heap P).nsMap mainGlobals "__annotations__")=(true,11,some (.ref 6)):=by kernel_rfl
noncomputable def goes (p:Program) (M:Nat) (T:BT) (w:World) (os:OsState):Option SharedT:=topRunT treeTable p w 11 (some (.ref 6)) M ⟨T,11,{}, #[],{},181,os⟩ (topStub p)
theorem leftT {p q:Program} {loose:List Str} {Xt:Shared->Bool} {α:Type} {Yf:Shared->α} {Ya:World->α} {N:Nat} (M:Nat)
  {R:BT->World->OsState->Option SharedT} (hR:goes p M=R) (e:opening p=plainProg p.main.scope.names) (f:∀ s,fenceModules? p s=some s) (hN:Nat.ble 600 N=true) (le:Nat.ble M N=true)
  (A:∀ w os,(R (bt w.params) w os).map (fun s=>staticsOk (importedModules p.main.body) (boot_heap w.params) s.abs.heap && namesBound p s.abs.heap && gensDone s.abs && laidKept (boot_heap w.params) s.abs.heap)=some true)
  (B:∀ w os,(R (bt w.params) w os).map (fun s=>openSeen q loose (importedModules p.main.body) Xt true s.abs)=some (openGood q loose))
  (C:∀ w os,(R (bt w.params) w os).map (fun s=>Yf s.abs)=some (Ya w)):LeftO p q loose Xt Yf Ya N:=fun w=>by
 subst hR
 obtain ⟨⟨h,gs,d,k,os⟩,e,e'⟩:=Option.map_eq_some_iff.mp (boot_open e hN f w)
 obtain ⟨rfl,rfl,rfl,rfl⟩:h=boot_heap w.params/\gs = #[]/\d=boot_drawn/\k=boot_toks:=by simpa using e'
 obtain ⟨z1,z2,z3⟩:_/\_/\_:=by simpa only [Prod.mk.injEq] using size0 w.params
 obtain ⟨s,hs,l1⟩:=Option.map_eq_some_iff.mp (A w os)
 have b:=B w os;rw [hs] at b
 have c:=C w os;rw [hs] at c
 have r:=topRun_mono (N - M) _ _ _ _ (topRun_of hs)
 rw [show M + (N - M)=N by have:=Nat.le_of_ble_eq_true le;omega] at r
 have r':topRun treeTable p w 11 (some (.ref 6)) N ⟨boot_heap w.params, #[],boot_drawn,boot_toks,os⟩ (topStub p)=some s.abs:=by
  rw [<- bt_abs];exact r
 have t:topFrom treeTable p w N ⟨boot_heap w.params, #[],boot_drawn,boot_toks,os⟩=some s.abs:=by
  unfold topFrom
  dsimp only
  rw [z1,z2,z3,r']
  show (match staticsOk (importedModules p.main.body) (boot_heap w.params) s.abs.heap && namesBound p s.abs.heap && gensDone s.abs && laidKept (boot_heap w.params) s.abs.heap with | true=>_ | false=>_)=_
  rw [l1]
 unfold openEnds
 rw [e]
 show (topFrom treeTable p w N _).map _=_
 rw [t]
 exact congrArg some (Prod.ext (Option.some.inj b) (Option.some.inj c))
theorem byR (row:String) {P:World->OsState->Prop} (hf:∀ (w:World) os,P (w.withFollow row false) os) (ht:∀ (w:World) os,P (w.withFollow row true) os):∀ w os,P w os:=fun w os=>byRow2 row (P:=fun w=>P w os) (fun w=>hf w os) (fun w=>ht w os) w
end TopT
end
section
namespace L2
open PySem PySem.Spec PyProof.Rows
abbrev Key:=Sum Int Str
def keyIs:Key->Value->Bool
 | .inl k,v=>Value.isInt k v
 | .inr x,v=>Value.isStrOf x v
def keyH (w:World):Key->Int
 | .inl k=>hashInt k
 | .inr x=>hashStr w x
theorem keyIs_shape:∀ {k:Key} {v:Value},keyIs k v=true->(∃ i t,k=Sum.inl i/\v=Value.int i t)\/(∃ x t,k=Sum.inr x/\v=Value.str x t)
  | .inl i,v,h=>by
    obtain ⟨t,e⟩:=Value.isInt_shape (k:=i) (v:=v) h
    exact .inl ⟨i,t,rfl,e⟩
  | .inr x,v,h=>by
    obtain ⟨t,e⟩:=Value.isStrOf_shape (x:=x) (v:=v) h
    exact .inr ⟨x,t,rfl,e⟩
theorem key_ll (a b:Int):decide ((Sum.inl a:Key)=Sum.inl b)=(a == b):=by
 by_cases e:a=b
 ·subst e;simp
 ·have h:¬ (Sum.inl a:Key)=Sum.inl b:=fun q=>e (Sum.inl.inj q)
  rw [decide_eq_false h]
  exact (beq_eq_false_iff_ne.mpr e).symm
theorem key_rr (a b:Str):decide ((Sum.inr a:Key)=Sum.inr b)=decide (a=b):=by
 by_cases e:a=b
 ·subst e;simp
 ·have h:¬ (Sum.inr a:Key)=Sum.inr b:=fun q=>e (Sum.inr.inj q)
  rw [decide_eq_false h,decide_eq_false e]
theorem key_lr (a:Int) (b:Str):decide ((Sum.inl a:Key)=Sum.inr b)=false:=decide_eq_false (fun q=>nomatch q)
theorem key_rl (a:Str) (b:Int):decide ((Sum.inr a:Key)=Sum.inl b)=false:=decide_eq_false (fun q=>nomatch q)
def mixKind (prog:Program) (w:World):PySem.KeyKind prog w Key where
 is:=keyIs
 hash:=keyH w
 inj := fun v a b ha hb => by
  rcases keyIs_shape ha with ⟨i,t,rfl,rfl⟩ | ⟨x,t,rfl,rfl⟩
  ·rcases keyIs_shape hb with ⟨j,u,rfl,e⟩ | ⟨y,u,rfl,e⟩
   ·injection e with e1 _;rw [e1]
   ·exact nomatch e
  ·rcases keyIs_shape hb with ⟨j,u,rfl,e⟩ | ⟨y,u,rfl,e⟩
   ·exact nomatch e
   ·injection e with e1 _;rw [e1]
 byValue:=fun k v h=>by
  rcases keyIs_shape h with ⟨i,t,rfl,rfl⟩ | ⟨x,t,rfl,rfl⟩ <;> rfl
 pyHash:=fun hv h=>by
  rcases keyIs_shape hv with ⟨i,t,rfl,rfl⟩ | ⟨x,t,rfl,rfl⟩
  ·exact wpAny_pyHash_int h
  ·exact wpAny_pyHash_str h
 eqBool:=fun hu hv h=>by
  rcases keyIs_shape hu with ⟨i,t,rfl,rfl⟩ | ⟨x,t,rfl,rfl⟩
  ·rcases keyIs_shape hv with ⟨j,u,rfl,rfl⟩ | ⟨y,u,rfl,rfl⟩
   ·rw [key_ll] at h;exact wpAny_eqBool_int h
   ·rw [key_lr] at h;exact SeqAt.EqAt.int_str i t y u _ _ _ _ h
  ·rcases keyIs_shape hv with ⟨j,u,rfl,rfl⟩ | ⟨y,u,rfl,rfl⟩
   ·rw [key_rl] at h;exact SeqAt.EqAt.str_int x t j u _ _ _ _ h
   ·rw [key_rr] at h;exact wpAny_eqBool_str h
 «strs» := fun k x t v h=>by
  rcases keyIs_shape h with ⟨i,u,rfl,e⟩ | ⟨y,u,rfl,e⟩
  ·exact nomatch e
  ·injection e with e1 _
   subst e1
   cases v <;> rfl
end L2
namespace L2
open PySem PySem.Spec PyProof.Rows
inductive V where
 | non | bl (b:Bool) | int (i:Int) | str (x:Str) | byt (b:Array UInt8) | flt (b:UInt64) | ref (a:Addr) | ty (n:String)
 deriving DecidableEq
def RelV:V->Value->Prop
 | .non,u=>u=Value.none
 | .bl b,u=>u=Value.bool b
 | .int i,u=>∃ t,u=Value.int i t
 | .str x,u=>∃ t,u=Value.str x t
 | .byt b,u=>∃ t,u=Value.bytes b t
 | .flt b,u=>∃ t,u=Value.float b t
 | .ref a,u=>u=Value.ref a
 | .ty n,u=>u=Value.type n
abbrev Vals:List V->List Value->Prop:=Paired RelV
theorem Vals.length {xs:List V} {us:List Value} (r:Vals xs us):xs.length=us.length:=Paired.length r
theorem Vals.get:∀ {xs:List V} {us:List Value} {i:Nat} {x:V},Vals xs us->xs[i]?=some x->∃ u,us[i]?=some u/\RelV x u
  | _,_,_,_,.nil,e=>by simp at e
  | _,_,0,_,.cons r _,e=>by simp at e;subst e;exact ⟨_,rfl,r⟩
  | _,_,i + 1,x,.cons _ t,e=>by
    obtain ⟨u,h1,h2⟩:=Vals.get (i:=i) (x:=x) t (by simpa using e)
    exact ⟨u,by simpa using h1,h2⟩
theorem Vals.set {x:V} {u:Value} (r:RelV x u):∀ {xs:List V} {us:List Value} (i:Nat),Vals xs us->Vals (xs.set i x) (us.set i u)
 | _,_,_,.nil=>.nil
 | _,_,0,.cons _ t=>.cons r t
 | _,_,i + 1,.cons q t=>.cons q (Vals.set r i t)
theorem Vals.append:∀ {xs ys:List V} {us ws:List Value},Vals xs us->Vals ys ws->Vals (xs ++ ys) (us ++ ws)
 | _,_,_,_,.nil,s=>s
 | _,_,_,_,.cons r t,s=>.cons r (Vals.append t s)
theorem Vals.take:∀ {xs:List V} {us:List Value} (n:Nat),Vals xs us->Vals (xs.take n) (us.take n)
 | _,_,0,_=>.nil
 | _,_,_ + 1,.nil=>.nil
 | _,_,n + 1,.cons r t=>.cons r (Vals.take n t)
theorem Vals.drop:∀ {xs:List V} {us:List Value} (n:Nat),Vals xs us->Vals (xs.drop n) (us.drop n)
 | _,_,0,r=>r
 | _,_,_ + 1,.nil=>.nil
 | _,_,n + 1,.cons _ t=>Vals.drop n t
def RelO:Option V->Option Value->Prop
 | some v,some u=>RelV v u
 | none,none=>True
 | _,_=>False
def KV {κ:Type}:List (κ × V)->List (κ × Value)->Prop:=Paired fun (p:κ × V) (q:κ × Value)=>p.1=q.1/\RelV p.2 q.2
def kV:Key->V
 | .inl i=>.int i
 | .inr x=>.str x
inductive HO where
 | lst (xs:List V)
 | tup (xs:List V)
 | dK (kvs:List (Key × V)) | dT (kvs:List (List Key × V))
 | set (S:Int->Bool) (n:Nat)
 | ins (C dx:Addr) (fs:List (Str × V))
 | own (x:Addr)
 | xd (fs:List (Str × V))
 | met (f x:Addr)
 | rng (lo hi:Int)
 | frz (o:Obj) (u:HO)
 | tbl (ps:Array Value)
 | ext (φ:Heap->Prop)
abbrev Hp:=Addr->Option HO
def upd (H:Hp) (a:Addr) (o:HO):Hp:=fun b=>if b=a then some o else H b
theorem upd_same {H:Hp} {a:Addr} {o:HO}:upd H a o a=some o:=by unfold upd;rw [if_pos rfl]
theorem upd_ne {H:Hp} {a b:Addr} {o:HO} (h:b ≠ a):upd H a o b=H b:=by unfold upd;rw [if_neg h]
theorem ne_of {H:Hp} {a b:Addr} {o u:HO} (h:H a=some o) (h':H b=some u) (d:o ≠ u):a ≠ b:=by
 intro e;subst e;rw [h] at h';exact d (Option.some.inj h')
theorem ne_of_none {H:Hp} {a b:Addr} {o:HO} (h:H a=some o) (h':H b=none):a ≠ b:=by
 intro e;subst e;rw [h] at h';cases h'
section
variable (P:Program) (w:World)
def ObjOk (H:Hp) (h:Heap) (a:Addr):HO->Prop
 | .lst xs=>xs.length<=sizeLine/\∃ (its:List Value) (n:Nat),Vals xs its/\h.get? a=some { cls:=.type "list",data:=.seq its.toArray n }
 | .tup xs=>xs.length<=sizeLine/\∃ its:List Value,Vals xs its/\IsTup h a its.toArray
 | .dK kvs=>kvs.length<=sizeLine/\(a == sysModules)=false/\∃ vs,KV kvs vs/\h.DictOf (mixKind P w) a vs
 | .dT kvs=>kvs.length<=sizeLine/\(a == sysModules)=false/\∃ xs:List (List Key × Addr × Value),
   Paired (fun (p:List Key × V) (q:List Key × Addr × Value)=>p.1=q.1/\H q.2.1=some (.tup (p.1.map kV))/\RelV p.2 q.2.2) kvs xs /\
   ∃ o es ep,h.get? a=some o/\o.ExactDict/\o.data = .dict es ep/\es.toList=xs.map (entryOfKey (tupleKind (mixKind P w)))/\(xs.map (·.1)).Nodup
 | .set S n=>h.SetOf (intKind P w) a S n
 | .ins C dx fs=>H dx=some (.own a)/\fs.length<=1000/\dx ≠ a/\h.get? a=some (PySem.W.instObj C dx) /\
   ∃ mA,h.Ns1 dx mA/\(∀ f,RelO (fs.lookup f) (mA f))/\PySem.Within mA (fs.map (·.1))
 | .own _=>∃ o,h.get? a=some o
 | .xd fs=>∃ mA,h.Ns1 a mA/\∀ f,RelO (fs.lookup f) (mA f)
 | .rng lo hi=>∃ t u v,h.get? a=some { cls:=.type "range",data:=.fields #[.int lo t,.int hi u,.int 1 v] }
 | .frz o u=>h.get? a=some o/\ObjOk H h a u
 | .tbl ps=>h.get? a=some { cls:=.none,data:=.fields ps }
 | .met f x=>h.get? a=some (PySem.W.methodObj (.ref f) (.ref x))
 | .ext φ=>φ h/\(∃ o,h.get? a=some o)/\∀ h1 h2:Heap,φ h1->(∀ o,h1.get? a=some o->h2.get? a=some o)->φ h2
def HOk (H:Hp) (h:Heap):Prop:=∀ a o,H a=some o->ObjOk P w H h a o
end
section
variable {P:Program} {w:World} {H H':Hp} {h h':Heap} {a:Addr} {o:HO}
theorem ObjOk.lt (x:ObjOk P w H h a o):a < h.objs.size:=by
 cases o with
 | lst xs=>obtain ⟨_,_,_,_,e⟩:=x;exact Heap.lt_size e
 | tup xs=>obtain ⟨_,_,_,p⟩:=x;exact p.lt
 | dK kvs=>obtain ⟨_,_,_,_,o,_,_,e,_⟩:=x;exact Heap.lt_size e
 | dT kvs=>obtain ⟨_,_,_,_,o,_,_,e,_⟩:=x;exact Heap.lt_size e
 | set S n=>obtain ⟨o,_,_,_,e,_⟩:=x;exact Heap.lt_size e
 | ins C dx fs=>obtain ⟨_,_,_,e,_⟩:=x;exact Heap.lt_size e
 | own y=>obtain ⟨_,e⟩:=x;exact Heap.lt_size e
 | xd fs=>obtain ⟨_,⟨_,_,_,e,_⟩,_⟩:=x;exact Heap.lt_size e
 | rng lo hi=>obtain ⟨_,_,_,e⟩:=x;exact Heap.lt_size e
 | frz ob u=>obtain ⟨e,_⟩:=x;exact Heap.lt_size e
 | tbl ps=>exact Heap.lt_size (show h.get? a=some _ from x)
 | met f y=>exact Heap.lt_size (show h.get? a=some _ from x)
 | ext φ=>obtain ⟨_,⟨_,e⟩,_⟩:=x;exact Heap.lt_size e
theorem Paired.mapP {α β:Type} {F G:α->β->Prop}:∀ {l₁:List α} {l₂:List β},Paired F l₁ l₂->(∀ a b,F a b->G a b)->Paired G l₁ l₂
 | _,_,.nil,_=>.nil
 | _,_,.cons r t,f=>.cons (f _ _ r) (Paired.mapP t f)
theorem ObjOk.stay (x:ObjOk P w H h a o) (k:∀ b u,(b=a\/H b=some (.own a))->h.get? b=some u->h'.get? b=some u)
    (ho:∀ b,H b=some (.own a)->H' b=some (.own a)) (ht:∀ b xs,H b=some (.tup xs)->H' b=some (.tup xs)):ObjOk P w H' h' a o:=by
  induction o with
  | lst xs=>obtain ⟨z,its,n,r,e⟩:=x;exact ⟨z,its,n,r,k _ _ (.inl rfl) e⟩
  | tup xs=>obtain ⟨z,its,r,ob,e,c⟩:=x;exact ⟨z,its,r,ob,k _ _ (.inl rfl) e,c⟩
  | dK kvs=>obtain ⟨z,y,vs,r,ob,es,ep,e,c⟩:=x;exact ⟨z,y,vs,r,ob,es,ep,k _ _ (.inl rfl) e,c⟩
  | dT kvs =>
    obtain ⟨z,y,xs,r,ob,es,ep,e,c⟩:=x
    exact ⟨z,y,xs,Paired.mapP r fun p q z=>⟨z.1,ht _ _ z.2.1,z.2.2⟩,ob,es,ep,k _ _ (.inl rfl) e,c⟩
  | set S n=>obtain ⟨ob,es,ep,t,e,c⟩:=x;exact ⟨ob,es,ep,t,k _ _ (.inl rfl) e,c⟩
  | ins C dx fs =>
    obtain ⟨d,z,ne,e,mA,⟨od,es,ep,e2,c⟩,r⟩:=x
    exact ⟨ho _ d,z,ne,k _ _ (.inl rfl) e,mA,⟨od,es,ep,k _ _ (.inr d) e2,c⟩,r⟩
  | own y=>obtain ⟨ob,e⟩:=x;exact ⟨ob,k _ _ (.inl rfl) e⟩
  | xd fs=>obtain ⟨mA,⟨od,es,ep,e,c⟩,r⟩:=x;exact ⟨mA,⟨od,es,ep,k _ _ (.inl rfl) e,c⟩,r⟩
  | rng lo hi=>obtain ⟨t,u,v,e⟩:=x;exact ⟨t,u,v,k _ _ (.inl rfl) e⟩
  | frz ob u ih=>obtain ⟨e,q⟩:=x;exact ⟨k _ _ (.inl rfl) e,ih q⟩
  | tbl ps =>
    have e:h.get? a=some { cls:=.none,data:=.fields ps }:=x
    show h'.get? a=some { cls:=.none,data:=.fields ps }
    exact k a _ (.inl rfl) e
  | met f y =>
    have e:h.get? a=some (PySem.W.methodObj (.ref f) (.ref y)):=x
    show h'.get? a=some (PySem.W.methodObj (.ref f) (.ref y))
    exact k a _ (.inl rfl) e
  | ext φ=>obtain ⟨p,⟨o,e⟩,st⟩:=x;exact ⟨st _ _ p fun o q=>k _ _ (.inl rfl) q,⟨o,k _ _ (.inl rfl) e⟩,st⟩
theorem HOk.lt (x:HOk P w H h) (e:H a=some o):a < h.objs.size:=(x a o e).lt
theorem HOk.fresh (x:HOk P w H h) (e:h.objs.size<=a):H a=none:=by
 cases q:H a with
 | none=>rfl
 | some u=>exact absurd (Nat.lt_of_lt_of_le (x.lt q) e) (Nat.lt_irrefl _)
theorem HOk.kept (x:HOk P w H h) (k:∀ b u,h.get? b=some u->h'.get? b=some u):HOk P w H h':=fun a o e =>
 (x a o e).stay (fun b u _ q=>k b u q) (fun _ q=>q) fun _ _ q=>q
theorem HOk.laid (x:HOk P w H h) (k:∀ b u,h.get? b=some u->h'.get? b=some u) (hp:h.objs.size<=a) (new:ObjOk P w (upd H a o) h' a o):HOk P w (upd H a o) h':=fun b u e=>by
 have hn:=x.fresh hp
 by_cases hb:b=a
 ·subst hb;rw [upd_same] at e;cases e;exact new
 ·rw [upd_ne hb] at e
  exact (x b u e).stay (fun c v _ q=>k c v q) (fun c q=>by rw [upd_ne (ne_of_none q hn)];exact q) fun c xs q=>by rw [upd_ne (ne_of_none q hn)];exact q
end
def Rd (H:Hp) (a:Addr) (u:HO):Prop:=H a=some u\/∃ o,H a=some (.frz o u)
theorem Rd.ok {P:Program} {w:World} {H:Hp} {h:Heap} {a:Addr} {u:HO} (r:Rd H a u) (x:HOk P w H h):ObjOk P w H h a u:=by
 rcases r with r | ⟨o,r⟩
 ·exact x a u r
 ·obtain ⟨_,q⟩:=x a _ r
  exact q
def Mut:Option HO->Prop
 | some (.lst _)=>True
 | some (.dK _)=>True
 | some (.dT _)=>True
 | some (.set _ _)=>True
 | some (.ins _ _ _)=>True
 | some (.ext _)=>True
 | _=>False
section
variable {P:Program} {w:World} {H:Hp} {h h':Heap} {x e:Addr} {o':HO}
theorem HOk.write (ok:HOk P w H h) (mu:Mut (H x)) (he:e=x\/H e=some (.own x)) (k:∀ b u,b ≠ e->h.get? b=some u->h'.get? b=some u) (heo:∃ u,h'.get? e=some u)
  (new:ObjOk P w (upd H x o') h' x o'):HOk P w (upd H x o') h':=fun b u q=>by
 have nown:∀ c y,H c=some (.own y)->c ≠ x:=fun c y r z=>by subst z;rw [r] at mu;exact mu
 have ntup:∀ c xs,H c=some (.tup xs)->c ≠ x:=fun c xs r z=>by subst z;rw [r] at mu;exact mu
 by_cases hb:b=x
 ·subst hb;rw [upd_same] at q;cases q;exact new
 ·rw [upd_ne hb] at q
  by_cases hbe:b=e
  ·have q':H b=some (.own x):=by
    rcases he with z | z
    ·exact absurd (hbe.trans z) hb
    ·rw [hbe];exact z
   rw [q] at q';cases q'
   obtain ⟨v,hv⟩:=heo
   exact ⟨v,by rw [hbe];exact hv⟩
  ·refine (ok b u q).stay (fun c v hc r=>k c v ?_ r) (fun c r=>by rw [upd_ne (nown c b r)];exact r) fun c xs r=>by rw [upd_ne (ntup c xs r)];exact r
   rcases hc with rfl | hc
   ·exact hbe
   ·rintro rfl
    rcases he with z | z
    ·exact nown c b hc z
    ·rw [hc] at z;cases z;exact hb rfl
end
structure Un (fs ex:List Addr) (H H':Hp) (h h':Heap):Prop where
 keep:∀ b o,h.get? b=some o->H b=none->b ∉ fs->b ∉ ex->h'.get? b=some o
 slot:∀ b o,h.get? b=some o->H b=none->b ∈ fs->b ∉ ex->∃ sl,h'.get? b=some { o with slots:=sl }
 free:∀ b o,h.get? b=some o->H b=none->b ∉ ex->H' b=none
 there:∀ b o,h.get? b=some o->b ∉ ex->∃ o',h'.get? b=some o'
 tups:∀ b xs,H b=some (.tup xs)->H' b=some (.tup xs)
 frzs:∀ b o u,H b=some (.frz o u)->H' b=some (.frz o u)
 tbls:∀ b ps,H b=some (.tbl ps)->∃ more,H' b=some (.tbl (ps ++ more))
section
variable {fs ex:List Addr} {H H1 H2:Hp} {h h1 h2 h':Heap} {a x e:Addr} {o:HO}
theorem Un.any (u:Un fs ex H H1 h h1) {b:Addr} {ob:Obj} (q:h.get? b=some ob) (n:H b=none) (hx:b ∉ ex):∃ sl,h1.get? b=some { ob with slots:=sl }:=by
 by_cases hb:b ∈ fs
 ·exact u.slot b ob q n hb hx
 ·exact ⟨ob.slots,u.keep b ob q n hb hx⟩
theorem Un.kept (k:∀ b u,h.get? b=some u->h'.get? b=some u):Un fs ex H H h h' :=
 ⟨fun b ob q _ _ _=>k b ob q,fun b ob q _ _ _=>⟨ob.slots,k b ob q⟩,fun _ _ _ n _=>n,fun b ob q _=>⟨ob,k b ob q⟩,fun _ _ q=>q,fun _ _ _ q=>q,fun _ ps q=>⟨#[],by rw [q];simp⟩⟩
theorem Un.refl:Un fs ex H H h h:=Un.kept fun _ _ q=>q
theorem Un.laid (k:∀ b u,h.get? b=some u->h'.get? b=some u) (hp:h.objs.size<=a) (hn:H a=none):Un fs ex H (upd H a o) h h' where
 keep:=fun b u q _ _ _=>k b u q
 slot:=fun b u q _ _ _=>⟨u.slots,k b u q⟩
 free:=fun b u q n _=>by rw [upd_ne (Nat.ne_of_lt (Nat.lt_of_lt_of_le (Heap.lt_size q) hp))];exact n
 there:=fun b u q _=>⟨u,k b u q⟩
 tups:=fun b xs q=>by rw [upd_ne (ne_of_none q hn)];exact q
 frzs:=fun b u xs q=>by rw [upd_ne (ne_of_none q hn)];exact q
 tbls:=fun b ps q=>⟨#[],by rw [upd_ne (ne_of_none q hn),q];simp⟩
theorem Un.write (mu:Mut (H x)) (he:e=x\/H e=some (.own x)) (k:∀ b u,b ≠ e->h.get? b=some u->h'.get? b=some u) (heo:∃ u,h'.get? e=some u):Un fs ex H (upd H x o) h h':=by
 have hx:∀ b,H b=none->b ≠ x:=fun b n z=>by subst z;rw [n] at mu;exact mu
 have hb:∀ b,H b=none->b ≠ e:=fun b n z=>by
  subst z
  rcases he with r | r
  ·exact hx b n r
  ·rw [n] at r;cases r
 have hm:∀ b u,H b=some u->¬ Mut (some u)->b ≠ x:=fun b u q nm z=>by subst z;rw [q] at mu;exact nm mu
 refine ⟨fun b u q n _ _=>k b u (hb b n) q,fun b u q n _ _=>⟨u.slots,k b u (hb b n) q⟩,fun b u q n _=>by rw [upd_ne (hx b n)];exact n,fun b u q _=>?_,
  fun b xs q=>by rw [upd_ne (hm b _ q fun z=>z)];exact q,fun b u xs q=>by rw [upd_ne (hm b _ q fun z=>z)];exact q,fun b ps q=>⟨#[],by rw [upd_ne (hm b _ q fun z=>z),q];simp⟩⟩
 by_cases hbe:b=e
 ·subst hbe;exact heo
 ·exact ⟨u,k b u hbe q⟩
end
def trk (h:Heap) (H:Hp):List Addr:=(List.range h.objs.size).filter fun a=>(H a).isSome
def hidT (h:Heap) (H:Hp):Heap:=PySem.W.hideAll h (trk h H)
theorem hidT_size (h:Heap) (H:Hp):(hidT h H).objs.size=h.objs.size:=PySem.W.hideAll_size _ _
theorem hidT_get {h:Heap} {H:Hp} {b:Addr} {o:Obj} (e:h.get? b=some o) (n:H b=none):(hidT h H).get? b=some o :=
 PySem.W.hideAll_get _ e fun hm=>by
  have q:(H b).isSome=true:=(List.mem_filter.mp hm).2
  rw [n] at q;simp at q
theorem of_hidT {h:Heap} {H:Hp} {b:Addr} {o:Obj} (e:(hidT h H).get? b=some o):h.get? b=some o/\H b=none:=by
  have e':h.get? b=some o:=PySem.W.of_hideAll (trk h H) e
  refine ⟨e',?_⟩
  cases q:H b with
  | none=>rfl
  | some x =>
    have hm:b ∈ trk h H:=List.mem_filter.mpr ⟨List.mem_range.mpr (Heap.lt_size e'),by simp [q]⟩
    have z:(hidT h H).get? b=none:=PySem.W.hideAll_none (trk h H) hm
    rw [z] at e;cases e
def allNews (g h:Heap) (L:Addr):List (Addr × Obj):=(List.range h.objs.size).filterMap fun a=>if a=L\/(g.get? a).isSome=true then none else (h.get? a).map fun o=>(a,o)
def rest (g h:Heap) (L d:Addr):List (Addr × Obj):=(allNews g h L).filter fun p=>decide (p.1 ≠ d)
end L2
namespace L2
open PySem PySem.Spec PyProof.Rows
structure Mod (K:PySem.W.Frag) (mg:Str->Option Value) (base:Heap):Prop where
 kin:K.In base
 glob:base.Ns mainGlobals mg
 blt:∃ mb,base.Ns builtinsNs mb/\∀ x:Str,x ≠ "__name__" -> mb x=bootBuiltins x
 nolimit:base.NoLimit
structure Cx where
 prog:Program
 w:World
 K:PySem.W.Frag
 mg:Str->Option Value
 base:Heap
 A:Around
 N:List Str
 s₀:Shared
 H₀:Hp
 env:Env
 outer:List Env
 stack:List Env
 ex:List Addr
 fn:Str->Bool
 calm:Bool
 pn:List (Addr × Obj)
 xe:Value->Shared->Prop
def frs (l:List Env):List Addr:=l.filterMap (·.frame)
abbrev Cx.fs (X:Cx):List Addr:=frs X.outer
def Vis (sc:Scope) (x:Str):Prop:=sc.names.lookup x=some .local\/sc.names.lookup x=some .cell\/sc.names.lookup x=some .free
def Loc (sc:Scope) (x:Str):Prop:=sc.names.lookup x=some .local\/sc.names.lookup x=some .cell
def Look (env:Env) (h:Heap) (m:Str->Option Value) (x:Str) (u:Value):Prop :=
 (env.kindOf x=some .local/\m x=some u)\/((env.kindOf x=some .cell\/env.kindOf x=some .free)/\∃ c,env.cells.lookup x=some c/\h.IsCell c (some u))
structure Cx.Ok (X:Cx):Prop where
 mod:Mod X.K X.mg X.base
 kind:X.env.scope.kind = .function
 glob:X.env.globals=mainGlobals
 blt:X.env.builtins=builtinsNs
 above:X.s₀.heap.objs.size<=X.env.locals
 inj:∀ x y c,X.env.cells.lookup x=some c->X.env.cells.lookup y=some c->x=y
 has:∀ x,(X.env.kindOf x=some .cell\/X.env.kindOf x=some .free)->∃ c,X.env.cells.lookup x=some c
 cab:∀ x c,X.fn x=true->X.env.cells.lookup x=some c->X.s₀.heap.objs.size<=c
 hd:X.calm=true->X.A.handled=none
 frames:X.A.frames=some X.stack
 stk:X.stack=X.outer\/(X.stack=X.env :: X.outer/\X.env.frame=some X.env.locals)
 exf:∀ b ∈ X.ex,b ≠ X.env.locals/\∀ x c,X.env.cells.lookup x=some c->c ≠ b
 bs:∀ b o,X.base.get? b=some o->X.s₀.heap.get? b=some o/\X.H₀ b=none
 bsz:X.base.objs.size<=X.s₀.heap.objs.size
 noex:∀ b o,X.base.get? b=some o->b ∉ X.ex
 exfs:∀ b ∈ X.ex,b ∉ X.fs
 funs:X.s₀.heap.FunFrames X.base X.outer
 frf:∀ b ∈ X.fs,X.H₀ b=none
structure Inv (X:Cx) (pins:List (Addr × Obj)) (σ:List (Option V)) (H:Hp) (s:Shared):Prop where
 ok:X.Ok
 os:s.os=X.s₀.os
 bare:AllBare s.gens
 base:Un X.fs X.ex X.H₀ H X.s₀.heap s.heap
 loc:∃ m,s.heap.Ns X.env.locals m/\∀ (i:Nat) (x:Str) (v:V),X.N[i]?=some x->σ[i]?=some (some v)->Vis X.env.scope x->∃ u,RelV v u/\Look X.env s.heap m x u
 cell:∀ x c,X.env.cells.lookup x=some c->∃ v,s.heap.IsCell c v
 free:H X.env.locals=none
 freeC:∀ x c,X.env.cells.lookup x=some c->H c=none
 pin:∀ p ∈ X.pn ++ pins,s.heap.get? p.1=some p.2/\H p.1=none/\p.1 ≠ X.env.locals/\p.1 ∉ X.fs/\∀ v,p.2.data ≠ .cell v
 hok:HOk X.prog X.w H s.heap
 len:σ.length=X.N.length
section
variable {X:Cx} {pins:List (Addr × Obj)} {σ:List (Option V)} {H H':Hp} {s:Shared} {h':Heap}
theorem Cx.Ok.nofr (ok:X.Ok) {b:Addr} {o:Obj} (e:X.base.get? b=some o):b ∉ X.fs:=fun hb=>by
 have:=(ok.funs.mem hb).1
 rw [e] at this;cases this
theorem Inv.bs (I:Inv X pins σ H s):∀ b o,X.base.get? b=some o->s.heap.get? b=some o/\H b=none:=fun b o e =>
 ⟨I.base.keep b o (I.ok.bs b o e).1 (I.ok.bs b o e).2 (I.ok.nofr e) (I.ok.noex b o e),I.base.free b o (I.ok.bs b o e).1 (I.ok.bs b o e).2 (I.ok.noex b o e)⟩
theorem Inv.bk (I:Inv X pins σ H s):∀ b o,X.base.get? b=some o->s.heap.get? b=some o:=fun b o e=>(I.bs b o e).1
theorem Inv.mod (I:Inv X pins σ H s):Mod X.K X.mg X.base:=I.ok.mod
theorem Inv.kIn (I:Inv X pins σ H s):X.K.In s.heap:=I.ok.mod.kin.keeps I.bk
theorem Inv.fr (I:Inv X pins σ H s):∃ m,Fr X.base X.env.locals s.heap m :=
 let ⟨m,hn,_⟩:=I.loc
 ⟨m,hn,I.bk,Nat.le_trans I.ok.bsz I.ok.above⟩
theorem Inv.lt (I:Inv X pins σ H s):X.env.locals < s.heap.objs.size:=let ⟨_,hn,_⟩:=I.loc;hn.lt
theorem Inv.sz (I:Inv X pins σ H s):X.s₀.heap.objs.size<=s.heap.objs.size:=Nat.le_trans I.ok.above (Nat.le_of_lt I.lt)
theorem Inv.nofs (I:Inv X pins σ H s) {a:Addr} (h:s.heap.objs.size<=a):a ∉ X.fs:=fun hb=>by
 obtain ⟨_,o,ho,_⟩:=I.ok.funs.mem hb
 exact absurd (Nat.lt_of_lt_of_le (Heap.lt_size ho) (Nat.le_trans I.sz h)) (Nat.lt_irrefl _)
theorem Inv.cne (I:Inv X pins σ H s):∀ x c,X.env.cells.lookup x=some c->c ≠ X.env.locals:=fun x c e z=>by
 obtain ⟨v,o,ho,hd⟩:=I.cell x c e
 obtain ⟨m,⟨o',es,ep,ho',hd',_⟩,_⟩:=I.loc
 rw [z,ho'] at ho;cases ho;rw [hd'] at hd;cases hd
theorem Inv.funs (I:Inv X pins σ H s):s.heap.FunFrames X.base X.outer:=by
  have all:∀ (l:List Env),(∀ b ∈ frs l,b ∈ X.fs)->X.s₀.heap.FunFrames X.base l->s.heap.FunFrames X.base l:=by
    intro l
    induction l with
    | nil=>intro _ _;trivial
    | cons env r ih =>
      intro hs hl
      obtain ⟨hk,⟨L,o,hf,hn,ho,hd⟩,hr⟩:=hl
      have hL:L ∈ X.fs:=hs L (by unfold frs;rw [List.filterMap_cons,hf];exact List.mem_cons_self)
      obtain ⟨sl,e⟩:=I.base.slot L o ho (I.ok.frf L hL) hL fun z=>I.ok.exfs L z hL
      exact ⟨hk,⟨L,_,hf,hn,e,hd⟩,ih (fun b hb=>hs b (by unfold frs;rw [List.filterMap_cons,hf];exact List.mem_cons_of_mem _ hb)) hr⟩
  exact all X.outer (fun _ hb=>hb) I.ok.funs
theorem Inv.stack (I:Inv X pins σ H s):s.heap.FunFrames X.base X.stack:=by
 rcases I.ok.stk with e | ⟨e,hf⟩
 ·rw [e];exact I.funs
 ·rw [e]
  obtain ⟨m,hn,_⟩:=I.loc
  refine .cons (by rw [I.ok.kind];decide) hf hn ?_ I.funs
  exact Heap.get?_none_of_le (Nat.le_trans I.ok.bsz I.ok.above)
theorem Inv.stkSub (I:Inv X pins σ H s):∀ b ∈ frs X.stack,b ∈ X.env.locals :: X.fs:=fun b hb=>by
 rcases I.ok.stk with e | ⟨e,hf⟩
 ·rw [e] at hb;exact List.mem_cons_of_mem _ hb
 ·rw [e] at hb
  unfold frs at hb
  rw [List.filterMap_cons,hf] at hb
  exact hb
theorem Inv.stkFree (I:Inv X pins σ H s):∀ b ∈ frs X.stack,H b=none:=fun b hb=>by
 rcases List.mem_cons.mp (I.stkSub b hb) with e | hb
 ·rw [e];exact I.free
 ·obtain ⟨_,o,ho,_⟩:=I.ok.funs.mem hb
  exact I.base.free b o ho (I.ok.frf b hb) fun z=>I.ok.exfs b z hb
theorem Inv.step {g':Array GenState} {t':Nat} {d':Drawn} {ch:List Addr} (I:Inv X pins σ H s)
  (hch:∀ b ∈ ch,(b ∈ X.ex\/X.s₀.heap.objs.size<=b)/\b ≠ X.env.locals/\(∀ x c,X.env.cells.lookup x=some c->c ≠ b)/\∀ p ∈ X.pn ++ pins,p.1 ≠ b)
  (keep:∀ b o,b ≠ X.env.locals->b ∉ X.fs->b ∉ ch->s.heap.get? b=some o->H b=none->h'.get? b=some o)
  (slot:∀ b o,b ≠ X.env.locals->b ∈ X.fs->b ∉ ch->s.heap.get? b=some o->H b=none->∃ sl,h'.get? b=some { o with slots:=sl }) (free:∀ b o,b ∉ ch->s.heap.get? b=some o->H b=none->H' b=none)
  (there:∀ b o,b ∉ ch->s.heap.get? b=some o->∃ o',h'.get? b=some o')
  (tups:∀ b xs,H b=some (.tup xs)->H' b=some (.tup xs)) (frzs:∀ b o u,H b=some (.frz o u)->H' b=some (.frz o u)) (tbls:∀ b ps,H b=some (.tbl ps)->∃ more,H' b=some (.tbl (ps ++ more)))
  (ns:∀ m,s.heap.Ns X.env.locals m->h'.Ns X.env.locals m) (hok:HOk X.prog X.w H' h') (hg:AllBare g') :
  Inv X pins σ H' { s with heap:=h',gens:=g',drawn:=d',toks:=t' }:=by
 have neL:∀ b o,X.s₀.heap.get? b=some o->b ≠ X.env.locals:=fun b o e=>Nat.ne_of_lt (Nat.lt_of_lt_of_le (Heap.lt_size e) I.ok.above)
 have neC:∀ b o,X.s₀.heap.get? b=some o->b ∉ X.ex->b ∉ ch:=fun b o e hx hb=>by
  rcases (hch b hb).1 with z | z
  ·exact hx z
  ·exact absurd (Nat.lt_of_lt_of_le (Heap.lt_size e) z) (Nat.lt_irrefl _)
 have cellK:∀ x c,X.env.cells.lookup x=some c->∀ v,s.heap.IsCell c v->h'.IsCell c v:=fun x c e v ⟨o,ho,hd⟩=>by
  have nch:c ∉ ch:=fun z=>(hch c z).2.2.1 x c e rfl
  by_cases hc:c ∈ X.fs
  ·obtain ⟨sl,q⟩:=slot c o (I.cne x c e) hc nch ho (I.freeC x c e)
   exact ⟨_,q,hd⟩
  ·exact ⟨o,keep c o (I.cne x c e) hc nch ho (I.freeC x c e),hd⟩
 refine ⟨I.ok,I.os,hg,⟨fun b o e n hb hx=>?_,fun b o e n hb hx=>?_,fun b o e n hx=>?_,fun b o e hx=>?_,fun b xs e=>tups b xs (I.base.tups b xs e),fun b o xs e=>frzs b o xs (I.base.frzs b o xs e),fun b ps e=>?_⟩,?_,fun x c e=>?_,?_,fun x c e=>?_,fun p hp=>?_,hok,I.len⟩
 ·exact keep b o (neL b o e) hb (neC b o e hx) (I.base.keep b o e n hb hx) (I.base.free b o e n hx)
 ·obtain ⟨sl,e1⟩:=I.base.slot b o e n hb hx
  obtain ⟨sl',e2⟩:=slot b _ (neL b o e) hb (neC b o e hx) e1 (I.base.free b o e n hx)
  exact ⟨sl',e2⟩
 ·obtain ⟨o',e1⟩:=I.base.there b o e hx
  exact free b o' (neC b o e hx) e1 (I.base.free b o e n hx)
 ·obtain ⟨o',e1⟩:=I.base.there b o e hx
  exact there b o' (neC b o e hx) e1
 ·obtain ⟨m1,e1⟩:=I.base.tbls b ps e
  obtain ⟨m2,e2⟩:=tbls b _ e1
  exact ⟨m1 ++ m2,by rw [e2,Array.append_assoc]⟩
 ·obtain ⟨m,hn,hl⟩:=I.loc
  refine ⟨m,ns m hn,fun i x v e1 e2 e3=>?_⟩
  obtain ⟨u,r,l⟩:=hl i x v e1 e2 e3
  refine ⟨u,r,?_⟩
  rcases l with l | ⟨k,c,e,z⟩
  ·exact .inl l
  ·exact .inr ⟨k,c,e,cellK x c e _ z⟩
 ·obtain ⟨v,z⟩:=I.cell x c e
  exact ⟨v,cellK x c e v z⟩
 ·obtain ⟨m,⟨o,_,_,ho,_⟩,_⟩:=I.loc
  exact free _ o (fun z=>(hch _ z).2.1 rfl) ho I.free
 ·obtain ⟨v,o,ho,hd⟩:=I.cell x c e
  exact free c o (fun z=>(hch c z).2.2.1 x c e rfl) ho (I.freeC x c e)
 ·obtain ⟨e,n,ne,nf,d⟩:=I.pin p hp
  have nch:p.1 ∉ ch:=fun z=>(hch p.1 z).2.2.2 p hp rfl
  exact ⟨keep p.1 p.2 ne nf nch e n,free p.1 p.2 nch e n,ne,nf,d⟩
theorem Inv.un {t':Nat} (I:Inv X pins σ H s) (u:Un X.fs [] H H' s.heap h') (hok:HOk X.prog X.w H' h'):Inv X pins σ H' { s with heap:=h',toks:=t' }:=by
 obtain ⟨m,⟨o,es,ep,ho,r⟩,_⟩:=id I.loc
 obtain ⟨sl,hL⟩:=u.any ho I.free (by simp)
 exact I.step (g':=s.gens) (d':=s.drawn) (ch:=[]) (fun _ z=>nomatch z) (fun b o _ hb _ e n=>u.keep b o e n hb (by simp)) (fun b o _ hb _ e n=>u.slot b o e n hb (by simp)) (fun b o _ e n=>u.free b o e n (by simp)) (fun b o _ e=>u.there b o e (by simp)) u.tups u.frzs u.tbls (fun m' hm=>by
  obtain ⟨o',es',ep',ho',r'⟩:=hm
  rw [ho] at ho';cases ho'
  exact ⟨_,es',ep',hL,r'⟩) hok I.bare
theorem Inv.call {g':Array GenState} {t':Nat} {d':Drawn} {ch:List Addr} (I:Inv X pins σ H s) (u:Un (frs X.stack) ch H H' s.heap h') (hok:HOk X.prog X.w H' h') (hg:AllBare g')
  (hch:∀ b ∈ ch,(b ∈ X.ex\/X.s₀.heap.objs.size<=b)/\b ≠ X.env.locals/\(∀ x c,X.env.cells.lookup x=some c->c ≠ b)/\∀ p ∈ X.pn ++ pins,p.1 ≠ b) :
  Inv X pins σ H' { s with heap:=h',gens:=g',drawn:=d',toks:=t' }:=by
 obtain ⟨m,⟨o,es,ep,ho,r⟩,_⟩:=id I.loc
 obtain ⟨sl,hL⟩:=u.any ho I.free fun z=>(hch _ z).2.1 rfl
 exact I.step (ch:=ch) hch (fun b o hL hb hc e n=>u.keep b o e n (fun z=>(List.mem_cons.mp (I.stkSub b z)).elim hL hb) hc) (fun b o _ _ hc e n=>u.any e n hc) (fun b o hc e n=>u.free b o e n hc) (fun b o hc e=>u.there b o e hc) u.tups u.frzs u.tbls (fun m' hm=>by
  obtain ⟨o',es',ep',ho',r'⟩:=hm
  rw [ho] at ho';cases ho'
  exact ⟨_,es',ep',hL,r'⟩) hok hg
theorem Inv.turned {t':Nat} {it:Addr} (I:Inv X pins σ H s) (k:∀ b o,b ≠ it->s.heap.get? b=some o->h'.get? b=some o) (hn:H it=none) (hL:it ≠ X.env.locals)
  (h1:it ∈ X.ex\/X.s₀.heap.objs.size<=it) (h2:∀ x c,X.env.cells.lookup x=some c->c ≠ it) (h3:∀ p ∈ X.pn ++ pins,p.1 ≠ it):Inv X pins σ H { s with heap:=h',toks:=t' }:=by
 have nit:∀ b u,H b=some u->b ≠ it:=fun b u e z=>by rw [z,hn] at e;cases e
 refine I.step (g':=s.gens) (d':=s.drawn) (ch:=[it]) (fun b hb=>?_) (fun b o _ _ hc e _=>k b o (fun z=>hc (by simp [z])) e) (fun b o _ _ hc e _=>⟨o.slots,k b o (fun z=>hc (by simp [z])) e⟩) (fun _ _ _ _ n=>n)
  (fun b o hc e=>⟨o,k b o (fun z=>hc (by simp [z])) e⟩) (fun _ _ e=>e) (fun _ _ _ e=>e) (fun b ps e=>⟨#[],by rw [e];simp⟩) (fun m hm=>?_) (fun b u e=>?_) I.bare
 ·have e:b=it:=by simpa using hb
  subst e
  exact ⟨h1,hL,h2,h3⟩
 ·obtain ⟨o,es,ep,ho,r⟩:=hm
  exact ⟨o,es,ep,k _ o (Ne.symm hL) ho,r⟩
 ·refine (I.hok b u e).stay (fun c v hc q=>k c v ?_ q) (fun _ q=>q) fun _ _ q=>q
  rcases hc with z | z
  ·rw [z];exact nit b u e
  ·exact nit c _ z
theorem Inv.tok (I:Inv X pins σ H s) (t:Nat):Inv X pins σ H { s with toks:=t }:=I.un (h':=s.heap) (t':=t) Un.refl I.hok
theorem Inv.kept {t':Nat} (I:Inv X pins σ H s) (k:∀ b u,s.heap.get? b=some u->h'.get? b=some u):Inv X pins σ H { s with heap:=h',toks:=t' }:=I.un (Un.kept k) (I.hok.kept k)
theorem Inv.laid {a:Addr} {o:HO} {t':Nat} (I:Inv X pins σ H s) (k:∀ b u,s.heap.get? b=some u->h'.get? b=some u) (hp:s.heap.objs.size<=a) (new:ObjOk X.prog X.w (upd H a o) h' a o) :
  Inv X pins σ (upd H a o) { s with heap:=h',toks:=t' }:=I.un (Un.laid k hp (I.hok.fresh hp)) (I.hok.laid k hp new)
theorem Inv.write {x e:Addr} {o:HO} {t':Nat} (I:Inv X pins σ H s) (mu:Mut (H x)) (he:e=x\/H e=some (.own x)) (k:∀ b u,b ≠ e->s.heap.get? b=some u->h'.get? b=some u) (heo:∃ u,h'.get? e=some u)
  (new:ObjOk X.prog X.w (upd H x o) h' x o):Inv X pins σ (upd H x o) { s with heap:=h',toks:=t' }:=I.un (Un.write mu he k heo) (I.hok.write mu he k heo new)
theorem Inv.pins_of {pins':List (Addr × Obj)} (I:Inv X pins σ H s) (h:∀ p ∈ pins',s.heap.get? p.1=some p.2/\H p.1=none/\p.1 ≠ X.env.locals/\p.1 ∉ X.fs/\∀ v,p.2.data ≠ .cell v):Inv X pins' σ H s :=
 ⟨I.ok,I.os,I.bare,I.base,I.loc,I.cell,I.free,I.freeC,fun p hp=>(List.mem_append.mp hp).elim (fun z=>I.pin p (List.mem_append_left _ z)) (h p),I.hok,I.len⟩
theorem nodup_ix {N:List Str} (hN:N.Nodup) {i j:Nat} {x:Str} (a:N[i]?=some x) (b:N[j]?=some x):i=j:=by
 obtain ⟨h1,e1⟩:=List.getElem?_eq_some_iff.mp a
 obtain ⟨h2,e2⟩:=List.getElem?_eq_some_iff.mp b
 exact (List.getElem_inj hN).mp (e1.trans e2.symm)
theorem store_ok2 {M:Model} {A:Around} {E:Value->Shared->Prop} {i:Nat} {x:Str} {v:V} {u:Value} {Q:Unit->Shared->Prop} (I:Inv X pins σ H s) (hN:X.N.Nodup) (hi:X.N[i]?=some x) (hx:Loc X.env.scope x) (r:RelV v u)
  (h:∀ s',Inv X pins (σ.set i (some v)) H s'->(∃ a,Heap.SameBut a s.heap s'.heap/\(a=X.env.locals\/X.env.cells.lookup x=some a))->Q () s') (hf:X.fn x=true\/X.env.scope.names.lookup x=some .local:=by first | exact .inl rfl | exact .inr rfl | assumption):wpAny M A (storeName X.env x u) Q E s:=by
 obtain ⟨m,hn,hl⟩:=id I.loc
 have hcls:(X.env.scope.kind == .class || (X.env.scope.kind == .module && X.env.locals != X.env.globals))=false:=by rw [I.ok.kind];rfl
 have hiσ:i < σ.length:=by rw [I.len];exact (List.getElem?_eq_some_iff.mp hi).1
 have cne:=I.cne
 have tracked:∀ {a:Addr} {h':Heap},(∃ o,s.heap.get? a=some o/\H a=none)->Heap.SameBut a s.heap h'->HOk X.prog X.w H h':=fun {a h'} ha hs b ob e=>by
  obtain ⟨_,_,hfree⟩:=ha
  refine (I.hok b ob e).stay (fun c w' hc q=>(hs.2 c ?_).trans q) (fun _ q=>q) fun _ _ q=>q
  rintro rfl
  rcases hc with rfl | hc
  ·rw [hfree] at e;cases e
  ·rw [hfree] at hc;cases hc
 rcases hx with hk | hk
 ·refine wpAny_storeName_local hk hn (fun h' hn' hs=>?_) hcls
  obtain ⟨oL,_,_,hoL,_⟩:=id hn
  refine h _ ⟨I.ok,I.os,I.bare,⟨fun b o e n hb hx=>?_,fun b o e n hb hx=>?_,I.base.free,fun b o e hx=>?_,I.base.tups,I.base.frzs,I.base.tbls⟩,⟨_,hn',fun j y v' e1 e2 e3=>?_⟩,fun y c e=>?_,I.free,I.freeC,fun p hp=>?_,tracked ⟨oL,hoL,I.free⟩ hs,by simpa using I.len⟩ ⟨_,hs,.inl rfl⟩
  ·exact (hs.2 b (Nat.ne_of_lt (Nat.lt_of_lt_of_le (Heap.lt_size e) I.ok.above))).trans (I.base.keep b o e n hb hx)
  ·obtain ⟨sl,e1⟩:=I.base.slot b o e n hb hx
   exact ⟨sl,(hs.2 b (Nat.ne_of_lt (Nat.lt_of_lt_of_le (Heap.lt_size e) I.ok.above))).trans e1⟩
  ·obtain ⟨o',e1⟩:=I.base.there b o e hx
   exact ⟨o',(hs.2 b (Nat.ne_of_lt (Nat.lt_of_lt_of_le (Heap.lt_size e) I.ok.above))).trans e1⟩
  ·by_cases hj:j=i
   ·subst hj
    rw [hi] at e1;cases e1
    rw [List.getElem?_set_self hiσ] at e2
    cases e2
    exact ⟨u,r,.inl ⟨hk,by simp⟩⟩
   ·rw [List.getElem?_set_ne (Ne.symm hj)] at e2
    obtain ⟨u',r',q⟩:=hl j y v' e1 e2 e3
    refine ⟨u',r',?_⟩
    rcases q with ⟨k,e⟩ | ⟨k,c,e,z⟩
    ·refine .inl ⟨k,?_⟩
     have:y ≠ x:=fun e=>hj (nodup_ix hN e1 (e ▸ hi))
     simp [this,e]
    ·exact .inr ⟨k,c,e,z.sameBut hs (cne y c e)⟩
  ·obtain ⟨w',z⟩:=I.cell y c e
   exact ⟨w',z.sameBut hs (cne y c e)⟩
  ·obtain ⟨e,n,ne,nf,d⟩:=I.pin p hp
   exact ⟨(hs.2 p.1 ne).trans e,n,ne,nf,d⟩
 ·have hfn:X.fn x=true:=by
   rcases hf with z | z
   ·exact z
   ·rw [z] at hk;cases hk
  obtain ⟨c,hc⟩:=I.ok.has x (.inl hk)
  obtain ⟨w',z⟩:=I.cell x c hc
  refine wpAny_storeName_cell I.ok.kind hk hc z (fun h' hc' hs=>?_)
  obtain ⟨oc,hoc,hocd⟩:=id z
  refine h { s with heap:=h' } ⟨I.ok,I.os,I.bare,⟨fun b o e n hb hx=>?_,fun b o e n hb hx=>?_,I.base.free,fun b o e hx=>?_,I.base.tups,I.base.frzs,I.base.tbls⟩,⟨m,hn.sameBut hs (Ne.symm (cne x c hc)),fun j y v' e1 e2 e3=>?_⟩,fun y c' e=>?_,I.free,I.freeC,fun p hp=>?_,tracked ⟨oc,hoc,I.freeC x c hc⟩ hs,by simpa using I.len⟩ ⟨c,hs,.inr hc⟩
  ·exact (hs.2 b (Nat.ne_of_lt (Nat.lt_of_lt_of_le (Heap.lt_size e) (I.ok.cab x c hfn hc)))).trans (I.base.keep b o e n hb hx)
  ·obtain ⟨sl,e1⟩:=I.base.slot b o e n hb hx
   exact ⟨sl,(hs.2 b (Nat.ne_of_lt (Nat.lt_of_lt_of_le (Heap.lt_size e) (I.ok.cab x c hfn hc)))).trans e1⟩
  ·obtain ⟨o',e1⟩:=I.base.there b o e hx
   exact ⟨o',(hs.2 b (Nat.ne_of_lt (Nat.lt_of_lt_of_le (Heap.lt_size e) (I.ok.cab x c hfn hc)))).trans e1⟩
  ·by_cases hj:j=i
   ·subst hj
    rw [hi] at e1;cases e1
    rw [List.getElem?_set_self hiσ] at e2
    cases e2
    exact ⟨u,r,.inr ⟨.inl hk,c,hc,hc'⟩⟩
   ·rw [List.getElem?_set_ne (Ne.symm hj)] at e2
    obtain ⟨u',r',q⟩:=hl j y v' e1 e2 e3
    refine ⟨u',r',?_⟩
    rcases q with q | ⟨k,c',e,z'⟩
    ·exact .inl q
    ·refine .inr ⟨k,c',e,z'.sameBut hs ?_⟩
     rintro rfl
     exact hj (nodup_ix hN e1 (I.ok.inj _ _ _ e hc ▸ hi))
  ·by_cases hcc:c'=c
   ·subst hcc;exact ⟨_,hc'⟩
   ·obtain ⟨w2,z2⟩:=I.cell y c' e
    exact ⟨w2,z2.sameBut hs hcc⟩
  ·obtain ⟨e,n,ne,nf,d⟩:=I.pin p hp
   refine ⟨(hs.2 p.1 ?_).trans e,n,ne,nf,d⟩
   intro q
   rw [q,hoc] at e
   have q':oc=p.2:=Option.some.inj e
   exact d w' (by rw [<- q'];exact hocd)
theorem store_ok {M:Model} {A:Around} {E:Value->Shared->Prop} {i:Nat} {x:Str} {v:V} {u:Value} {Q:Unit->Shared->Prop} (I:Inv X pins σ H s) (hN:X.N.Nodup) (hi:X.N[i]?=some x) (hx:Loc X.env.scope x) (r:RelV v u)
  (h:∀ s',Inv X pins (σ.set i (some v)) H s'->Q () s') (hf:X.fn x=true\/X.env.scope.names.lookup x=some .local:=by first | exact .inl rfl | exact .inr rfl | assumption):wpAny M A (storeName X.env x u) Q E s :=
 store_ok2 I hN hi hx r (fun s' I' _=>h s' I') hf
theorem Inv.call' {s':Shared} {ch:List Addr} (I:Inv X pins σ H s) (ho:s'.os=s.os) (u:Un (frs X.stack) ch H H' s.heap s'.heap) (hok:HOk X.prog X.w H' s'.heap) (hg:AllBare s'.gens)
  (hch:∀ b ∈ ch,(b ∈ X.ex\/X.s₀.heap.objs.size<=b)/\b ≠ X.env.locals/\(∀ x c,X.env.cells.lookup x=some c->c ≠ b)/\∀ p ∈ X.pn ++ pins,p.1 ≠ b):Inv X pins σ H' s':=by
 obtain ⟨h',g',d',t',o'⟩:=s'
 have e:o'=s.os:=ho
 subst e
 exact I.call (g':=g') (t':=t') (d':=d') u hok hg hch
end
abbrev XK:=Value->Option Addr->Hp->Prop
abbrev St:=List (Option V)
abbrev VK:=V->Hp->Prop
abbrev TE:=St->Hp->VK->Prop
abbrev TT:=St->Hp->(Bool->Hp->Prop)->Prop
abbrev TA:=St->Hp->(List V->Hp->Prop)->Prop
structure Ends where
 nx:St->Hp->Prop
 rt:VK
 bk:St->Hp->Prop:=fun _ _=>False
 ct:St->Hp->Prop:=fun _ _=>False
abbrev TS:=Ends->St->Hp->Prop
def EP (X:Cx) (pins:List (Addr × Obj)) (σ:St) (Q:VK) (u:Value) (s':Shared):Prop:=∃ v H',Inv X pins σ H' s'/\RelV v u/\Q v H'
def TP (X:Cx) (pins:List (Addr × Obj)) (σ:St) (Q:Bool->Hp->Prop) (b:Bool) (s':Shared):Prop:=∃ H',Inv X pins σ H' s'/\Q b H'
def AP (X:Cx) (pins:List (Addr × Obj)) (σ:St) (Q:List V->Hp->Prop) (us:List Value) (s':Shared):Prop:=∃ vs H',Inv X pins σ H' s'/\Vals vs us/\Q vs H'
def SP (X:Cx) (pins:List (Addr × Obj)) (D:Ends) (f:Flow) (s':Shared):Prop :=
 match f with
 | .next=>∃ σ' H',Inv X pins σ' H' s'/\D.nx σ' H'
 | .brk=>∃ σ' H',Inv X pins σ' H' s'/\D.bk σ' H'
 | .cont=>∃ σ' H',Inv X pins σ' H' s'/\D.ct σ' H'
 | .ret u=>∃ v σ' H',Inv X pins σ' H' s'/\RelV v u/\D.rt v H'
def PE (X:Cx) (e:Expr) (t:TE):Prop :=
 ∀ (pins:List (Addr × Obj)) (s:Shared) (σ:St) (H:Hp) (Q:VK),Inv X pins σ H s->t σ H Q->wpAny (model X.prog X.w) X.A (eval e X.env) (EP X pins σ Q) X.xe s
def PT (X:Cx) (e:Expr) (t:TT):Prop :=
 ∀ (pins:List (Addr × Obj)) (s:Shared) (σ:St) (H:Hp) (Q:Bool->Hp->Prop),Inv X pins σ H s->t σ H Q->wpAny (model X.prog X.w) X.A (isTrue e X.env (eval e X.env)) (TP X pins σ Q) X.xe s
def PW (X:Cx) (e:Expr) (t:TT):Prop :=
 ∀ (whole:Sem Value) (pins:List (Addr × Obj)) (s:Shared) (σ:St) (H:Hp) (Q:Bool->Hp->Prop),Inv X pins σ H s->t σ H Q->wpAny (model X.prog X.w) X.A (isTrue e X.env whole) (TP X pins σ Q) X.xe s
theorem PW.pt {X:Cx} {e:Expr} {t:TT} (h:PW X e t):PT X e t:=h _
def PA (X:Cx) (es:List Expr) (t:TA):Prop :=
 ∀ (pos:Pos) (pins:List (Addr × Obj)) (s:Shared) (σ:St) (H:Hp) (Q:List V->Hp->Prop),Inv X pins σ H s->t σ H Q->wpAny (model X.prog X.w) X.A (spliced (backTo pos (starEach es X.env))) (AP X pins σ Q) X.xe s
def PS (X:Cx) (st:Stmt) (t:TS):Prop :=
 ∀ (pins:List (Addr × Obj)) (s:Shared) (σ:St) (H:Hp) (D:Ends),Inv X pins σ H s->t D σ H->wpAny (model X.prog X.w) X.A (exec st X.env) (SP X pins D) X.xe s
def PSs (X:Cx) (st:List Stmt) (t:TS):Prop :=
 ∀ (pins:List (Addr × Obj)) (s:Shared) (σ:St) (H:Hp) (D:Ends),Inv X pins σ H s->t D σ H->wpAny (model X.prog X.w) X.A (execs st X.env) (SP X pins D) X.xe s
theorem thn {α:Type} {t:Sem α} {Q Q':α->Shared->Prop} {M:Model} {A:Around} {E:Value->Shared->Prop} {s:Shared} (h:wpAny M A t Q E s) (hQ:∀ a s,Q a s->Q' a s):wpAny M A t Q' E s:=wpAny_mono h hQ fun _ _ x=>x
end L2
namespace L2
open PySem PySem.Spec PyProof.Rows
section
variable {X:Cx}
theorem bin {a b:Expr} {ta tb:TE} (ha:PE X a ta) (hb:PE X b tb) {pins:List (Addr × Obj)} {s:Shared} {σ:St} {H:Hp} {R:V->V->Hp->Prop} (I:Inv X pins σ H s) (h:ta σ H fun x H1=>tb σ H1 fun y H2=>R x y H2)
  {α:Type} {Q:α->Shared->Prop} {f:Value->Value->Sem α}
  (hf:∀ v u s2 x y H2,Inv X pins σ H2 s2->RelV x v->RelV y u->R x y H2->wpAny (model X.prog X.w) X.A (f v u) Q X.xe s2) :
  wpAny (model X.prog X.w) X.A (eval a X.env) (fun v s₁=>wpAny (model X.prog X.w) X.A (eval b X.env) (fun u s₂=>wpAny (model X.prog X.w) X.A (f v u) Q X.xe s₂) X.xe s₁) X.xe s:=by
 refine thn (ha pins s σ H _ I h) fun v s1 ⟨x,H1,I1,r1,q1⟩=>?_
 refine thn (hb pins s1 σ H1 _ I1 q1) fun u s2 ⟨y,H2,I2,r2,q2⟩=>?_
 exact hf v u s2 x y H2 I2 r1 r2 q2
def tVar (i:Nat):TE:=fun σ H Q=>∃ v,σ[i]?=some (some v)/\Q v H
def tC (v:V):TE:=fun _ H Q=>Q v H
theorem pe_var {i:Nat} {x:Str} {pos:Pos} (hN:X.N[i]?=some x) (hv:Vis X.env.scope x) (hd:(x == ("__debug__" : Str))=false:=by decide) (hcd:(x == ("__classdict__" : Str))=false:=by decide):PE X (.Name x pos) (tVar i):=by
 intro pins s σ H Q I h
 obtain ⟨v,e,h⟩:=h
 obtain ⟨m,hn,hl⟩:=I.loc
 obtain ⟨u,r,l⟩:=hl i x v hN e hv
 have fin:EP X pins σ Q u s:=⟨v,H,I,r,h⟩
 rcases l with ⟨hk,hm⟩ | ⟨hk,c,hc,hcell⟩
 ·exact wpAny_Name (wpAny_loadName_local I.ok.kind hk hn hm fin) hd
 ·rcases hk with hk | hk
  ·exact wpAny_Name (wpAny_loadName_cell I.ok.kind hk hc hcell fin) hd
  ·exact wpAny_Name (wpAny_loadName_free I.ok.kind hk hc hcell fin hcd) hd
theorem pe_int {i j pos}:PE X (.Constant (.int i) j pos) (tC (.int i)):=fun _ _ _ H _ I h=>wpAny_Constant_int ⟨.int i,H,I.tok _,⟨_,rfl⟩,h⟩
theorem pe_bl {b j pos}:PE X (.Constant (.bool b) j pos) (tC (.bl b)):=fun _ _ _ H _ I h=>Constant_bool ⟨.bl b,H,I,rfl,h⟩
theorem pe_non {j pos}:PE X (.Constant .none j pos) (tC .non):=fun _ _ _ H _ I h=>Constant_none ⟨.non,H,I,rfl,h⟩
def Gl (X:Cx) (x:Str):Prop:=X.env.kindOf x=some .globalImplicit
theorem ld_glob {E:Value->Shared->Prop} {pins:List (Addr × Obj)} {s:Shared} {σ:St} {H:Hp} {x:Str} {u:Value} {pos:Pos} {Q:Value->Shared->Prop} (I:Inv X pins σ H s) (hg:Gl X x) (hm:X.mg x=some u) (h:Q u s)
  (hd:(x == ("__debug__" : Str))=false:=by decide):wpAny (model X.prog X.w) X.A (eval (.Name x pos) X.env) Q E s :=
 Calls.Name_function_global I.ok.kind hg (Calls.loadGlobal_global (by rw [I.ok.glob];exact I.mod.glob.keeps I.bk) hm h) hd
theorem ld_blt {E:Value->Shared->Prop} {pins:List (Addr × Obj)} {s:Shared} {σ:St} {H:Hp} {x:Str} {u:Value} {pos:Pos} {Q:Value->Shared->Prop} (I:Inv X pins σ H s) (hg:Gl X x) (hm:X.mg x=none) (hv:bootBuiltins x=some u) (h:Q u s)
  (hn:x ≠ "__name__" := by decide) (hd:(x == ("__debug__" : Str))=false:=by decide):wpAny (model X.prog X.w) X.A (eval (.Name x pos) X.env) Q E s:=by
 obtain ⟨mb,h1,h2⟩:=I.mod.blt
 exact Calls.Name_function_global I.ok.kind hg (Calls.loadGlobal_builtin (by rw [I.ok.glob];exact I.mod.glob.keeps I.bk) hm (by rw [I.ok.blt];exact h1.keeps I.bk) ((h2 x hn).trans hv) h) hd
theorem pe_glob {x:Str} {v:V} {u:Value} {pos:Pos} (hg:Gl X x) (hm:X.mg x=some u) (r:RelV v u) (hd:(x == ("__debug__" : Str))=false:=by decide):PE X (.Name x pos) (tC v) :=
 fun _ _ _ H _ I h=>ld_glob I hg hm ⟨v,H,I,r,h⟩ hd
theorem pe_bltn {x:Str} {v:V} {u:Value} {pos:Pos} (hg:Gl X x) (hm:X.mg x=none) (hv:bootBuiltins x=some u) (r:RelV v u) (hn:x ≠ "__name__" := by decide) (hd:(x == ("__debug__" : Str))=false:=by decide):PE X (.Name x pos) (tC v) :=
 fun _ _ _ H _ I h=>ld_blt I hg hm hv ⟨v,H,I,r,h⟩ hn hd
variable {a b:Expr} {ta tb:TE} {pos:Pos}
def PC (X:Cx) (op:CmpOp) (a b:Expr) (t:TE):Prop :=
 ∀ (pins:List (Addr × Obj)) (s:Shared) (σ:St) (H:Hp) (Q:VK),Inv X pins σ H s->t σ H Q ->
  wpAny (model X.prog X.w) X.A (eval a X.env) (fun v s₁=>wpAny (model X.prog X.w) X.A (eval b X.env) (fun u s₂=>wpAny (model X.prog X.w) X.A (compareOp op v u) (EP X pins σ Q) X.xe s₂) X.xe s₁) X.xe s
def tB (t:TE):TT:=fun σ H Q=>t σ H fun x H1=>∃ c,x = .bl c/\Q c H1
theorem pt_cmp {op:CmpOp} {t:TE} (h:PC X op a b t) (h1:behindInMarks op b=false:=by first | exact nobehind _ (by decide) (by decide) | rfl):PT X (.Compare a [op] [b] pos) (tB t):=by
 intro pins s σ H Q I hw
 refine wpAny_isTrue_Compare1 (thn (h pins s σ H _ I hw) fun v s1 h1=>thn h1 fun u s2 h2=>thn h2 fun c s3 ⟨x,H1,I1,r1,q1⟩=>?_) h1
 obtain ⟨d,rfl,q⟩:=q1
 cases r1
 exact wpAny_truthy_bool ⟨H1,I1,q⟩
theorem pt_val {e:Expr} {t:TE} (h:PE X e t) (he:∀ whole,isTrue e X.env whole=(do let v <- whole;standAt e.pos;holding [v] (truthy v)):=by intro _;rfl):PT X e (tB t):=by
 intro pins s σ H Q I hw
 refine isTrue_plain (thn (h pins s σ H _ I hw) fun v s1 ⟨x,H1,I1,r1,q1⟩=>?_) (he _)
 obtain ⟨d,rfl,q⟩:=q1
 cases r1
 exact wpAny_truthy_bool ⟨H1,I1,q⟩
variable {tA tB':TT} {rest:List Expr}
def tOr (t u:TT):TT:=fun σ H Q=>t σ H fun c H1=>if c=true then Q true H1 else u σ H1 Q
def tNot (t:TT):TT:=fun σ H Q=>t σ H fun c H1=>Q (!c) H1
theorem pw_or1 (ha:PT X a tA):PW X (.BoolOp .Or [a] pos) tA:=by
 intro wh pins s σ H Q I h
 refine isTrue_or (thn (ha pins s σ H Q I h) fun c s1 e=>?_)
 cases c with
 | false=>exact isTrue_or_nil e
 | true=>exact e
theorem pw_or (ha:PT X a tA) (hb:PW X (.BoolOp .Or (b :: rest) pos) tB'):PW X (.BoolOp .Or (a :: b :: rest) pos) (tOr tA tB'):=by
 intro wh pins s σ H Q I h
 refine isTrue_or (thn (ha pins s σ H _ I h) fun c s1 ⟨H1,I1,q1⟩=>?_)
 cases c with
 | true=>exact ⟨H1,I1,q1⟩
 | false=>exact hb wh pins s1 σ H1 Q I1 q1
theorem pt_not (ha:PT X a tA):PT X (.UnaryOp .Not a pos) (tNot tA):=by
 intro pins s σ H Q I h
 exact isTrue_not (ha pins s σ H (fun c H1=>Q (!c) H1) I h)
def tAndV (ta tb:TE):TE:=fun σ H Q=>ta σ H fun x H1=>∃ c,x = .bl c/\if c=true then tb σ H1 Q else Q (.bl false) H1
def tNotV (ta:TE):TE:=fun σ H Q=>ta σ H fun x H1=>∃ c,x = .bl c/\Q (.bl (!c)) H1
theorem pe_one {op} {t:TE} (h:PE X a t):PE X (.BoolOp op [a] pos) t:=fun pins s σ H Q I hw=>BoolOp_one (h pins s σ H Q I hw)
theorem pe_and (ha:PE X a ta) (hb:PE X (.BoolOp .And (b :: rest) pos) tb):PE X (.BoolOp .And (a :: b :: rest) pos) (tAndV ta tb):=by
 intro pins s σ H Q I h
 refine BoolOp_and (thn (ha pins s σ H _ I h) fun v s1 ⟨x,H1,I1,r1,q1⟩=>?_)
 obtain ⟨c,rfl,q1⟩:=q1
 cases r1
 refine wpAny_truthy_bool ?_
 cases c with
 | true=>exact hb pins s1 σ H1 Q I1 q1
 | false=>exact ⟨.bl false,H1,I1,rfl,q1⟩
theorem pe_not (ha:PE X a ta):PE X (.UnaryOp .Not a pos) (tNotV ta):=by
 intro pins s σ H Q I h
 refine UnaryOp_ (thn (ha pins s σ H _ I h) fun v s1 ⟨x,H1,I1,r1,q1⟩=>?_)
 obtain ⟨c,rfl,q1⟩:=q1
 cases r1
 exact not_of (wpAny_truthy_bool ⟨.bl (!c),H1,I1,rfl,q1⟩)
end
end L2
namespace L2
open PySem PySem.Spec PyProof.Rows
def SqL (K:PySem.W.Frag) (H:Hp) (a:Addr) (xs:List V):Prop :=
 Rd H a (.lst xs) \/
  ∃ (o:Obj) (its:Array Value) (n:Nat),K.lookup a=some o/\o.cls = .type "list" /\ o.dict=none/\o.data = .seq its n/\its.size<=sizeLine/\Vals xs its.toList
def SqT (K:PySem.W.Frag) (H:Hp) (a:Addr) (xs:List V):Prop :=
 Rd H a (.tup xs) \/
  ∃ (o:Obj) (its:Array Value) (n:Nat),K.lookup a=some o/\o.cls = .type "tuple" /\ o.data = .seq its n/\its.size<=sizeLine/\Vals xs its.toList
def absV:Value->Option V
 | .none=>some .non
 | .bool b=>some (.bl b)
 | .int i _=>some (.int i)
 | .str x _=>some (.str x)
 | .bytes b _=>some (.byt b)
 | .float b _=>some (.flt b)
 | .ref a=>some (.ref a)
 | .type n=>some (.ty n)
 | _=>none
theorem RelV.abs {x:V} {u:Value} (r:RelV x u):absV u=some x:=by
 cases x with
 | non=>cases r;rfl
 | bl _=>cases r;rfl
 | int _=>obtain ⟨t,rfl⟩:=r;rfl
 | str _=>obtain ⟨t,rfl⟩:=r;rfl
 | byt _=>obtain ⟨t,rfl⟩:=r;rfl
 | flt _=>obtain ⟨t,rfl⟩:=r;rfl
 | ref _=>cases r;rfl
 | ty _=>cases r;rfl
theorem RelV.inj {x y:V} {u:Value} (r:RelV x u) (q:RelV y u):x=y:=Option.some.inj (r.abs.symm.trans q.abs)
theorem Vals.inj:∀ {xs ys:List V} {us:List Value},Vals xs us->Vals ys us->xs=ys
 | _,_,_,.nil,.nil=>rfl
 | _,_,_,.cons r t,.cons r' t'=>by rw [r.inj r',Vals.inj t t']
section
variable {X:Cx} {pins:List (Addr × Obj)} {σ:St} {H:Hp} {s:Shared} {a:Addr} {xs ys:List V}
theorem SqL.of {K:PySem.W.Frag} (h:H a=some (.lst xs)):SqL K H a xs:=.inl (.inl h)
theorem SqT.of {K:PySem.W.Frag} (h:H a=some (.tup xs)):SqT K H a xs:=.inl (.inl h)
theorem Inv.list (I:Inv X pins σ H s) (h:SqL X.K H a xs):∃ its:List Value,Vals xs its/\PlainL s.heap a its.toArray/\xs.length<=sizeLine:=by
 rcases h with h | ⟨o,its,n,hk,hc,hd,hs,hz,r⟩
 ·obtain ⟨z,its,n,r,e⟩:=h.ok I.hok
  exact ⟨its,r,⟨_,n,e,rfl,rfl,rfl⟩,z⟩
 ·refine ⟨its.toList,r,⟨o,n,I.kIn a o hk,hc,hd,by simpa using hs⟩,?_⟩
  have e:=r.length
  simp only [Array.length_toList] at e
  omega
theorem Inv.tuple (I:Inv X pins σ H s) (h:SqT X.K H a xs):∃ its:List Value,Vals xs its/\IsTup s.heap a its.toArray/\xs.length<=sizeLine:=by
 rcases h with h | ⟨o,its,n,hk,hc,hs,hz,r⟩
 ·obtain ⟨z,its,r,p⟩:=h.ok I.hok
  exact ⟨its,r,p,z⟩
 ·refine ⟨its.toList,r,⟨o,I.kIn a o hk,hc,n,by simpa using hs⟩,?_⟩
  have e:=r.length
  simp only [Array.length_toList] at e
  omega
theorem Inv.list_inj (I:Inv X pins σ H s) (h:SqL X.K H a xs) (h':SqL X.K H a ys):xs=ys:=by
 obtain ⟨its,r,⟨o,n,e,_,_,d⟩,_⟩:=I.list h
 obtain ⟨its',r',⟨o',n',e',_,_,d'⟩,_⟩:=I.list h'
 rw [e] at e';cases e'
 rw [d] at d'
 injection d' with d1 _
 have:its=its':=by simpa using congrArg Array.toList d1
 subst this
 exact r.inj r'
theorem Inv.tuple_inj (I:Inv X pins σ H s) (h:SqT X.K H a xs) (h':SqT X.K H a ys):xs=ys:=by
 obtain ⟨its,r,⟨o,e,_,n,d⟩,_⟩:=I.tuple h
 obtain ⟨its',r',⟨o',e',_,n',d'⟩,_⟩:=I.tuple h'
 rw [e] at e';cases e'
 rw [d] at d'
 injection d' with d1 _
 have:its=its':=by simpa using congrArg Array.toList d1
 subst this
 exact r.inj r'
end
abbrev Cx.wish (X:Cx) (E:Value->Shared->Prop):Cx:={ X with xe:=E }
abbrev Cx.nox (X:Cx):Cx:=X.wish fun _ _=>False
theorem Cx.Ok.wish {X:Cx} (ok:X.Ok) (E:Value->Shared->Prop):(X.wish E).Ok :=
 ⟨ok.mod,ok.kind,ok.glob,ok.blt,ok.above,ok.inj,ok.has,ok.cab,ok.hd,ok.frames,ok.stk,ok.exf,ok.bs,ok.bsz,ok.noex,ok.exfs,ok.funs,ok.frf⟩
theorem Cx.Ok.unwish {X:Cx} {E:Value->Shared->Prop} (ok:(X.wish E).Ok):X.Ok :=
 ⟨ok.mod,ok.kind,ok.glob,ok.blt,ok.above,ok.inj,ok.has,ok.cab,ok.hd,ok.frames,ok.stk,ok.exf,ok.bs,ok.bsz,ok.noex,ok.exfs,ok.funs,ok.frf⟩
section
variable {X:Cx} {pins:List (Addr × Obj)} {σ:St} {H:Hp} {s:Shared} {E:Value->Shared->Prop}
theorem Inv.wish (I:Inv X pins σ H s) (E:Value->Shared->Prop):Inv (X.wish E) pins σ H s:=⟨I.ok.wish E,I.os,I.bare,I.base,I.loc,I.cell,I.free,I.freeC,I.pin,I.hok,I.len⟩
theorem Inv.unwish (I:Inv (X.wish E) pins σ H s):Inv X pins σ H s:=⟨I.ok.unwish,I.os,I.bare,I.base,I.loc,I.cell,I.free,I.freeC,I.pin,I.hok,I.len⟩
theorem SP.unwish {D:Ends} {f:Flow} {s':Shared} (h:SP (X.wish E) pins D f s'):SP X pins D f s':=by
 cases f with
 | next=>obtain ⟨σ',H',I,q⟩:=h;exact ⟨σ',H',I.unwish,q⟩
 | brk=>obtain ⟨σ',H',I,q⟩:=h;exact ⟨σ',H',I.unwish,q⟩
 | cont=>obtain ⟨σ',H',I,q⟩:=h;exact ⟨σ',H',I.unwish,q⟩
 | ret u=>obtain ⟨v,σ',H',I,r,q⟩:=h;exact ⟨v,σ',H',I.unwish,r,q⟩
theorem PSs.nox {st:List Stmt} {t:TS} (h:PSs X.nox st t):PSs X st t:=fun pins s σ H D I hw =>
 wpAny_mono (h pins s σ H D (I.wish _) hw) (fun _ _ q=>q.unwish) fun _ _ z=>False.elim z
end
section
variable {X:Cx} {st:Stmt} {rest:List Stmt} {t u:TS} {e:Expr} {te:TE} {pos:Pos}
def tNext:TS:=fun D σ H=>D.nx σ H
def tSeq (t u:TS):TS:=fun D σ H=>t { D with nx:=u D } σ H
theorem pss_nil:PSs X [] tNext:=fun _ _ σ H _ I h=>wpAny_execs_nil ⟨σ,H,I,h⟩
theorem pss_cons (h1:PS X st t) (h2:PSs X rest u):PSs X (st :: rest) (tSeq t u):=by
  intro pins s σ H D I h
  refine wpAny_execs_cons (thn (h1 pins s σ H { D with nx:=u D } I h) fun f s1 q=>?_)
  cases f with
  | next =>
    obtain ⟨σ',H',I',q⟩:=q
    exact h2 pins s1 σ' H' D I' q
  | ret v=>exact q
  | brk=>exact q
  | cont=>exact q
theorem pss_one (h1:PS X st t):PSs X [st] t:=by
 intro pins s σ H D I h
 refine wpAny_execs_cons (thn (h1 pins s σ H D I h) fun f s1 q=>?_)
 cases f with
 | next=>exact wpAny_execs_nil q
 | ret v=>exact q
 | brk=>exact q
 | cont=>exact q
theorem Inv.quiet {pins:List (Addr × Obj)} {σ:St} {H:Hp} {s:Shared} (I:Inv X pins σ H s):interactive X.env=false:=by simp [interactive,I.ok.kind]
def tDrop (te:TE):TS:=fun D σ H=>te σ H fun _ H1=>D.nx σ H1
theorem ps_expr (he:PE X e te) (hs:swapsWith e none pos.line X.env=pure false:=by rfl):PS X (.Expr e pos) (tDrop te):=by
 intro pins s σ H D I h
 exact wpAny_Expr_any (thn (he pins s σ H _ I h) fun v s1 ⟨x,H1,I1,r1,q1⟩=>⟨σ,H1,I1,q1⟩) I.quiet hs
def tRet (te:TE):TS:=fun D σ H=>te σ H D.rt
theorem ps_ret (he:PE X e te):PS X (.Return (some e) pos) (tRet te):=by
 intro pins s σ H D I h
 exact wpAny_Return_some (thn (he pins s σ H _ I h) fun v s1 ⟨x,H1,I1,r1,q1⟩=>⟨x,σ,H1,I1,r1,q1⟩)
def tIfS (c:TT) (t u:TS):TS:=fun D σ H=>c σ H fun b H1=>if b=true then t D σ H1 else u D σ H1
theorem ps_if {c:Expr} {a b:List Stmt} {tc:TT} (hc:PT X c tc) (ha:PSs X a t) (hb:PSs X b u):PS X (.If c a b pos) (tIfS tc t u):=by
 intro pins s σ H D I h
 refine wpAny_If (thn (hc pins s σ H _ I h) fun d s1 ⟨H1,I1,q1⟩=>?_)
 cases d with
 | true=>exact ha pins s1 σ H1 D I1 q1
 | false=>exact hb pins s1 σ H1 D I1 q1
def tNever:TS:=fun _ _ _=>False
theorem ps_never:PS X st tNever:=fun _ _ _ _ _ _ h=>h.elim
end
abbrev TG:=V->St->Hp->(St->Hp->Prop)->Prop
abbrev TGs:=List V->St->Hp->(St->Hp->Prop)->Prop
def PG (X:Cx) (target:Expr) (t:TG):Prop :=
 ∀ (pins:List (Addr × Obj)) (s:Shared) (σ:St) (H:Hp) (v:V) (u:Value) (Q:St->Hp->Prop),Inv X pins σ H s->RelV v u->t v σ H Q ->
  wpAny (model X.prog X.w) X.A (assign target X.env u) (fun _ s'=>∃ σ' H',Inv X pins σ' H' s'/\Q σ' H') X.xe s
def PGs (X:Cx) (ts:List Expr) (t:TGs):Prop :=
 ∀ (pins:List (Addr × Obj)) (s:Shared) (σ:St) (H:Hp) (vs:List V) (us:List Value) (Q:St->Hp->Prop),Inv X pins σ H s->Vals vs us->t vs σ H Q ->
  wpAny (model X.prog X.w) X.A (assignInOrder ((assignEach ts X.env).map (·.2)) us) (fun _ s'=>∃ σ' H',Inv X pins σ' H' s'/\Q σ' H') X.xe s
abbrev TSet:=V->V->V->Hp->(Hp->Prop)->Prop
def PSet (X:Cx) (t:TSet):Prop :=
 ∀ (pins:List (Addr × Obj)) (s:Shared) (σ:St) (H:Hp) (o i v:V) (ov iv u:Value) (Q:Hp->Prop),Inv X pins σ H s->RelV o ov->RelV i iv->RelV v u->t o i v H Q ->
  wpAny (model X.prog X.w) X.A (setItem ov iv u) (fun _ s'=>∃ H',Inv X pins σ H' s'/\Q H') X.xe s
section
variable {X:Cx} {pos:Pos}
def gName (i:Nat):TG:=fun v σ H Q=>Q (σ.set i (some v)) H
theorem pg_name {i:Nat} {x:Str} (hN:X.N.Nodup) (hi:X.N[i]?=some x) (hx:Loc X.env.scope x) (hf:X.fn x=true\/X.env.scope.names.lookup x=some .local:=by first | exact .inl rfl | exact .inr rfl | assumption):PG X (.Name x pos) (gName i):=by
 intro pins s σ H v u Q I r h
 exact wpAny_assign_Name (store_ok I hN hi hx r (fun s' I'=>⟨_,H,I',h⟩) hf)
def gNil:TGs:=fun vs σ H Q=>vs=[]/\Q σ H
def gCons (t:TG) (u:TGs):TGs:=fun vs σ H Q=>∃ v r,vs=v :: r/\t v σ H fun σ' H'=>u r σ' H' Q
theorem pgs_nil:PGs X [] gNil:=by
 intro pins s σ H vs us Q I r h
 obtain ⟨e,h⟩:=h
 subst e
 cases r
 exact assignInOrder_nil ⟨σ,H,I,h⟩
theorem pgs_cons {e:Expr} {es:List Expr} {t:TG} {u:TGs} (h1:PG X e t) (h2:PGs X es u)
    (hs:(assignEach (e :: es) X.env).map (·.2)=assign e X.env :: (assignEach es X.env).map (·.2):=by rfl):PGs X (e :: es) (gCons t u):=by
  intro pins s σ H vs us Q I r h
  obtain ⟨v,vr,e1,h⟩:=h
  subst e1
  cases r with
  | cons r rr =>
    rw [hs]
    refine assignInOrder_cons (thn (h1 pins s σ H _ _ _ I r h) fun _ s1 ⟨σ1,H1,I1,q1⟩=>?_)
    exact h2 pins s1 σ1 H1 _ _ Q I1 rr q1
def gTup (K:PySem.W.Frag) (n:Nat) (t:TGs):TG:=fun v σ H Q=>∃ a xs,v = .ref a/\SqT K H a xs/\xs.length=n/\t xs σ H Q
theorem pg_tup {es:List Expr} {k:Nat} {t:TGs} {n:Nat} (hc:X.calm=true) (h:PGs X es t)
  (hn:(assignEach es X.env).length=n:=by rfl) (hst:(assignEach es X.env).findIdx? (·.1)=none:=by rfl):PG X (.Tuple es k pos) (gTup X.K n t):=by
 intro pins s σ H v u Q I r hw
 obtain ⟨a,xs,e1,hq,hl,hw⟩:=hw
 subst e1
 cases r
 obtain ⟨its,rv,ht,hz⟩:=I.tuple hq
 refine assign_Tuple_tuple (I.ok.hd hc) ht (by simp [hn, <- hl,rv.length]) hst fun h' hx=>?_
 have I1:Inv X pins σ H { s with heap:=h' }:=I.kept (t':=s.toks) fun b o e=>hx b o (Nat.ne_of_lt (Heap.lt_size e)) e
 exact h pins _ σ H xs _ Q I1 (by simpa using rv) hw
def gSub (to ti:TE) (t:TSet):TG:=fun v σ H Q=>to σ H fun o H1=>ti σ H1 fun i H2=>t o i v H2 fun H3=>Q σ H3
theorem pg_sub {o i:Expr} {to ti:TE} {t:TSet} (ho:PE X o to) (hi:PE X i ti) (hs:PSet X t)
  (ha:∀ v,assign (.Subscript o i pos) X.env v=(do
   let ov <- holding [v] (eval o X.env)
   let iv <- holding [v,ov] (eval i X.env)
   standAt pos
   holding [v,ov,iv] (setItem ov iv v)
   release [v,ov,iv] []):=by intro _;rfl):PG X (.Subscript o i pos) (gSub to ti t):=by
 intro pins s σ H v u Q I r h
 rw [ha]
 refine wpAny_bind (wpAny_holding (thn (ho pins s σ H _ I h) fun ov s1 ⟨x,H1,I1,r1,q1⟩=>?_))
 refine wpAny_bind (wpAny_holding (thn (hi pins s1 σ H1 _ I1 q1) fun iv s2 ⟨y,H2,I2,r2,q2⟩=>?_))
 refine wpAny_bind (wpAny_standAt (wpAny_bind (wpAny_holding (thn (hs pins s2 σ H2 x y v ov iv u _ I2 r1 r2 r q2) fun _ s3 ⟨H3,I3,q3⟩=>?_))))
 exact wpAny_release ⟨σ,H3,I3,q3⟩
def tAsg (te:TE) (g:TG):TS:=fun D σ H=>te σ H fun x H1=>g x σ H1 D.nx
theorem ps_asg {tg e:Expr} {te:TE} {g:TG} (he:PE X e te) (hg:PG X tg g) (hs:swapsWithSole [tg] e pos.line X.env=pure false:=by rfl) (hw:swappedStores [tg] e X.env=pure none:=by rfl)
  (h1:(assignEach [tg] X.env).map (·.2)=[assign tg X.env]:=by rfl):PS X (.Assign [tg] e pos) (tAsg te g):=by
 intro pins s σ H D I h
 refine wpAny_Assign_stores (thn (he pins s σ H _ I h) fun v s1 ⟨x,H1,I1,r1,q1⟩=>?_) hs hw
 rw [h1]
 exact thn (hg pins s1 σ H1 x v _ I1 r1 q1) fun _ s2 q=>q
theorem ps_set {i:Nat} {x:Str} {e:Expr} {te:TE} {pos':Pos} (hN:X.N.Nodup) (hi:X.N[i]?=some x) (hx:Loc X.env.scope x) (he:PE X e te) (hs:swapsWith e (some (.Name x pos')) pos.line X.env=pure false:=by rfl) (hf:X.fn x=true\/X.env.scope.names.lookup x=some .local:=by first | exact .inl rfl | exact .inr rfl | assumption) :
  PS X (.Assign [.Name x pos'] e pos) (tAsg te (gName i)):=by
 intro pins s σ H D I h
 refine wpAny_Assign_Name (thn (he pins s σ H _ I h) fun v s1 ⟨y,H1,I1,r1,q1⟩=>?_) hs
 exact store_ok I1 hN hi hx r1 (fun s2 I2=>⟨_,H1,I2,q1⟩) hf
def tPar (i j:Nat) (ta:TA):TS:=fun D σ H=>ta σ H fun vs H1=>∃ v w,vs=[v,w]/\D.nx ((σ.set i (some v)).set j (some w)) H1
theorem ps_par {i j:Nat} {x y:Str} {a b:Expr} {ta:TA} {px py pt:Pos} {kt k2 pt2} (hc:X.calm=true) (hN:X.N.Nodup) (hi:X.N[i]?=some x) (hj:X.N[j]?=some y) (hij:i ≠ j)
    (hx:X.env.scope.names.lookup x=some .local) (hy:X.env.scope.names.lookup y=some .local) (ha:PA X [a,b] ta)
    (hw:swappedStores [.Tuple [.Name x px,.Name y py] kt pt] (.Tuple [a,b] k2 pt2) X.env=pure (some [x,y]))
    (hs:swapsWithSole [.Tuple [.Name x px,.Name y py] kt pt] (.Tuple [a,b] k2 pt2) pos.line X.env=pure false:=by rfl) :
    PS X (.Assign [.Tuple [.Name x px,.Name y py] kt pt] (.Tuple [a,b] k2 pt2) pos) (tPar i j ta):=by
  intro pins s σ H D I h
  rw [exec_Assign_arm]
  refine wpAny_bind (wpAny_standAt ?_)
  rw [hs]
  refine wpAny_bind (wpAny_pure ?_)
  rw [if_neg (by decide)]
  refine wpAny_bind (Tuple_ (thn (ha _ pins s σ H _ I h) fun us s1 ⟨vs,H1,I1,r1,q1⟩=>?_))
  obtain ⟨v,w,e1,q1⟩:=q1
  subst e1
  obtain ⟨u1,u2,rfl,rv,rw'⟩:∃ u1 u2,us=[u1,u2]/\RelV v u1/\RelV w u2:=by
    cases r1 with
    | cons p q =>
      cases q with
      | cons p' q' =>
        cases q'
        exact ⟨_,_,rfl,p,p'⟩
  refine wpAny_newObj_type ?_ (by show 2<=sizeLine;decide)
  have I2:Inv X pins σ H1 { s1 with heap:=s1.heap.push { cls:=.type "tuple",data:=.seq [u1,u2].toArray } }:=I1.kept (t':=s1.toks) fun b o e=>Heap.get?_push_of_some _ e
  rw [hw]
  refine wpAny_bind (wpAny_pure ?_)
  show wpAny (model X.prog X.w) X.A (do rule "assign.swapped-stores";let items <- unpackItems (.ref s1.heap.objs.size) 2 none;assignInOrder [fun v=>bindName X.env y v,fun v=>bindName X.env x v] items.reverse;pure Flow.next) _ _ _
  refine wpAny_bind (wpAny_rule (wpAny_bind (unpackItems_tuple (items := #[u1,u2]) (I.ok.hd hc) (IsTup.new s1.heap _) fun h' hx'=>?_)))
  have I3:=I2.kept (h':=h') (t':=s1.toks) fun b o e=>hx' b o (Nat.ne_of_lt (Heap.lt_size e)) e
  show wpAny _ _ (assignInOrder [fun v=>bindName X.env y v,fun v=>bindName X.env x v] [u2,u1] >>= fun _=>pure Flow.next) _ _ _
  refine wpAny_bind (assignInOrder_cons (wpAny_bindName (store_ok I3 hN hj (.inl hy) rw' (fun s2 I4=>?_) (.inr hy))))
  refine assignInOrder_cons (wpAny_bindName (store_ok I4 hN hi (.inl hx) rv (fun s3 I5=>assignInOrder_nil (wpAny_pure ?_)) (.inr hx)))
  rw [List.set_comm _ _ (Ne.symm hij)] at I5
  exact ⟨_,H1,I5,q1⟩
end
section
variable {X:Cx} {pos:Pos}
def tWhile (c:TT) (tb:TS):TS:=fun D σ H=>∃ W:Nat->St->Hp->Prop,(∃ m,W m σ H)/\∀ m σ H,W m σ H ->
 c σ H fun b H1=>if b=true then ∃ N:St->Hp->Prop,(∀ σ' H',N σ' H'->∃ m',m' < m/\W m' σ' H')/\tb { D with nx:=N,ct:=N,bk:=D.nx } σ H1 else D.nx σ H1
theorem ps_while {c:Expr} {body:List Stmt} {tc:TT} {tb:TS} (hp:PassesOwn (model X.prog X.w) X.A X.env X.xe) (hc:PT X c tc) (hb:PSs X body tb):PS X (.While c body [] pos) (tWhile tc tb):=by
  intro pins s σ H D I h
  obtain ⟨W,⟨m0,w0⟩,turn⟩:=h
  refine wpAny_While (codeAny_whileLoop (fun n s'=>∃ σ' H',Inv X pins σ' H' s'/\W n σ' H') ?_ m0 ⟨σ,H,I,w0⟩)
  rintro n s1 ⟨σ1,H1,I1,w1⟩
  refine wpAny_passesOwn hp (thn (hc pins s1 σ1 H1 _ I1 (turn n σ1 H1 w1)) fun b s2 ⟨H2,I2,q2⟩=>?_)
  cases b with
  | true =>
    obtain ⟨N,hN,q2⟩:=q2
    rw [if_pos rfl]
    refine wpAny_passesOwn hp (thn (hb pins s2 σ1 H2 _ I2 q2) fun f s3 q3=>?_)
    cases f with
    | next =>
      obtain ⟨σ3,H3,I3,n3⟩:=q3
      obtain ⟨m',hm,w3⟩:=hN σ3 H3 n3
      exact ⟨m',hm,σ3,H3,I3,w3⟩
    | cont =>
      obtain ⟨σ3,H3,I3,n3⟩:=q3
      obtain ⟨m',hm,w3⟩:=hN σ3 H3 n3
      exact ⟨m',hm,σ3,H3,I3,w3⟩
    | brk=>exact q3
    | ret v=>exact q3
  | false =>
    rw [if_neg Bool.false_ne_true]
    exact wpAny_execs_nil ⟨σ1,H2,I2,q2⟩
end
structure It where
 go:Nat->Hp->Prop
 yld:Nat->Hp->V->Hp->Prop
 stop:Nat->Hp->Prop
def FpOk (X:Cx) (pins:List (Addr × Obj)) (H:Hp) (b:Addr):Prop :=
 H b=none/\b ≠ X.env.locals/\b ∉ X.fs/\(b ∈ X.ex\/X.s₀.heap.objs.size<=b)/\(∀ x c,X.env.cells.lookup x=some c->c ≠ b)/\∀ p ∈ X.pn ++ pins,p.1 ≠ b
theorem Inv.fpOk {X:Cx} {pins:List (Addr × Obj)} {σ:St} {H H':Hp} {s:Shared} {b:Addr} (I:Inv X pins σ H s) (hb:s.heap.objs.size<=b) (hn:H' b=none):FpOk X pins H' b:=by
 refine ⟨hn,Nat.ne_of_gt (Nat.lt_of_lt_of_le I.lt hb),I.nofs hb,.inr (Nat.le_trans I.sz hb),fun x c e z=>?_,fun p hp z=>?_⟩
 ·obtain ⟨v,q⟩:=I.cell x c e
  exact absurd (Nat.lt_of_lt_of_le q.lt (by rw [z];exact hb)) (Nat.lt_irrefl _)
 ·exact absurd (Nat.lt_of_lt_of_le (Heap.lt_size (I.pin p hp).1) (by rw [z];exact hb)) (Nat.lt_irrefl _)
structure Turn (P:Program) (w:World) (K:PySem.W.Frag) (tg:Expr) (J:It) (fp:List Addr) (it:Addr) (tn:Nat->Heap->Prop):Prop where
 mem:it ∈ fp
 obj:∀ i h,tn i h->∀ b ∈ fp,∃ o,h.get? b=some o/\∀ v,o.data ≠ .cell v
 keep:∀ i h h',tn i h->(∀ b ∈ fp,∀ o,h.get? b=some o->h'.get? b=some o)->tn i h'
 item:∀ (X:Cx),X.prog=P->X.w=w->X.K=K->X.calm=true->∀ (i:Nat) (pins:List (Addr × Obj)) (s:Shared) (σ:St) (H:Hp) (E:Value->Shared->Prop),Inv X pins σ H s->(∀ b ∈ fp,FpOk X pins H b)->tn i s.heap->J.go i H ->
  wpAny (model P w) X.A (pyNext (.ref it)) (fun r s1=>∃ u,r=some u /\
   wpAny (model P w) X.A (letOwnedTupleGo tg (.ref it) u) (fun _ s2=>∃ x H',Inv X pins σ H' s2/\RelV x u/\J.yld i H x H'/\tn (i + 1) s2.heap/\∀ b ∈ fp,H' b=none) E s1) E s
 done:∀ (X:Cx),X.prog=P->X.w=w->X.K=K->X.calm=true->∀ (i:Nat) (pins:List (Addr × Obj)) (s:Shared) (σ:St) (H:Hp) (E:Value->Shared->Prop),Inv X pins σ H s->(∀ b ∈ fp,FpOk X pins H b)->tn i s.heap->J.stop i H ->
  wpAny (model P w) X.A (pyNext (.ref it)) (fun r s1=>r=none/\Inv X pins σ H s1) E s
 self:∀ (A:Around) (i:Nat) (s:Shared) (Q:Value->Shared->Prop) (E:Value->Shared->Prop),tn i s.heap->Q (.ref it) s->wpAny (model P w) A (pyIter (.ref it)) Q E s
abbrev TI:=St->Hp->(It->Hp->Prop)->Prop
def PIE (X:Cx) (pins:List (Addr × Obj)) (σ:St) (tg:Expr) (R:It->Hp->Prop) (itv:Value) (s2:Shared):Prop :=
 ∃ (it:Addr) (fp:List Addr) (tn:Nat->Heap->Prop) (J:It) (H':Hp),itv = .ref it/\Inv X pins σ H' s2/\Turn X.prog X.w X.K tg J fp it tn/\tn 0 s2.heap/\(∀ b ∈ fp,FpOk X pins H' b)/\R J H'
def PI (X:Cx) (tg iter:Expr) (wi:TI):Prop :=
 ∀ (pins:List (Addr × Obj)) (s:Shared) (σ:St) (H:Hp) (R:It->Hp->Prop),Inv X pins σ H s->wi σ H R ->
  wpAny (model X.prog X.w) X.A (eval iter X.env) (fun v s1=>wpAny (model X.prog X.w) X.A (pyIter v) (PIE X pins σ tg R) X.xe s1) X.xe s
theorem go_of {M:Model} {A:Around} {E:Value->Shared->Prop} {s:Shared} {tg:Expr} {it:Addr} {u:Value} {o:Obj} {n:String} {vs:Array Value} {Q:Unit->Shared->Prop} (ho:s.heap.get? it=some o) (hc:o.cls = .type n) (hd:o.data = .fields vs)
    (hn:["enumerate","zip","dict_itemiterator","dict_reverseitemiterator","odict_iterator","itertools.zip_longest","itertools.pairwise"].contains n=false) (hQ:Q () s):wpAny M A (letOwnedTupleGo tg (.ref it) u) Q E s:=by
  unfold letOwnedTupleGo
  cases tg <;> first
    | exact wpAny_pure hQ
    | (cases u <;> first
        | exact wpAny_pure hQ
        | (refine wpAny_bind (wpAny_load ho ?_)
           rw [hc,hd]
           show wpAny M A (if (["enumerate","zip","dict_itemiterator","dict_reverseitemiterator","odict_iterator","itertools.zip_longest","itertools.pairwise"].contains n && vs[0]? == some (rawInt _))=true then _ else _) Q E s
           rw [if_neg (by intro h;rw [hn,Bool.false_and] at h;cases h)]
           exact wpAny_pure hQ))
def Itl (K:PySem.W.Frag) (a:Addr):It :=
 ⟨fun i H=>∃ xs x,SqL K H a xs/\xs[i]?=some x,fun i H x H'=>H'=H/\∀ xs,SqL K H a xs->xs[i]?=some x,fun i H=>∃ xs,SqL K H a xs/\xs.length<=i⟩
def Itt (K:PySem.W.Frag) (a:Addr):It :=
 ⟨fun i H=>∃ xs x,SqT K H a xs/\xs[i]?=some x,fun i H x H'=>H'=H/\∀ xs,SqT K H a xs->xs[i]?=some x,fun i H=>∃ xs,SqT K H a xs/\xs.length<=i⟩
def Itr (lo:Int) (n:Nat):It:=⟨fun i _=>i < n,fun i H x H'=>H'=H/\x = .int (lo + i),fun i _=>n<=i⟩
theorem turn_list {P:Program} {w:World} {K:PySem.W.Frag} {tg:Expr} (a it:Addr):Turn P w K tg (Itl K a) [it] it (fun i h=>h.IsListIter it a i) where
 mem:=by simp
 obj:=fun i h st b hb=>by
  have e:b=it:=by simpa using hb
  subst e
  obtain ⟨o,e,c,d⟩:=st
  exact ⟨o,e,fun v z=>by rw [d] at z;cases z⟩
 keep:=fun i h h' st k=>st.at fun o e=>k it (by simp) o e
 item:=by
  intro X hP hw hK hc i pins s σ H E I hf st hg
  subst hP hw hK
  obtain ⟨xs,x,hq,hx⟩:=hg
  obtain ⟨its,rv,p,hz⟩:=I.list hq
  obtain ⟨u,hu,ru⟩:=rv.get hx
  obtain ⟨f0,f1,f2,f3,f4,f5⟩:=hf it (by simp)
  refine wpAny_pyNext_list_item st p.isList (x:=u) (by simpa using hu) fun h' st' sb=>?_
  have I1:Inv X pins σ H { s with heap:=h' }:=I.turned (t':=s.toks) (fun b o hb e=>(sb.2 b hb).trans e) f0 f1 f3 f4 f5
  obtain ⟨o,e,c,d⟩:=id st'
  exact ⟨u,rfl,go_of (s:={ s with heap:=h' }) e c d (by decide) ⟨x,H,I1,ru,⟨rfl,fun ys hy=>by rw [I.list_inj hy hq];exact hx⟩,st',fun b hb=>(hf b hb).1⟩⟩
 done:=by
  intro X hP hw hK hc i pins s σ H E I hf st hg
  subst hP hw hK
  obtain ⟨xs,hq,hx⟩:=hg
  obtain ⟨its,rv,p,hz⟩:=I.list hq
  obtain ⟨f0,f1,f2,f3,f4,f5⟩:=hf it (by simp)
  have hl:=rv.length
  exact wpAny_pyNext_list_end (I.ok.hd hc) st p.isList (by simp;omega) fun h' eb=>⟨rfl,I.turned (t':=s.toks) (fun b o hb e=>eb b o hb e) f0 f1 f3 f4 f5⟩
 self:=fun _ _ _ _ _ st h=>wpAny_pyIter_listiter st h
theorem turn_tuple {P:Program} {w:World} {K:PySem.W.Frag} {tg:Expr} (a it:Addr):Turn P w K tg (Itt K a) [it] it (fun i h=>h.IsTupleIter it a i) where
 mem:=by simp
 obj:=fun i h st b hb=>by
  have e:b=it:=by simpa using hb
  subst e
  obtain ⟨o,e,c,d⟩:=st
  exact ⟨o,e,fun v z=>by rw [d] at z;cases z⟩
 keep:=fun i h h' st k=>st.at fun o e=>k it (by simp) o e
 item:=by
  intro X hP hw hK hc i pins s σ H E I hf st hg
  subst hP hw hK
  obtain ⟨xs,x,hq,hx⟩:=hg
  obtain ⟨its,rv,p,hz⟩:=I.tuple hq
  obtain ⟨u,hu,ru⟩:=rv.get hx
  obtain ⟨f0,f1,f2,f3,f4,f5⟩:=hf it (by simp)
  refine wpAny_pyNext_tuple_item st (show s.heap.IsTuple a its.toArray from p) (x:=u) (by simpa using hu) fun h' st' sb=>?_
  have I1:Inv X pins σ H { s with heap:=h' }:=I.turned (t':=s.toks) (fun b o hb e=>(sb.2 b hb).trans e) f0 f1 f3 f4 f5
  obtain ⟨o,e,c,d⟩:=id st'
  exact ⟨u,rfl,go_of (s:={ s with heap:=h' }) e c d (by decide) ⟨x,H,I1,ru,⟨rfl,fun ys hy=>by rw [I.tuple_inj hy hq];exact hx⟩,st',fun b hb=>(hf b hb).1⟩⟩
 done:=by
  intro X hP hw hK hc i pins s σ H E I hf st hg
  subst hP hw hK
  obtain ⟨xs,hq,hx⟩:=hg
  obtain ⟨its,rv,p,hz⟩:=I.tuple hq
  obtain ⟨f0,f1,f2,f3,f4,f5⟩:=hf it (by simp)
  have hl:=rv.length
  exact wpAny_pyNext_tuple_end (I.ok.hd hc) st (show s.heap.IsTuple a its.toArray from p) (by simp;omega) fun h' eb=>⟨rfl,I.turned (t':=s.toks) (fun b o hb e=>eb b o hb e) f0 f1 f3 f4 f5⟩
 self:=fun _ _ _ _ _ st h=>wpAny_pyIter_tupleiter st h
theorem turn_range {P:Program} {w:World} {K:PySem.W.Frag} {tg:Expr} (it:Addr) (lo:Int) (n:Nat):Turn P w K tg (Itr lo n) [it] it (fun i h=>IsRangeIter h it (lo + (i:Nat) * 1) ((n:Int) - (i:Nat)) 1) where
 mem:=by simp
 obj := fun i h st b hb => by
  have e:b=it:=by simpa using hb
  subst e
  exact ⟨_,st,fun v z=>by
   have z':Data.fields _=Data.cell v:=z
   cases z'⟩
 keep:=fun i h h' st k=>k it (by simp) _ st
 item:=by
  intro X hP hw hK hc i pins s σ H E I hf st hg
  subst hP hw hK
  obtain ⟨f0,f1,f2,f3,f4,f5⟩:=hf it (by simp)
  have W:=Walks.range (prog:=X.prog) (w:=X.w) (I.ok.hd hc) it lo 1 n
  refine W.item i s _ _ hg st fun v h' tk hv st' kk=>?_
  obtain ⟨t,rfl⟩:=hv
  have I1:Inv X pins σ H { s with heap:=h',toks:=tk }:=I.turned (fun b o hb e=>kk b o (by simpa using hb) e) f0 f1 f3 f4 f5
  refine ⟨_,rfl,go_of (s:={ s with heap:=h',toks:=tk }) (n := "range_iterator") st' rfl rfl (by decide) ⟨.int (lo + i),H,I1,⟨t,?_⟩,⟨rfl,rfl⟩,st',fun b hb=>(hf b hb).1⟩⟩
  rw [Int.mul_one]
 done:=by
  intro X hP hw hK hc i pins s σ H E I hf st hg
  subst hP hw hK
  obtain ⟨f0,f1,f2,f3,f4,f5⟩:=hf it (by simp)
  exact wpAny_pyNext_range_end (I.ok.hd hc) st (by have:n<=i:=hg;omega) fun h' eb=>⟨rfl,I.turned (t':=s.toks) (fun b o hb e=>eb b o hb e) f0 f1 f3 f4 f5⟩
 self:=fun _ _ _ _ _ st h=>wpAny_pyIter_rangeiter st h
end L2
namespace L2
open PySem PySem.Spec PyProof.Rows
section
variable {X:Cx} {tg:Expr}
def iList (K:PySem.W.Frag) (tl:TE):TI:=fun σ H R=>tl σ H fun x H1=>∃ a,x = .ref a/\(∃ xs,SqL K H1 a xs)/\R (Itl K a) H1
def iTup (K:PySem.W.Frag) (tl:TE):TI:=fun σ H R=>tl σ H fun x H1=>∃ a,x = .ref a/\(∃ xs,SqT K H1 a xs)/\R (Itt K a) H1
theorem pi_list {l:Expr} {tl:TE} (hl:PE X l tl):PI X tg l (iList X.K tl):=by
 intro pins s σ H R I h
 refine thn (hl pins s σ H _ I h) fun v s1 ⟨x,H1,I1,r1,q1⟩=>?_
 obtain ⟨a,e,⟨xs,hq⟩,q⟩:=q1
 subst e
 cases r1
 obtain ⟨its,rv,p,hz⟩:=I1.list hq
 refine wpAny_pyIter_list p.isList ?_
 refine ⟨s1.heap.objs.size,[s1.heap.objs.size],_,_,H1,rfl,I1.kept (t':=s1.toks) fun b o e=>Heap.get?_push_of_some _ e,turn_list a _,⟨_,Heap.get?_push_size _ rfl,rfl,rfl⟩,fun b hb=>?_,q⟩
 have e:b=s1.heap.objs.size:=by simpa using hb
 subst e
 exact I1.fpOk (Nat.le_refl _) (I1.hok.fresh (Nat.le_refl _))
theorem pi_tup {l:Expr} {tl:TE} (hl:PE X l tl):PI X tg l (iTup X.K tl):=by
 intro pins s σ H R I h
 refine thn (hl pins s σ H _ I h) fun v s1 ⟨x,H1,I1,r1,q1⟩=>?_
 obtain ⟨a,e,⟨xs,hq⟩,q⟩:=q1
 subst e
 cases r1
 obtain ⟨its,rv,p,hz⟩:=I1.tuple hq
 refine wpAny_pyIter_tuple (show s1.heap.IsTuple a its.toArray from p) ?_
 refine ⟨s1.heap.objs.size,[s1.heap.objs.size],_,_,H1,rfl,I1.kept (t':=s1.toks) fun b o e=>Heap.get?_push_of_some _ e,turn_tuple a _,⟨_,Heap.get?_push_size _ rfl,rfl,rfl⟩,fun b hb=>?_,q⟩
 have e:b=s1.heap.objs.size:=by simpa using hb
 subst e
 exact I1.fpOk (Nat.le_refl _) (I1.hok.fresh (Nat.le_refl _))
theorem range_it {pins:List (Addr × Obj)} {σ:St} {H:Hp} {s:Shared} {R:It->Hp->Prop} {E:Value->Shared->Prop} {lo hi:Int} {t u v:Tok} {tk:Nat} (I:Inv X pins σ H s) (h1 : -(2 ^ 62)<=lo) (h2:lo < 2 ^ 62) (h3 : -(2 ^ 62)<=hi) (h4:hi < 2 ^ 62)
  (q:R (Itr lo (hi - lo).toNat) H):wpAny (model X.prog X.w) X.A (pyIter (.ref s.heap.objs.size)) (PIE X pins σ tg R) E { s with heap:=s.heap.push { cls:=.type "range",data:=.fields #[.int lo t,.int hi u,.int 1 v] },toks:=tk }:=by
 refine wpAny_pyIter_range (IsRange.new ..) (small_one h1 h2 h3 h4) ?_
 have I1:Inv X pins σ H { s with heap:=s.heap.push { cls:=.type "range",data:=.fields #[.int lo t,.int hi u,.int 1 v] },toks:=tk }:=I.kept fun b o e=>Heap.get?_push_of_some _ e
 refine ⟨(s.heap.push { cls:=.type "range",data:=.fields #[.int lo t,.int hi u,.int 1 v] }).objs.size,[(s.heap.push { cls:=.type "range",data:=.fields #[.int lo t,.int hi u,.int 1 v] }).objs.size],_,_,H,rfl,
  I1.kept (t':=tk) fun b o e=>Heap.get?_push_of_some _ e,turn_range _ lo (hi - lo).toNat,?_,fun b hb=>?_,q⟩
 ·have e1:lo + ((0:Nat):Int) * 1=lo:=by simp
  have e2:(((hi - lo).toNat:Nat):Int) - ((0:Nat):Int)=Builtin.Range.rangeSize lo hi 1:=by rw [rangeSize_one];split <;> omega
  show IsRangeIter _ _ (lo + ((0:Nat):Int) * 1) ((((hi - lo).toNat:Nat):Int) - ((0:Nat):Int)) 1
  rw [e1,e2]
  exact Heap.get?_push_size _ rfl
 ·have e:b=(s.heap.push { cls:=.type "range",data:=.fields #[.int lo t,.int hi u,.int 1 v] }).objs.size:=by simpa using hb
  subst e
  exact I1.fpOk (Nat.le_refl _) (I1.hok.fresh (Nat.le_refl _))
def iRng1 (ta:TA):TI:=fun σ H R=>ta σ H fun vs H1=>∃ j:Int,vs=[.int j] /\ -(2 ^ 62)<=j/\j < 2 ^ 62/\R (Itr 0 j.toNat) H1
def iRng2 (ta:TA):TI:=fun σ H R=>ta σ H fun vs H1=>∃ i j:Int,vs=[.int i,.int j]/\(-(2 ^ 62)<=i/\i < 2 ^ 62 /\ -(2 ^ 62)<=j/\j < 2 ^ 62)/\R (Itr i (j - i).toNat) H1
theorem pi_range1 {a:Expr} {ta:TA} {p pos:Pos} (hg:Gl X "range") (hm:X.mg "range" = none) (ha:PA X [a] ta) (hs:starEach [a] X.env=[(false,eval a X.env)]:=by rfl):PI X tg (.Call (.Name "range" p) [a] [] pos) (iRng1 ta):=by
  intro pins s σ H R I h
  refine Call_ (ld_blt I hg hm boot_range (PyProof.Rows.callWith_type1 (thn (ha pos pins s σ H _ I h) fun us s1 ⟨vs,H1,I1,r1,q1⟩=>?_) hs rfl))
  obtain ⟨j,e,q1,q2,q⟩:=q1
  subst e
  cases r1 with
  | cons r rr =>
    cases rr
    obtain ⟨t,rfl⟩:=r
    exact call_range_1 (range_it I1 (by omega) (by omega) q1 q2 (by simpa using q))
theorem pi_range2 {a b:Expr} {ta:TA} {p pos:Pos} (hg:Gl X "range") (hm:X.mg "range" = none) (ha:PA X [a,b] ta) (hs:starEach [a,b] X.env=[(false,eval a X.env),(false,eval b X.env)]:=by rfl) (hs2:starEach [b] X.env=[(false,eval b X.env)]:=by rfl) :
    PI X tg (.Call (.Name "range" p) [a,b] [] pos) (iRng2 ta):=by
  intro pins s σ H R I h
  refine Call_ (ld_blt I hg hm boot_range (PyProof.Rows.callWith_type1 (thn (ha pos pins s σ H _ I h) fun us s1 ⟨vs,H1,I1,r1,q1⟩=>?_) (by rw [hs,hs2]) (by rw [hs2];rfl)))
  obtain ⟨i,j,e,⟨q1,q2,q3,q4⟩,q⟩:=q1
  subst e
  cases r1 with
  | cons r rr =>
    cases rr with
    | cons r' rr =>
      cases rr
      obtain ⟨t,rfl⟩:=r
      obtain ⟨t',rfl⟩:=r'
      exact call_range_2 (range_it I1 q1 q2 q3 q4 q)
def tFor (wi:TI) (g:TG) (tb:TS):TS:=fun D σ H=>wi σ H fun J H1=>∃ W:Nat->Nat->St->Hp->Prop,(∃ m,W 0 m σ H1)/\∀ i m σ H,W i m σ H ->
 (J.stop i H/\D.nx σ H)\/(J.go i H/\∃ N:St->Hp->Prop,(∀ σ' H',N σ' H'->∃ m',m' < m/\W (i + 1) m' σ' H')/\∀ x H',J.yld i H x H'->g x σ H' fun σ2 H2=>tb { D with nx:=N,ct:=N,bk:=D.nx } σ2 H2)
def pinsAt (fp:List Addr) (h:Heap):List (Addr × Obj):=fp.filterMap fun b=>(h.get? b).map fun o=>(b,o)
theorem mem_pinsAt {fp:List Addr} {h:Heap} {b:Addr} {o:Obj} (hb:b ∈ fp) (e:h.get? b=some o):(b,o) ∈ pinsAt fp h:=List.mem_filterMap.mpr ⟨b,hb,by rw [e];rfl⟩
theorem of_pinsAt {fp:List Addr} {h:Heap} {p:Addr × Obj} (hp:p ∈ pinsAt fp h):p.1 ∈ fp/\h.get? p.1=some p.2:=by
  obtain ⟨b,hb,e⟩:=List.mem_filterMap.mp hp
  cases q:h.get? b with
  | none=>rw [q] at e;cases e
  | some o =>
    rw [q] at e
    have e':(b,o)=p:=Option.some.inj e
    subst e'
    exact ⟨hb,q⟩
theorem Inv.pinned {pins:List (Addr × Obj)} {σ:St} {H:Hp} {s:Shared} {fp:List Addr} (I:Inv X pins σ H s) (hf:∀ b ∈ fp,FpOk X pins H b) (ho:∀ b ∈ fp,∃ o,s.heap.get? b=some o/\∀ v,o.data ≠ .cell v):Inv X (pins ++ pinsAt fp s.heap) σ H s :=
 I.pins_of fun p hp=>(List.mem_append.mp hp).elim (fun z=>I.pin p (List.mem_append_right _ z)) fun z=>by
  obtain ⟨hb,e⟩:=of_pinsAt z
  obtain ⟨f0,f1,f2,_⟩:=hf p.1 hb
  obtain ⟨o,e',d⟩:=ho p.1 hb
  rw [e] at e';cases e'
  exact ⟨e,f0,f1,f2,d⟩
theorem Inv.unpinned {pins pl:List (Addr × Obj)} {σ:St} {H:Hp} {s:Shared} (I:Inv X (pins ++ pl) σ H s):Inv X pins σ H s:=I.pins_of fun p hp=>I.pin p (List.mem_append_right _ (List.mem_append_left _ hp))
theorem ps_for {iter:Expr} {body:List Stmt} {wi:TI} {g:TG} {tb:TS} {pos:Pos} (hp:PassesOwn (model X.prog X.w) X.A X.env X.xe) (hc:X.calm=true) (hi:PI X tg iter wi) (hg:PG X tg g) (hb:PSs X body tb)
  (hs:∀ x,foldedSetIterable iter X.env x=pure x:=by intro _;rfl):PS X (.For tg iter body [] pos) (tFor wi g tb):=by
 intro pins s σ H D I h
 refine wpAny_For (thn (hi pins s σ H _ I h) fun v s1 h1=>thn h1 fun itv s2 h2=>?_) hs
 obtain ⟨it,fp,tn,J,H2,e,I2,T,st2,f2,W,⟨m0,w0⟩,turn⟩:=h2
 subst e
 have stat:∀ {H':Hp},(∀ b ∈ fp,H' b=none)->∀ b ∈ fp,FpOk X pins H' b:=fun hn b hb=>⟨hn b hb,(f2 b hb).2⟩
 refine codeAny_forLoop_any (fun n s'=>∃ i σ' H',Inv X pins σ' H' s'/\tn i s'.heap/\(∀ b ∈ fp,H' b=none)/\W i n σ' H') ?_ m0 ⟨0,σ,H2,I2,st2,fun b hb=>(f2 b hb).1,w0⟩
 rintro n s3 ⟨i,σ3,H3,I3,st3,fr3,w3⟩
 rcases turn i n σ3 H3 w3 with ⟨stop,qn⟩ | ⟨go,N,hN,step⟩
 ·refine wpAny_passesOwn hp (thn (T.done X rfl rfl rfl hc i pins s3 σ3 H3 X.xe I3 (stat fr3) st3 stop) fun r s4 ⟨hr,I4⟩=>?_)
  subst hr
  exact wpAny_execs_nil ⟨σ3,H3,I4,qn⟩
 ·refine wpAny_passesOwn hp (thn (T.item X rfl rfl rfl hc i pins s3 σ3 H3 X.xe I3 (stat fr3) st3 go) fun r s4 ⟨u,hr,h4⟩=>?_)
  subst hr
  refine wpAny_passesOwn hp (thn h4 fun _ s5 ⟨x,H5,I5,r5,y5,st5,fr5⟩=>?_)
  have I5':=I5.pinned (stat fr5) (T.obj _ _ st5)
  refine wpAny_passesOwn hp (thn (hg _ s5 σ3 H5 x u _ I5' r5 (step x H5 y5)) fun _ s6 ⟨σ6,H6,I6,q6⟩=>?_)
  refine wpAny_passesOwn hp (thn (hb _ s6 σ6 H6 _ I6 q6) fun f s7 q7=>?_)
  have again:∀ {σ7:St} {H7:Hp},Inv X (pins ++ pinsAt fp s5.heap) σ7 H7 s7->N σ7 H7->∃ m,m < n/\∃ i σ' H',Inv X pins σ' H' s7/\tn i s7.heap/\(∀ b ∈ fp,H' b=none)/\W i m σ' H':=fun {σ7 H7} I7 n7=>by
   obtain ⟨m',hm,w7⟩:=hN σ7 H7 n7
   refine ⟨m',hm,i + 1,σ7,H7,I7.unpinned,T.keep _ _ _ st5 fun b hb o e=>(I7.pin (b,o) (List.mem_append_right _ (List.mem_append_right _ (mem_pinsAt hb e)))).1,fun b hb=>?_,w7⟩
   obtain ⟨o,e,d⟩:=T.obj _ _ st5 b hb
   exact (I7.pin (b,o) (List.mem_append_right _ (List.mem_append_right _ (mem_pinsAt hb e)))).2.1
  cases f with
  | next=>obtain ⟨σ7,H7,I7,n7⟩:=q7;exact again I7 n7
  | cont=>obtain ⟨σ7,H7,I7,n7⟩:=q7;exact again I7 n7
  | brk=>obtain ⟨σ7,H7,I7,q7⟩:=q7;exact ⟨σ7,H7,I7.unpinned,q7⟩
  | ret v=>obtain ⟨x7,σ7,H7,I7,r7,q7⟩:=q7;exact ⟨x7,σ7,H7,I7.unpinned,r7,q7⟩
end
theorem for_list {K:PySem.W.Frag} {a:Addr} {xs:List V} {g:TG} {tb:TS} {D:Ends} {σ:St} {H:Hp} (Pv:Nat->St->Hp->Prop) (h0:Pv 0 σ H) (hl:∀ i σ H,i<=xs.length->Pv i σ H->SqL K H a xs)
  (hs:∀ i x σ H,xs[i]?=some x->Pv i σ H->g x σ H fun σ2 H2=>tb { D with nx:=Pv (i + 1),ct:=Pv (i + 1),bk:=D.nx } σ2 H2) (hd:∀ σ H,Pv xs.length σ H->D.nx σ H) :
  ∃ W:Nat->Nat->St->Hp->Prop,(∃ m,W 0 m σ H)/\∀ i m σ H,W i m σ H ->
   ((Itl K a).stop i H/\D.nx σ H)\/((Itl K a).go i H/\∃ N:St->Hp->Prop,(∀ σ' H',N σ' H'->∃ m',m' < m/\W (i + 1) m' σ' H')/\∀ x H',(Itl K a).yld i H x H'->g x σ H' fun σ2 H2=>tb { D with nx:=N,ct:=N,bk:=D.nx } σ2 H2):=by
 refine ⟨fun i m σ H=>m=xs.length - i/\i<=xs.length/\Pv i σ H,⟨xs.length,by simp,Nat.zero_le _,h0⟩,?_⟩
 rintro i m σ H ⟨rfl,hi,p⟩
 have q:=hl i σ H hi p
 by_cases hlt:i < xs.length
 ·refine .inr ⟨⟨xs,xs[i],q,by simp [hlt]⟩,Pv (i + 1),fun σ' H' p'=>⟨xs.length - (i + 1),by omega,rfl,hlt,p'⟩,fun x H' y=>?_⟩
  obtain ⟨e,y⟩:=y
  subst e
  exact hs i x σ _ (y xs q) p
 ·have e:i=xs.length:=by omega
  subst e
  exact .inl ⟨⟨xs,q,Nat.le_refl _⟩,hd σ H p⟩
theorem for_tup {K:PySem.W.Frag} {a:Addr} {xs:List V} {g:TG} {tb:TS} {D:Ends} {σ:St} {H:Hp} (Pv:Nat->St->Hp->Prop) (h0:Pv 0 σ H) (hl:∀ i σ H,i<=xs.length->Pv i σ H->SqT K H a xs)
  (hs:∀ i x σ H,xs[i]?=some x->Pv i σ H->g x σ H fun σ2 H2=>tb { D with nx:=Pv (i + 1),ct:=Pv (i + 1),bk:=D.nx } σ2 H2) (hd:∀ σ H,Pv xs.length σ H->D.nx σ H) :
  ∃ W:Nat->Nat->St->Hp->Prop,(∃ m,W 0 m σ H)/\∀ i m σ H,W i m σ H ->
   ((Itt K a).stop i H/\D.nx σ H)\/((Itt K a).go i H/\∃ N:St->Hp->Prop,(∀ σ' H',N σ' H'->∃ m',m' < m/\W (i + 1) m' σ' H')/\∀ x H',(Itt K a).yld i H x H'->g x σ H' fun σ2 H2=>tb { D with nx:=N,ct:=N,bk:=D.nx } σ2 H2):=by
 refine ⟨fun i m σ H=>m=xs.length - i/\i<=xs.length/\Pv i σ H,⟨xs.length,by simp,Nat.zero_le _,h0⟩,?_⟩
 rintro i m σ H ⟨rfl,hi,p⟩
 have q:=hl i σ H hi p
 by_cases hlt:i < xs.length
 ·refine .inr ⟨⟨xs,xs[i],q,by simp [hlt]⟩,Pv (i + 1),fun σ' H' p'=>⟨xs.length - (i + 1),by omega,rfl,hlt,p'⟩,fun x H' y=>?_⟩
  obtain ⟨e,y⟩:=y
  subst e
  exact hs i x σ _ (y xs q) p
 ·have e:i=xs.length:=by omega
  subst e
  exact .inl ⟨⟨xs,q,Nat.le_refl _⟩,hd σ H p⟩
theorem for_range {lo:Int} {n:Nat} {g:TG} {tb:TS} {D:Ends} {σ:St} {H:Hp} (Pv:Nat->St->Hp->Prop) (h0:Pv 0 σ H)
  (hs:∀ i σ H,i < n->Pv i σ H->g (.int (lo + i)) σ H fun σ2 H2=>tb { D with nx:=Pv (i + 1),ct:=Pv (i + 1),bk:=D.nx } σ2 H2) (hd:∀ σ H,Pv n σ H->D.nx σ H) :
  ∃ W:Nat->Nat->St->Hp->Prop,(∃ m,W 0 m σ H)/\∀ i m σ H,W i m σ H ->
   ((Itr lo n).stop i H/\D.nx σ H)\/((Itr lo n).go i H/\∃ N:St->Hp->Prop,(∀ σ' H',N σ' H'->∃ m',m' < m/\W (i + 1) m' σ' H')/\∀ x H',(Itr lo n).yld i H x H'->g x σ H' fun σ2 H2=>tb { D with nx:=N,ct:=N,bk:=D.nx } σ2 H2):=by
 refine ⟨fun i m σ H=>m=n - i/\i<=n/\Pv i σ H,⟨n,by simp,Nat.zero_le _,h0⟩,?_⟩
 rintro i m σ H ⟨rfl,hi,p⟩
 by_cases hlt:i < n
 ·refine .inr ⟨hlt,Pv (i + 1),fun σ' H' p'=>⟨n - (i + 1),by omega,rfl,hlt,p'⟩,fun x H' y=>?_⟩
  obtain ⟨e,y⟩:=y
  subst e y
  exact hs i σ _ hlt p
 ·have e:i=n:=by omega
  subst e
  exact .inl ⟨Nat.le_refl _,hd σ H p⟩
theorem while_by {c:TT} {tb:TS} {D:Ends} {σ:St} {H:Hp} (Pv:St->Hp->Prop) (μ:St->Hp->Nat) (h0:Pv σ H)
  (hs:∀ σ H,Pv σ H->c σ H fun b H1=>if b=true then tb { D with nx:=fun σ' H'=>Pv σ' H'/\μ σ' H' < μ σ H,ct:=fun σ' H'=>Pv σ' H'/\μ σ' H' < μ σ H,bk:=D.nx } σ H1 else D.nx σ H1)
  (mono:∀ σ H Q Q',(∀ b H1,Q b H1->Q' b H1)->c σ H Q->c σ H Q'):tWhile c tb D σ H:=by
 refine ⟨fun m σ H=>m=μ σ H/\Pv σ H,⟨_,rfl,h0⟩,?_⟩
 rintro m σ H ⟨rfl,p⟩
 refine mono σ H _ _ (fun b H1 q=>?_) (hs σ H p)
 cases b with
 | true=>exact ⟨_,fun σ' H' ⟨p',l⟩=>⟨_,l,rfl,p'⟩,q⟩
 | false=>exact q
end L2
namespace L2
open PySem PySem.Spec PyProof.Rows
abbrev R2:=V->V->Hp->VK->Prop
def OpR (X:Cx) (f:Value->Value->Sem Value) (r:R2):Prop :=
 ∀ (pins:List (Addr × Obj)) (s:Shared) (σ:St) (H:Hp) (x y:V) (v u:Value) (Q:VK),Inv X pins σ H s->RelV x v->RelV y u->r x y H Q ->
  wpAny (model X.prog X.w) X.A (f v u) (EP X pins σ Q) X.xe s
def UnR (X:Cx) (f:Value->Sem Value) (r:V->Hp->VK->Prop):Prop :=
 ∀ (pins:List (Addr × Obj)) (s:Shared) (σ:St) (H:Hp) (x:V) (v:Value) (Q:VK),Inv X pins σ H s->RelV x v->r x H Q ->
  wpAny (model X.prog X.w) X.A (f v) (EP X pins σ Q) X.xe s
def CallR (X:Cx) (f:Value) (r:List V->Hp->VK->Prop):Prop :=
 ∀ (pins:List (Addr × Obj)) (s:Shared) (σ:St) (H:Hp) (xs:List V) (us:List Value) (Q:VK),Inv X pins σ H s->Vals xs us->r xs H Q ->
  wpAny (model X.prog X.w) X.A (call f us) (EP X pins σ Q) X.xe s
def tOp (r:R2) (ta tb:TE):TE:=fun σ H Q=>ta σ H fun x H1=>tb σ H1 fun y H2=>r x y H2 Q
def tUn (r:V->Hp->VK->Prop) (ta:TE):TE:=fun σ H Q=>ta σ H fun x H1=>r x H1 Q
def rI (C:Int->Int->Prop) (g:Int->Int->V):R2:=fun x y H Q=>∃ i j,x = .int i/\y = .int j/\C i j/\Q (g i j) H
def rI0 (g:Int->Int->V):R2:=fun x y H Q=>∃ i j,x = .int i/\y = .int j/\Q (g i j) H
def rU (g:Int->V):V->Hp->VK->Prop:=fun x H Q=>∃ i,x = .int i/\Q (g i) H
section
variable {X:Cx} {a b c:Expr} {ta tb tc:TE} {pos:Pos}
theorem binT (ha:PE X a ta) (hb:PE X b tb) {pins:List (Addr × Obj)} {s:Shared} {σ:St} {H:Hp} {R:V->V->Hp->Prop} (I:Inv X pins σ H s)
  (h:ta σ H fun x H1=>tb σ H1 fun y H2=>R x y H2) {Q:Value->Shared->Prop} {f:Value->Value->Sem Value}
  (hf:∀ v u s2 x y H2,Inv X pins σ H2 s2->RelV x v->RelV y u->R x y H2->wpAny (model X.prog X.w) X.A (f v u) Q X.xe s2) :
  wpAny (model X.prog X.w) X.A (eval a X.env) (fun v s₁=>wpAny (model X.prog X.w) X.A (eval b X.env) (fun u s₂=>wpAny (model X.prog X.w) X.A (f v u) Q X.xe s₂) X.xe s₁) X.xe s:=by
 refine thn (ha pins s σ H _ I h) fun v s1 ⟨x,H1,I1,r1,q1⟩=>?_
 refine thn (hb pins s1 σ H1 _ I1 q1) fun u s2 ⟨y,H2,I2,r2,q2⟩=>?_
 exact hf v u s2 x y H2 I2 r1 r2 q2
theorem pe_op {op:Operator} {r:R2} (ho:OpR X (binaryOp op) r) (ha:PE X a ta) (hb:PE X b tb):PE X (.BinOp a op b pos) (tOp r ta tb):=by
 intro pins s σ H Q I h
 exact wpAny_BinOp (binT ha hb I h fun v u s2 x y H2 I2 rx ry q=>ho pins s2 σ H2 x y v u Q I2 rx ry q)
theorem pe_un {op:UnaryOp} {r:V->Hp->VK->Prop} (ho:UnR X (unaryOp op) r) (ha:PE X a ta):PE X (.UnaryOp op a pos) (tUn r ta):=by
 intro pins s σ H Q I h
 exact UnaryOp_ (thn (ha pins s σ H _ I h) fun v s1 ⟨x,H1,I1,r1,q1⟩=>ho pins s1 σ H1 x v Q I1 r1 q1)
theorem opI {f:Value->Value->Sem Value} {C:Int->Int->Prop} {g:Int->Int->Int}
  (rule:∀ (i j:Int) (t u:Tok) (s:Shared) (Q:Value->Shared->Prop) (E:Value->Shared->Prop),C i j->Q (.int (g i j) s.toks) { s with toks:=s.toks + 1 }->wpAny (model X.prog X.w) X.A (f (.int i t) (.int j u)) Q E s) :
  OpR X f (rI C fun i j=>.int (g i j)):=by
 intro pins s σ H x y v u Q I rx ry h
 obtain ⟨i,j,rfl,rfl,hc,q⟩:=h
 obtain ⟨t,rfl⟩:=rx
 obtain ⟨t',rfl⟩:=ry
 exact rule i j t t' s _ _ hc ⟨.int (g i j),H,I.tok _,⟨_,rfl⟩,q⟩
theorem opI0 {f:Value->Value->Sem Value} {g:Int->Int->Int}
  (rule:∀ (i j:Int) (t u:Tok) (s:Shared) (Q:Value->Shared->Prop) (E:Value->Shared->Prop),Q (.int (g i j) s.toks) { s with toks:=s.toks + 1 }->wpAny (model X.prog X.w) X.A (f (.int i t) (.int j u)) Q E s) :
  OpR X f (rI0 fun i j=>.int (g i j)):=by
 intro pins s σ H x y v u Q I rx ry h
 obtain ⟨i,j,rfl,rfl,q⟩:=h
 obtain ⟨t,rfl⟩:=rx
 obtain ⟨t',rfl⟩:=ry
 exact rule i j t t' s _ _ ⟨.int (g i j),H,I.tok _,⟨_,rfl⟩,q⟩
theorem opB0 {f:Value->Value->Sem Value} {g:Int->Int->Bool}
  (rule:∀ (i j:Int) (t u:Tok) (s:Shared) (Q:Value->Shared->Prop) (E:Value->Shared->Prop),Q (.bool (g i j)) s->wpAny (model X.prog X.w) X.A (f (.int i t) (.int j u)) Q E s) :
  OpR X f (rI0 fun i j=>.bl (g i j)):=by
 intro pins s σ H x y v u Q I rx ry h
 obtain ⟨i,j,rfl,rfl,q⟩:=h
 obtain ⟨t,rfl⟩:=rx
 obtain ⟨t',rfl⟩:=ry
 exact rule i j t t' s _ _ ⟨.bl (g i j),H,I,rfl,q⟩
def CPow (i j:Int):Prop:=0<=j/\j<=1000000/\i.natAbs < 2 ^ 64
def CMul (i j:Int):Prop:=(-(2 ^ 64) < i/\i < 2 ^ 64)\/(-(2 ^ 64) < j/\j < 2 ^ 64)
theorem CMul.ok {i j:Int} (h:CMul i j):IntMulOk i j:=by
 rcases h with ⟨h1,h2⟩ | ⟨h1,h2⟩
 ·exact .of_left (intBits_le_64 h1 h2)
 ·exact .of_right (intBits_le_64 h1 h2)
theorem op_add:OpR X (binaryOp .Add) (rI0 fun i j=>.int (i + j)):=opI0 fun _ _ _ _ _ _ _ q=>add_int q
theorem op_sub:OpR X (binaryOp .Sub) (rI0 fun i j=>.int (i - j)):=opI0 fun _ _ _ _ _ _ _ q=>sub_int q
theorem op_mod:OpR X (binaryOp .Mod) (rI (fun _ j=>0 < j) fun i j=>.int (i % j)):=opI fun i j _ _ _ _ _ hc q=>by
 have h1:(0:Int) < j:=hc
 exact mod_int' (by omega) (by rw [Int.fmod_eq_emod_of_nonneg i (by omega)];exact q)
theorem op_modN:OpR X (binaryOp .Mod) (rI (fun _ j=>j ≠ 0) fun i j=>.int (i.fmod j)):=opI fun _ _ _ _ _ _ _ hc q=>mod_int' hc q
theorem op_pow:OpR X (binaryOp .Pow) (rI CPow fun i j=>.int (i ^ j.toNat)):=opI fun _ _ _ _ _ _ _ hc q=>pow_int_small hc.1 hc.2.1 hc.2.2 q
theorem unI {f:Value->Sem Value} {g:Int->Int}
  (rule:∀ (i:Int) (t:Tok) (s:Shared) (Q:Value->Shared->Prop) (E:Value->Shared->Prop),Q (.int (g i) s.toks) { s with toks:=s.toks + 1 }->wpAny (model X.prog X.w) X.A (f (.int i t)) Q E s) :
  UnR X f (rU fun i=>.int (g i)):=by
 intro pins s σ H x v Q I rx h
 obtain ⟨i,rfl,q⟩:=h
 obtain ⟨t,rfl⟩:=rx
 exact rule i t s _ _ ⟨.int (g i),H,I.tok _,⟨_,rfl⟩,q⟩
theorem un_neg:UnR X (unaryOp .USub) (rU fun i=>.int (-i)):=unI fun _ _ _ _ _ q=>neg_int q
end
def scal:V->V->Bool
 | .non,.non=>true | .non,.int _=>true | .int _,.non=>true | .non,.bl _=>true | .bl _,.non=>true | .non,.str _=>true | .str _,.non=>true
 | .int _,.int _=>true | .bl _,.bl _=>true | .str _,.str _=>true | .byt _,.byt _=>true
 | .int _,.str _=>true | .str _,.int _=>true | .bl _,.str _=>true | .str _,.bl _=>true
 | _,_=>false
def rEq:R2:=fun x y H Q=>scal x y=true/\Q (.bl (decide (x=y))) H
def rNe:R2:=fun x y H Q=>scal x y=true/\Q (.bl (!decide (x=y))) H
theorem dec_int {i j:Int}:decide (V.int i=V.int j)=(i == j):=by
 rw [Bool.eq_iff_iff]
 simp
theorem dec_bl {i j:Bool}:decide (V.bl i=V.bl j)=(i == j):=by
 rw [Bool.eq_iff_iff]
 simp
theorem dec_str {i j:Str}:decide (V.str i=V.str j)=(i == j):=by
 rw [Bool.eq_iff_iff]
 simp
theorem dec_byt {i j:Array UInt8}:decide (V.byt i=V.byt j)=(i.toList == j.toList):=by
 rw [Bool.eq_iff_iff]
 cases i
 cases j
 simp
section
variable {X:Cx} {a b c:Expr} {ta tb tc:TE} {pos:Pos}
theorem fin_bl {pins:List (Addr × Obj)} {σ:St} {H:Hp} {s:Shared} {Q:VK} {k k':Bool} (I:Inv X pins σ H s) (q:Q (.bl k) H) (e:k=k'):EP X pins σ Q (.bool k') s:=by
 subst e
 exact ⟨.bl k,H,I,rfl,q⟩
theorem op_eq:OpR X (compareOp .Eq) rEq:=by
  intro pins s σ H x y v u Q I rx ry h
  obtain ⟨hs,q⟩:=h
  cases x with
  | non =>
    cases rx
    cases y with
    | non=>cases ry;exact PySem.EqNone.eq_none_none (fin_bl I q (by simp))
    | bl j=>cases ry;exact PySem.EqNone.eq_none_bool (fin_bl I q (by simp))
    | int j=>obtain ⟨t',rfl⟩:=ry;exact PySem.EqNone.eq_none_int (fin_bl I q (by simp))
    | str j=>obtain ⟨t',rfl⟩:=ry;exact PySem.EqNone.eq_none_str (fin_bl I q (by simp))
    | _=>exact absurd (show false=true from hs) Bool.false_ne_true
  | bl i =>
    cases rx
    cases y with
    | non=>cases ry;exact PySem.EqNone.eq_bool_none (fin_bl I q (by simp))
    | bl j=>cases ry;exact eq_bool (fin_bl I q dec_bl)
    | str j=>obtain ⟨t',rfl⟩:=ry;exact PySem.EqMixed.eq_bool_str (fin_bl I q (by simp))
    | _=>exact absurd (show false=true from hs) Bool.false_ne_true
  | int i =>
    obtain ⟨t,rfl⟩:=rx
    cases y with
    | non=>cases ry;exact PySem.EqNone.eq_int_none (fin_bl I q (by simp))
    | int j=>obtain ⟨t',rfl⟩:=ry;exact eq_int (fin_bl I q dec_int)
    | str j=>obtain ⟨t',rfl⟩:=ry;exact PySem.EqMixed.eq_int_str (fin_bl I q (by simp))
    | _=>exact absurd (show false=true from hs) Bool.false_ne_true
  | str i =>
    obtain ⟨t,rfl⟩:=rx
    cases y with
    | non=>cases ry;exact PySem.EqNone.eq_str_none (fin_bl I q (by simp))
    | bl j=>cases ry;exact PySem.EqMixed.eq_str_bool (fin_bl I q (by simp))
    | int j=>obtain ⟨t',rfl⟩:=ry;exact PySem.EqMixed.eq_str_int (fin_bl I q (by simp))
    | str j=>obtain ⟨t',rfl⟩:=ry;exact eq_str (fin_bl I q dec_str)
    | _=>exact absurd (show false=true from hs) Bool.false_ne_true
  | byt i =>
    obtain ⟨t,rfl⟩:=rx
    cases y with
    | byt j=>obtain ⟨t',rfl⟩:=ry;exact PySem.W.eq_bytes (fin_bl I q dec_byt)
    | _=>exact absurd (show false=true from hs) Bool.false_ne_true
  | _=>cases y <;> exact absurd (show false=true from hs) Bool.false_ne_true
theorem op_ne:OpR X (compareOp .NotEq) rNe:=by
  intro pins s σ H x y v u Q I rx ry h
  obtain ⟨hs,q⟩:=h
  cases x with
  | non =>
    cases rx
    cases y with
    | non=>cases ry;exact PySem.EqNone.ne_none_none (fin_bl I q (by simp))
    | bl j=>cases ry;exact PySem.EqNone.ne_none_bool (fin_bl I q (by simp))
    | int j=>obtain ⟨t',rfl⟩:=ry;exact PySem.EqNone.ne_none_int (fin_bl I q (by simp))
    | str j=>obtain ⟨t',rfl⟩:=ry;exact PySem.EqNone.ne_none_str (fin_bl I q (by simp))
    | _=>exact absurd (show false=true from hs) Bool.false_ne_true
  | bl i =>
    cases rx
    cases y with
    | non=>cases ry;exact PySem.EqNone.ne_bool_none (fin_bl I q (by simp))
    | bl j=>cases ry;exact ne_bool (fin_bl I q (congrArg not dec_bl))
    | str j=>obtain ⟨t',rfl⟩:=ry;exact PySem.EqMixed.ne_bool_str (fin_bl I q (by simp))
    | _=>exact absurd (show false=true from hs) Bool.false_ne_true
  | int i =>
    obtain ⟨t,rfl⟩:=rx
    cases y with
    | non=>cases ry;exact PySem.EqNone.ne_int_none (fin_bl I q (by simp))
    | int j=>obtain ⟨t',rfl⟩:=ry;exact ne_int (fin_bl I q (congrArg not dec_int))
    | str j=>obtain ⟨t',rfl⟩:=ry;exact PySem.EqMixed.ne_int_str (fin_bl I q (by simp))
    | _=>exact absurd (show false=true from hs) Bool.false_ne_true
  | str i =>
    obtain ⟨t,rfl⟩:=rx
    cases y with
    | non=>cases ry;exact PySem.EqNone.ne_str_none (fin_bl I q (by simp))
    | bl j=>cases ry;exact PySem.EqMixed.ne_str_bool (fin_bl I q (by simp))
    | int j=>obtain ⟨t',rfl⟩:=ry;exact PySem.EqMixed.ne_str_int (fin_bl I q (by simp))
    | str j=>obtain ⟨t',rfl⟩:=ry;exact ne_str (fin_bl I q (congrArg not dec_str))
    | _=>exact absurd (show false=true from hs) Bool.false_ne_true
  | byt i =>
    obtain ⟨t,rfl⟩:=rx
    cases y with
    | byt j=>obtain ⟨t',rfl⟩:=ry;exact PySem.W.ne_bytes (fin_bl I q (congrArg not dec_byt))
    | _=>exact absurd (show false=true from hs) Bool.false_ne_true
  | _=>cases y <;> exact absurd (show false=true from hs) Bool.false_ne_true
theorem op_lt:OpR X (compareOp .Lt) (rI0 fun i j=>.bl (decide (i < j))):=opB0 fun _ _ _ _ _ _ _ q=>lt_int q
theorem op_ge:OpR X (compareOp .GtE) (rI0 fun i j=>.bl (decide (j<=i))):=opB0 fun _ _ _ _ _ _ _ q=>ge_int q
theorem op_isN:OpR X (compareOp .Is) (fun x y H Q=>y = .non/\Q (.bl (decide (x = .non))) H):=by
 intro pins s σ H x y v u Q I rx ry h
 obtain ⟨rfl,q⟩:=h
 cases ry
 refine is_none_gen (fin_bl I q ?_)
 cases x <;> first
  | (cases rx;rfl)
  | (obtain ⟨t,rfl⟩:=rx;rfl)
theorem op_notN:OpR X (compareOp .IsNot) (fun x y H Q=>y = .non/\Q (.bl (!decide (x = .non))) H):=by
 intro pins s σ H x y v u Q I rx ry h
 obtain ⟨rfl,q⟩:=h
 cases ry
 refine isnot_none_gen (fin_bl I q ?_)
 cases x <;> first
  | (cases rx;rfl)
  | (obtain ⟨t,rfl⟩:=rx;rfl)
theorem nomark (b:Expr) {op:CmpOp} (h:op ≠ .In:=by decide) (h2:op ≠ .NotIn:=by decide):behindInMarks op b=false:=by
 have e1:(op == CmpOp.In)=false:=by cases op <;> first | rfl | exact absurd rfl h
 have e2:(op == CmpOp.NotIn)=false:=by cases op <;> first | rfl | exact absurd rfl h2
 cases b <;> simp [behindInMarks,e1,e2]
theorem pe_cmpR {op:CmpOp} {r:R2} (ho:OpR X (compareOp op) r) (ha:PE X a ta) (hb:PE X b tb) (hm:behindInMarks op b=false):PE X (.Compare a [op] [b] pos) (tOp r ta tb):=by
 intro pins s σ H Q I h
 exact wpAny_Compare1 (binT ha hb I h fun v u s2 x y H2 I2 rx ry q=>ho pins s2 σ H2 x y v u Q I2 rx ry q) hm
def tTest (t:TE):TT:=fun σ H Q=>t σ H fun x H'=>∃ k,x = .bl k/\Q k H'
theorem pt_cmpR {op:CmpOp} {r:R2} (ho:OpR X (compareOp op) r) (ha:PE X a ta) (hb:PE X b tb) (hm:behindInMarks op b=false):PT X (.Compare a [op] [b] pos) (tTest (tOp r ta tb)):=by
 intro pins s σ H Q I h
 refine wpAny_isTrue_Compare1 (thn (ha pins s σ H _ I h) fun v s1 ⟨x,H1,I1,r1,q1⟩=>thn (hb pins s1 σ H1 _ I1 q1) fun u s2 ⟨y,H2,I2,r2,q2⟩ =>
  thn (ho pins s2 σ H2 x y v u _ I2 r1 r2 q2) fun c s3 ⟨z,H3,I3,r3,k,e,q3⟩=>?_) hm
 subst e
 cases r3
 exact wpAny_truthy_bool ⟨H3,I3,q3⟩
theorem line63:(sizeLine:Nat) < 2 ^ 63:=by rw [sizeLine_eq];decide
theorem vals1 {x:V} {us:List Value} (r:Vals [x] us):∃ u,us=[u]/\RelV x u:=by
 cases r with
 | cons r1 r2=>cases r2;exact ⟨_,rfl,r1⟩
theorem call_abs:CallR X (.builtin "abs") (fun xs H Q=>∃ i,xs=[.int i]/\Q (.int (if i < 0 then -i else i)) H):=by
 intro pins s σ H xs us Q I r h
 obtain ⟨i,rfl,q⟩:=h
 obtain ⟨u,rfl,t,rfl⟩:=vals1 r
 exact call_abs_int fun u tk=>⟨.int (if i < 0 then -i else i),H,I.tok _,⟨_,rfl⟩,q⟩
theorem call_int1:CallR X (.type "int") (fun xs H Q=>(∃ i,xs=[.int i]/\Q (.int i) H)\/∃ k,xs=[.bl k]/\Q (.int (if k then 1 else 0)) H):=by
 intro pins s σ H xs us Q I r h
 rcases h with ⟨i,rfl,q⟩ | ⟨k,rfl,q⟩
 ·obtain ⟨u,rfl,t,rfl⟩:=vals1 r
  exact call_int_int ⟨.int i,H,I,⟨_,rfl⟩,q⟩
 ·obtain ⟨u,rfl,r1⟩:=vals1 r
  cases r1
  exact call_int_bool ⟨.int (if k then 1 else 0),H,I.tok _,⟨_,rfl⟩,q⟩
end
end L2
namespace L2
open PySem PySem.Spec PyProof.Rows
structure ObjM (h:Heap) (x dx C:Addr) (mA:Str->Option Value):Prop where
 obj:h.get? x=some (PySem.W.instObj C dx)
 ns:h.Ns1 dx mA
 ne:dx ≠ x
theorem lookIn_ns {h:Heap} {dx:Addr} {mA:Str->Option Value} (n:h.Ns1 dx mA):∃ od,h.get? dx=some od/\∀ name,PySem.W.lookIn name od=some (mA name):=by
 obtain ⟨o,es,ep,ho,hd,hk,_,hm⟩:=n
 refine ⟨o,ho,fun name=>?_⟩
 have e:=hm name
 unfold nsFind findBy at e
 rw [<- Array.find?_toList] at e
 unfold PySem.W.lookIn
 rw [hd]
 dsimp only
 split
 ·rename_i y q
  rw [q] at e
  exact congrArg some e
 ·rename_i q
  rw [q] at e
  have a:es.toList.any (·.refKey)=false:=by
   rw [List.any_eq_false]
   intro y hy
   obtain ⟨z,t,hkey⟩:=hk y (Array.mem_toList_iff.mp hy)
   simp [DictEntry.refKey,hkey]
  have a':¬ es.toList.any (·.refKey)=true:=by rw [a];exact Bool.false_ne_true
  rw [if_neg a']
  exact congrArg some e
theorem ObjM.look {h:Heap} {x dx C:Addr} {mA:Str->Option Value} (I:ObjM h x dx C mA):∃ od,PySem.W.InstAt h x (PySem.W.instObj C dx) C (some od)/\∀ name,PySem.W.lookIn name od=some (mA name) :=
 let ⟨od,ho,hl⟩:=lookIn_ns I.ns
 ⟨od,⟨I.obj,rfl,rfl,ho⟩,hl⟩
section
variable {prog:Program} {w:World} {A:Around} {E:Value->Shared->Prop} {s:Shared} {K:PySem.W.Frag} {x dx C f:Addr} {mA:Str->Option Value} {name:Str} {v:Value}
end
section
variable {P:Program} {w:World} {H H':Hp} {h h':Heap} {a C dx:Addr} {fs:List (Str × V)}
theorem ins_get (hok:HOk P w H h) (e:H a=some (.ins C dx fs)):∃ mA,ObjM h a dx C mA/\(∀ f,RelO (fs.lookup f) (mA f))/\PySem.Within mA (fs.map (·.1))/\fs.length<=1000/\H dx=some (.own a):=by
 obtain ⟨d,z,ne,ob,mA,n,r,q⟩:=(show ObjOk P w H h a (.ins C dx fs) from hok a _ e)
 exact ⟨mA,⟨ob,n,ne⟩,r,q,z,d⟩
end
structure Cls (K:PySem.W.Frag) (C:Addr):Prop where
 pg:PySem.W.plainGet K C Str.empty=true
 hd:PySem.W.hasDictIn K C=true
 po:PySem.W.plainOver K C=true
 sa:PySem.W.findIn K (.ref C) "__setattr__" = some (some (.builtin "object.__setattr__"))
theorem Cls.get {K:PySem.W.Frag} {C:Addr} (c:Cls K C) (f:Str):PySem.W.plainGet K C f=true:=c.pg
structure Con (K:PySem.W.Frag) (C:Addr) (f:Str) (v:V) (u:Value):Prop where
 at_:PySem.W.findIn K (.ref C) f=some (some u)
 rel:RelV v u
 get:PySem.W.specialIn K u "__get__" = some none
 cp:PySem.W.copiedNames.contains f=false
section
variable {X:Cx} {pins:List (Addr × Obj)} {σ:St} {H:Hp} {s:Shared} {a C dx:Addr} {fs:List (Str × V)} {f:Str} {v:V} {A:Around} {E:Value->Shared->Prop}
end
section
variable {X:Cx} {o e value:Expr} {f:Str} {pos pos':Pos} {ta:TE}
end
section
variable {X:Cx} {pins:List (Addr × Obj)} {σ:St} {H:Hp} {s:Shared} {A:Around} {E:Value->Shared->Prop} {Q:Value->Shared->Prop} {c:Value} {b:Bool}
inductive TyOf (K:PySem.W.Frag) (H:Hp):V->Value->Prop where
 | non:TyOf K H .non (.type "NoneType")
 | bl (x:Bool):TyOf K H (.bl x) (.type "bool")
 | int (i:Int):TyOf K H (.int i) (.type "int")
 | str (x:Str):TyOf K H (.str x) (.type "str")
 | flt (x:UInt64):TyOf K H (.flt x) (.type "float")
 | lst {a:Addr} {xs:List V} (e:H a=some (.lst xs)):TyOf K H (.ref a) (.type "list")
 | frz {a:Addr} {o:Obj} {xs:List V} (e:H a=some (.frz o (.lst xs))):TyOf K H (.ref a) (.type "list")
 | tup {a:Addr} {xs:List V} (e:H a=some (.tup xs)):TyOf K H (.ref a) (.type "tuple")
 | dK {a:Addr} {kvs:List (Key × V)} (e:H a=some (.dK kvs)):TyOf K H (.ref a) (.type "dict")
 | dT {a:Addr} {kvs:List (List Key × V)} (e:H a=some (.dT kvs)):TyOf K H (.ref a) (.type "dict")
 | ins {a C dx:Addr} {fs:List (Str × V)} (e:H a=some (.ins C dx fs)) (cl:Cls K C) (ha:PySem.W.findIn K (.ref C) "__class__" = some (some (.builtin "object.__class__")))
   (hn:PySem.W.specialIn K (.builtin "object.__class__") "__get__" = some (some (.builtin "getset_descriptor.__get__"))) (htk:PySem.W.takesIn K (.builtin "object.__class__")=some true)
   (hm:PySem.W.mroIn K C (.type "object")=some true):TyOf K H (.ref a) (.ref C)
theorem isinst_ok {x:V} {u t:Value} (I:Inv X pins σ H s) (rx:RelV x u) (ty:TyOf X.K H x t) (e:PySem.W.kitOne X.K t c=some b) (h:∀ tk,Q (.bool b) { s with toks:=tk }) :
    wpAny (model X.prog X.w) A (call (.builtin "isinstance") [u,c]) Q E s:=by
  cases ty with
  | non=>cases (show u=Value.none from rx);exact PySem.W.kia_one PySem.W.kitx_none I.kIn True.intro e (fun z=>nomatch z) h
  | bl y=>cases (show u=Value.bool y from rx);exact PySem.W.kia_one PySem.W.kitx_bool I.kIn True.intro e (fun z=>nomatch z) h
  | int i=>obtain ⟨t,q⟩:=(show ∃ t,u=Value.int i t from rx);cases q;exact PySem.W.kia_one PySem.W.kitx_int I.kIn True.intro e (fun z=>nomatch z) h
  | str y=>obtain ⟨t,q⟩:=(show ∃ t,u=Value.str y t from rx);cases q;exact PySem.W.kia_one PySem.W.kitx_str I.kIn True.intro e (fun z=>nomatch z) h
  | flt y=>obtain ⟨t,q⟩:=(show ∃ t,u=Value.float y t from rx);cases q;exact PySem.W.kia_one PySem.W.kitx_float I.kIn True.intro e (fun z=>nomatch z) h
  | @lst a xs ea =>
    cases (show u=Value.ref a from rx)
    obtain ⟨_,_,n,_,h1⟩:=(show ObjOk X.prog X.w H s.heap a (.lst xs) from I.hok a _ ea)
    exact PySem.W.kia_one PySem.W.kitx_list I.kIn ⟨_,h1,rfl⟩ e (fun z=>nomatch z) h
  | @frz a ob xs ea =>
    cases (show u=Value.ref a from rx)
    obtain ⟨_,_,_,n,_,h1⟩:=(show ObjOk X.prog X.w H s.heap a (.frz ob (.lst xs)) from I.hok a _ ea)
    exact PySem.W.kia_one PySem.W.kitx_list I.kIn ⟨_,h1,rfl⟩ e (fun z=>nomatch z) h
  | @tup a xs ea =>
    cases (show u=Value.ref a from rx)
    obtain ⟨_,_,_,p⟩:=(show ObjOk X.prog X.w H s.heap a (.tup xs) from I.hok a _ ea)
    obtain ⟨o,h1,h2,_⟩:=p
    exact PySem.W.kia_one PySem.W.kitx_tuple I.kIn ⟨o,h1,h2⟩ e (fun z=>nomatch z) h
  | @dK a kvs ea =>
    cases (show u=Value.ref a from rx)
    obtain ⟨_,_,vs,_,p⟩:=(show ObjOk X.prog X.w H s.heap a (.dK kvs) from I.hok a _ ea)
    obtain ⟨o,es,ep,h1,h2,_⟩:=p
    exact PySem.W.kia_one PySem.W.kitx_dict I.kIn ⟨o,h1,h2.1⟩ e (fun z=>nomatch z) h
  | @dT a kvs ea =>
    cases (show u=Value.ref a from rx)
    obtain ⟨_,_,xs,_,o,es,ep,h1,h2,_⟩:=(show ObjOk X.prog X.w H s.heap a (.dT kvs) from I.hok a _ ea)
    exact PySem.W.kia_one PySem.W.kitx_dict I.kIn ⟨o,h1,h2.1⟩ e (fun z=>nomatch z) h
  | @ins a C dx fs ea cl ha hn htk hm =>
    cases (show u=Value.ref a from rx)
    obtain ⟨mA,O,_⟩:=ins_get I.hok ea
    obtain ⟨od,J,_⟩:=O.look
    exact PySem.W.kia_one (PySem.W.kitx_own (cl.get _) cl.hd ha hn htk hm) I.kIn J e (fun z=>nomatch z) h
end
end L2
namespace L2
open PySem PySem.Spec PyProof.Rows
structure Room (k:Nat) (A:Around):Prop where
 hd:A.handled=none
 dp:A.depth + 3 * k + 5 < recursionLimit
 un:A.units + 16 * k + 200 < cLine
theorem Room.mono {j k:Nat} {A:Around} (r:Room k A) (h:j<=k):Room j A:=⟨r.hd,by have:=r.dp;omega,by have:=r.un;omega⟩
theorem Room.deeper {k:Nat} {A:Around} (r:Room (k + 1) A) (env:Env):Room k (A.deeper env) :=
 ⟨r.hd,by have:=r.dp;show A.depth + 1 + 3 * k + 5 < _;omega,by have:=r.un;show A.units + 3 + 16 * k + 200 < _;omega⟩
theorem Room.depth {k:Nat} {A:Around} (r:Room k A):A.depth < recursionLimit:=by have:=r.dp;omega
theorem Room.units {k:Nat} {A:Around} (r:Room k A):A.units + 64 < cLine:=by have:=r.un;omega
theorem Room.units0 {k:Nat} {A:Around} (r:Room k A):A.units < cLine:=by have:=r.un;omega
def tNil:TA:=fun _ H Q=>Q [] H
def tCons (ta:TE) (tr:TA):TA:=fun σ H Q=>ta σ H fun x H1=>tr σ H1 fun xs H2=>Q (x :: xs) H2
section
variable {X:Cx} {e:Expr} {es:List Expr} {te:TE} {t:TA} {pos:Pos}
theorem pa_nil:PA X [] tNil:=fun _ _ _ _ H Q I h=>Calls.spliced_nil ⟨[],H,I,.nil,h⟩
theorem pa_cons (ha:PE X e te) (hr:PA X es t) (hs:starEach (e :: es) X.env=(false,eval e X.env) :: starEach es X.env:=by rfl):PA X (e :: es) (tCons te t):=by
 intro pos pins s σ H Q I h
 rw [hs]
 show wpAny _ _ (spliced ((false,eval e X.env) :: backTo pos (starEach es X.env))) _ _ s
 refine Calls.spliced_cons (thn (ha pins s σ H _ I h) fun u s1 ⟨x,H1,I1,r1,q1⟩=>?_)
 exact thn (hr pos pins s1 σ H1 _ I1 q1) fun us s2 ⟨xs,H2,I2,r2,q2⟩=>⟨x :: xs,H2,I2,.cons r1 r2,q2⟩
def tTup (t:TA):TE:=fun σ H Q=>t σ H fun xs H1=>xs.length<=sizeLine/\∀ p,H1 p=none->Q (.ref p) (upd H1 p (.tup xs))
def tLst (t:TA):TE:=fun σ H Q=>t σ H fun xs H1=>xs.length<=sizeLine/\∀ p,H1 p=none->Q (.ref p) (upd H1 p (.lst xs))
theorem pe_tup {x1} (h:PA X es t):PE X (.Tuple es x1 pos) (tTup t):=by
 intro pins s σ H Q I hq
 refine wpAny_Tuple_spliced (thn (h pos pins s σ H _ I hq) fun us s1 ⟨xs,H1,I1,r,z,q⟩=>⟨by rw [<- r.length];exact z,?_⟩)
 have hf:H1 s1.heap.objs.size=none:=I1.hok.fresh (Nat.le_refl _)
 refine ⟨.ref s1.heap.objs.size,upd H1 s1.heap.objs.size (.tup xs),I1.laid (t':=s1.toks) (fun b u e=>Heap.get?_push_of_some _ e) (Nat.le_refl _) ?_,rfl,q _ hf⟩
 exact ⟨z,us,r,⟨_,Heap.get?_push_size _ rfl,rfl,_,rfl⟩⟩
theorem pe_lst (h:PA X es t):PE X (.List es pos) (tLst t):=by
 intro pins s σ H Q I hq
 refine wpAny_List_spliced (thn (h pos pins s σ H _ I hq) fun us s1 ⟨xs,H1,I1,r,z,q⟩=>⟨by rw [<- r.length];exact z,?_⟩)
 have hf:H1 s1.heap.objs.size=none:=I1.hok.fresh (Nat.le_refl _)
 refine ⟨.ref s1.heap.objs.size,upd H1 s1.heap.objs.size (.lst xs),I1.laid (t':=s1.toks) (fun b u e=>Heap.get?_push_of_some _ e) (Nat.le_refl _) ?_,rfl,q _ hf⟩
 exact ⟨z,us,0,r,Heap.get?_push_size _ rfl⟩
end
abbrev Sp:=List V->Hp->VK->XK->Prop
abbrev CXT:=List Env->Hp->Shared->XK->Value->Shared->Prop
structure Env0 (P:Program) (w:World) (K:PySem.W.Frag) (mg:Str->Option Value) (base:Heap) (A:Around) (outer:List Env) (s:Shared) (H:Hp):Prop where
 frames:A.frames=some outer
 mod:Mod K mg base
 bs:∀ b o,base.get? b=some o->s.heap.get? b=some o/\H b=none
 bsz:base.objs.size<=s.heap.objs.size
 funs:s.heap.FunFrames base outer
 frf:∀ b ∈ frs outer,H b=none
 hok:HOk P w H s.heap
 bare:AllBare s.gens
def CE (outer:List Env) (P:Program) (w:World) (H:Hp) (s:Shared) (Q:VK) (u:Value) (s':Shared):Prop :=
 ∃ v H',s'.os=s.os/\AllBare s'.gens/\Un (frs outer) [] H H' s.heap s'.heap/\HOk P w H' s'.heap/\RelV v u/\Q v H'
def CR (CX:CXT) (outer:List Env) (P:Program) (w:World) (H:Hp) (s:Shared) (Q:VK) (E:XK) (r:Result) (s':Shared):Prop :=
 match r with
 | .ok (.ret u)=>CE outer P w H s Q u s'
 | .ok _=>False
 | .error e=>CX outer H s E e s'
structure FnOk (P:Program) (w:World) (K:PySem.W.Frag) (mg:Str->Option Value) (base:Heap) (CX:CXT) (k:Nat) (f:Addr) (fd:FuncData) (ps:List Str) (sp:Sp):Prop where
 len:∀ vs H Q E,sp vs H Q E->vs.length=ps.length
 run:∀ (A:Around) (outer:List Env) (s:Shared) (H:Hp) (args:Args) (us:List Value) (vs:List V) (Q:VK) (E:XK),Room k A->Env0 P w K mg base A outer s H->BindsTo s fd args (ps.zip us)->Vals vs us->sp vs H Q E ->
  codeAny (model P w) A (.call (.ref f) args) (CR CX outer P w H s Q E) s
section
variable {X:Cx} {pins:List (Addr × Obj)} {σ:St} {H:Hp} {s s':Shared}
theorem Inv.env0 (I:Inv X pins σ H s):Env0 X.prog X.w X.K X.mg X.base X.A X.stack s H :=
 ⟨I.ok.frames,I.ok.mod,I.bs,Nat.le_trans I.ok.bsz I.sz,I.stack,I.stkFree,I.hok,I.bare⟩
theorem Inv.after {Q:VK} {u:Value} (I:Inv X pins σ H s) (h:CE X.stack X.prog X.w H s Q u s'):EP X pins σ Q u s':=by
 obtain ⟨v,H',os,bare,un,hok,r,q⟩:=h
 obtain ⟨hh,g,d,t,os'⟩:=s'
 obtain rfl:os'=s.os:=os
 exact ⟨v,H',I.call (h':=hh) (g':=g) (d':=d) (t':=t) (ch:=[]) un hok bare (fun b z=>absurd z (by simp)),r,q⟩
end
def tCall (sp:Sp) (dvs:List V) (E:XK) (t:TA):TE:=fun σ H Q=>t σ H fun vs H1=>sp (vs ++ dvs) H1 Q E
def Binds (K:PySem.W.Frag) (fd:FuncData) (ps:List Str) (ds:List Value):Prop :=
 ∀ (s:Shared) (us:List Value),K.In s.heap->(us ++ ds).length=ps.length->BindsTo s fd ⟨us,[]⟩ (ps.zip (us ++ ds))
theorem Binds.all {K:PySem.W.Frag} {fd:FuncData} {ps:List Str} (h:∀ us:List Value,us.length=ps.length->bindArgs fd ⟨us,[]⟩=pure (ps.zip us)):Binds K fd ps []:=fun s us _ hl=>by
 rw [List.append_nil] at hl ⊢
 exact .of_eq (h us hl)
def Passes (CX:CXT) (X:Cx) (E:XK):Prop:=∀ (pins:List (Addr × Obj)) (σ:St) (H:Hp) (s:Shared) (e:Value) (s':Shared),Inv X pins σ H s->CX X.stack H s E e s'->X.xe e s'
section
variable {X:Cx} {CX:CXT} {k:Nat} {f C:Addr} {fd:FuncData} {ps:List Str} {sp:Sp} {dvs:List V} {ds:List Value} {E:XK} {x m:Str} {p pos apos:Pos} {e o:Expr} {es:List Expr} {ta:TE} {t:TA}
theorem run_fn {pins:List (Addr × Obj)} {σ:St} {H:Hp} {s:Shared} {Q:VK} {us:List Value} {vs:List V} (F:FnOk X.prog X.w X.K X.mg X.base CX k f fd ps sp) (hr:Room k X.A) (hb:Binds X.K fd ps ds) (hd:Vals dvs ds) (hx:Passes CX X E)
    (I:Inv X pins σ H s) (r:Vals vs us) (h:sp (vs ++ dvs) H Q E):wpAny (model X.prog X.w) X.A (call (.ref f) us) (EP X pins σ Q) X.xe s:=by
  have r2:Vals (vs ++ dvs) (us ++ ds):=r.append hd
  have hl:(us ++ ds).length=ps.length:=by rw [<- r2.length];exact F.len _ _ _ _ h
  refine wpAny_call (codeAny_mono (F.run X.A X.stack s H ⟨us,[]⟩ (us ++ ds) (vs ++ dvs) Q E hr I.env0 (hb s us I.kIn hl) r2 h) fun r s' hq=>?_)
  cases r with
  | error e=>exact hx pins σ H s e s' I hq
  | ok fl =>
    cases fl with
    | ret u=>exact I.after hq
    | next=>exact False.elim hq
    | brk=>exact False.elim hq
    | cont=>exact False.elim hq
theorem pe_call (F:FnOk X.prog X.w X.K X.mg X.base CX k f fd ps sp) (hr:Room k X.A) (hg:Gl X x) (hm:X.mg x=some (.ref f)) (hk:PySem.W.keepIn X.K (.ref f)=true) (hb:Binds X.K fd ps ds) (hd:Vals dvs ds) (hx:Passes CX X E)
  (ha:PA X (e :: es) t) (hdb:(x == ("__debug__" : Str))=false:=by decide) (he:starEach (e :: es) X.env=(false,eval e X.env) :: starEach es X.env:=by rfl) (hpl:(backTo pos (starEach es X.env)).any (·.1)=false:=by rfl) :
  PE X (.Call (.Name x p) (e :: es) [] pos) (tCall sp dvs E t):=by
 intro pins s σ H Q I h
 refine wpAny_Call_Name_kw (ld_glob I hg hm ?_ hdb)
 refine PySem.W.callWith_K (h₀:=X.base) I.ok.mod.kin hk (thn (ha pos pins s σ H _ I h) fun us s1 ⟨vs,H1,I1,r,q⟩=>⟨I1.kIn,?_⟩) he hpl
 exact run_fn F hr hb hd hx I1 r q
end
section
variable {X:Cx} {CX:CXT} {k:Nat} {f C:Addr} {fd:FuncData} {ps:List Str} {sp:Sp} {E:XK} {x m:Str} {p pos apos:Pos} {e o:Expr} {es:List Expr} {te ta:TE} {t tk:TA} {nm:Option Str}
variable {g:List Value->List Value->List Value}
end
structure FnScope (N P:List Str) (sc:Scope):Prop where
 kind:sc.kind = .function
 co:sc.isCoroutine=false
 gen:sc.isGenerator=false
 nd:N.Nodup
 pre:N.take P.length=P
 par:∀ x ∈ P,sc.names.lookup x=some .local\/sc.names.lookup x=some .cell
 nofree:∀ y ∈ sc.names,y.2 ≠ .free
theorem bindL_out {kindOf:Str->Option NameKind} {x:Str}:∀ {binds:List (Str × Value)} {m:Str->Option Value},(∀ v,(x,v) ∉ binds)->bindL kindOf binds m x=m x
  | [],_,_=>rfl
  | (n,v) :: r,m,h=>by
    unfold bindL
    rw [bindL_out fun w hw=>h w (List.mem_cons_of_mem _ hw)]
    split
    . have:x ≠ n:=by rintro rfl;exact h v List.mem_cons_self
      simp [this]
    . rfl
theorem bindC_out {kindOf:Str->Option NameKind} {x:Str}:∀ {binds:List (Str × Value)} {m:Str->Option Value},(∀ v,(x,v) ∉ binds)->bindC kindOf binds m x=m x
  | [],_,_=>rfl
  | (n,v) :: r,m,h=>by
    unfold bindC
    rw [bindC_out fun w hw=>h w (List.mem_cons_of_mem _ hw)]
    split
    . rfl
    . have:x ≠ n:=by rintro rfl;exact h v List.mem_cons_self
      simp [this]
theorem bindL_get {kindOf:Str->Option NameKind} {x:Str} {v:Value}:∀ {P:List Str} {vs:List Value} {i:Nat} {m:Str->Option Value},P.Nodup->P[i]?=some x->vs[i]?=some v->kindOf x=some .local ->
    bindL kindOf (P.zip vs) m x=some v
  | [],_,_,_,_,h,_,_=>by simp at h
  | _ :: _,[],_,_,_,_,h,_=>by simp at h
  | p :: P,w :: vs,0,m,nd,h1,h2,hk=>by
    simp at h1 h2;subst h1;subst h2
    show bindL kindOf ((p,w) :: P.zip vs) m p=_
    unfold bindL
    rw [bindL_out fun v hv=>(List.nodup_cons.mp nd).1 (List.of_mem_zip hv).1,if_pos hk]
    simp
  | p :: P,w :: vs,i + 1,m,nd,h1,h2,hk=>by
    show bindL kindOf ((p,w) :: P.zip vs) m x=_
    unfold bindL
    exact bindL_get (i:=i) (List.nodup_cons.mp nd).2 (by simpa using h1) (by simpa using h2) hk
theorem bindC_get {kindOf:Str->Option NameKind} {x:Str} {v:Value}:∀ {P:List Str} {vs:List Value} {i:Nat} {m:Str->Option Value},P.Nodup->P[i]?=some x->vs[i]?=some v->kindOf x ≠ some .local ->
    bindC kindOf (P.zip vs) m x=some v
  | [],_,_,_,_,h,_,_=>by simp at h
  | _ :: _,[],_,_,_,_,h,_=>by simp at h
  | p :: P,w :: vs,0,m,nd,h1,h2,hk=>by
    simp at h1 h2;subst h1;subst h2
    show bindC kindOf ((p,w) :: P.zip vs) m p=_
    unfold bindC
    rw [bindC_out fun v hv=>(List.nodup_cons.mp nd).1 (List.of_mem_zip hv).1,if_neg hk]
    simp
  | p :: P,w :: vs,i + 1,m,nd,h1,h2,hk=>by
    show bindC kindOf ((p,w) :: P.zip vs) m x=_
    unfold bindC
    exact bindC_get (i:=i) (List.nodup_cons.mp nd).2 (by simpa using h1) (by simpa using h2) hk
def start (N:List Str) (vs:List V):St:=vs.map some ++ List.replicate (N.length - vs.length) none
def cxOf (CX:CXT) (P:Program) (w:World) (K:PySem.W.Frag) (mg:Str->Option Value) (base:Heap) (N:List Str) (qual:Str) (scope:Scope) (f:Addr) (cd:Value) (A:Around) (outer:List Env) (s:Shared) (H:Hp) (E:XK):Cx where
 prog:=P
 w:=w
 K:=K
 mg:=mg
 base:=base
 A:=A.deeper (envOfC qual scope s.heap.objs.size f cd)
 N:=N
 s₀:=s
 H₀:=H
 env:=envOfC qual scope s.heap.objs.size f cd
 outer:=outer
 stack:=envOfC qual scope s.heap.objs.size f cd :: outer
 ex:=[]
 calm:=true
 fn:=fun _=>true
 pn:=[]
 xe:=fun e s'=>wpAny (model P w) (A.deeper (envOfC qual scope s.heap.objs.size f cd)) (leaving (envOfC qual scope s.heap.objs.size f cd) e) (fun _ s''=>CX outer H s E e s'') (fun e' s''=>CX outer H s E e' s'') s'
theorem cell_has {sc:Scope} {n:Nat} {x:Str} (h:sc.names.lookup x=some .cell):∃ c,(cellsFrom n sc.names []).lookup x=some c:=by
 have q:=PySem.W.cellsFrom_some sc.names n [] (.inl h)
 exact Option.isSome_iff_exists.mp q
theorem inv_start {CX:CXT} {P:Program} {w:World} {K:PySem.W.Frag} {mg:Str->Option Value} {base:Heap} {N ps:List Str} {qual:Str} {scope:Scope} {f:Addr} {cd:Value} {A:Around} {outer:List Env} {s s1:Shared} {H:Hp} {E:XK} {us:List Value} {vs:List V}
  (S:FnScope N ps scope) (hd:A.handled=none) (e0:Env0 P w K mg base A outer s H) (hl:vs.length=ps.length) (r:Vals vs us)
  (x:InCallC s s.heap.objs.size (bindL (envOfC qual scope s.heap.objs.size f cd).kindOf (ps.zip us) fun _=>none) (cellsFrom (s.heap.objs.size + 1) scope.names []) (bindC (envOfC qual scope s.heap.objs.size f cd).kindOf (ps.zip us) fun _=>none) s1) :
  Inv (cxOf CX P w K mg base N qual scope f cd A outer s H E) [] (start N vs) H s1:=by
 have hpl:ps.length<=N.length:=by have:=congrArg List.length S.pre;rw [List.length_take] at this;omega
 obtain ⟨h1,tk,rfl,hk⟩:=x.done
 have noA:∀ b:Addr,b ∉ (cxOf CX P w K mg base N qual scope f cd A outer s H E).ex:=fun b z=>absurd (show b ∈ ([]:List Addr) from z) (by simp)
 refine ⟨⟨e0.mod,S.kind,rfl,rfl,Nat.le_refl _,fun y z c h1 h2=>?_,fun y hy=>?_,fun y c _ h=>?_,fun _=>hd,Around.frames_deeper e0.frames,.inr ⟨rfl,rfl⟩,fun b z=>absurd z (noA b),e0.bs,e0.bsz,fun b _ _=>noA b,fun b z=>absurd z (noA b),e0.funs,e0.frf⟩,
  rfl,e0.bare,Un.kept hk,⟨_,x.toInCall.ns,fun i y v h1 h2 h3=>?_⟩,fun y c h=>⟨_,x.cell y c h⟩,e0.hok.fresh (Nat.le_refl _),fun y c h=>?_,fun p hp=>absurd (show p ∈ ([]:List (Addr × Obj)) from hp) (by simp),e0.hok.kept hk,?_⟩
 ·exact name_of_addr x.apart (PySem.mem_of_lookup h1) (PySem.mem_of_lookup h2)
 ·have hy:scope.names.lookup y=some .cell\/scope.names.lookup y=some .free:=hy
  rcases hy with hy | hy
  ·exact cell_has hy
  ·exact absurd rfl (S.nofree _ (PySem.mem_of_lookup hy))
 ·exact Nat.le_of_lt (x.above y c (PySem.mem_of_lookup h))
 ·have hi:i < vs.length:=by
   unfold start at h2
   by_cases hi:i < vs.length
   ·exact hi
   ·rw [List.getElem?_append_right (by simpa using hi)] at h2
    rw [List.getElem?_replicate] at h2
    split at h2 <;> cases h2
  have ha:vs[i]?=some v:=by
   unfold start at h2
   rw [List.getElem?_append_left (by simpa using hi),List.getElem?_map] at h2
   cases e:vs[i]? with
   | none=>rw [e] at h2;cases h2
   | some a=>rw [e] at h2;cases h2;rfl
  obtain ⟨u,hu,rv⟩:=r.get ha
  have hp:ps[i]?=some y:=by
   rw [<- S.pre,List.getElem?_take_of_lt (by omega)];exact h1
  have ndP:ps.Nodup:=by rw [<- S.pre];exact S.nd.sublist (List.take_sublist _ _)
  refine ⟨u,rv,?_⟩
  rcases S.par y (List.mem_of_getElem? hp) with k | k
  ·exact .inl ⟨k,bindL_get ndP hp hu k⟩
  ·obtain ⟨c,e⟩:=cell_has (n:=s.heap.objs.size + 1) k
   refine .inr ⟨.inl k,c,e,?_⟩
   have q:=x.cell y c e
   rw [bindC_get ndP hp hu (by show scope.names.lookup y ≠ _;rw [k];decide)] at q
   exact q
 ·exact e0.hok.fresh (Nat.le_of_lt (x.above y c (PySem.mem_of_lookup h)))
 ·unfold start
  show _=N.length
  rw [List.length_append,List.length_map,List.length_replicate]
  omega
theorem fn_of {CX:CXT} {P:Program} {w:World} {K:PySem.W.Frag} {mg:Str->Option Value} {base:Heap} {k:Nat} {f:Addr} {name qual:Str} {params:Arguments} {body:List Stmt} {scope:Scope} {dV kV doc pm cdv ct oc:Value} {an od:Option Addr}
    {osl:Array (Option Value)} {N ps:List Str} {sp:Sp} (lk:K.lookup f=some ⟨oc,od,.func (PySem.W.fnOf name qual params body scope dV kV doc pm an cdv ct),osl⟩) (hcd:PySem.W.codeIn K cdv qual=true) (S:FnScope N ps scope)
    (len:∀ vs H Q E,sp vs H Q E->vs.length=ps.length)
    (hbody:∀ (A:Around) (outer:List Env) (s:Shared) (H:Hp) (vs:List V) (Q:VK) (E:XK),Room k (A.deeper (envOfC qual scope s.heap.objs.size f cdv))->sp vs H Q E ->
      ∃ t,PSs (cxOf CX P w K mg base N qual scope f cdv A outer s H E) body t/\t { nx:=fun _ H'=>Q .non H',rt:=Q } (start N vs) H) :
    FnOk P w K mg base CX (k + 1) f (PySem.W.fnOf name qual params body scope dV kV doc pm an cdv ct) ps sp:=by
  refine ⟨len,fun A outer s H args us vs Q E hr e0 hb r hsp=>?_⟩
  have hl:=len _ _ _ _ hsp
  have KX:K.In s.heap:=e0.mod.kin.keeps fun b o e=>(e0.bs b o e).1
  have lim:s.heap.NoLimit:=e0.mod.nolimit.keeps fun b o e=>(e0.bs b o e).1
  have hkind:∀ y ∈ ps.zip us,scope.names.lookup y.1=some .local\/(scope.names.lookup y.1=some .cell/\((cellsFrom (s.heap.objs.size + 1) scope.names []).lookup y.1).isSome=true):=fun ⟨n,v⟩ hy=>by
    rcases S.par n (List.of_mem_zip hy).1 with q | q
    . exact .inl q
    . exact .inr ⟨q,PySem.W.cellsFrom_some _ _ _ (.inl q)⟩
  refine codeAny_call_function hr.depth (KX _ _ lk) rfl S.co S.gen rfl (PySem.W.codeRec_of KX hcd) (hb _ _ _ _ ?_)
  refine wpAny_newFunctionEnv_cells S.kind hkind fun env he s1 x=>?_
  subst he
  refine ⟨lim.keeps x.toInCall.keep,codeAny_func ?_⟩
  obtain ⟨t,ht,hq⟩:=hbody A outer s H vs Q E (hr.deeper _) hsp
  have I:Inv (cxOf CX P w K mg base N qual scope f cdv A outer s H E) [] (start N vs) H s1:=inv_start S hr.hd e0 hl r x
  refine wpAny_mono (ht [] s1 (start N vs) H _ I hq) (fun fl s' hs=>?_) fun e s' hs=>hs
  have fin:∀ {σ':St} {H':Hp} {v:V} {u:Value},Inv (cxOf CX P w K mg base N qual scope f cdv A outer s H E) [] σ' H' s'->RelV v u->Q v H'->CE outer P w H s Q u s' :=
    fun {σ' H' v u} J rv q=>⟨v,H',J.os,J.bare,J.base,J.hok,rv,q⟩
  cases fl with
  | ret u =>
    obtain ⟨v,σ',H',J,rv,q⟩:=hs
    exact fin J rv q
  | next =>
    obtain ⟨σ',H',J,q⟩:=hs
    exact fin (v:=V.non) (u:=Value.none) J rfl q
  | brk =>
    obtain ⟨_,_,_,q⟩:=hs
    exact False.elim q
  | cont =>
    obtain ⟨_,_,_,q⟩:=hs
    exact False.elim q
end L2
namespace L2
open PySem PySem.Spec PyProof.Rows
section
variable {X:Cx} {x:Str} {p pos:Pos} {e:Expr} {es:List Expr} {t:TA} {id T:String} {r:List V->Hp->VK->Prop}
def tCB (r:List V->Hp->VK->Prop) (t:TA):TE:=fun σ H Q=>t σ H fun vs H1=>r vs H1 Q
theorem pe_callB (hc:CallR X (.builtin id) r) (hg:Gl X x) (hm:X.mg x=none) (hv:bootBuiltins x=some (.builtin id)) (ha:PA X (e :: es) t) (hn:x ≠ "__name__" := by decide) (hdb:(x == ("__debug__" : Str))=false:=by decide)
  (he:starEach (e :: es) X.env=(false,eval e X.env) :: starEach es X.env:=by rfl) (hpl:(backTo pos (starEach es X.env)).any (·.1)=false:=by rfl):PE X (.Call (.Name x p) (e :: es) [] pos) (tCB r t):=by
 intro pins s σ H Q I h
 refine wpAny_Call_Name_kw (ld_blt I hg hm hv ?_ hn hdb)
 exact PyProof.Rows.callWith_builtin1 (thn (ha pos pins s σ H _ I h) fun us s1 ⟨vs,H1,I1,r1,q1⟩=>hc pins s1 σ H1 vs us Q I1 r1 q1) he hpl
theorem pe_callTy (hc:CallR X (.type T) r) (hg:Gl X x) (hm:X.mg x=none) (hv:bootBuiltins x=some (.type T)) (ha:PA X (e :: es) t) (hn:x ≠ "__name__" := by decide) (hdb:(x == ("__debug__" : Str))=false:=by decide)
  (he:starEach (e :: es) X.env=(false,eval e X.env) :: starEach es X.env:=by rfl) (hpl:(backTo pos (starEach es X.env)).any (·.1)=false:=by rfl):PE X (.Call (.Name x p) (e :: es) [] pos) (tCB r t):=by
 intro pins s σ H Q I h
 refine wpAny_Call_Name_kw (ld_blt I hg hm hv ?_ hn hdb)
 exact PyProof.Rows.callWith_type1 (thn (ha pos pins s σ H _ I h) fun us s1 ⟨vs,H1,I1,r1,q1⟩=>hc pins s1 σ H1 vs us Q I1 r1 q1) he hpl
end
end L2
namespace HT
open PySem PyProof.Rows
def lexLt:List Int->List Int->Bool
 | [],[]=>false
 | [],_ :: _=>true
 | _ :: _,[]=>false
 | x :: xs,y :: ys=>if x=y then lexLt xs ys else decide (x < y)
theorem lexLt_cons (x y:Int) (xs ys:List Int):lexLt (x :: xs) (y :: ys)=if x=y then lexLt xs ys else decide (x < y):=rfl
theorem lexLt_nil_nil:lexLt [] []=false:=rfl
theorem lexLt_nil_cons (y:Int) (ys:List Int):lexLt [] (y :: ys)=true:=rfl
theorem lexLt_cons_nil (x:Int) (xs:List Int):lexLt (x :: xs) []=false:=rfl
theorem eqAt_int (A:Around) (s:Shared) (a:Int) (t:Tok) (c:Int) (u:Tok):∃ e,SeqAt.EqAt A s (.int a t) (.int c u) e/\(e=true ↔ a=c) :=
 ⟨(a == c),SeqAt.EqAt.int_int a t c u,by simp⟩
theorem rcLt_int (A:Around) (s:Shared) (a:Int) (t:Tok) (c:Int) (u:Tok) (prog:Program) (w:World) (E:Value->Shared->Prop) (Q:Value->Shared->Prop) (h:Q (.bool (decide (a < c))) s) :
  wpAny (model prog w) A (richCompare .Lt (.int a t) (.int c u)) Q E s :=
 (PyProof.Rows.lt_int h:wpAny (model prog w) A (compareOp .Lt (.int a t) (.int c u)) Q E s)
section
open PySem.SeqAt
open PySem.AutoSeq1 (wpAny_loadPart')
open PySem.MeetsSeq PySem.MeetsSeq2 PySem.MeetsSeq3
theorem tuple_lt_ints (l b:Addr) (items items2:Array Value) (n n2:Nat) (dd dd2:Option Addr) (sl sl2:Array (Option Value)) (ns ms:List Int) (hi:IntsAre items.toList ns) (hj:IntsAre items2.toList ms) :
    Meets (Builtin.«tuple.__lt__» ⟨[.ref l,.ref b],[]⟩)
      (fun _ R s=>s.heap.get? l=some { cls:=.type "tuple",dict:=dd,data:=.seq items n,slots:=sl }/\s.heap.get? b=some { cls:=.type "tuple",dict:=dd2,data:=.seq items2 n2,slots:=sl2 } /\
        R (.ok (.ret (.bool (lexLt ns ms)))) s) :=
  .of_wp fun prog w A R s h=>by
    obtain ⟨hp,g,d,tk,os⟩:=s;obtain ⟨hl,hb,h⟩:=h
    have f2:=AutoSeq1.sub_tuple_tuple
    have z1:items.size=ns.length:=by rw [<- hi.length];simp
    have z2:items2.size=ms.length:=by rw [<- hj.length];simp
    wp_walk using wpAny_loadPart' hl,wpAny_loadPart' hb,wpAny_forIn_list _ (fun rest b s'=>b.1=none/\s'=⟨hp,g,d,tk,os⟩/\∃ (vs ws:List Value) (ns' ms':List Int),rest=vs.zip ws /\
      IntsAre vs ns'/\IntsAre ws ms'/\ns'.length + items2.size=ms'.length + items.size/\R (.ok (.ret (.bool (lexLt ns' ms')))) ⟨hp,g,d,tk,os⟩) _
    case turn =>
      rintro ⟨y,x⟩ rest b s' ⟨hb',rfl,vs,ws,ns',ms',hz,hvi,hwi,hlen,hR⟩
      cases hvi with
      | nil=>rw [List.zip_nil_left] at hz;cases hz
      | cons a t hvi' =>
        cases hwi with
        | nil=>rw [List.zip_nil_right] at hz;cases hz
        | cons c u hwi' =>
          rw [List.zip_cons_cons] at hz
          injection hz with hyx hrest
          injection hyx with hy hx
          subst hy hx
          rw [lexLt_cons] at hR
          simp only [List.length_cons] at hlen
          obtain ⟨e,he,hiff⟩:=eqAt_int A.in1 ⟨hp,g,d,tk,os⟩ a t c u
          refine wpAny_bind (he prog w _ _ ?_)
          cases e with
          | true =>
            rw [if_pos (hiff.mp rfl)] at hR
            wp_walk
            exact ⟨rfl,rfl,_,_,_,_,hrest,hvi',hwi',by omega,hR⟩
          | false =>
            rw [if_neg (fun q=>absurd (hiff.mpr q) Bool.false_ne_true)] at hR
            have hri:=rcLt_int A.in1 ⟨hp,g,d,tk,os⟩ a t c u prog w
            wp_walk using hri
            exact ⟨_,rfl,by simpa using hR⟩
    case fin =>
      rintro ⟨b1,b2⟩ s' ⟨hb',rfl,vs,ws,ns',ms',hz,hvi,hwi,hlen,hR⟩
      simp only at hb'
      subst hb'
      have hv:lexLt ns' ms'=decide (items.size < items2.size):=by
        cases hvi with
        | nil =>
          cases hwi with
          | nil =>
            simp only [List.length_nil] at hlen
            rw [lexLt_nil_nil]
            exact (decide_eq_false (by omega)).symm
          | cons c u hw =>
            simp only [List.length_nil,List.length_cons] at hlen
            rw [lexLt_nil_cons]
            exact (decide_eq_true (by omega)).symm
        | cons a t hv =>
          cases hwi with
          | nil =>
            simp only [List.length_nil,List.length_cons] at hlen
            rw [lexLt_cons_nil]
            exact (decide_eq_false (by omega)).symm
          | cons c u hw =>
            rw [List.zip_cons_cons] at hz
            cases hz
      rw [hv] at hR
      wp_walk
      exact ⟨_,rfl,by simpa [Builtin.Tuple.tupleCompareSizes] using hR⟩
    case h =>
      exact ⟨rfl,rfl,items.toList,items2.toList,ns,ms,rfl,hi,hj,by omega,h⟩
end
section
variable {prog:Program} {w:World} {A:Around} {E:Value->Shared->Prop} {s:Shared}
theorem lt_tupInts {l b:Addr} {items items2:Array Value} {ns ms:List Int} {Q:Value->Shared->Prop} (hl:IsTup s.heap l items) (hb:IsTup s.heap b items2) (hi:IntsAre items.toList ns) (hj:IntsAre items2.toList ms)
  (hu:A.units < cLine) (h:Q (.bool (lexLt ns ms)) s):wpAny (model prog w) A (compareOp .Lt (.ref l) (.ref b)) Q E s:=by
 obtain ⟨⟨cls,dd,data,sl⟩,ho,hc,n,hd⟩:=id hl
 obtain ⟨⟨cls2,dd2,data2,sl2⟩,ho2,hc2,n2,hd2⟩:=id hb
 simp only at hc hd hc2 hd2
 subst hc hd hc2 hd2
 exact richCompare_meets_room (op:=.Lt) ⟨_,ho,rfl⟩ ⟨_,ho2,rfl⟩ PySem.F.slot_tuple_lt PySem.F.entry_tuple_lt (PySem.F.args_tuple_lt_2 _ _) (tuple_lt_ints l b items items2 n n2 dd dd2 sl sl2 ns ms hi hj)
  ⟨ho,ho2,show Value.bool (lexLt ns ms) ≠ Value.notImplemented/\Q (.bool (lexLt ns ms)) s from ⟨(fun x=>nomatch x),h⟩⟩ hu
theorem cat_tup {t b:Addr} {vs ws:List Value} {Q:Value->Shared->Prop} (ht:IsTup s.heap t vs.toArray) (hb:IsTup s.heap b ws.toArray) (hv:vs ≠ [])
  (h1:ws=[]->Q (.ref t) s) (h2:ws ≠ []->Q (.ref s.heap.objs.size) { s with heap:=s.heap.push { cls:=.type "tuple",data:=.seq (vs ++ ws).toArray } })
  (hsz:vs.length + ws.length<=sizeLine):wpAny (model prog w) A (binaryOp .Add (.ref t) (.ref b)) Q E s:=by
 obtain ⟨⟨cls,dd,data,sl⟩,ho,hc,n,hd⟩:=id ht
 obtain ⟨⟨cls2,dd2,data2,sl2⟩,ho2,hc2,n2,hd2⟩:=id hb
 simp only at hc hd hc2 hd2
 subst hc hd hc2 hd2
 have e:vs.toArray ++ ws.toArray=(vs ++ ws).toArray:=by simp
 by_cases hw:ws=[]
 ·exact concat_meets ⟨_,ho,rfl⟩ ⟨_,ho2,rfl⟩ noFill_tuple_add seq_tuple_add PySem.F.slot_tuple_add PySem.F.entry_tuple_add (PySem.F.args_tuple_add_2 _ _)
   (tuple_addW1 t b vs.toArray ws.toArray n n2 dd dd2 sl sl2 (by simpa using hv) (by simp [hw])) ⟨ho,ho2,h1 hw⟩
 ·refine concat_meets ⟨_,ho,rfl⟩ ⟨_,ho2,rfl⟩ noFill_tuple_add seq_tuple_add PySem.F.slot_tuple_add PySem.F.entry_tuple_add (PySem.F.args_tuple_add_2 _ _)
   (tuple_addW2 t b vs.toArray ws.toArray n n2 dd dd2 sl sl2 (by simpa using hv) (by simpa using hw) (by rw [List.size_toArray,List.size_toArray];exact hsz)) ⟨ho,ho2,?_⟩
  rw [e]
  exact h2 hw
def sIx (n d:Nat):Option Int->Nat
 | none=>d
 | some v=>if v < 0 then (v + (n:Int)).toNat else min v.toNat n
theorem sIx_none (n d:Nat):sIx n d none=d:=rfl
theorem sIx_nat (n d k:Nat):sIx n d (some (k:Int))=min k n:=by
 show (if (k:Int) < 0 then ((k:Int) + (n:Int)).toNat else min (k:Int).toNat n)=min k n
 rw [if_neg (by omega),Int.toNat_natCast]
theorem sIx_le (n d:Nat) (hd:d<=n) (o:Option Int):sIx n d o<=n:=by
  cases o with
  | none=>exact hd
  | some v =>
    show (if v < 0 then (v + (n:Int)).toNat else min v.toNat n)<=n
    by_cases hv:v < 0
    . rw [if_pos hv];omega
    . rw [if_neg hv];exact Nat.min_le_right _ _
theorem clip_ofmin (a b:Nat):((min a b:Nat):Int)=min (a:Int) (b:Int):=by
 rcases Nat.le_total a b with h | h
 ·rw [Nat.min_eq_left h,Int.min_eq_left (Int.ofNat_le.mpr h)]
 ·rw [Nat.min_eq_right h,Int.min_eq_right (Int.ofNat_le.mpr h)]
theorem clip_two (i:Int) (n d:Nat):max 0 (min (if i < 0 then i + (n:Int) else i) (n:Int))=((HT.sIx n d (some i):Nat):Int):=by
 show _=(((if i < 0 then (i + (n:Int)).toNat else min i.toNat n):Nat):Int)
 by_cases hv:i < 0
 ·rw [if_pos hv,if_pos hv,Int.toNat_eq_max,Int.min_eq_left (by omega),Int.max_comm]
 ·rw [if_neg hv,if_neg hv,clip_ofmin,Int.toNat_of_nonneg (Int.not_lt.mp hv),Int.max_eq_right]
  exact Int.le_min.mpr ⟨Int.not_lt.mp hv,Int.natCast_nonneg n⟩
theorem clip_eq (v:Int) (n d:Nat):(if v < 0 then max (v + (n:Int)) 0 else min v (n:Int))=((sIx n d (some v):Nat):Int):=by
 show (if v < 0 then max (v + (n:Int)) 0 else min v (n:Int))=(((if v < 0 then (v + (n:Int)).toNat else min v.toNat n):Nat):Int)
 by_cases hv:v < 0
 ·rw [if_pos hv,if_pos hv,Int.toNat_eq_max]
 ·rw [if_neg hv,if_neg hv,clip_ofmin,Int.toNat_of_nonneg (Int.not_lt.mp hv)]
theorem adjust_gen (lo hi:Option Int) (n:Nat):Builtin.Slice.sliceAdjust lo hi 1 (n:Int)=(((sIx n 0 lo:Nat):Int),((sIx n n hi:Nat):Int)):=by
 have h1:¬ ((1:Int) < 0):=by omega
 unfold Builtin.Slice.sliceAdjust
 simp only [h1,if_false]
 refine Prod.ext ?_ ?_
 ·cases lo with
  | none=>rfl
  | some v=>exact clip_eq v n 0
 ·cases hi with
  | none=>rfl
  | some v=>exact clip_eq v n n
theorem places_gen (i j:Nat):Builtin.Slice.slicePlaces (i:Int) (j:Int) 1=j - i:=by
 unfold Builtin.Slice.slicePlaces
 have h1:(1:Int) > 0:=by omega
 simp only [h1,if_true,Int.ediv_one]
 split <;> omega
theorem slicePart_ {v:Value} {o:Option Int} {Q:Option Int->Shared->Prop} (p:IsPart v o) (h:Q o s):wpAny (model prog w) A (Builtin.Slice.slicePartIndex v) Q E s:=by
 cases p with
 | none=>exact slicePart_none h
 | int i t=>exact slicePart_int h
theorem sliceApplied_gen {sl:Addr} {vl vu:Value} {lo hi:Option Int} {n:Nat} {Q:Int × Int × Nat->Shared->Prop} (hs:s.heap.IsSliceOf sl vl vu .none) (pl:IsPart vl lo) (pu:IsPart vu hi)
  (h:Q (((sIx n 0 lo:Nat):Int),1,sIx n n hi - sIx n 0 lo) s):wpAny (model prog w) A (Builtin.Slice.sliceApplied (.ref sl) (pure (n:Int))) Q E s:=by
 obtain ⟨os,hos,hcs,hds⟩:=id hs
 unfold Builtin.Slice.sliceApplied Builtin.Slice.sliceFields
 refine wpAny_bind (wpAny_bind (wpAny_field hos hds (x:=vl) rfl (wpAny_bind (wpAny_field hos hds (x:=vu) rfl (wpAny_bind (wpAny_field hos hds (x:=.none) rfl (wpAny_pure ?_)))))))
 refine wpAny_bind (slicePart_none ?_)
 show wpAny _ _ (if ((1:Int) == 0)=true then _ else _) _ _ s
 rw [if_neg (by decide)]
 refine wpAny_bind (slicePart_ pl (wpAny_bind (slicePart_ pu (wpAny_bind (wpAny_pure ?_)))))
 show wpAny _ _ (match Builtin.Slice.sliceAdjust lo hi 1 (n:Int) with | (lo,hi)=>pure (lo,(1:Int),Builtin.Slice.slicePlaces lo hi 1)) _ _ s
 rw [adjust_gen lo hi n]
 show wpAny _ _ (pure (((sIx n 0 lo:Nat):Int),(1:Int),Builtin.Slice.slicePlaces ((sIx n 0 lo:Nat):Int) ((sIx n n hi:Nat):Int) 1)) _ _ s
 rw [places_gen]
 exact wpAny_pure h
theorem pick_gen (xs:Array Value) (i k:Nat):((List.range k).filterMap fun (m:Nat)=>xs[((i:Int) + (m:Int) * 1).toNat]?).toArray=((xs.toList.drop i).take k).toArray:=by
 have e:(fun (m:Nat)=>xs[((i:Int) + (m:Int) * 1).toNat]?)=fun m=>xs[i + m]?:=by
  funext m
  have:((i:Int) + (m:Int) * 1).toNat=i + m:=by omega
  rw [this]
 rw [e]
 have:=pick_run xs i k
 rw [List.filterMap_map] at this
 have e2:((fun x=>xs[x]?) ∘ fun x=>i + x)=fun m=>xs[i + m]?:=rfl
 rw [e2] at this
 rw [this]
theorem getItem_tuple_cut {t sl:Addr} {items:Array Value} {vl vu:Value} {lo hi:Option Int} {Q:Value->Shared->Prop} (ht:IsTup s.heap t items) (hs:s.heap.IsSliceOf sl vl vu .none) (pl:IsPart vl lo) (pu:IsPart vu hi)
  (hw:¬ (sIx items.size 0 lo=0/\sIx items.size items.size hi=items.size))
  (h:Q (.ref s.heap.objs.size) { s with heap:=s.heap.push { cls:=.type "tuple",data:=.seq ((items.toList.drop (sIx items.size 0 lo)).take (sIx items.size items.size hi - sIx items.size 0 lo)).toArray } })
  (hsz:items.size<=sizeLine):wpAny (model prog w) A (getItem (.ref t) (.ref sl)) Q E s:=by
 have htake:sizeOk (.seq ((items.toList.drop (sIx items.size 0 lo)).take (sIx items.size items.size hi - sIx items.size 0 lo)).toArray):=by
  show ((items.toList.drop (sIx items.size 0 lo)).take (sIx items.size items.size hi - sIx items.size 0 lo)).toArray.size<=sizeLine
  rw [List.size_toArray,List.length_take,List.length_drop,Array.length_toList]
  omega
 have hj:sIx items.size items.size hi<=items.size:=sIx_le _ _ (Nat.le_refl _) hi
 obtain ⟨os,hos,hcs,hds⟩:=id hs
 have hTs:s.TypeIs (.ref sl) "slice" := ⟨os,hos,hcs⟩
 unfold getItem
 try with_reducible refine wpAny_holding ?_
 first | refine wpAny_bind (wpAny_pure ?_) | skip
 refine wpAny_bind (wpAny_sequenceKey ht.typeIs (by decide) ?_)
 refine wpAny_bind (wpAny_callSpecial?_slot (name:=Str.ofString "__getitem__") ht.typeIs PyProof.Rows.slot_tuple_getitem
  (wpAny_call_entry PyProof.Rows.slot_tuple_getitem ht.typeIs entry_tuple_getitem ?_ (args_tuple_getitem _ _)))
 show wpAny _ _ (Builtin.Tuple.tupleItemsOf (.ref t) >>= _) _ _ s
 refine wpAny_bind (tupleItemsOf_ ht ?_)
 refine wpAny_bind (wpAny_typeOf hTs ?_)
 rw [if_pos (by decide)]
 refine wpAny_bind (sliceApplied_gen hs pl pu ?_)
 have hno:¬ ((((sIx items.size 0 lo:Nat):Int) == 0 && (1:Int) == 1 && (sIx items.size items.size hi - sIx items.size 0 lo) == items.size)=true):=by
  intro q
  rw [Bool.and_eq_true,Bool.and_eq_true] at q
  have q1:((sIx items.size 0 lo:Nat):Int)=0:=eq_of_beq q.1.1
  have q2:sIx items.size items.size hi - sIx items.size 0 lo=items.size:=eq_of_beq q.2
  exact hw ⟨by omega,by omega⟩
 show wpAny _ _ (if (((sIx items.size 0 lo:Nat):Int) == 0 && (1:Int) == 1 && (sIx items.size items.size hi - sIx items.size 0 lo) == items.size)=true then _ else _) _ _ s
 rw [if_neg hno,pick_gen]
 first
  | exact wpAny_bind (m:=Builtin.Tuple.tupleExact _) (wpAny_newObj_type (wpAny_pure ⟨_,rfl,wpAny_pure h⟩) htake)
  | exact wpAny_bind (m:=Builtin.Tuple.tupleExact _) (wpAny_newObj_type (wpAny_bind (wpAny_pure (wpAny_pure ⟨_,rfl,wpAny_pure h⟩))) htake)
  | exact wpAny_bind (wpAny_bind (m:=Builtin.Tuple.tupleExact _) (wpAny_newObj_type (wpAny_pure (wpAny_pure ⟨_,rfl,wpAny_pure h⟩)) htake))
  | exact wpAny_bind (wpAny_bind (m:=Builtin.Tuple.tupleExact _) (wpAny_newObj_type (wpAny_pure ⟨_,rfl,wpAny_pure h⟩) htake))
end
end HT
namespace L2
open PySem PySem.Spec PyProof.Rows
abbrev TO:=St->Hp->(Option Int->Hp->Prop)->Prop
def PO (X:Cx) (e:Option Expr) (t:TO):Prop :=
 ∀ (pins:List (Addr × Obj)) (s:Shared) (σ:St) (H:Hp) (Q:Option Int->Hp->Prop),Inv X pins σ H s->t σ H Q ->
  wpAny (model X.prog X.w) X.A (evalPart e X.env) (fun u s'=>∃ o H',Inv X pins σ H' s'/\IsPart u o/\Q o H') X.xe s
def tNoPart:TO:=fun _ H Q=>Q none H
def tPart (t:TE):TO:=fun σ H Q=>t σ H fun x H1=>∃ i,x = .int i/\Q (some i) H1
theorem intsAre_of {ns:List Int}:∀ {us:List Value},Vals (ns.map V.int) us->IntsAre us ns:=by
  induction ns with
  | nil=>intro us r;rw [List.map_nil] at r;cases r;exact .nil
  | cons n ns ih =>
    intro us r
    rw [List.map_cons] at r
    cases r with
    | cons r1 r2 =>
      obtain ⟨t,e⟩:=r1
      subst e
      exact .cons n t (ih r2)
section
variable {X:Cx} {e:Expr} {te:TE} {lo hi:Option Expr} {tl th:TO} {pos p2:Pos}
theorem po_none:PO X none tNoPart:=by
 intro pins s σ H Q I h
 rw [evalPart_none]
 exact wpAny_pure ⟨none,H,I,.none,h⟩
theorem po_some (h:PE X e te):PO X (some e) (tPart te):=by
 intro pins s σ H Q I hw
 rw [evalPart_some]
 refine thn (h pins s σ H _ I hw) fun u s1 ⟨x,H1,I1,r1,q1⟩=>?_
 obtain ⟨i,rfl,q⟩:=q1
 obtain ⟨t,rfl⟩:=r1
 exact ⟨some i,H1,I1,.int i t,q⟩
def SlR (X:Cx) (r:V->Option Int->Option Int->Hp->VK->Prop):Prop :=
 ∀ (pins:List (Addr × Obj)) (s:Shared) (σ:St) (H:Hp) (x:V) (v vl vu:Value) (lo hi:Option Int) (sl:Addr) (Q:VK),Inv X pins σ H s->RelV x v->s.heap.IsSliceOf sl vl vu .none->IsPart vl lo->IsPart vu hi->r x lo hi H Q ->
  ∃ T id,typeLookup (.type T) "__getitem__" = pure (some (.builtin id))/\s.TypeIs v T/\wpAny (model X.prog X.w) X.A (getItem v (.ref sl)) (EP X pins σ Q) X.xe s
def tSl (r:V->Option Int->Option Int->Hp->VK->Prop) (te:TE) (tl th:TO):TE:=fun σ H Q=>te σ H fun x H1=>tl σ H1 fun l H2=>th σ H2 fun u H3=>r x l u H3 Q
theorem pe_slice {r:V->Option Int->Option Int->Hp->VK->Prop} (hr:SlR X r) (he:PE X e te) (hl:PO X lo tl) (hu:PO X hi th):PE X (.Subscript e (.Slice lo hi none p2) pos) (tSl r te tl th):=by
 intro pins s σ H Q I h
 refine Subscript_ (thn (he pins s σ H _ I h) fun v s1 ⟨x,H1,I1,r1,q1⟩=>?_)
 refine wpAny_Slice (thn (hl pins s1 σ H1 _ I1 q1) fun vl s2 ⟨l,H2,I2,pl,q2⟩=>thn (hu pins s2 σ H2 _ I2 q2) fun vu s3 ⟨u,H3,I3,pu,q3⟩=>?_)
 rw [evalPart_none]
 refine wpAny_pure ?_
 have I4:Inv X pins σ H3 { s3 with heap:=s3.heap.push { cls:=.type "slice",data:=.fields #[vl,vu,.none] } }:=I3.kept (t':=s3.toks) fun b ob q=>Heap.get?_push_of_some _ q
 obtain ⟨T,id,hT,ht,hg⟩:=hr pins { s3 with heap:=s3.heap.push { cls:=.type "slice",data:=.fields #[vl,vu,.none] } } σ H3 x v vl vu l u s3.heap.objs.size Q I4 r1 (Heap.IsSliceOf.new ..) pl pu q3
 show wpAny (model X.prog X.w) X.A (subscriptTail e (.Slice lo hi none p2) v (.ref s3.heap.objs.size)) (EP X pins σ Q) X.xe { s3 with heap:=s3.heap.push { cls:=.type "slice",data:=.fields #[vl,vu,.none] } }
 exact tail_any (ops:=[.ref s3.heap.objs.size,v]) ht hT hg (by with_unfolding_all rfl)
def cutV (xs:List V) (lo hi:Option Int):List V:=(xs.drop (HT.sIx xs.length 0 lo)).take (HT.sIx xs.length xs.length hi - HT.sIx xs.length 0 lo)
theorem cutV_length (xs:List V) (lo hi:Option Int):(cutV xs lo hi).length<=xs.length:=by
 unfold cutV
 rw [List.length_take,List.length_drop]
 omega
def rSlT (K:PySem.W.Frag):V->Option Int->Option Int->Hp->VK->Prop:=fun x lo hi H Q=>∃ a xs,x = .ref a/\SqT K H a xs /\
 ¬ (HT.sIx xs.length 0 lo=0/\HT.sIx xs.length xs.length hi=xs.length)/\∀ p,H p=none->Q (.ref p) (upd H p (.tup (cutV xs lo hi)))
theorem sl_tup:SlR X (rSlT X.K):=by
 intro pins s σ H x v vl vu lo hi sl Q I rx hs pl pu h
 obtain ⟨a,xs,rfl,hx,hw,q⟩:=h
 cases rx
 obtain ⟨its,r,ht,hz⟩:=I.tuple hx
 have hlen:its.toArray.size=xs.length:=by rw [List.size_toArray];exact r.length.symm
 refine ⟨"tuple",_,PyProof.Rows.slot_tuple_getitem.lookup,ht.typeIs,?_⟩
 refine HT.getItem_tuple_cut ht hs pl pu (by rw [hlen];exact hw) ?_ (by rw [hlen];exact hz)
 rw [hlen]
 refine ⟨.ref s.heap.objs.size,_,I.laid (t':=s.toks) (o:=.tup (cutV xs lo hi)) (fun b ob q=>Heap.get?_push_of_some _ q) (Nat.le_refl _) ?_,rfl,q _ (I.hok.fresh (Nat.le_refl _))⟩
 exact ⟨Nat.le_trans (cutV_length xs lo hi) hz,_,(r.drop (HT.sIx xs.length 0 lo)).take (HT.sIx xs.length xs.length hi - HT.sIx xs.length 0 lo),IsTup.new _ _⟩
def rLtT (K:PySem.W.Frag):R2:=fun x y H Q=>∃ a b ns ms,x = .ref a/\y = .ref b/\SqT K H a (ns.map V.int)/\SqT K H b (ms.map V.int)/\Q (.bl (HT.lexLt ns ms)) H
theorem op_ltT (hu:X.A.units < cLine):OpR X (compareOp .Lt) (rLtT X.K):=by
 intro pins s σ H x y v u Q I rx ry h
 obtain ⟨a,b,ns,ms,rfl,rfl,ha,hb,q⟩:=h
 cases rx
 cases ry
 obtain ⟨its,r1,p1,_⟩:=I.tuple ha
 obtain ⟨its2,r2,p2,_⟩:=I.tuple hb
 have i1:IntsAre its.toArray.toList ns:=intsAre_of r1
 have i2:IntsAre its2.toArray.toList ms:=intsAre_of r2
 exact HT.lt_tupInts p1 p2 i1 i2 hu ⟨.bl (HT.lexLt ns ms),H,I,rfl,q⟩
def rCatT (K:PySem.W.Frag):R2:=fun x y H Q=>∃ a b xs ys,x = .ref a/\y = .ref b/\SqT K H a xs/\SqT K H b ys/\xs ≠ []/\xs.length + ys.length<=sizeLine /\
 (ys=[]->Q (.ref a) H)/\(ys ≠ []->∀ p,H p=none->Q (.ref p) (upd H p (.tup (xs ++ ys))))
theorem Vals.nil_iff {xs:List V} {us:List Value} (r:Vals xs us):us=[] ↔ xs=[]:=by
 cases r with
 | nil=>simp
 | cons _ _=>simp
theorem op_catT:OpR X (binaryOp .Add) (rCatT X.K):=by
 intro pins s σ H x y v u Q I rx ry h
 obtain ⟨a,b,xs,ys,rfl,rfl,ha,hb,hx,hz,q1,q2⟩:=h
 cases rx
 cases ry
 obtain ⟨its,r1,p1,_⟩:=I.tuple ha
 obtain ⟨its2,r2,p2,_⟩:=I.tuple hb
 refine HT.cat_tup p1 p2 (fun z=>hx (r1.nil_iff.mp z)) (fun z=>⟨.ref a,H,I,rfl,q1 (r2.nil_iff.mp z)⟩) (fun z=>?_) (by rw [<- r1.length, <- r2.length];exact hz)
 refine ⟨.ref s.heap.objs.size,_,I.laid (t':=s.toks) (o:=.tup (xs ++ ys)) (fun b ob q=>Heap.get?_push_of_some _ q) (Nat.le_refl _) ?_,rfl,q2 (fun w=>z (r2.nil_iff.mpr w)) _ (I.hok.fresh (Nat.le_refl _))⟩
 exact ⟨by rw [List.length_append];exact hz,_,r1.append r2,IsTup.new _ _⟩
end
end L2
namespace L2
open PySem PySem.Spec PyProof.Rows
def ixN (n:Nat) (i:Int):Option Nat:=if 0<=i then (if i < n then some i.toNat else none) else if -(n:Int)<=i then some (i + n).toNat else none
def atI {α:Type} (xs:List α) (i:Int):Option α:=(ixN xs.length i).bind fun j=>xs[j]?
theorem ixN_seq {n:Nat} {i:Int} {j:Nat} (h:ixN n i=some j):seqIndex? i n=some j/\j < n /\ -(n:Int)<=i/\i < n:=by
 unfold ixN at h
 by_cases h0:0<=i
 ·rw [if_pos h0] at h
  by_cases h1:i < n
  ·rw [if_pos h1] at h
   have e:i.toNat=j:=Option.some.inj h
   exact ⟨by rw [seqIndex_of h0 h1,e],by omega,by omega,h1⟩
  ·rw [if_neg h1] at h;cases h
 ·rw [if_neg h0] at h
  by_cases h1 : -(n:Int)<=i
  ·rw [if_pos h1] at h
   have e:(i + n).toNat=j:=Option.some.inj h
   exact ⟨by rw [seqIndex_neg (by omega) h1,e],by omega,h1,by omega⟩
  ·rw [if_neg h1] at h;cases h
theorem atI_get {α:Type} {xs:List α} {i:Int} {v:α} (h:atI xs i=some v):∃ j,seqIndex? i xs.length=some j/\xs[j]?=some v/\j < xs.length /\ -(xs.length:Int)<=i/\i < xs.length:=by
  unfold atI at h
  cases e:ixN xs.length i with
  | none=>rw [e] at h;cases h
  | some j =>
    rw [e] at h
    obtain ⟨h1,h2,h3,h4⟩:=ixN_seq e
    exact ⟨j,h1,h,h2,h3,h4⟩
theorem atI_nat {α:Type} {xs:List α} {j:Nat} {v:α} (h:xs[j]?=some v):atI xs (j:Int)=some v:=by
 have hj:j < xs.length:=(List.getElem?_eq_some_iff.mp h).1
 have e:ixN xs.length (j:Int)=some j:=by
  unfold ixN
  rw [if_pos (by omega),if_pos (by omega)];simp
 unfold atI;rw [e];exact h
def PlainIx (b:Expr):Prop:=∀ o i,subscripted b false o i=operate [o,i] (getItem o i)
def IxR (X:Cx) (r:R2):Prop :=
 ∀ (value slice:Expr) (pins:List (Addr × Obj)) (s:Shared) (σ:St) (H:Hp) (x y:V) (v u:Value) (Q:VK),Inv X pins σ H s->RelV x v->RelV y u->r x y H Q ->
  subscripted slice false v u=operate [v,u] (getItem v u)->wpAny (model X.prog X.w) X.A (subscriptTail value slice v u) (EP X pins σ Q) X.xe s
def MtR (X:Cx) (id:String) (r:V->List V->Hp->VK->Prop):Prop :=
 ∀ (pins:List (Addr × Obj)) (s:Shared) (σ:St) (H:Hp) (x:V) (xs:List V) (v:Value) (us:List Value) (Q:VK),Inv X pins σ H s->RelV x v->Vals xs us->r x xs H Q ->
  wpAny (model X.prog X.w) X.A (call (.builtin id) (v :: us)) (EP X pins σ Q) X.xe s
section
variable {X:Cx} {a b:Expr} {ta tb:TE} {pos:Pos}
theorem pe_ix {r:R2} (hr:IxR X r) (ha:PE X a ta) (hb:PE X b tb) (hs:PlainIx b):PE X (.Subscript a b pos) (tOp r ta tb):=by
 intro pins s σ H Q I h
 exact Subscript_ (binT ha hb I h fun v u s2 x y H2 I2 rx ry q=>hr a b pins s2 σ H2 x y v u Q I2 rx ry q (hs _ _))
def rIxL (K:PySem.W.Frag):R2:=fun x y H Q=>∃ p xs i v,x = .ref p/\y = .int i/\SqL K H p xs/\atI xs i=some v/\Q v H
def rIxT (K:PySem.W.Frag):R2:=fun x y H Q=>∃ p xs i v,x = .ref p/\y = .int i/\SqT K H p xs/\atI xs i=some v/\Q v H
theorem ix_list:IxR X (rIxL X.K):=by
 intro value slice pins s σ H x y v u Q I rx ry h hs
 obtain ⟨p,xs,i,z,rfl,rfl,hq,he,q⟩:=h
 cases rx
 obtain ⟨t,rfl⟩:=ry
 obtain ⟨its,r,pl,hz⟩:=I.list hq
 obtain ⟨j,h1,h2,h3,h4,h5⟩:=atI_get he
 obtain ⟨w,ew,rw'⟩:=r.get h2
 have hl:=r.length
 have hn:=line63
 have fin:EP X pins σ Q w s:=⟨z,H,I,rw',q⟩
 by_cases h0:0<=i
 ·have hj:i.toNat=j:=by
   rw [seqIndex_of h0 h5] at h1
   exact Option.some.inj h1
  exact item_listR pl.isList h0 (by omega) (by rw [hj];simpa using ew) fin hs
 ·have hj:(i + (its.toArray.size:Int)).toNat=j:=by
   rw [seqIndex_neg (by omega) h4] at h1
   rw [List.size_toArray, <- hl]
   exact Option.some.inj h1
  exact subscriptTail_builtinR (x:=w) pl.isList.typeIs slot_list_getitem.lookup
   (wpAny_getItem_list_neg (Q:=fun r s'=>r=w/\EP X pins σ Q r s') pl.isList (by omega) (by rw [List.size_toArray] <;> omega) (by omega) (by rw [hj];simpa using ew) ⟨rfl,fin⟩) hs
theorem ix_tup:IxR X (rIxT X.K):=by
 intro value slice pins s σ H x y v u Q I rx ry h hs
 obtain ⟨p,xs,i,z,rfl,rfl,hq,he,q⟩:=h
 cases rx
 obtain ⟨t,rfl⟩:=ry
 obtain ⟨its,r,pl,hz⟩:=I.tuple hq
 obtain ⟨j,h1,h2,h3,h4,h5⟩:=atI_get he
 obtain ⟨w,ew,rw'⟩:=r.get h2
 have hl:=r.length
 have hn:=line63
 have fin:EP X pins σ Q w s:=⟨z,H,I,rw',q⟩
 exact subscriptTail_builtinR (x:=w) pl.typeIs slot_tuple_getitem.lookup
  (getItem_tuple (j:=j) (Q:=fun r s'=>r=w/\EP X pins σ Q r s') pl (by omega) (by omega) (by rw [List.size_toArray, <- hl];exact h1) (by simpa using ew) ⟨rfl,fin⟩) hs
theorem mapSeq_set (its:List Value) (n j:Nat) (u:Value):Obj.mapSeq (·.setIfInBounds j u) { cls:=.type "list",data:=.seq its.toArray n }={ cls:=.type "list",data:=.seq (its.set j u).toArray n }:=by
 simp [Obj.mapSeq]
theorem Inv.lst {pins:List (Addr × Obj)} {σ:St} {H:Hp} {s:Shared} {p:Addr} {xs:List V} (I:Inv X pins σ H s) (h:H p=some (.lst xs)) :
  ∃ (its:List Value) (n:Nat),Vals xs its/\s.heap.get? p=some { cls:=.type "list",data:=.seq its.toArray n }/\xs.length<=sizeLine:=by
 obtain ⟨z,its,n,r,e⟩:=I.hok p _ h
 exact ⟨its,n,r,e,z⟩
theorem Inv.lstUpd {pins:List (Addr × Obj)} {σ:St} {H:Hp} {s:Shared} {p:Addr} {xs ys:List V} {its its':List Value} {n n':Nat} {f:Obj->Obj} (I:Inv X pins σ H s) (h:H p=some (.lst xs))
  (ho:s.heap.get? p=some { cls:=.type "list",data:=.seq its.toArray n }) (hf:f { cls:=.type "list",data:=.seq its.toArray n }={ cls:=.type "list",data:=.seq its'.toArray n' }) (r:Vals ys its') (hz:ys.length<=sizeLine) (t:Nat) :
  Inv X pins σ (upd H p (.lst ys)) { s with heap:=s.heap.update p f,toks:=t }:=by
 have e:(s.heap.update p f).get? p=some { cls:=.type "list",data:=.seq its'.toArray n' }:=by
  rw [Heap.get?_update_self f ho (by rw [hf] <;> rfl),hf]
 refine I.write (x:=p) (e:=p) (by rw [h];trivial) (.inl rfl) (fun b u hb q=>(Heap.get?_update_other _ _ (Ne.symm hb)).trans q) ⟨_,e⟩ ?_
 exact ⟨hz,its',n',r,e⟩
def rSetL:V->V->V->Hp->(Hp->Prop)->Prop:=fun o i v H Q=>∃ p xs k j,o = .ref p/\i = .int k/\H p=some (.lst xs)/\ixN xs.length k=some j/\Q (upd H p (.lst (xs.set j v)))
theorem set_list:PSet X rSetL:=by
 intro pins s σ H o i v ov iv u Q I ro ri rv h
 obtain ⟨p,xs,k,j,rfl,rfl,hp,hj,q⟩:=h
 cases ro
 obtain ⟨t,rfl⟩:=ri
 obtain ⟨its,n,r,ho,hz⟩:=I.lst hp
 obtain ⟨h1,h2,h3,h4⟩:=ixN_seq hj
 have hl:=r.length
 have hn:=line63
 have I':Inv X pins σ (upd H p (.lst (xs.set j v))) { s with heap:=s.heap.update p (Obj.mapSeq (·.setIfInBounds j u)) } :=
  I.lstUpd hp ho (mapSeq_set its n j u) (r.set rv j) (by rw [List.length_set];exact hz) s.toks
 by_cases h0:0<=k
 ·have hk:k.toNat=j:=by
   rw [seqIndex_of h0 h4] at h1
   exact Option.some.inj h1
  exact PySem.W.ki_setAt ho h0 (by omega) (by rw [List.size_toArray, <- hl];exact h4) (by rw [hk];exact ⟨_,I',q⟩)
 ·have hk:(k + (its.toArray.size:Int)).toNat=j:=by
   rw [seqIndex_neg (by omega) h3] at h1
   rw [List.size_toArray, <- hl]
   exact Option.some.inj h1
  exact PySem.W.ki_setBack ho (by omega) (by rw [List.size_toArray, <- hl];exact h3) (by omega) (by rw [hk];exact ⟨_,I',q⟩)
theorem slice_bounds (lo hi:Option Int) (n:Nat):(sliceBounds lo hi none n).1=((HT.sIx n 0 lo:Nat):Int)/\(sliceBounds lo hi none n).2.1=((HT.sIx n n hi:Nat):Int)/\(sliceBounds lo hi none n).2.2=1:=by
 refine ⟨?_,?_,rfl⟩
 ·cases lo with
  | none=>rfl
  | some i=>exact HT.clip_two i n 0
 ·cases hi with
  | none=>rfl
  | some i=>exact HT.clip_two i n n
theorem slicePick_cut (its:List Value) (lo hi:Option Int):slicePick its.toArray lo hi none=((its.drop (HT.sIx its.length 0 lo)).take (HT.sIx its.length its.length hi - HT.sIx its.length 0 lo)).toArray:=by
 obtain ⟨h1,h2,h3⟩:=slice_bounds lo hi its.toArray.size
 unfold slicePick
 rw [h1,h2,h3]
 simp only [sliceRange_one,pick_run,List.size_toArray] <;> rfl
def rSlL (K:PySem.W.Frag):V->Option Int->Option Int->Hp->VK->Prop:=fun x lo hi H Q=>∃ a xs,x = .ref a/\SqL K H a xs/\∀ p,H p=none->Q (.ref p) (upd H p (.lst (cutV xs lo hi)))
theorem sl_list:SlR X (rSlL X.K):=by
 intro pins s σ H x v vl vu lo hi sl Q I rx hs pl pu h
 obtain ⟨a,xs,rfl,hx,q⟩:=h
 cases rx
 obtain ⟨its,r,ht,hz⟩:=I.list hx
 have hlen:=r.length
 refine ⟨"list",_,slot_list_getitem.lookup,ht.isList.typeIs,?_⟩
 refine wpAny_getItem_list_slice ht.isList hs pl pu .none (by simp) ?_ (by rw [List.size_toArray] <;> omega)
 rw [slicePick_cut, <- hlen]
 refine ⟨.ref s.heap.objs.size,_,I.laid (t':=s.toks) (o:=.lst (cutV xs lo hi)) (fun b ob q=>Heap.get?_push_of_some _ q) (Nat.le_refl _) ?_,rfl,q _ (I.hok.fresh (Nat.le_refl _))⟩
 exact ⟨Nat.le_trans (cutV_length xs lo hi) hz,_,0,(r.drop (HT.sIx xs.length 0 lo)).take (HT.sIx xs.length xs.length hi - HT.sIx xs.length 0 lo),Heap.get?_push_size _ rfl⟩
theorem call_len_seq:CallR X (.builtin "len") (fun xs H Q=>∃ p ys,xs=[.ref p]/\(SqL X.K H p ys\/SqT X.K H p ys)/\Q (.int ys.length) H):=by
 intro pins s σ H xs us Q I r h
 obtain ⟨p,ys,rfl,hq,q⟩:=h
 obtain ⟨u,rfl,rx⟩:=vals1 r
 cases rx
 have hn:=line63
 rcases hq with hq | hq
 ·obtain ⟨its,r',pl,hz⟩:=I.list hq
  have hlen:=r'.length
  exact Calls.call_len_list pl.isList (by simp only [List.size_toArray] <;> omega) ⟨.int ys.length,H,I.tok _,⟨s.toks + 1,by rw [List.size_toArray,hlen]⟩,q⟩
 ·obtain ⟨its,r',pl,hz⟩:=I.tuple hq
  have hlen:=r'.length
  exact len_tuple pl (by simp only [List.size_toArray] <;> omega) ⟨.int ys.length,H,I.tok _,⟨s.toks + 1,by rw [List.size_toArray,hlen]⟩,q⟩
theorem call_tuple_of:CallR X (.type "tuple") (fun xs H Q=>∃ p ys,xs=[.ref p]/\((SqL X.K H p ys/\∀ l,H l=none->Q (.ref l) (upd H l (.tup ys)))\/(SqT X.K H p ys/\Q (.ref p) H))):=by
 intro pins s σ H xs us Q I r h
 obtain ⟨p,ys,rfl,h⟩:=h
 obtain ⟨u,rfl,rx⟩:=vals1 r
 cases rx
 rcases h with ⟨hq,q⟩ | ⟨hq,q⟩
 ·obtain ⟨its,r',pl,hz⟩:=I.list hq
  have hlen:=r'.length
  refine call_tuple_list pl.isList (fun h' kp=>?_) (by simp only [List.size_toArray] <;> omega)
  have I1:Inv X pins σ H { s with heap:=h' }:=I.kept (t':=s.toks) kp
  have I2:Inv X pins σ (upd H h'.objs.size (.tup ys)) { s with heap:=h'.push { cls:=.type "tuple",data:=.seq its.toArray } } :=
   I1.laid (t':=s.toks) (fun b o e=>Heap.get?_push_of_some _ e) (Nat.le_refl _) (show ObjOk X.prog X.w _ _ _ (.tup ys) from ⟨hz,its,r',IsTup.new _ _⟩)
  exact ⟨.ref h'.objs.size,_,I2,rfl,q _ (I1.hok.fresh (Nat.le_refl _))⟩
 ·obtain ⟨its,r',pl,hz⟩:=I.tuple hq
  exact call_tuple_same pl ⟨.ref p,H,I,rfl,q⟩
def tyV (K:PySem.W.Frag) (T:String) (x:V) (H:Hp):Prop:=match x with
 | .str _=>T = "str"
 | .int _=>T = "int"
 | .ref p=>(T = "list" /\ ∃ xs,SqL K H p xs)\/(T = "tuple" /\ ∃ o,K.lookup p=some o/\o.cls = .type "tuple" /\ o.dict=none) \/
   (T = "dict" /\ ((∃ kvs,H p=some (.dK kvs))\/∃ kvs,H p=some (.dT kvs)))\/(T = "set" /\ ∃ S n,H p=some (.set S n))
 | _=>False
theorem tyV_is {pins:List (Addr × Obj)} {σ:St} {H:Hp} {s:Shared} {T:String} {x:V} {v:Value} (I:Inv X pins σ H s) (r:RelV x v) (ty:tyV X.K T x H) :
    s.TypeIs v T/\∀ a,v = .ref a->∃ ob,s.heap.get? a=some ob/\ob.dict=none:=by
  cases x with
  | str z =>
    obtain ⟨t,rfl⟩:=r
    cases (show T = "str" from ty)
    exact ⟨typeIs_str s z t,fun _ e=>nomatch e⟩
  | int i =>
    obtain ⟨t,rfl⟩:=r
    cases (show T = "int" from ty)
    exact ⟨typeIs_int s i t,fun _ e=>nomatch e⟩
  | ref p =>
    cases r
    rcases ty with ⟨rfl,xs,hq⟩ | ⟨rfl,o,hk,hc,hd⟩ | ⟨rfl,hk⟩ | ⟨rfl,S,n,hk⟩
    . obtain ⟨its,_,pl,_⟩:=I.list hq
      refine ⟨pl.isList.typeIs,fun a e=>?_⟩
      cases e
      obtain ⟨o,n,e,c,hd,_⟩:=pl
      exact ⟨o,e,hd⟩
    . refine ⟨⟨o,I.kIn p o hk,hc⟩,fun a e=>?_⟩
      cases e
      exact ⟨o,I.kIn _ o hk,hd⟩
    . have z:∃ o,s.heap.get? p=some o/\o.ExactDict:=by
        rcases hk with ⟨kvs,hk⟩ | ⟨kvs,hk⟩
        . obtain ⟨_,_,_,_,o,_,_,e,ex,_⟩:=I.hok p _ hk
          exact ⟨o,e,ex⟩
        . obtain ⟨_,_,_,_,o,_,_,e,ex,_⟩:=I.hok p _ hk
          exact ⟨o,e,ex⟩
      obtain ⟨o,e,ex⟩:=z
      refine ⟨⟨o,e,ex.1⟩,fun a e2=>?_⟩
      cases e2
      exact ⟨o,e,ex.2.1⟩
    . obtain ⟨o,_,_,_,e,ex,_⟩:=I.hok p _ hk
      refine ⟨⟨o,e,ex.1⟩,fun a e2=>?_⟩
      cases e2
      exact ⟨o,e,ex.2.1⟩
  | _=>exact False.elim ty
def tBM (K:PySem.W.Frag) (T:String) (r:V->List V->Hp->VK->Prop) (to:TE) (t:TA):TE:=fun σ H Q=>to σ H fun x H1=>tyV K T x H1/\t σ H1 fun xs H2=>r x xs H2 Q
variable {o e:Expr} {es:List Expr} {to:TE} {t:TA} {name:Str} {apos cpos:Pos} {T id:String} {r:V->List V->Hp->VK->Prop}
theorem pe_bm (pa:PlainAttrs T) (slot:Slot T name id) (hty:typeOf (.builtin id)=pure (.type "method_descriptor")) (hm:MtR X id r) (ho:PE X o to) (ha:PA X (e :: es) t)
  (hbase:attributeBase o name X.env (eval o X.env)=eval o X.env:=by rfl)
  (hfew:((backTo cpos (starEach (e :: es) X.env)).all (fun x => !x.1) && (backToKw cpos (keywordEach [] X.env)).all (fun x=>x.1.isSome)
   && decide ((e :: es).length + ([]:List Keyword).length + (if ([]:List Keyword).isEmpty then 0 else 1) < 30))=true:=by rfl)
  (hline:(apos.endLine == cpos.line)=true:=by rfl) (hs:starEach (e :: es) X.env=(false,eval e X.env) :: starEach es X.env:=by rfl) (hplain:(backTo cpos (starEach es X.env)).any (·.1)=false:=by rfl) :
  PE X (.Call (.Attribute o name apos) (e :: es) [] cpos) (tBM X.K T r to t):=by
 intro pins s σ H Q I h
 refine wpAny_Call_method_late hbase hfew hline rfl (thn (ho pins s σ H _ I h) fun v s1 ⟨x,H1,I1,r1,ty,q1⟩=>?_)
 obtain ⟨h1,h2⟩:=tyV_is I1 r1 ty
 refine ⟨T,id,pa,slot,hty,h1,h2,?_⟩
 have hA:=ha cpos pins s1 σ H1 _ I1 q1
 rw [hs] at hA ⊢
 refine Calls.callWith_builtin (by show (false || (backTo cpos (starEach es X.env)).any (·.1))=false;rw [hplain] <;> rfl) (Calls.evalArgs_plain ?_)
 exact thn hA fun us s2 ⟨vs,H2,I2,r2,q2⟩=>hm pins s2 σ H2 x vs v us Q I2 r1 r2 q2
end
end L2
namespace L2
open PySem PySem.Spec PyProof.Rows
def MtM (X:Cx) (id:String) (r:V->List V->Hp->VK->Prop):Prop :=
 ∀ (pins:List (Addr × Obj)) (s:Shared) (σ:St) (H:Hp) (x:V) (xs:List V) (v:Value) (us:List Value) (Q:VK),Inv X pins σ H s->RelV x v->Vals xs us->r x xs H Q ->
  wpAny (model X.prog X.w) X.A (call (.builtin id) (v :: us)) (EP X pins σ Q) X.xe s
theorem Vals.one:∀ {x:V} {us:List Value},Vals [x] us->∃ u,us=[u]/\RelV x u
 | _,_,.cons r .nil=>⟨_,rfl,r⟩
section
variable {X:Cx} {pins:List (Addr × Obj)} {σ:St} {H:Hp} {s:Shared} {l b:Addr} {xs ys zs:List V}
theorem Inv.lset {its its':List Value} {n:Nat} {f:Array Value->Array Value} {t':Nat} (I:Inv X pins σ H s) (hH:H l=some (.lst xs))
  (e:s.heap.get? l=some { cls:=.type "list",data:=.seq its.toArray n }) (hf:f its.toArray=its'.toArray) (hv:Vals ys its') (hz:ys.length<=sizeLine) :
  Inv X pins σ (upd H l (.lst ys)) { s with heap:=s.heap.update l (Obj.mapSeq f),toks:=t' }:=by
 have q:=PySem.IsL.update e f
 rw [hf] at q
 refine I.write (x:=l) (e:=l) (by rw [hH];exact trivial) (.inl rfl) (fun b' u hb hu=>(Heap.get?_update_other s.heap (Obj.mapSeq f) (Ne.symm hb)).trans hu) ⟨_,q⟩ ?_
 exact ⟨hz,its',_,hv,q⟩
theorem Inv.lnew {its:List Value} {t':Nat} (I:Inv X pins σ H s) (hv:Vals ys its) (hz:ys.length<=sizeLine) :
  Inv X pins σ (upd H s.heap.objs.size (.lst ys)) { s with heap:=s.heap.push { cls:=.type "list",data:=.seq its.toArray },toks:=t' } :=
 I.laid (fun _ _ q=>Heap.get?_push_of_some _ q) (Nat.le_refl _) ⟨hz,its,0,hv,Heap.get?_push_size _ rfl⟩
theorem Inv.fresh (I:Inv X pins σ H s):H s.heap.objs.size=none:=I.hok.fresh (Nat.le_refl _)
theorem Inv.lstM (I:Inv X pins σ H s) (hH:H l=some (.lst xs)):xs.length<=sizeLine/\∃ (its:List Value) (n:Nat),Vals xs its/\xs.length=its.length/\s.heap.get? l=some { cls:=.type "list",data:=.seq its.toArray n }:=by
 obtain ⟨z,its,n,r,e⟩:=I.hok l _ hH
 exact ⟨z,its,n,r,r.length,e⟩
theorem notLongL {n:Nat} (h:n<=sizeLine):Builtin.List.listTooLong n=false:=by
 unfold Builtin.List.listTooLong
 exact decide_eq_false (by omega)
end
section
variable {X:Cx}
def rAppend:V->List V->Hp->VK->Prop:=fun x vs H Q=>∃ l xs y,x = .ref l/\vs=[y]/\H l=some (.lst xs)/\xs.length < sizeLine/\Q .non (upd H l (.lst (xs ++ [y])))
theorem mt_append:MtM X "list.append" rAppend:=by
 intro pins s σ H x vs v us Q I rx rv h
 obtain ⟨l,xs,y,rfl,rfl,hH,hz,q⟩:=h
 cases rx
 obtain ⟨u,rfl,ru⟩:=rv.one
 obtain ⟨z,its,n,r,hl,e⟩:=I.lstM hH
 refine call_meets F.slot_list_append ⟨_,e,rfl⟩ F.entry_list_append (F.args_list_append_2 _ _) (PySem.list_append l its.toArray n u (by rw [List.size_toArray];omega)) ⟨e,?_⟩
 refine ⟨.non,_,I.lset (its':=its ++ [u]) hH e (by simp) (r.append (.cons ru .nil)) ?_,rfl,q⟩
 rw [List.length_append,List.length_singleton]
 omega
def rExtend:V->List V->Hp->VK->Prop:=fun x vs H Q=>∃ l b xs zs,x = .ref l/\vs=[.ref b]/\H l=some (.lst xs)/\H b=some (.lst zs)/\xs.length + zs.length<=sizeLine/\Q .non (upd H l (.lst (xs ++ zs)))
theorem mt_extend:MtM X "list.extend" rExtend:=by
 intro pins s σ H x vs v us Q I rx rv h
 obtain ⟨l,b,xs,zs,rfl,rfl,hH,hB,hz,q⟩:=h
 cases rx
 obtain ⟨u,rfl,ru⟩:=rv.one
 cases ru
 obtain ⟨z,its,n,r,hl,e⟩:=I.lstM hH
 obtain ⟨z2,its2,n2,r2,hl2,e2⟩:=I.lstM hB
 have hsz:its.toArray.size + its2.toArray.size<=sizeLine:=by rw [List.size_toArray,List.size_toArray];omega
 have hlong:¬ (!its.toArray.isEmpty && Builtin.List.listTooLong (its.toArray.size + its2.toArray.size))=true:=by
  rw [notLongL hsz,Bool.and_false]
  exact Bool.false_ne_true
 refine call_meets F.slot_list_extend ⟨_,e,rfl⟩ F.entry_list_extend (F.args_list_extend_2 _ _)
  (AutoSeq1.list_extend_list_list_0 l its.toArray n b its2.toArray n2 hlong (by rw [List.size_toArray];omega) (by omega)) ⟨e,e2,?_⟩
 refine ⟨.non,_,I.lset (its':=its ++ its2) hH e (by simp) (r.append r2) ?_,rfl,q⟩
 rw [List.length_append]
 omega
def rCat:R2:=fun x y H Q=>∃ l b xs zs,x = .ref l/\y = .ref b/\H l=some (.lst xs)/\H b=some (.lst zs)/\xs.length + zs.length<=sizeLine/\∀ p,H p=none->Q (.ref p) (upd H p (.lst (xs ++ zs)))
theorem op_cat:OpR X (binaryOp .Add) rCat:=by
 intro pins s σ H x y v u Q I rx ry h
 obtain ⟨l,b,xs,zs,rfl,rfl,hH,hB,hz,q⟩:=h
 cases rx
 cases ry
 obtain ⟨z,its,n,r,hl,e⟩:=I.lstM hH
 obtain ⟨z2,its2,n2,r2,hl2,e2⟩:=I.lstM hB
 refine PySem.P.add_list e e2 ?_ (by rw [List.size_toArray,List.size_toArray];omega)
 have ea:its.toArray ++ its2.toArray=(its ++ its2).toArray:=by simp
 rw [ea]
 exact ⟨.ref _,_,I.lnew (t':=s.toks) (r.append r2) (by rw [List.length_append];omega),rfl,q _ I.fresh⟩
end
section
variable {prog:Program} {w:World} {A:Around} {E:Value->Shared->Prop} {s:Shared}
end
section
variable {X:Cx}
end
end L2
namespace Att
open PySem PySem.W PySem.Calls PyProof.Rows
theorem ints_of_wellAll {P:Params} {h:Heap}:∀ (ns:List Int) (vs:List Value),WellAll P h vs (ns.map WData.int)->IntsAre vs ns:=by
  intro ns
  induction ns with
  | nil =>
    intro vs w
    rw [List.map_nil] at w
    cases w
    exact .nil
  | cons n ns ih =>
    intro vs w
    rw [List.map_cons] at w
    cases w with
    | cons a b =>
      cases a
      exact .cons _ _ (ih _ b)
theorem script_of {l:OpenLaw} {n:Nat} (hn:l.most=some n) {P:Params} {h:Heap} {args:List WData} {vals:List Value}
    (hpre:l.row.toRowW.claim.pre args=true) (hwl:WellAll P h vals args) :
    ∃ a vs ns,vals=[Value.ref a]/\args=[WData.list (ns.map WData.int)]/\h.get? a=some { cls:=.type "list",data:=.seq vs.toArray }/\IntsAre vs ns/\ns.length<=n:=by
  have hsh:WShape.hasAll [] args [.list .int]=true:=(pre_splitW hpre).1
  have hc:l.pre.holds [] { args:=args }=true:=(pre_splitW hpre).2
  obtain ⟨d,r,rfl,h1,h2⟩:=hasAllW_cons hsh
  obtain rfl:=hasAllW_nil h2
  obtain ⟨xs,rfl,h3⟩:=hasW_list h1
  obtain ⟨ns,rfl⟩:=items_int h3
  have hlen:ns.length<=n:=by
    unfold OpenLaw.pre at hc
    have h4:(WTm.not (.lt (.lit (.int (n:Int))) (.len (.arg 0)))).holds [] { args:=[.list (ns.map .int)] }=true:=by
      have h4:=(holds_andW hc).1
      rw [hn] at h4
      exact h4
    have h5:=condW_of h4 (w_not (w_lt w_lit (w_len_list (w_arg rfl))))
    rw [List.length_map] at h5
    refine Nat.le_of_not_lt fun q=>?_
    have q':(n:Int) < ((ns.length:Nat):Int):=by omega
    first
      | (rw [decide_eq_true q'] at h5;exact absurd h5 (by decide))
      | (simp at h5;omega)
  cases hwl with
  | cons w1 w2 =>
    cases w2
    cases w1 with
    | list ho hall=>exact ⟨_,_,ns,rfl,rfl,ho,ints_of_wellAll ns _ hall,hlen⟩
theorem post_true (l:OpenLaw) (args:List WData):l.row.toRowW.claim.post args (.bool true) args=true :=
 postW_of (r:=l.row.toRowW) (X:=(true == true))
  (show WShape.has [] (.bool true) .bool=true by first | rfl | decide | simp [WShape.has,WShape.arms,WShape.armsAll])
  (show (WTm.eq .res (.lit (.bool true))).value [] { args:=args,res:=some (.bool true),after:=args }=some (.bool (true == true)) from w_eq_bool (w_res rfl) w_lit) rfl
section
variable {prog:Program} {w:World} {A:Around} {E:Value->Shared->Prop} {s:Shared} {K:Frag}
end
end Att
namespace L2
open PySem PySem.Spec PyProof.Rows
theorem vals_ints:∀ {vs:List Value} {ns:List Int},IntsAre vs ns->Vals (ns.map V.int) vs
 | _,_,.nil=>.nil
 | _,_,.cons n t h=>.cons ⟨t,rfl⟩ (vals_ints h)
def Only (H:Hp):Prop:=∀ b,H b=none\/∃ o xs,H b=some (.frz o (.lst xs))
theorem law_call {P:Program} {w:World} {K:PySem.W.Frag} {mg mb:Str->Option Value} {CX:CXT} {k:Nat} {fa a:Addr} {fd:FuncData} {x:Str} {sp:Sp} {s₁:Shared} {vs:List Value} {ns:List Int}
    (KX:K.In s₁.heap) (hns:s₁.heap.Ns mainGlobals mg) (hb:s₁.heap.Ns builtinsNs mb) (hbb:∀ x:Str,x ≠ "__name__" -> mb x=bootBuiltins x) (hlim:s₁.heap.NoLimit) (hg:s₁.gens = #[])
    (ha:s₁.heap.get? a=some { cls:=.type "list",data:=.seq vs.toArray }) (hi:IntsAre vs ns) (hl:ns.length<=sizeLine) (hr:Room k callerA)
    (F:∀ base:Heap,K.In base->base.Ns mainGlobals mg->FnOk P w K mg base CX k fa fd [x] sp) (hbind:∀ (s:Shared) (u:Value),BindsTo s fd ⟨[u],[]⟩ [(x,u)])
    (hsp:∀ H:Hp,Only H->SqL K H a (ns.map V.int)->sp [.ref a] H (fun v _=>v = .bl true) fun _ _ _=>False)
    (hCX:∀ H e s',CX [] H s₁ (fun _ _ _=>False) e s'->False) :
    codeAny (model P w) callerA (.call (.ref fa) ⟨[.ref a],[]⟩) (fun r s'=>r = .ok (.ret (.bool true))/\OldK s₁.heap s'.heap/\s'.os=s₁.os/\AllBare s'.gens) s₁:=by
  have rv:=vals_ints hi
  have lenV:=hi.length
  have core : ∀ H : Hp, Only H -> SqL K H a (ns.map V.int) -> HOk P w H s₁.heap -> (∀ b, H b ≠ none -> b = a) -> (H a ≠ none -> K.lookup a = none) ->
      codeAny (model P w) callerA (.call (.ref fa) ⟨[.ref a],[]⟩) (fun r s'=>r = .ok (.ret (.bool true))/\OldK s₁.heap s'.heap/\s'.os=s₁.os/\AllBare s'.gens) s₁:=by
    intro H hO hS hok hA hK
    have base_of:∀ {b:Addr} {o:Obj},s₁.heap.get? b=some o->H b=none->(hidT s₁.heap H).get? b=some o:=fun e n=>hidT_get e n
    have noA:∀ {b:Addr} {o:Obj} {es:Array DictEntry} {ep:Nat},s₁.heap.get? b=some o->o.data = .dict es ep->H b=none:=fun {b o es ep} e d=>by
      cases q:H b with
      | none=>rfl
      | some u =>
        have e':b=a:=hA b (by rw [q];simp)
        subst e'
        rw [ha] at e;cases e
        have d':Data.seq vs.toArray _=Data.dict es ep:=d
        cases d'
    have nsK:∀ {b:Addr} {m:Str->Option Value},s₁.heap.Ns b m->(hidT s₁.heap H).Ns b m:=fun {b m} ⟨o,es,ep,e,d,r⟩=>⟨o,es,ep,base_of e (noA e d),d,r⟩
    have hKb:K.In (hidT s₁.heap H):=fun b o e=>base_of (KX b o e) (by
      cases q:H b with
      | none=>rfl
      | some u =>
        have e':b=a:=hA b (by rw [q];simp)
        subst e'
        rw [hK (by rw [q];simp)] at e;cases e)
    have hM:Mod K mg (hidT s₁.heap H):=⟨hKb,nsK hns,⟨mb,nsK hb,hbb⟩,let ⟨mc,h1,h2⟩:=hlim;⟨mc,nsK h1,h2⟩⟩
    have e0:Env0 P w K mg (hidT s₁.heap H) callerA [] s₁ H:=⟨rfl,hM,fun b o e=>of_hidT e,Nat.le_of_eq (hidT_size _ _),trivial,fun b hb=>absurd (show b ∈ ([]:List Addr) from hb) (by simp),hok,.of_eq hg⟩
    refine codeAny_mono ((F _ hKb (nsK hns)).run callerA [] s₁ H ⟨[.ref a],[]⟩ [.ref a] [.ref a] _ _ hr e0 (hbind s₁ (.ref a)) (.cons rfl .nil) (hsp H hO hS)) fun r s' h=>?_
    cases r with
    | error e=>exact (hCX H e s' h).elim
    | ok fl =>
      cases fl with
      | next=>exact False.elim h
      | brk=>exact False.elim h
      | cont=>exact False.elim h
      | ret u =>
        obtain ⟨v,H',os,bare,un,hok',r',q⟩:=h
        have q':v = .bl true:=q
        subst q'
        obtain rfl:u=Value.bool true:=r'
        refine ⟨rfl,OldK.of_keep fun b o e=>?_,os,bare⟩
        cases q:H b with
        | none=>exact un.keep b o e q (by intro z;exact absurd (show b ∈ ([]:List Addr) from z) (by simp)) (by simp)
        | some u =>
          rcases hO b with z | ⟨ob,xs,z⟩
          . rw [q] at z;cases z
          . have z2:=un.frzs b ob _ z
            obtain ⟨e1,_⟩:=hok b _ z
            obtain ⟨e2,_⟩:=hok' b _ z2
            rw [e] at e1;cases e1
            exact e2
  cases hk:K.lookup a with
  | some o =>
    have e:=KX a o hk
    rw [ha] at e
    cases e
    refine core (fun _=>none) (fun _=>.inl rfl) (.inr ⟨_,vs.toArray,_,hk,rfl,rfl,rfl,by rw [List.size_toArray,lenV];exact hl,by simpa using rv⟩) (fun b u z=>by have z':(none:Option HO)=some u:=z;cases z') (fun b z=>absurd rfl z) fun z=>absurd rfl z
  | none =>
    refine core (fun b=>if b=a then some (.frz { cls:=.type "list",data:=.seq vs.toArray } (.lst (ns.map V.int))) else none) (fun b=>?_) (.inl (.inr ⟨{ cls:=.type "list",data:=.seq vs.toArray },if_pos rfl⟩)) (fun b u z=>?_) (fun b z=>?_) fun _=>hk
    . by_cases hb:b=a
      . exact .inr ⟨_,_,if_pos hb⟩
      . exact .inl (if_neg hb)
    . by_cases hb:b=a
      . have z':=(if_pos hb).symm.trans z
        cases z'
        subst hb
        exact ⟨ha,by rw [List.length_map];exact hl,vs,_,rv,ha⟩
      . have z':=(if_neg hb).symm.trans z
        cases z'
    . by_cases hb:b=a
      . exact hb
      . exact absurd (if_neg hb) z
end L2
namespace L2
open PySem PySem.Spec PyProof.Rows
end L2
namespace L2
open PySem PySem.Spec PyProof.Rows
def defArgs (s:Stmt):Arguments:=match s with
 | .FunctionDef _ a _ _ _ _ _ _ _ _=>a
 | _=>{ posonlyargs:=[],args:=[],vararg:=none,kwonlyargs:=[],kw_defaults:=[],kwarg:=none,defaults:=[] }
def defBody (s:Stmt):List Stmt:=match s with
 | .FunctionDef _ _ b _ _ _ _ _ _ _=>b
 | _=>[]
def defScope (s:Stmt):Scope:=match s with
 | .FunctionDef _ _ _ _ _ _ sc _ _ _=>sc
 | _=>{ kind:=.function,names:=[],isGenerator:=false,isCoroutine:=false }
abbrev CX0:CXT:=fun _ _ _ _ _ _=>False
abbrev E0:XK:=fun _ _ _=>False
theorem pass0 {X:Cx}:Passes CX0 X E0:=fun _ _ _ _ _ _ _ h=>h.elim
structure Fun (K:PySem.W.Frag) (x qual:Str) (st:Stmt) (f:Addr) (fd:FuncData):Prop where
 ex:∃ (oc:Value) (od:Option Addr) (kV doc pm:Value) (an:Option Addr) (cdv ct:Value) (osl:Array (Option Value)),
  fd=PySem.W.fnOf x qual (defArgs st) (defBody st) (defScope st) .none kV doc pm an cdv ct/\K.lookup f=some ⟨oc,od,.func fd,osl⟩/\PySem.W.codeIn K cdv qual=true
 kp:PySem.W.keepIn K (.ref f)=true
section
variable {P:Program} {w:World} {K:PySem.W.Frag} {mg:Str->Option Value} {base:Heap}
theorem Fun.ok {x qual:Str} {st:Stmt} {f:Addr} {fd:FuncData} {N ps:List Str} {k:Nat} {sp:Sp} (F:Fun K x qual st f fd) (S:FnScope N ps (defScope st)) (len:∀ vs H Q E,sp vs H Q E->vs.length=ps.length)
  (hbody:∀ (cdv:Value) (A:Around) (outer:List Env) (s:Shared) (H:Hp) (vs:List V) (Q:VK) (E:XK),Room k (A.deeper (envOfC qual (defScope st) s.heap.objs.size f cdv))->sp vs H Q E ->
   ∃ t,PSs (cxOf CX0 P w K mg base N qual (defScope st) f cdv A outer s H E).nox (defBody st) t/\t { nx:=fun _ H'=>Q .non H',rt:=Q } (start N vs) H):FnOk P w K mg base CX0 (k + 1) f fd ps sp:=by
 obtain ⟨oc,od,kV,doc,pm,an,cdv,ct,osl,rfl,lk,hcd⟩:=F.ex
 refine fn_of lk hcd S len fun A outer s H vs Q E hr hsp=>?_
 obtain ⟨t,h,q⟩:=hbody cdv A outer s H vs Q E hr hsp
 exact ⟨t,h.nox,q⟩
theorem Fun.binds {x qual:Str} {st:Stmt} {f:Addr} {fd:FuncData} {ps:List Str} (F:Fun K x qual st f fd)
  (h:∀ (kV doc pm:Value) (an:Option Addr) (cdv ct:Value) (us:List Value),us.length=ps.length->bindArgs (PySem.W.fnOf x qual (defArgs st) (defBody st) (defScope st) .none kV doc pm an cdv ct) ⟨us,[]⟩=pure (ps.zip us)):Binds K fd ps []:=by
 obtain ⟨oc,od,kV,doc,pm,an,cdv,ct,osl,rfl,lk,hcd⟩:=F.ex
 exact .all (h kV doc pm an cdv ct)
theorem fun_mk {x qual:Str} {st:Stmt} {f:Addr} {oc:Value} {od an:Option Addr} {osl:Array (Option Value)} {kV doc pm cdv ct:Value} (l:K.lookup f=some ⟨oc,od,.func (PySem.W.fnOf x qual (defArgs st) (defBody st) (defScope st) .none kV doc pm an cdv ct),osl⟩)
  (c:PySem.W.codeIn K cdv qual=true) (k:PySem.W.keepIn K (.ref f)=true):Fun K x qual st f (PySem.W.fnOf x qual (defArgs st) (defBody st) (defScope st) .none kV doc pm an cdv ct):=⟨⟨oc,od,kV,doc,pm,an,cdv,ct,osl,rfl,l,c⟩,k⟩
end
theorem small1000 {n:Nat} (h:n<=1000):n < sizeLine:=Nat.lt_of_le_of_lt h (by decide)
section
variable {X:Cx}
end
theorem iteT {A B:Prop} (h:A):if true=true then A else B:=by
 rw [if_pos rfl]
 exact h
theorem ite2 {c A B:Prop} [Decidable c] (h1:c->A) (h2:¬ c->B):if c then A else B:=by
 by_cases h:c
 ·rw [if_pos h]
  exact h1 h
 ·rw [if_neg h]
  exact h2 h
def Same (H H':Hp):Prop:=∀ b o,H b=some o->H' b=some o
theorem Same.refl (H:Hp):Same H H:=fun _ _ h=>h
theorem Same.trans {H H1 H2:Hp} (a:Same H H1) (b:Same H1 H2):Same H H2:=fun c o h=>b c o (a c o h)
theorem Same.free {H H':Hp} (e:Same H H') {l:Addr} (h:H' l=Option.none):H l=Option.none:=by
  cases q:H l with
  | none=>rfl
  | some o =>
    rw [e l o q] at h
    cases h
theorem Same.seq {K:PySem.W.Frag} {H H':Hp} {a:Addr} {xs:List V} (e:Same H H') (h:SqL K H a xs):SqL K H' a xs:=by
 rcases h with (h | ⟨o,h⟩) | h
 ·exact .inl (.inl (e _ _ h))
 ·exact .inl (.inr ⟨o,e _ _ h⟩)
 ·exact .inr h
end L2
end
section
namespace L2
open PySem PySem.Spec PyProof.Rows
section
variable {κ:Type} [DecidableEq κ]
end
section
end
section
variable {X:Cx} {o:Option V}
end
section
variable {X:Cx}
end
section
variable {X:Cx} {o e:Expr}
end
section
variable {X:Cx}
end
structure M1 (X:Cx) (o:Expr) (m:Str) (apos:Pos) (e:Expr) (cpos:Pos):Prop where
 base:attributeBase o m X.env (eval o X.env)=eval o X.env
 few:((backTo cpos (starEach [e] X.env)).all (fun x => !x.1) && (backToKw cpos (keywordEach [] X.env)).all (fun x=>x.1.isSome)
  && decide (([e]:List Expr).length + ([]:List Keyword).length + (if ([]:List Keyword).isEmpty then 0 else 1) < 30))=true
 line:(apos.endLine == cpos.line)=true
 trees:backTo cpos (starEach [e] X.env)=[(false,eval e X.env)]
section
variable {X:Cx} {o:Option V}
end
section
variable {X:Cx} {o e:Expr} {apos cpos:Pos}
end
section
variable {X:Cx}
end
section
variable {X:Cx}
end
end L2
namespace L2
open PySem PySem.Spec PyProof.Rows
section
variable {X:Cx}
end
section
variable {κ:Type} [DecidableEq κ]
end
end L2
end
section
namespace L2
open PySem PySem.Spec PyProof.Rows
section
variable {prog:Program} {w:World} {A:Around} {R:Result->Shared->Prop} {s:Shared}
theorem compLoop_any {elt target iter:Expr} {ifs:List Expr} {scope:Scope} {pos:Pos} {it acc:Value} {env:Env} (I:Nat->Shared->Prop)
    (turn : ∀ n s, I n s -> wpAny (model prog w) A (pyNext it) (fun r s₁ => match r with
      | none=>R (.ok .next) s₁
      | some v=>wpAny (model prog w) A (letOwnedTupleGo target it v) (fun _ s₁=>wpAny (model prog w) A (assign target env v) (fun _ s₂ =>
          wpAny (model prog w) A (forIn ifs true fun c r=>if r=true then do let ok <- isTrue c env (eval c env);pure (ForInStep.yield ok) else pure (ForInStep.yield r)) (fun ok s₃ =>
            if ok=true then wpAny (model prog w) A (eval elt env) (fun x s₄ =>
              wpAny (model prog w) A (call (.builtin "list.append") [acc,x]) (fun _ s₅=>∃ m,m < n/\I m s₅) (fun _ _=>False) s₄) (fun _ _=>False) s₃
            else ∃ m,m < n/\I m s₃) (fun _ _=>False) s₂) (fun _ _=>False) s₁) (fun _ _=>False) s₁) (fun _ _=>False) s)
    (n:Nat) (h:I n s) :
    codeAny (model prog w) A (.compLoop (.ListComp elt [⟨target,iter,ifs,0⟩] scope pos) 0 it acc env) R s:=by
  refine codeAny_loop rfl I (fun n s hI=>?_) n h
  show wpAny _ A ((compTurn (.ListComp elt [⟨target,iter,ifs,0⟩] scope pos) 0 it acc env).onRaise (fun x=>do noteFrame x env;theTreesLotGoes x)) _ _ s
  refine wpAny_noted ?_
  rw [compTurn_list]
  refine wpAny_bind (wpAny_standAt (wpAny_bind (wpAny_mono (turn n s hI) (fun r s₁ h₁=>?_) fun _ _ h'=>h'.elim)))
  cases r with
  | none=>exact wpAny_pure h₁
  | some v =>
    refine wpAny_bind (wpAny_mono h₁ (fun _ s₁ h₁=>?_) fun _ _ h'=>h'.elim)
    refine wpAny_bind (wpAny_mono h₁ (fun _ s₂ h₂=>wpAny_bind (wpAny_mono h₂ (fun ok s₃ h₃=>?_) fun _ _ h'=>h'.elim)) fun _ _ h'=>h'.elim)
    cases ok with
    | false=>exact wpAny_pure ⟨rfl,h₃⟩
    | true =>
      exact wpAny_bind (wpAny_bind (wpAny_mono h₃ (fun x s₄ h₄=>wpAny_bind (wpAny_mono h₄ (fun _ s₅ h₅=>wpAny_pure (wpAny_pure ⟨rfl,h₅⟩)) fun _ _ h'=>h'.elim)) fun _ _ h'=>h'.elim))
end
def clOf (cells:List (Str × Addr)):List (Str × NameKind)->List (Str × Addr)->List (Str × Addr)
 | [],acc=>acc
 | (n,k) :: r,acc=>clOf cells r (if k == .free then match cells.lookup n with | some c=>(n,c) :: acc | none=>acc else acc)
theorem closureFor_go {env:Env}:∀ (names:List (Str × NameKind)) (acc:List (Str × Addr)),(∀ y ∈ names,y.2 = .free->∃ c,env.cells.lookup y.1=some c) ->
    (forIn names acc (fun (x:Str × NameKind) (cs:List (Str × Addr))=>(if x.2 == .free then (do let a <- cellOf env x.1;pure (ForInStep.yield ((x.1,a) :: cs))) else pure (ForInStep.yield cs):Sem (ForInStep (List (Str × Addr))))))=pure (clOf env.cells names acc)
  | [],acc,_=>rfl
  | (n,k) :: r,acc,h=>by
    rw [List.forIn_cons]
    have hr:=fun a=>closureFor_go r a fun y hy=>h y (List.mem_cons_of_mem _ hy)
    by_cases hk:k = .free
    . subst hk
      obtain ⟨c,e⟩:=h (n,.free) List.mem_cons_self rfl
      have ec:cellOf env n=pure c:=by unfold cellOf;rw [e]
      simp only [beq_self_eq_true,if_true,ec,clOf,e]
      exact hr _
    . have hb:(k == NameKind.free)=false:=by simpa using hk
      simp only [hb,Bool.false_eq_true,if_false,clOf]
      exact hr _
theorem closureFor_eq {scope:Scope} {env:Env} (h:∀ y ∈ scope.names,y.2 = .free->∃ c,env.cells.lookup y.1=some c):closureFor scope env=pure (clOf env.cells scope.names []):=by
 have q:=closureFor_go (env:=env) scope.names [] h
 unfold closureFor
 show (forIn scope.names [] _ >>= fun cs=>pure cs)=_
 first
  | (rw [show (forIn scope.names [] _:Sem (List (Str × Addr)))=_ from q];rfl)
  | (erw [q];rfl)
end L2
end
section
namespace L2
open PySem PySem.Spec PyProof.Rows
def maskS (y:Str):Str:=⟨#[0] ++ y.cps⟩
def maskN (own N:List Str):List Str:=own ++ N.map fun y=>if own.contains y then maskS y else y
def cxComp (X:Cx) (own:List Str) (scope:Scope) (C:Addr) (fp:List Addr) (s:Shared) (H:Hp):Cx :=
 { X with N:=maskN own X.N,s₀:=s,H₀:=H,env:=compEnvC scope (clOf X.env.cells scope.names []) C X.env,outer:=X.stack,stack:=X.stack,ex:=fp,fn:=fun x=>own.contains x,pn:=[],xe:=fun _ _=>False }
structure CompScope (own N:List Str) (sc scope:Scope):Prop where
 nd:(maskN own N).Nodup
 kind:scope.kind = .function
 nocell:∀ y ∈ scope.names,y.2 ≠ .cell
 loc:∀ y ∈ scope.names,y.2 = .local->scope.names.lookup y.1=some .local
 fr:∀ y ∈ scope.names,y.2 = .free->scope.names.lookup y.1=some .free
 up:∀ y ∈ scope.names,y.2 = .free->sc.names.lookup y.1=some .cell\/sc.names.lookup y.1=some .free
 ow:∀ x ∈ own,scope.names.lookup x=some .local
 mask:∀ x ∈ own,scope.names.lookup (maskS x)=none
 only:∀ y ∈ scope.names,y.2 = .local->y.1 ∈ own\/y.1 ∉ N
theorem lookup_mem {β:Type}:∀ {l:List (Str × β)} {x:Str} {k:β},l.lookup x=some k->(x,k) ∈ l
  | [],_,_,h=>by simp at h
  | (n,k') :: r,x,k,h=>by
    rw [List.lookup_cons] at h
    by_cases e:x=n
    . subst e;simp at h;subst h;exact List.mem_cons_self
    . have:(x == n)=false:=by simpa using e
      rw [this] at h
      exact List.mem_cons_of_mem _ (lookup_mem h)
theorem clOf_spec {cells:List (Str × Addr)}:∀ (names:List (Str × NameKind)) (acc:List (Str × Addr)) (x:Str) (c:Addr),(clOf cells names acc).lookup x=some c->(cells.lookup x=some c/\(x,NameKind.free) ∈ names)\/acc.lookup x=some c
  | [],acc,x,c,h=>.inr h
  | (n, k) :: r, acc, x, c, h => by
    rw [clOf] at h
    rcases clOf_spec r _ x c h with ⟨h1,h2⟩ | h1
    . exact .inl ⟨h1,List.mem_cons_of_mem _ h2⟩
    . by_cases hk:k = .free
      . subst hk
        simp only [beq_self_eq_true,if_true] at h1
        cases e:cells.lookup n with
        | none=>rw [e] at h1;exact .inr h1
        | some c' =>
          rw [e] at h1
          dsimp only at h1
          rw [List.lookup_cons] at h1
          by_cases ex:x=n
          . subst ex;simp at h1;subst h1;exact .inl ⟨e,List.mem_cons_self⟩
          . have:(x == n)=false:=by simpa using ex
            rw [this] at h1;exact .inr h1
      . have hb:(k == NameKind.free)=false:=by simpa using hk
        rw [hb] at h1;exact .inr h1
theorem clOf_acc {cells:List (Str × Addr)}:∀ (names:List (Str × NameKind)) (acc:List (Str × Addr)) (x:Str),(acc.lookup x).isSome=true->((clOf cells names acc).lookup x).isSome=true
  | [],acc,x,h=>h
  | (n, k) :: r, acc, x, h => by
    rw [clOf]
    refine clOf_acc r _ x ?_
    split
    . split
      . rw [List.lookup_cons];split
        . rfl
        . exact h
      . exact h
    . exact h
theorem clOf_has {cells:List (Str × Addr)}:∀ (names:List (Str × NameKind)) (acc:List (Str × Addr)) (x:Str) (c:Addr),(x,NameKind.free) ∈ names->cells.lookup x=some c->((clOf cells names acc).lookup x).isSome=true
  | (n,k) :: r,acc,x,c,hm,e=>by
    rw [clOf]
    rcases List.mem_cons.mp hm with z | z
    . cases z
      refine clOf_acc r _ _ ?_
      simp [e]
    . exact clOf_has r _ x c z e
section
variable {X:Cx} {own:List Str} {scope:Scope} {C:Addr} {fp:List Addr} {s:Shared} {H:Hp}
theorem relabel_lookup {env:Env}:∀ {names:List (Str × NameKind)} {x:Str} {k:NameKind},
    (names.map fun (n,k)=>if (k == NameKind.free && env.scope.kind == .function && env.kindOf n == some .cell) then (n,NameKind.cell) else (n,k)).lookup x=some k ->
    ∃ k',names.lookup x=some k'/\(k=k'\/(k = .cell/\k' = .free))
  | [],_,_,h=>by simp at h
  | (n, k0) :: r, x, k, h => by
    have ih:=@relabel_lookup env r x k
    rw [List.map_cons] at h
    by_cases ex:x=n
    . subst ex
      refine ⟨k0,by simp,?_⟩
      dsimp only at h
      split at h
      . rename_i hc
        simp at h
        have:k0 = .free:=by
          simp only [Bool.and_eq_true,beq_iff_eq] at hc
          exact hc.1.1
        exact .inr ⟨h.symm,this⟩
      . simp at h;exact .inl h.symm
    . have hb:(x == n)=false:=by simpa using ex
      have h2:(r.map fun (n,k)=>if (k == NameKind.free && env.scope.kind == .function && env.kindOf n == some .cell) then (n,NameKind.cell) else (n,k)).lookup x=some k:=by
        dsimp only at h
        split at h <;> (rw [List.lookup_cons,hb] at h;exact h)
      obtain ⟨k',e,q⟩:=ih h2
      exact ⟨k',by rw [List.lookup_cons,hb];exact e,q⟩
theorem relabel_local {env:Env} {x:Str}:(relabel scope env).names.lookup x=some .local->scope.names.lookup x=some .local:=fun h=>by
 obtain ⟨k',e,q⟩:=relabel_lookup (env:=env) h
 rcases q with q | ⟨q,_⟩
 ·rw [e, <- q]
 ·cases q
theorem relabel_cf {env:Env} {x:Str} (nc:∀ y ∈ scope.names,y.2 ≠ .cell):((relabel scope env).names.lookup x=some .cell\/(relabel scope env).names.lookup x=some .free)->scope.names.lookup x=some .free:=fun h=>by
 rcases h with h | h
 ·obtain ⟨k',e,q⟩:=relabel_lookup (env:=env) h
  rcases q with q | ⟨_,q⟩
  ·rw [<- q] at e;exact absurd rfl (nc _ (lookup_mem e))
  ·rw [e,q]
 ·obtain ⟨k',e,q⟩:=relabel_lookup (env:=env) h
  rcases q with q | ⟨q,_⟩
  ·rw [e, <- q]
  ·cases q
theorem cxComp_ok {pins:List (Addr × Obj)} {σ:St} (S:CompScope own X.N X.env.scope scope) (I:Inv X pins σ H s) (hC:s.heap.objs.size<=C) (hf:∀ b ∈ fp,FpOk X pins H b) (ho:∀ b ∈ fp,∃ o,s.heap.get? b=some o):(cxComp X own scope C fp s H).Ok:=by
 have cl:∀ x c,(clOf X.env.cells scope.names []).lookup x=some c->X.env.cells.lookup x=some c/\(x,NameKind.free) ∈ scope.names:=fun x c e=>by
  rcases clOf_spec _ _ _ _ e with q | q
  ·exact q
  ·simp at q
 refine ⟨I.ok.mod,S.kind,I.ok.glob,I.ok.blt,hC,fun x y c h1 h2=>I.ok.inj x y c (cl x c h1).1 (cl y c h2).1,fun x hx=>?_,fun x c h1 h2=>?_,I.ok.hd,I.ok.frames,.inl rfl,fun b hb=>⟨?_,fun x c e=>(hf b hb).2.2.2.2.1 x c (cl x c e).1⟩,I.bs,Nat.le_trans I.ok.bsz I.sz,fun b o e hb=>?_,fun b hb z=>?_,I.stack,I.stkFree⟩
 ·have hx':((relabel scope X.env).names.lookup x=some .cell\/(relabel scope X.env).names.lookup x=some .free):=hx
  have q:=relabel_cf S.nocell hx'
  have m:=lookup_mem q
  obtain ⟨c,e⟩:=I.ok.has x (by rcases S.up _ m rfl with z | z;exact .inl z;exact .inr z)
  exact Option.isSome_iff_exists.mp (clOf_has scope.names [] x c m e)
 ·have h1':own.contains x=true:=h1
  have m:=(cl x c h2).2
  have l:=S.ow x (by simpa using h1')
  rw [S.fr _ m rfl] at l;cases l
 ·obtain ⟨o,e⟩:=ho b hb
  exact Nat.ne_of_lt (Nat.lt_of_lt_of_le (Heap.lt_size e) hC)
 ·rcases (hf b hb).2.2.2.1 with z | z
  ·exact I.ok.noex b o e z
  ·exact absurd (Nat.lt_of_lt_of_le (Heap.lt_size e) (Nat.le_trans I.ok.bsz z)) (Nat.lt_irrefl _)
 ·have z':b ∈ frs X.stack:=z
  rcases List.mem_cons.mp (I.stkSub b z') with q | q
  ·exact (hf b hb).2.1 q
  ·exact (hf b hb).2.2.1 q
theorem cxComp_inv {pins:List (Addr × Obj)} {σ:St} {h':Heap} {t':Nat} {m:Str->Option Value} {H':Hp} (S:CompScope own X.N X.env.scope scope) (I:Inv X pins σ H s) (hC:s.heap.objs.size<=C) (hf:∀ b ∈ fp,FpOk X pins H b) (ho:∀ b ∈ fp,∃ o,s.heap.get? b=some o)
    (hk:∀ b o,s.heap.get? b=some o->h'.get? b=some o) (hn:h'.Ns C m) (hU:Un (frs X.stack) fp H H' s.heap h') (hok:HOk X.prog X.w H' h') (hC0:H' C=none) (hle:∀ b,b < s.heap.objs.size->H' b=H b) :
    Inv (cxComp X own scope C fp s H) [] (List.replicate own.length none ++ σ) H' { s with heap:=h',toks:=t' }:=by
  have cl:∀ x c,(clOf X.env.cells scope.names []).lookup x=some c->X.env.cells.lookup x=some c/\(x,NameKind.free) ∈ scope.names:=fun x c e=>by
    rcases clOf_spec _ _ _ _ e with q | q
    . exact q
    . simp at q
  refine ⟨cxComp_ok S I hC hf ho,rfl,I.bare,hU,⟨m,hn,fun i x v h1 h2 h3=>?_⟩,fun x c e=>?_,hC0,fun x c e=>?_,fun p hp=>?_,hok,?_⟩
  . have h1':(maskN own X.N)[i]?=some x:=h1
    by_cases hi:i < own.length
    . rw [List.getElem?_append_left (by simpa using hi),List.getElem?_replicate] at h2
      split at h2 <;> cases h2
    . rw [List.getElem?_append_right (by simpa using hi),List.length_replicate] at h2
      unfold maskN at h1'
      rw [List.getElem?_append_right (by simpa using hi),List.getElem?_map] at h1'
      cases ey:X.N[i - own.length]? with
      | none=>rw [ey] at h1';cases h1'
      | some y =>
        rw [ey] at h1'
        have ex:(if own.contains y then maskS y else y)=x:=by simpa using h1'
        have h3':(relabel scope X.env).names.lookup x=some .local\/(relabel scope X.env).names.lookup x=some .cell\/(relabel scope X.env).names.lookup x=some .free:=h3
        by_cases hyo:own.contains y=true
        . rw [if_pos hyo] at ex
          subst ex
          have none:=S.mask y (by simpa using hyo)
          rcases h3' with z | z
          . rw [relabel_local z] at none;cases none
          . rw [relabel_cf S.nocell z] at none;cases none
        . rw [if_neg hyo] at ex
          subst ex
          rcases h3' with z | z
          . rcases S.only _ (lookup_mem (relabel_local z)) rfl with q | q
            . exact absurd (by simpa using q) hyo
            . exact absurd (List.mem_of_getElem? ey) q
          . have q:=relabel_cf S.nocell z
            have mm:=lookup_mem q
            have up:=S.up _ mm rfl
            obtain ⟨m0,_,hl⟩:=I.loc
            obtain ⟨u,r,l⟩:=hl _ y v ey h2 (.inr up)
            refine ⟨u,r,.inr ⟨z,?_⟩⟩
            rcases l with ⟨k,_⟩ | ⟨k,c,e,ic⟩
            . have k':X.env.scope.names.lookup y=some .local:=k
              rcases up with u1 | u1 <;> (rw [u1] at k';cases k')
            . obtain ⟨c',e'⟩:=Option.isSome_iff_exists.mp (clOf_has scope.names [] y c mm e)
              have e2:=(cl y c' e').1
              rw [e] at e2;cases e2
              obtain ⟨o,g1,g2⟩:=ic
              exact ⟨c,e',o,hk _ _ g1,g2⟩
  . obtain ⟨v,o,g1,g2⟩:=I.cell x c (cl x c e).1
    exact ⟨v,o,hk _ _ g1,g2⟩
  . obtain ⟨v,o,g1,g2⟩:=I.cell x c (cl x c e).1
    rw [hle c (Heap.lt_size g1)]
    exact I.freeC x c (cl x c e).1
  . exact absurd (show p ∈ ([]:List (Addr × Obj)) from hp) (by simp)
  . show (List.replicate own.length none ++ σ).length=(maskN own X.N).length
    unfold maskN
    rw [List.length_append,List.length_append,List.length_replicate,List.length_map,I.len]
theorem Inv.behind {pins:List (Addr × Obj)} {σ σ':St} {pins':List (Addr × Obj)} {H':Hp} {s':Shared} (I:Inv X pins σ H s) (hf:∀ b ∈ fp,FpOk X pins H b) (J:Inv (cxComp X own scope C fp s H) pins' σ' H' s'):Inv X pins σ H' s':=by
 refine I.call' J.os J.base J.hok J.bare fun b hb=>?_
 obtain ⟨h0,h1,h2,h3,h4,h5⟩:=hf b hb
 exact ⟨h3,h1,h4,h5⟩
end
end L2
end
section
namespace L2
open PySem PySem.Spec PyProof.Rows
def PTs (Y:Cx) (ifs:List Expr) (t:TT):Prop :=
 ∀ (pins:List (Addr × Obj)) (s:Shared) (σ:St) (H:Hp) (Q:Bool->Hp->Prop),Inv Y pins σ H s->t σ H Q ->
  wpAny (model Y.prog Y.w) Y.A (forIn ifs true fun c r=>if r=true then do let ok <- isTrue c Y.env (eval c Y.env);pure (ForInStep.yield ok) else pure (ForInStep.yield r)) (TP Y pins σ Q) Y.xe s
def tAll:TT:=fun _ H Q=>Q true H
theorem pts_nil {Y:Cx}:PTs Y [] tAll:=fun _ _ _ H _ I h=>wpAny_tests_nil ⟨H,I,h⟩
theorem pts_one {Y:Cx} {c:Expr} {t:TT} (h:PT Y c t):PTs Y [c] t:=fun pins s σ H Q I q=>wpAny_tests_one (h pins s σ H Q I q)
def CompW (no:Nat) (J:It) (g:TG) (tt:TT) (te:TE) (σ:St) (H1:Hp) (Q:VK):Prop:=∀ D,H1 D=none ->
 ∃ W : Nat -> Nat -> St -> Hp -> Prop, (∃ m, W 0 m (List.replicate no none ++ σ) (upd H1 D (.lst []))) /\ ∀ i m σ' H', W i m σ' H' ->
  (J.stop i H'/\Q (.ref D) H')\/(J.go i H'/\∀ x H2,J.yld i H' x H2->g x σ' H2 fun σ3 H3=>tt σ3 H3 fun b H4 =>
   if b=true then te σ3 H4 fun v H5=>∃ xs,H5 D=some (.lst xs)/\xs.length < sizeLine/\∃ m',m' < m/\W (i + 1) m' σ3 (upd H5 D (.lst (xs ++ [v]))) else ∃ m',m' < m/\W (i + 1) m' σ3 H4)
def tCompB (no:Nat) (wi:TI) (g:TG) (tt:TT) (te:TE):TE:=fun σ H Q=>wi σ H fun J H1=>CompW no J g tt te σ H1 Q
section
variable {X:Cx} {own:List Str} {scope:Scope} {elt tg iter:Expr} {ifs:List Expr} {pos:Pos} {wi:TI} {g:TG} {tt:TT} {te:TE}
theorem comp_block {pins:List (Addr × Obj)} {σ:St} {H:Hp} {s:Shared} {it:Addr} {fp:List Addr} {tn:Nat->Heap->Prop} {J:It} {Q:VK} {RR:Value->Addr->Result->Shared->Prop} {E:Value->Shared->Prop}
    (hc:X.calm=true) (S:CompScope own X.N X.env.scope scope)
    (hg:∀ C fp s H,PG (cxComp X own scope C fp s H) tg g) (ht:∀ C fp s H,PTs (cxComp X own scope C fp s H) ifs tt) (he:∀ C fp s H,PE (cxComp X own scope C fp s H) elt te)
    (I:Inv X pins σ H s) (T:Turn X.prog X.w X.K tg J fp it tn) (st:tn 0 s.heap) (hf:∀ b ∈ fp,FpOk X pins H b)
    (h:CompW own.length J g tt te σ H Q)
    (hRR:∀ D C s' H' m,Inv X pins σ H' s'->s'.heap.Ns C m->H' C=none->s.heap.objs.size<=C->Q (.ref D) H'->RR (.ref D) C (.ok .next) s') :
    wpAny (model X.prog X.w) X.A (newList []) (fun acc s₃=>wpAny (model X.prog X.w) X.A (newFunctionEnv scope X.env.globals (clOf X.env.cells scope.names []) [] X.env.qual none .none (some X.env)) (fun cenv s₄ =>
      codeAny (model X.prog X.w) X.A (.compStart (.ListComp elt [⟨tg,iter,ifs,0⟩] scope pos) 0 (.ref it) acc { cenv with scope:=relabel scope X.env }) (RR acc cenv.locals) s₄) E s₃) E s:=by
  refine wpAny_newObj_type (wpAny_newFunctionEnv S.nocell (by intro y hy;simp at hy) (fun h₁ hns₁ hsb₁=>?_) S.kind)
  dsimp only at hns₁ hsb₁ ⊢
  generalize hH2:s.heap.push { cls:=.type "list",dict:=none,data:=.seq ([]:List Value).toArray }=H2 at hns₁ hsb₁ ⊢
  have hC:H2.objs.size=s.heap.objs.size + 1:=by rw [<- hH2,Heap.size_push]
  have hDC:s.heap.objs.size ≠ H2.objs.size:=by rw [hC];exact Nat.ne_of_lt (Nat.lt_succ_self _)
  have hCle:s.heap.objs.size<=H2.objs.size:=by rw [hC];exact Nat.le_succ _
  have below:∀ b,b < s.heap.objs.size->b ≠ H2.objs.size:=fun b hb=>by rw [hC];exact Nat.ne_of_lt (Nat.lt_succ_of_lt hb)
  have old:∀ b o,s.heap.get? b=some o->h₁.get? b=some o:=fun b o e=>hsb₁.extBut b o (below b (Heap.lt_size e)) (Heap.get?_push_of_some _ (hH2 ▸ Heap.get?_push_of_some _ e))
  have hacc:h₁.get? s.heap.objs.size=some { cls:=.type "list",dict:=none,data:=.seq ([]:List Value).toArray }:=hsb₁.extBut _ _ hDC (Heap.get?_push_of_some _ (hH2 ▸ Heap.get?_push_size _ rfl))
  have ho:∀ b ∈ fp,∃ o,s.heap.get? b=some o:=fun b hb=>let ⟨o,e,_⟩:=T.obj _ _ st b hb;⟨o,e⟩
  have fresh:∀ a,s.heap.objs.size<=a->H a=none:=fun a ha=>I.hok.fresh ha
  generalize hD:s.heap.objs.size=D at *
  generalize hCC:H2.objs.size=C at *
  have I1:Inv (cxComp X own scope C fp s H) [] (List.replicate own.length none ++ σ) (upd H D (.lst [])) { s with heap:=h₁,toks:=s.toks + ([]:List (Str × Value)).length }:=by
    refine cxComp_inv S I (by rw [hD];exact hCle) hf ho old hns₁ (Un.laid old (by rw [hD];exact Nat.le_refl _) (fresh D (Nat.le_refl _))) (I.hok.laid old (by rw [hD];exact Nat.le_refl _) ?_) ?_ fun b hb=>?_
    . exact ⟨Nat.zero_le _,[],0,.nil,hacc⟩
    . rw [upd_ne (Ne.symm hDC)];exact fresh C hCle
    . rw [hD] at hb;rw [upd_ne (Nat.ne_of_lt hb)]
  obtain ⟨W,⟨m0,w0⟩,turn⟩:=h D (fresh D (Nat.le_refl _))
  have fpY:∀ {H':Hp},(∀ b ∈ fp,H' b=none)->∀ b ∈ fp,FpOk (cxComp X own scope C fp s H) [] H' b:=fun hn b hb=>by
    obtain ⟨q0,q1,q2,q3,q4,q5⟩:=hf b hb
    refine ⟨hn b hb,I1.ok.exf b hb |>.1,I1.ok.exfs b hb,.inl hb,I1.ok.exf b hb |>.2,fun p hp=>absurd (show p ∈ ([]:List (Addr × Obj)) from hp) (by simp)⟩
  have loop:codeAny (model X.prog X.w) X.A (.compLoop (.ListComp elt [⟨tg,iter,ifs,0⟩] scope pos) 0 (.ref it) (.ref D) (compEnvC scope (clOf X.env.cells scope.names []) C X.env)) (RR (.ref D) C) { s with heap:=h₁,toks:=s.toks + ([]:List (Str × Value)).length }:=by
    refine compLoop_any (fun n s'=>∃ i σ' H',Inv (cxComp X own scope C fp s H) [] σ' H' s'/\tn i s'.heap/\(∀ b ∈ fp,H' b=none)/\W i n σ' H') ?_ m0
      ⟨0,_,_,I1,T.keep _ _ _ st fun b _ o e=>old b o e,fun b hb=>?_,w0⟩
    . rintro n s3 ⟨i,σ3,H3,I3,st3,fr3,w3⟩
      rcases turn i n σ3 H3 w3 with ⟨stop,qn⟩ | ⟨go,step⟩
      . refine thn (T.done (cxComp X own scope C fp s H) rfl rfl rfl hc i [] s3 σ3 H3 _ I3 (fpY fr3) st3 stop) fun r s4 ⟨hr,I4⟩=>?_
        subst hr
        obtain ⟨m,hm,_⟩:=I4.loc
        exact hRR D C s4 H3 m (I.behind hf I4) hm I4.free hCle qn
      . refine thn (T.item (cxComp X own scope C fp s H) rfl rfl rfl hc i [] s3 σ3 H3 _ I3 (fpY fr3) st3 go) fun r s4 ⟨u,hr,h4⟩=>?_
        subst hr
        dsimp only
        refine thn h4 fun _ s5 ⟨x,H5,I5,r5,y5,st5,fr5⟩=>?_
        have I5':=I5.pinned (fpY fr5) (T.obj _ _ st5)
        refine thn (hg C fp s H _ s5 σ3 H5 x u _ I5' r5 (step x H5 y5)) fun _ s6 ⟨σ6,H6,I6,q6⟩=>?_
        refine thn (ht C fp s H _ s6 σ6 H6 _ I6 q6) fun b s7 ⟨H7,I7,q7⟩=>?_
        have again:∀ {s8:Shared} {σ7:St} {H7:Hp},Inv (cxComp X own scope C fp s H) ([] ++ pinsAt fp s5.heap) σ7 H7 s8->(∃ m',m' < n/\W (i + 1) m' σ7 H7)->∃ m,m < n/\∃ i σ' H',Inv (cxComp X own scope C fp s H) [] σ' H' s8/\tn i s8.heap/\(∀ b ∈ fp,H' b=none)/\W i m σ' H':=fun {s8 σ7 H7} I7 n7=>by
          obtain ⟨m',hm,w7⟩:=n7
          refine ⟨m',hm,i + 1,σ7,H7,I7.unpinned,T.keep _ _ _ st5 fun b hb o e=>(I7.pin (b,o) (List.mem_append_right _ (List.mem_append_right _ (mem_pinsAt hb e)))).1,fun b hb=>?_,w7⟩
          obtain ⟨o,e,d⟩:=T.obj _ _ st5 b hb
          exact (I7.pin (b,o) (List.mem_append_right _ (List.mem_append_right _ (mem_pinsAt hb e)))).2.1
        cases b with
        | false =>
          rw [if_neg (by simp)] at q7
          exact again I7 q7
        | true =>
          rw [if_pos rfl] at q7 ⊢
          refine thn (he C fp s H _ s7 σ6 H7 _ I7 q7) fun u8 s8 ⟨v,H8,I8,r8,xs,hx,hz,q8⟩=>?_
          refine thn (mt_append (X:=cxComp X own scope C fp s H) _ s8 σ6 H8 (.ref D) [v] (.ref D) [u8] (fun _ H9=>∃ m',m' < n/\W (i + 1) m' σ6 H9) I8 rfl (.cons r8 .nil) ⟨D,xs,v,rfl,rfl,hx,hz,q8⟩) fun _ s9 ⟨_,H9,I9,_,q9⟩=>?_
          exact again I9 q9
    . have lt:b < D:=by
        obtain ⟨o,e⟩:=ho b hb
        exact hD ▸ Heap.lt_size e
      rw [upd_ne (Nat.ne_of_lt lt)]
      exact (hf b hb).1
  exact codeAny_compStart_list loop (T.self _ 0 _ _ _ (T.keep _ _ _ st fun b _ o e=>old b o e) loop)
theorem comp_clos {pins:List (Addr × Obj)} {σ:St} {H:Hp} {s:Shared} (S:CompScope own X.N X.env.scope scope) (I:Inv X pins σ H s):closureFor scope X.env=pure (clOf X.env.cells scope.names []) :=
 closureFor_eq fun y hy hk=>I.ok.has y.1 (by rcases S.up y hy hk with z | z;exact .inl z;exact .inr z)
theorem Inv.letgo {pins:List (Addr × Obj)} {σ:St} {H':Hp} {s':Shared} {h':Heap} {C:Addr} {z:Nat} (I:Inv X pins σ H' s') (hC:H' C=none) (h0:X.s₀.heap.objs.size<=z) (hz:z<=C) (hL:X.env.locals < z) (hcl:∀ x c,X.env.cells.lookup x=some c->c < z) (hp:∀ p ∈ X.pn ++ pins,p.1 < z) (hs:Heap.SameBut C s'.heap h'):Inv X pins σ H' { s' with heap:=h' } :=
 I.turned (t':=s'.toks) (it:=C) (fun b o hb e=>hs.extBut b o hb e) hC (Nat.ne_of_gt (Nat.lt_of_lt_of_le hL hz)) (.inr (Nat.le_trans h0 hz)) (fun x c e=>Nat.ne_of_lt (Nat.lt_of_lt_of_le (hcl x c e) hz)) fun p hq=>Nat.ne_of_lt (Nat.lt_of_lt_of_le (hp p hq) hz)
theorem pe_comp {N0 P0:List Str} {sc:Scope} (S0:FnScope N0 P0 sc) (hc:X.calm=true) (S1:CompScope own N0 sc scope) (hi:PI X tg iter wi)
  (hg:∀ C fp s H,(maskN own N0).Nodup->PG (cxComp X own scope C fp s H) tg g) (ht:∀ C fp s H,PTs (cxComp X own scope C fp s H) ifs tt) (he:∀ C fp s H,PE (cxComp X own scope C fp s H) elt te)
  (hs:∀ x,foldedSetIterable iter X.env x=pure x:=by intro _;rfl) (hN0:X.N=N0:=by rfl) (hsc:X.env.scope=sc:=by rfl):PE X (.ListComp elt [⟨tg,iter,ifs,0⟩] scope pos) (tCompB own.length wi g tt te):=by
 intro pins s σ H Q I h
 subst hN0 hsc
 have S:=S1
 replace hg:=fun C fp s H=>hg C fp s H S1.nd
 rw [eval_ListComp]
 refine wpAny_comprehension_free (use:=none) rfl hs (comp_clos S I) S.kind S.loc (thn (hi pins s σ H _ I h) fun xv s₁ h₁=>thn h₁ fun itv s₂ h₂=>?_)
 obtain ⟨it,fp,tn,J,H2,rfl,I2,T,st2,f2,q2⟩:=h₂
 refine comp_block (Q:=Q) hc S hg ht he I2 T st2 f2 q2 ?_
 intro D C s' H' m I' hm hC hCle q
 refine ⟨m,hm,fun h' hs'=>⟨.ref D,H',?_,rfl,q⟩⟩
 exact I'.letgo hC I2.sz hCle I2.lt (fun x c e=>let ⟨v,z⟩:=I2.cell x c e;z.lt) (fun p hp=>Heap.lt_size (I2.pin p hp).1) hs'
end
end L2
end
section
namespace L2
open PySem PySem.Spec PyProof.Rows
open PySem.W (Dat kqdP kqdPs kqdOk)
section
variable {X:Cx}
theorem op_mulB:OpR X (binaryOp .Mult) (rI IntMulOk fun i j=>.int (i * j)):=opI fun _ _ _ _ _ _ _ hc q=>mul_int q hc
def CDivB (i j:Int):Prop:=j ≠ 0/\j.natAbs.log2 < 9000
theorem op_fdivB:OpR X (binaryOp .FloorDiv) (rI CDivB fun i j=>.int (i.fdiv j)):=opI fun _ _ _ _ _ _ _ hc q=>floordiv_int hc.1 q (.inl (PyProof.noPylong_of_log2 hc.2))
end
def IsX (C:Value) (e:Addr):Heap->Prop:=fun h=>∃ o,h.get? e=some o/\o.cls=C/\o.dict=none/\∃ fs,o.data = .fields fs
theorem IsX.st {C:Value} {e:Addr} (h1 h2:Heap) (x:IsX C e h1) (k:∀ o,h1.get? e=some o->h2.get? e=some o):IsX C e h2:=let ⟨o,q,r⟩:=x;⟨o,k o q,r⟩
def XN (K:PySem.W.Frag) (c:Array UInt8) (C:Value):Prop:=PySem.W.nsIn K mainGlobals ⟨c.map (·.toNat)⟩=some (some C)
def XAt (K:PySem.W.Frag) (H:Hp) (a:Addr) (c:Array UInt8):Prop:=∃ ob C,H a=some (.frz ob (.ext (IsX C a)))/\XN K c C
mutual
inductive Is (K:PySem.W.Frag) (H:Hp):V->Dat->Prop
 | none:Is K H .non .none
 | bool (b:Bool):Is K H (.bl b) (.bool b)
 | int (i:Int):Is K H (.int i) (.int i)
 | str (x:Str):Is K H (.str x) (.str x)
 | tup {a:Addr} {xs:List V} {ds:List Dat}:SqT K H a xs->Iss K H xs ds->Is K H (.ref a) (.tuple ds)
 | lst {a:Addr} {xs:List V} {ds:List Dat}:SqL K H a xs->Iss K H xs ds->Is K H (.ref a) (.list ds)
 | exc {a:Addr} {c:Array UInt8}:XAt K H a c->Is K H (.ref a) (.bytes c)
inductive Iss (K:PySem.W.Frag) (H:Hp):List V->List Dat->Prop
 | nil:Iss K H [] []
 | cons {x:V} {d:Dat} {xs:List V} {ds:List Dat}:Is K H x d->Iss K H xs ds->Iss K H (x :: xs) (d :: ds)
end
theorem Same.tup {K:PySem.W.Frag} {H H':Hp} {a:Addr} {xs:List V} (e:Same H H') (h:SqT K H a xs):SqT K H' a xs:=by
 rcases h with (h | ⟨o,h⟩) | h
 ·exact .inl (.inl (e _ _ h))
 ·exact .inl (.inr ⟨o,e _ _ h⟩)
 ·exact .inr h
theorem Same.new {H:Hp} {p:Addr} (h:H p=Option.none) (o:HO):Same H (upd H p o):=fun b u q=>by rw [upd_ne (ne_of_none q h)];exact q
section
variable {K:PySem.W.Frag} {H H':Hp}
theorem Iss.ints (ns:List Int):Iss K H (ns.map V.int) (ns.map Dat.int):=by
 induction ns with
 | nil=>exact .nil
 | cons n ns ih=>exact .cons (.int n) ih
end
section
variable {X:Cx} {pins:List (Addr × Obj)} {σ:St} {H:Hp} {s:Shared}
mutual
theorem Is.reads (I:Inv X pins σ H s):∀ {v:V} {d:Dat} {u:Value},Is X.K H v d->∀ n,kqdOk n d=true->RelV v u->∃ as,Reads s.heap u (kqdP d) as
  | _,_,_,.none,_,_,r=>by cases (show _=Value.none from r);exact ⟨_,.none⟩
  | _,_,_,.bool b,_,_,r=>by cases (show _=Value.bool b from r);exact ⟨_,.bool b⟩
  | _,_,_,.int i,_,_,r=>by obtain ⟨t,rfl⟩:=r;exact ⟨_,.int i t⟩
  | _,_,_,.str x,_,_,r=>by obtain ⟨t,rfl⟩:=r;exact ⟨_,.str x t⟩
  | _,_,_,.tup (a:=a) h q,0,ok,r=>by simp [kqdOk] at ok
  | _,_,_,.tup (a:=a) h q,n + 1,ok,r=>by
    cases (show _=Value.ref a from r)
    obtain ⟨its,rv,⟨o,e,c,n2,d⟩,_⟩:=I.tuple h
    obtain ⟨as,z⟩:=Iss.reads I q n (by rw [kqdOk] at ok;exact ok) rv
    rw [kqdP]
    exact ⟨as,.tuple e c d (by simpa using z)⟩
  | _,_,_,.lst (a:=a) h q,0,ok,r=>by simp [kqdOk] at ok
  | _,_,_,.lst (a:=a) h q,n + 1,ok,r=>by
    cases (show _=Value.ref a from r)
    obtain ⟨its,rv,⟨o,n2,e,c,_,d⟩,_⟩:=I.list h
    obtain ⟨as,z⟩:=Iss.reads I q n (by rw [kqdOk] at ok;exact ok) rv
    rw [kqdP]
    exact ⟨_,.list e c d (by simpa using z)⟩
  | _,_,_,.exc h,n,ok,r=>by cases n <;> simp [kqdOk] at ok
theorem Iss.reads (I:Inv X pins σ H s):∀ {v:List V} {d:List Dat} {u:List Value},Iss X.K H v d->∀ n,d.all (kqdOk n)=true->Vals v u->∃ as,ReadsAll s.heap u (kqdPs d) as
  | _,_,_,.nil,_,_,.nil=>⟨_,.nil⟩
  | _,_,_,.cons a r,n,ok,.cons b t=>by
    rw [List.all_cons,Bool.and_eq_true] at ok
    obtain ⟨as,p⟩:=Is.reads I a n ok.1 b
    obtain ⟨bs,q⟩:=Iss.reads I r n ok.2 t
    rw [kqdPs]
    exact ⟨_,.cons p q⟩
end
end
open Classical in
noncomputable def deq (d e:Dat):Bool:=decide (d=e)
open Classical in
theorem deq_self (d:Dat):deq d d=true:=decide_eq_true rfl
open Classical in
theorem deq_true {d e:Dat} (h:d=e):deq d e=true:=decide_eq_true h
open Classical in
theorem deq_ne {d e:Dat} (h:d ≠ e):deq d e=false:=decide_eq_false h
noncomputable def rEqD (K:PySem.W.Frag) (n:Bool):R2:=fun x y H Q=>∃ d e,Is K H x d/\Is K H y e/\kqdOk 9 d=true/\kqdOk 9 e=true/\Q (.bl (if n then !deq d e else deq d e)) H
theorem eqv_deq {d e:Dat} (h1:kqdOk 9 d=true) (h2:kqdOk 9 e=true):PyData.eqv (kqdP d) (kqdP e)=deq d e:=by
 have q:=PySem.W.kqd_eqv 9 d e 9 h1 h2
 by_cases z:d=e
 ·rw [deq_true z];exact q.mpr z
 ·rw [deq_ne z];exact Bool.eq_false_iff.mpr fun x=>z (q.mp x)
theorem shaped9 {d:Dat} (h:kqdOk 9 d=true):SeqAt.shaped (kqdP d)=true:=by
 have l:=PySem.W.kqd_lay 9 d h
 unfold SeqAt.shaped
 rw [l.1,Bool.true_and]
 exact decide_eq_true (Nat.le_trans l.2 (by decide))
section
variable {X:Cx}
theorem op_eqD (hu:X.A.units + 64 < cLine):OpR X (compareOp .Eq) (rEqD X.K false):=by
 intro pins s σ H x y v u Q I rx ry h
 obtain ⟨d,e,hd,he,o1,o2,q⟩:=h
 obtain ⟨as,ra⟩:=hd.reads I 9 o1 rx
 obtain ⟨bs,rb⟩:=he.reads I 9 o2 ry
 refine PyProof.Rows.eq_dataH ra rb (shaped9 o1) (shaped9 o2) hu ?_
 rw [eqv_deq o1 o2]
 exact ⟨.bl _,H,I,rfl,q⟩
theorem op_neD (hu:X.A.units + 64 < cLine):OpR X (compareOp .NotEq) (rEqD X.K true):=by
 intro pins s σ H x y v u Q I rx ry h
 obtain ⟨d,e,hd,he,o1,o2,q⟩:=h
 obtain ⟨as,ra⟩:=hd.reads I 9 o1 rx
 obtain ⟨bs,rb⟩:=he.reads I 9 o2 ry
 refine PyProof.Rows.ne_dataH ra rb (shaped9 o1) (shaped9 o2) hu ?_
 rw [eqv_deq o1 o2]
 exact ⟨.bl _,H,I,rfl,q⟩
theorem call_sumL (hc:X.calm=true):CallR X (.builtin "sum") (fun xs H Q=>∃ (a:Addr) (ns:List Int),xs=[.ref a]/\SqL X.K H a (ns.map V.int)/\Q (.int ns.sum) H):=by
  intro pins s σ H xs us Q I r h
  obtain ⟨a,ns,rfl,hl,q⟩:=h
  cases r with
  | cons r1 r2 =>
    cases r2
    cases (show _=Value.ref a from r1)
    obtain ⟨its,rv,pl,_⟩:=I.list hl
    obtain ⟨m,F⟩:=I.fr
    have hi:IntsAre its ns:=intsAre_of rv
    obtain ⟨xs,hxs⟩:=(IntsAre.allInts hi).items
    have e:numsOf its=ns:=hi.numsOf
    refine sum_intListG (xs:=xs) (I.ok.hd hc) (by rw [<- hxs];exact pl.isList) fun h' tk t' hk=>?_
    refine ⟨.int ns.sum,H,I.kept (t':=tk) hk,⟨t',?_⟩,q⟩
    have e2:numsOf its=(xs.map Prod.fst).toList:=by
      have:=nums_intItems (xs:=xs)
      rw [<- hxs] at this
      simpa using this
    rw [preSum_eq,List.take_of_length_le (by simp)]
    rw [<- e,e2,Array.toList_map]
theorem call_isi {b:Bool} {T U:String} (e:∀ K,PySem.W.kitOne K (.type U) (.type T)=some b):CallR X (.builtin "isinstance") (fun xs H Q=>∃ x,xs=[x,.ty T]/\TyOf X.K H x (.type U)/\Q (.bl b) H):=by
  intro pins s σ H xs us Q I r h
  obtain ⟨x,rfl,ty,q⟩:=h
  cases r with
  | cons r1 r2 =>
    cases r2 with
    | cons r3 r4 =>
      cases r4
      cases (show _=Value.type T from r3)
      exact isinst_ok I r1 ty (e _) fun tk=>⟨.bl b,H,I.tok tk,rfl,q⟩
end
end L2
end
section
namespace L2
open PySem PySem.Spec PyProof.Rows
section
variable {prog:Program} {w:World} {A:Around} {E:Value->Shared->Prop} {s:Shared}
theorem tupNext {it t:Addr} {i:Nat} {its:Array Value} {x:Value} {Q:Value->Shared->Prop} (hit:s.heap.IsTupleIter it t i) (ht:s.heap.IsTuple t its) (hx:its[i]?=some x)
  (k:∀ g,g.IsTupleIter it t (i + 1)->Heap.SameBut it s.heap g->Q x { s with heap:=g }):wpAny (model prog w) A (Builtin.SmallTypes.nextOf (.ref it)) Q E s:=by
 obtain ⟨o,g1,g2,g3⟩:=id hit
 obtain ⟨p,q1,_,n,q2⟩:=ht
 unfold Builtin.SmallTypes.nextOf
 refine wpAny_bind (wpAny_callSpecial?_slot (name:=Str.ofString "__next__") hit.typeIs F.slot_tuple_iterator_next (wpAny_call_entry F.slot_tuple_iterator_next hit.typeIs F.entry_tuple_iterator_next ?_ (F.args_tuple_iterator_next_1 _)))
 show wpAny _ _ (field (.ref it) 0 >>= _) _ _ s;refine wpAny_bind (wpAny_field g1 g3 (x:=.ref t) rfl ?_);show wpAny _ _ (if (Value.ref t == Value.none)=true then _ else _) _ _ s
 rw [if_neg (show ¬ ((Value.ref t == Value.none)=true) from Bool.false_ne_true)];show wpAny _ _ (field (.ref it) 1 >>= _) _ _ s;refine wpAny_bind (wpAny_field g1 g3 (x:=.int i 0) rfl ?_)
 show wpAny _ _ (seqItems? (.ref t) >>= _) _ _ s;refine wpAny_bind (wpAny_seqItems q1 q2 ?_);simp only [Int.toNat_natCast,hx]
 refine wpAny_bind (wpAny_setField g1 g3 (by simp) (wpAny_pure ⟨x,rfl,wpAny_pure (k _ ⟨_,Heap.get?_update_self _ g1 (Obj.isFreed_of_fields (Obj.data_mapFields g3 _)),(Obj.cls_mapFields ..).trans g2,?_⟩ (Heap.SameBut.update ..))⟩))
 rw [Obj.data_mapFields g3];simp [rawInt]
theorem tupEnd {it t:Addr} {i:Nat} {its:Array Value} {Q:Value->Shared->Prop} (hh:A.handled=none) (hit:s.heap.IsTupleIter it t i) (ht:s.heap.IsTuple t its) (hx:its[i]?=none)
  (k:∀ g e,Heap.ExtBut it s.heap g->(∃ o,g.get? e=some o/\o.cls = .type "StopIteration")->E (.ref e) { s with heap:=g }):wpAny (model prog w) A (Builtin.SmallTypes.nextOf (.ref it)) Q E s:=by
 obtain ⟨o,g1,g2,g3⟩:=id hit
 obtain ⟨p,q1,_,n,q2⟩:=ht
 unfold Builtin.SmallTypes.nextOf
 refine wpAny_bind (wpAny_callSpecial?_slot (name:=Str.ofString "__next__") hit.typeIs F.slot_tuple_iterator_next (wpAny_call_entry F.slot_tuple_iterator_next hit.typeIs F.entry_tuple_iterator_next ?_ (F.args_tuple_iterator_next_1 _)))
 show wpAny _ _ (field (.ref it) 0 >>= _) _ _ s;refine wpAny_bind (wpAny_field g1 g3 (x:=.ref t) rfl ?_);show wpAny _ _ (if (Value.ref t == Value.none)=true then _ else _) _ _ s
 rw [if_neg (show ¬ ((Value.ref t == Value.none)=true) from Bool.false_ne_true)];show wpAny _ _ (field (.ref it) 1 >>= _) _ _ s;refine wpAny_bind (wpAny_field g1 g3 (x:=.int i 0) rfl ?_)
 show wpAny _ _ (seqItems? (.ref t) >>= _) _ _ s;refine wpAny_bind (wpAny_seqItems q1 q2 ?_);simp only [Int.toNat_natCast,hx]
 refine wpAny_bind (wpAny_rule (wpAny_bind (wpAny_setField g1 g3 (by simp) ?_)));show wpAny _ _ (newExc (.type "StopIteration") [] >>= _) _ _ _
 refine wpAny_bind ?_;simp only [newExc,newTuple];refine wpAny_bind (wpAny_newObj_type ?_ (by size_fits))
 refine wpAny_bind (m:=firstArgMember _ _) (wpAny_of_eq (a:=Value.none) (by first | rfl | (simp only [firstArgMember];rfl)) ?_);refine wpAny_newObj_type ?_ (by size_fits)
 simp only [raiseNew];refine wpAny_bind (wpAny_handled ?_);first | rw [show A.in1.handled=none from hh] | rw [hh]
 refine wpAny_bind (wpAny_pure (wpAny_throw ?_));exact k _ _ (((Heap.SameBut.update ..).extBut.push _).push _) ⟨_,Heap.get?_push_size _ rfl,rfl⟩
structure ZipAt (h:Heap) (z a b i1 i2 l1 l2:Addr) (xs ys:Array Value) (k:Nat) (f:Value):Prop where
 z:IsZip h z a b f
 a:IsPair h a (.ref i1) (.ref i2)
 b:∃ u v,IsPair h b u v
 i1:h.IsTupleIter i1 l1 k
 i2:h.IsTupleIter i2 l2 k
 l1:h.IsTuple l1 xs
 l2:h.IsTuple l2 ys
theorem zipNext {z a b i1 i2 l1 l2:Addr} {k:Nat} {xs ys:Array Value} {x y:Value} {Q:Option Value->Shared->Prop} (D:ZipApart z a b i1 i2 l1 l2) (Z:ZipAt s.heap z a b i1 i2 l1 l2 xs ys k .none) (hx:xs[k]?=some x) (hy:ys[k]?=some y)
  (kq:∀ g,ZipAt g z a b i1 i2 l1 l2 xs ys (k + 1) (rawInt s.heap.objs.size)->IsPair g s.heap.objs.size x y->(∀ c o,c ≠ z->c ≠ b->c ≠ i1->c ≠ i2->s.heap.get? c=some o->g.get? c=some o)->Q (some (.ref s.heap.objs.size)) { s with heap:=g }) :
  wpAny (model prog w) A (pyNext (.ref z)) Q E s:=by
 obtain ⟨hz,ha,⟨u,v,hb⟩,h1,h2,t1,t2⟩:=Z
 have hT:s.TypeIs (.ref z) "zip" := ⟨_,hz,rfl⟩
 unfold pyNext
 refine wpAny_bind (wpAny_attempt (wpAny_callSpecial?_slot (name:=Str.ofString "__next__") hT F.slot_zip_next (wpAny_call_entry F.slot_zip_next hT F.entry_zip_next ?_ (F.args_zip_next_1 _))))
 show wpAny _ _ (field (.ref z) 2 >>= _) _ _ _;refine wpAny_bind (wpAny_field hz rfl (x:=.bool false) rfl ?_);show wpAny _ _ (field (.ref z) 3 >>= _) _ _ _
 refine wpAny_bind (wpAny_field hz rfl (x:=.ref a) rfl ?_);refine wpAny_bind (wpAny_seqItems ha rfl ?_);show wpAny _ _ (Builtin.SmallTypes.ownedTupleIsFree (.ref z) >>= _) _ _ _
 refine wpAny_bind ?_;unfold Builtin.SmallTypes.ownedTupleIsFree;refine wpAny_bind (wpAny_field hz rfl (x:=.none) rfl (wpAny_pure ?_))
 simp only [if_true];refine wpAny_bind (wpAny_rule ?_);refine wpAny_bind (wpAny_field hz rfl (x:=.ref b) rfl ?_)
 refine wpAny_bind (wpAny_setField_rec hz (by simp) fun g₁ e₁ s₁=>?_)
 replace e₁:IsZip g₁ z a b .ellipsis:=e₁
 refine wpAny_bind ?_;simp only [List.zipIdx_cons,List.zipIdx_nil,List.forIn_cons,List.forIn_nil]
 refine wpAny_bind (wpAny_bind (wpAny_onRaise ?_));show wpAny _ _ (Builtin.SmallTypes.nextOf (.ref i1) >>= _) _ _ _
 refine wpAny_bind (tupNext (h1.extBut s₁.extBut D.i1z) (t1.extBut s₁.extBut D.l1z) hx fun g₂ f₂ s₂=>wpAny_pure ?_)
 have b₂:IsPair g₂ b u v:=s₂.extBut _ _ D.TOi1 (s₁.extBut _ _ D.TOz hb)
 refine wpAny_bind (wpAny_seqItems b₂ rfl ?_);refine wpAny_bind (wpAny_updateSeq_pair b₂ fun g₃ b₃ s₃=>?_)
 replace b₃:IsPair g₃ b x v:=b₃
 refine wpAny_bind (wpAny_letGo (wpAny_pure ?_));refine wpAny_bind (wpAny_bind (wpAny_onRaise ?_));show wpAny _ _ (Builtin.SmallTypes.nextOf (.ref i2) >>= _) _ _ _
 refine wpAny_bind (tupNext (((h2.extBut s₁.extBut D.i2z).extBut s₂.extBut D.i12.symm).extBut s₃.extBut D.TOi2.symm) (((t2.extBut s₁.extBut D.l2z).extBut s₂.extBut D.l2i1).extBut s₃.extBut D.l2TO) hy fun g₄ f₄ s₄=>wpAny_pure ?_)
 have b₄:IsPair g₄ b x v:=s₄.extBut _ _ D.TOi2 b₃
 refine wpAny_bind (wpAny_seqItems b₄ rfl ?_);refine wpAny_bind (wpAny_updateSeq_pair b₄ fun g₅ b₅ s₅=>?_)
 replace b₅:IsPair g₅ b x y:=b₅
 refine wpAny_bind (wpAny_letGo (wpAny_pure (wpAny_pure ?_)));refine wpAny_bind (wpAny_seqItems b₅ rfl ?_);refine wpAny_bind (wpAny_newTuple ?_)
 have sz:g₅.objs.size=s.heap.objs.size:=by rw [s₅.1,s₄.1,s₃.1,s₂.1,s₁.1]
 have e₅:IsZip g₅ z a b .ellipsis:=s₅.extBut _ _ D.TOz.symm (s₄.extBut _ _ D.i2z.symm (s₃.extBut _ _ D.TOz.symm (s₂.extBut _ _ D.i1z.symm e₁)))
 have k₅:∀ c o,c ≠ z->c ≠ b->c ≠ i1->c ≠ i2->s.heap.get? c=some o->g₅.get? c=some o:=fun c o c1 c2 c3 c4 e=>s₅.extBut _ _ c2 (s₄.extBut _ _ c4 (s₃.extBut _ _ c2 (s₂.extBut _ _ c3 (s₁.extBut _ _ c1 e))))
 have m₁:g₅.IsTupleIter i1 l1 (k + 1):=((f₂.extBut s₃.extBut D.TOi1.symm).extBut s₄.extBut D.i12).extBut s₅.extBut D.TOi1.symm
 have m₂:g₅.IsTupleIter i2 l2 (k + 1):=f₄.extBut s₅.extBut D.TOi2.symm
 have lz:z < g₅.objs.size:=Heap.lt_size e₅
 show wpAny _ _ (Builtin.SmallTypes.ownedTupleHandOut (.ref z) (.ref g₅.objs.size) >>= _) _ _ _;refine wpAny_bind ?_;unfold Builtin.SmallTypes.ownedTupleHandOut
 have e₆:IsZip (g₅.push { cls:=.type "tuple",data:=.seq #[x,y] }) z a b .ellipsis:=Heap.get?_push_of_some _ e₅
 refine wpAny_bind (wpAny_setField_rec e₆ (by simp) fun g₇ e₇ s₇=>?_)
 replace e₇:IsZip g₇ z a b (rawInt g₅.objs.size):=e₇
 refine wpAny_setField_rec e₇ (by simp) fun g₈ e₈ s₈=>?_
 replace e₈:IsZip g₈ z a b (rawInt g₅.objs.size):=e₈
 have up:∀ c o,c ≠ z->g₅.get? c=some o->g₈.get? c=some o:=fun c o c1 e=>s₈.extBut _ _ c1 (s₇.extBut _ _ c1 (Heap.get?_push_of_some _ e))
 have p₈:IsPair g₈ g₅.objs.size x y:=s₈.extBut _ _ (Nat.ne_of_gt lz) (s₇.extBut _ _ (Nat.ne_of_gt lz) (Heap.get?_push_size _ rfl))
 rw [sz] at e₈ p₈
 refine wpAny_pure ⟨_,rfl,wpAny_pure ?_⟩
 show Q (some (.ref g₅.objs.size)) _;rw [sz]
 have all:∀ c o,c ≠ z->c ≠ b->c ≠ i1->c ≠ i2->s.heap.get? c=some o->g₈.get? c=some o:=fun c o c1 c2 c3 c4 e=>up c o c1 (k₅ c o c1 c2 c3 c4 e)
 exact kq g₈ ⟨e₈,all _ _ D.TIz D.TITO D.TIi1 D.TIi2 ha,⟨_,_,up _ _ D.TOz b₅⟩,m₁.at fun o e=>up _ o D.i1z e,m₂.at fun o e=>up _ o D.i2z e,t1.at fun o e=>all _ o D.l1z D.l1TO D.l1i1 D.l1i2 e,t2.at fun o e=>all _ o D.l2z D.l2TO D.l2i1 D.l2i2 e⟩ p₈ all
theorem zipEnd {z a b i1 i2 l1 l2:Addr} {k:Nat} {xs ys:Array Value} {Q:Option Value->Shared->Prop} (hh:A.handled=none) (D:ZipApart z a b i1 i2 l1 l2) (Z:ZipAt s.heap z a b i1 i2 l1 l2 xs ys k .none) (hx:xs[k]?=none)
  (kq:∀ g,(∀ c o,c ≠ z->c ≠ b->c ≠ i1->c ≠ i2->s.heap.get? c=some o->g.get? c=some o)->Q none { s with heap:=g }):wpAny (model prog w) A (pyNext (.ref z)) Q E s:=by
 obtain ⟨hz,ha,⟨u,v,hb⟩,h1,h2,t1,t2⟩:=Z
 have hT:s.TypeIs (.ref z) "zip" := ⟨_,hz,rfl⟩
 unfold pyNext
 refine wpAny_bind (wpAny_attempt (wpAny_callSpecial?_slot (name:=Str.ofString "__next__") hT F.slot_zip_next (wpAny_call_entry F.slot_zip_next hT F.entry_zip_next ?_ (F.args_zip_next_1 _))))
 show wpAny _ _ (field (.ref z) 2 >>= _) _ _ _;refine wpAny_bind (wpAny_field hz rfl (x:=.bool false) rfl ?_);show wpAny _ _ (field (.ref z) 3 >>= _) _ _ _
 refine wpAny_bind (wpAny_field hz rfl (x:=.ref a) rfl ?_);refine wpAny_bind (wpAny_seqItems ha rfl ?_);show wpAny _ _ (Builtin.SmallTypes.ownedTupleIsFree (.ref z) >>= _) _ _ _
 refine wpAny_bind ?_;unfold Builtin.SmallTypes.ownedTupleIsFree;refine wpAny_bind (wpAny_field hz rfl (x:=.none) rfl (wpAny_pure ?_))
 simp only [if_true];refine wpAny_bind (wpAny_rule ?_);refine wpAny_bind (wpAny_field hz rfl (x:=.ref b) rfl ?_)
 refine wpAny_bind (wpAny_setField_rec hz (by simp) fun g₁ e₁ s₁=>?_)
 replace e₁:IsZip g₁ z a b .ellipsis:=e₁
 refine wpAny_bind ?_;simp only [List.zipIdx_cons,List.zipIdx_nil,List.forIn_cons,List.forIn_nil]
 refine wpAny_bind (wpAny_bind (wpAny_onRaise ?_));show wpAny _ _ (Builtin.SmallTypes.nextOf (.ref i1) >>= _) _ _ _
 refine wpAny_bind (tupEnd hh (h1.extBut s₁.extBut D.i1z) (t1.extBut s₁.extBut D.l1z) hx fun g₂ e s₂ he=>?_)
 obtain ⟨oe,he1,he2⟩:=he
 have e₂:IsZip g₂ z a b .ellipsis:=s₂ _ _ D.i1z.symm e₁
 have hez:e ≠ z:=fun x=>by subst x;rw [e₂] at he1;cases he1;simp at he2
 refine wpAny_setField_rec e₂ (by simp) fun g₃ _ s₃=>?_
 refine wpAny_bind (wpAny_isInstance (T := "StopIteration") (b:=true) ⟨oe,s₃.extBut _ _ hez he1,he2⟩ isSubtype_stop ?_)
 exact wpAny_pure (kq _ fun c o c1 _ c3 _ x=>s₃.extBut _ _ c1 (s₂ _ _ c3 (s₁.extBut _ _ c1 x)))
abbrev zh (h:Heap) (l:Addr):Heap:=h.push { cls:=.type "tuple_iterator",data:=.fields #[.ref l,.int 0 0] }
theorem zipNewMeets (l1 l2:Addr) (xs ys:Array Value) :
  Meets (Builtin.«zip.__new__» ⟨[.type "zip",.ref l1,.ref l2],[]⟩) (fun _ R s=>s.heap.IsTuple l1 xs/\s.heap.IsTuple l2 ys/\∀ g,g=(((zh (zh s.heap l1) l2).push { cls:=.type "tuple",data:=.seq #[.ref s.heap.objs.size,.ref (zh s.heap l1).objs.size] }).push { cls:=.type "tuple",data:=.seq #[.none,.none] }) ->
   R (.ok (.ret (.ref g.objs.size))) { s with heap:=g.push { cls:=.type "zip",data:=.fields #[.none,.bool false,.bool false,.ref (zh (zh s.heap l1) l2).objs.size,.ref ((zh (zh s.heap l1) l2).push { cls:=.type "tuple",data:=.seq #[.ref s.heap.objs.size,.ref (zh s.heap l1).objs.size] }).objs.size] } }) :=
 .of_wp fun prog w A R s h=>by
  obtain ⟨hp,g,d,tk,os⟩:=s;obtain ⟨q1,q2,h⟩:=h
  have hsub:=sub_zip
  have L1:Heap.IsTuple (Shared.heap ⟨hp,g,d,tk,os⟩) l1 xs:=q1
  have L2:Heap.IsTuple (Shared.heap ⟨zh hp l1,g,d,tk,os⟩) l2 ys:=q2.at fun o e=>Heap.get?_push_of_some _ e
  wp_walk using wpAny_pyIter_tuple L1,wpAny_pyIter_tuple L2
  exact ⟨_,rfl,h _ rfl⟩
theorem callZip {l1 l2:Addr} {xs ys:Array Value} {Q:Value->Shared->Prop} (h1:s.heap.IsTuple l1 xs) (h2:s.heap.IsTuple l2 ys)
  (k:∀ g,ZipAt g (s.heap.objs.size + 4) (s.heap.objs.size + 2) (s.heap.objs.size + 3) s.heap.objs.size (s.heap.objs.size + 1) l1 l2 xs ys 0 .none->(∀ c o,s.heap.get? c=some o->g.get? c=some o)->Q (.ref (s.heap.objs.size + 4)) { s with heap:=g }) :
  wpAny (model prog w) A (call (.type "zip") [.ref l1,.ref l2]) Q E s:=by
 refine callType_new F.called_zip (by decide) (F.typeCall_zip_2 _ _) (F.newCall_zip_2 _ _) (fun obj=>F.args_object_init_3 obj _ _) F.entry_zip_new (zipNewMeets l1 l2 xs ys) ⟨h1,h2,fun g hg=>?_⟩
 generalize e1:zh s.heap l1=a1 at *
 generalize e2:zh a1 l2=a2 at *
 generalize e3:a2.push { cls:=.type "tuple",data:=.seq #[.ref s.heap.objs.size,.ref a1.objs.size] }=a3 at *
 have n1:a1.objs.size=s.heap.objs.size + 1:=by rw [<- e1];exact Heap.size_push ..
 have n2:a2.objs.size=s.heap.objs.size + 2:=by rw [<- e2,Heap.size_push,n1]
 have n3:a3.objs.size=s.heap.objs.size + 3:=by rw [<- e3,Heap.size_push,n2]
 have n4:g.objs.size=s.heap.objs.size + 4:=by rw [hg,Heap.size_push,n3]
 have up1:∀ c o,s.heap.get? c=some o->a1.get? c=some o:=fun c o x=>e1 ▸ Heap.get?_push_of_some _ x
 have up2:∀ c o,a1.get? c=some o->a2.get? c=some o:=fun c o x=>e2 ▸ Heap.get?_push_of_some _ x
 have up3:∀ c o,a2.get? c=some o->a3.get? c=some o:=fun c o x=>e3 ▸ Heap.get?_push_of_some _ x
 have up4:∀ c o,a3.get? c=some o->g.get? c=some o:=fun c o x=>hg ▸ Heap.get?_push_of_some _ x
 have x1:a1.get? s.heap.objs.size=some { cls:=.type "tuple_iterator",data:=.fields #[.ref l1,.int 0 0] }:=e1 ▸ Heap.get?_push_size _ rfl
 have x2:a2.get? (s.heap.objs.size + 1)=some { cls:=.type "tuple_iterator",data:=.fields #[.ref l2,.int 0 0] }:=by rw [<- n1];exact e2 ▸ Heap.get?_push_size _ rfl
 have x3:a3.get? (s.heap.objs.size + 2)=some { cls:=.type "tuple",data:=.seq #[.ref s.heap.objs.size,.ref a1.objs.size] }:=by rw [<- n2];exact e3 ▸ Heap.get?_push_size _ rfl
 have x4:g.get? (s.heap.objs.size + 3)=some { cls:=.type "tuple",data:=.seq #[.none,.none] }:=by rw [<- n3];exact hg ▸ Heap.get?_push_size _ rfl
 have x5:(g.push { cls:=.type "zip",data:=.fields #[.none,.bool false,.bool false,.ref a2.objs.size,.ref a3.objs.size] }).get? (s.heap.objs.size + 4)=some { cls:=.type "zip",data:=.fields #[.none,.bool false,.bool false,.ref a2.objs.size,.ref a3.objs.size] }:=by rw [<- n4];exact Heap.get?_push_size _ rfl
 rw [n2,n3] at x5
 rw [n1] at x3
 show _/\_
 rw [n4,n2,n3]
 have all:∀ c o,s.heap.get? c=some o->(g.push { cls:=.type "zip",data:=.fields #[.none,.bool false,.bool false,.ref (s.heap.objs.size + 2),.ref (s.heap.objs.size + 3)] }).get? c=some o:=fun c o x=>Heap.get?_push_of_some _ (up4 _ _ (up3 _ _ (up2 _ _ (up1 _ _ x))))
 refine ⟨⟨_,x5,rfl⟩,k _ ⟨x5,Heap.get?_push_of_some _ (up4 _ _ x3),⟨_,_,Heap.get?_push_of_some _ x4⟩,⟨_,Heap.get?_push_of_some _ (up4 _ _ (up3 _ _ (up2 _ _ x1))),rfl,rfl⟩,⟨_,Heap.get?_push_of_some _ (up4 _ _ (up3 _ _ x2)),rfl,rfl⟩,h1.at fun o e=>all _ o e,h2.at fun o e=>all _ o e⟩ all⟩
end
end L2
end
section
namespace L2
open PySem PySem.Spec PyProof.Rows
def Itz (K:PySem.W.Frag) (l1 l2:Addr):It :=
  ⟨fun i H=>∃ xs ys x y,SqT K H l1 xs/\SqT K H l2 ys/\xs[i]?=some x/\ys[i]?=some y,
   fun i H v H'=>∃ p,H p=none/\v = .ref p/\∀ xs ys x y,SqT K H l1 xs->SqT K H l2 ys->xs[i]?=some x->ys[i]?=some y->H'=upd H p (.tup [x,y]),
   fun i H=>∃ xs,SqT K H l1 xs/\xs.length<=i/\∃ ys,SqT K H l2 ys⟩
def znt (z a b i1 i2 l1 l2:Addr) (i:Nat) (h:Heap):Prop:=IsZip h z a b .none/\IsPair h a (.ref i1) (.ref i2)/\(∃ u v,IsPair h b u v)/\h.IsTupleIter i1 l1 i/\h.IsTupleIter i2 l2 i
theorem turn_zip {P:Program} {w:World} {K:PySem.W.Frag} {elts:List Expr} {x1} {pos:Pos} {z a b i1 i2 l1 l2:Addr} (D:ZipApart z a b i1 i2 l1 l2):Turn P w K (.Tuple elts x1 pos) (Itz K l1 l2) [z,a,b,i1,i2] z (znt z a b i1 i2 l1 l2) where
 mem:=by simp
 obj:=fun i h st c hc=>by
  obtain ⟨h1,h2,⟨u,v,h3⟩,⟨o4,h4,_,d4⟩,⟨o5,h5,_,d5⟩⟩:=st
  simp only [List.mem_cons,List.mem_nil_iff,or_false] at hc
  rcases hc with rfl | rfl | rfl | rfl | rfl
  ·exact ⟨_,h1,fun v z=>by cases z⟩
  ·exact ⟨_,h2,fun v z=>by cases z⟩
  ·exact ⟨_,h3,fun v z=>by cases z⟩
  ·exact ⟨_,h4,fun v z=>by rw [d4] at z;cases z⟩
  ·exact ⟨_,h5,fun v z=>by rw [d5] at z;cases z⟩
 keep:=fun i h h' st k=>by
  obtain ⟨h1,h2,⟨u,v,h3⟩,h4,h5⟩:=st
  exact ⟨k _ (by simp) _ h1,k _ (by simp) _ h2,⟨u,v,k _ (by simp) _ h3⟩,h4.at fun o e=>k _ (by simp) o e,h5.at fun o e=>k _ (by simp) o e⟩
 item := by
  intro X hP hw hK hc i pins s σ H E I hf st hg
  subst hP hw hK
  obtain ⟨xs,ys,x,y,q1,q2,hx,hy⟩:=hg
  obtain ⟨its,rv,p,hz⟩:=I.tuple q1
  obtain ⟨its',rv',p',hz'⟩:=I.tuple q2
  obtain ⟨u,hu,ru⟩:=rv.get hx
  obtain ⟨u',hu',ru'⟩:=rv'.get hy
  obtain ⟨h1,h2,h3,h4,h5⟩:=id st
  refine zipNext D ⟨h1,h2,h3,h4,h5,p,p'⟩ (x:=u) (y:=u') (by simpa using hu) (by simpa using hu') fun g Z pr all=>⟨_,rfl,?_⟩
  refine wpAny_letOwnedTupleGo_zip (s:={ s with heap:=g }) Z.z fun g2 e2 s2=>?_
  have hn:H s.heap.objs.size=none:=I.hok.fresh (Nat.le_refl _)
  have lt:∀ c ∈ [z,a,b,i1,i2],c < s.heap.objs.size:=fun c hc=>by
   have:=(hf c hc)
   obtain ⟨w1,w2,⟨_,_,w3⟩,⟨_,w4,_⟩,⟨_,w5,_⟩⟩:=st
   simp only [List.mem_cons,List.mem_nil_iff,or_false] at hc
   rcases hc with rfl | rfl | rfl | rfl | rfl
   ·exact Heap.lt_size w1
   ·exact Heap.lt_size w2
   ·exact Heap.lt_size w3
   ·exact Heap.lt_size w4
   ·exact Heap.lt_size w5
  have kp:∀ c o,c ∉ [z,a,b,i1,i2]->s.heap.get? c=some o->g2.get? c=some o:=fun c o hc e=>by
   simp only [List.mem_cons,List.mem_nil_iff,or_false,not_or] at hc
   exact s2.extBut _ _ hc.1 (all c o hc.1 hc.2.2.1 hc.2.2.2.1 hc.2.2.2.2 e)
  have trk:∀ c u,H c=some u->c ∉ [z,a,b,i1,i2]:=fun c u e hc=>by rw [(hf c hc).1] at e;cases e
  have pr2:g2.get? s.heap.objs.size=some { cls:=.type "tuple",data:=.seq #[u,u'] }:=s2.extBut _ _ (Nat.ne_of_gt (lt z (by simp))) pr
  have I2:Inv X pins σ (upd H s.heap.objs.size (.tup [x,y])) { s with heap:=g2 }:=by
   refine I.step (g':=s.gens) (d':=s.drawn) (t':=s.toks) (ch:=[z,a,b,i1,i2]) (fun c hc=>?_) (fun c o _ _ hc e _=>kp c o hc e) (fun c o _ _ hc e _=>⟨o.slots,kp c o hc e⟩) (fun c o _ e n=>?_)
    (fun c o hc e=>⟨o,kp c o hc e⟩) (fun c vs e=>?_) (fun c o vs e=>?_) (fun c ps e=>⟨#[],?_⟩) (fun m hm=>?_) (fun c v e=>?_) I.bare
   ·obtain ⟨f0,f1,f2,f3,f4,f5⟩:=hf c hc
    exact ⟨f3,f1,f4,f5⟩
   ·rw [upd_ne (Nat.ne_of_lt (Heap.lt_size e))];exact n
   ·rw [upd_ne (ne_of_none e hn)];exact e
   ·rw [upd_ne (ne_of_none e hn)];exact e
   ·rw [upd_ne (ne_of_none e hn),e];simp
   ·obtain ⟨o,es,ep,ho,r⟩:=hm
    exact ⟨o,es,ep,kp _ o (fun hc=>(hf _ hc).2.1 rfl) ho,r⟩
   ·by_cases hb:c=s.heap.objs.size
    ·subst hb
     rw [upd_same] at e;cases e
     exact ⟨by show 2<=sizeLine;decide,[u,u'],.cons ru (.cons ru' .nil),⟨_,pr2,rfl,_,rfl⟩⟩
    ·rw [upd_ne hb] at e
     refine (I.hok c v e).stay (fun d o hd q=>kp d o ?_ q) (fun d q=>by rw [upd_ne (ne_of_none q hn)];exact q) fun d ts q=>by rw [upd_ne (ne_of_none q hn)];exact q
     rcases hd with rfl | hd
     ·exact trk _ _ e
     ·exact trk _ _ hd
  refine ⟨.ref s.heap.objs.size,_,I2,rfl,⟨_,hn,rfl,fun xs' ys' x' y' a1 a2 a3 a4=>?_⟩,⟨e2,s2.extBut _ _ D.TIz Z.a,?_,Z.i1.extBut s2.extBut D.i1z,Z.i2.extBut s2.extBut D.i2z⟩,fun c hc=>?_⟩
  ·rw [I.tuple_inj a1 q1,hx] at a3
   rw [I.tuple_inj a2 q2,hy] at a4
   cases a3;cases a4;rfl
  ·obtain ⟨v1,v2,e3⟩:=Z.b
   exact ⟨v1,v2,s2.extBut _ _ D.TOz e3⟩
  ·rw [upd_ne (Nat.ne_of_lt (lt c hc))];exact (hf c hc).1
 done:=by
  intro X hP hw hK hc i pins s σ H E I hf st hg
  subst hP hw hK
  obtain ⟨xs,q1,hx,ys,q2⟩:=hg
  obtain ⟨its,rv,p,hz⟩:=I.tuple q1
  obtain ⟨its',rv',p',hz'⟩:=I.tuple q2
  obtain ⟨h1,h2,h3,h4,h5⟩:=id st
  have hl:=rv.length
  refine zipEnd (I.ok.hd hc) D ⟨h1,h2,h3,h4,h5,p,p'⟩ (by simp;omega) fun g all=>⟨rfl,?_⟩
  have kp:∀ c o,c ∉ [z,a,b,i1,i2]->s.heap.get? c=some o->g.get? c=some o:=fun c o hc e=>by
   simp only [List.mem_cons,List.mem_nil_iff,or_false,not_or] at hc
   exact all c o hc.1 hc.2.2.1 hc.2.2.2.1 hc.2.2.2.2 e
  have trk:∀ c u,H c=some u->c ∉ [z,a,b,i1,i2]:=fun c u e hc=>by rw [(hf c hc).1] at e;cases e
  refine I.step (g':=s.gens) (d':=s.drawn) (t':=s.toks) (ch:=[z,a,b,i1,i2]) (fun c hc=>?_) (fun c o _ _ hc e _=>kp c o hc e) (fun c o _ _ hc e _=>⟨o.slots,kp c o hc e⟩) (fun c o _ e n=>n)
    (fun c o hc e=>⟨o,kp c o hc e⟩) (fun c vs e=>e) (fun c o vs e=>e) (fun c ps e=>⟨#[],by rw [e];simp⟩) (fun m hm=>?_) (fun c v e=>?_) I.bare
  ·obtain ⟨f0,f1,f2,f3,f4,f5⟩:=hf c hc
   exact ⟨f3,f1,f4,f5⟩
  ·obtain ⟨o,es,ep,ho,r⟩:=hm
   exact ⟨o,es,ep,kp _ o (fun hc=>(hf _ hc).2.1 rfl) ho,r⟩
  ·refine (I.hok c v e).stay (fun d o hd q=>kp d o ?_ q) (fun d q=>q) fun d ts q=>q
   rcases hd with rfl | hd
   ·exact trk _ _ e
   ·exact trk _ _ hd
 self:=fun _ _ _ _ _ st h=>wpAny_pyIter_zip st.1 h
section
variable {X:Cx}
def iZip (K:PySem.W.Frag) (ta:TA):TI:=fun σ H R=>ta σ H fun vs H1=>∃ l1 l2,vs=[.ref l1,.ref l2]/\(∃ xs,SqT K H1 l1 xs)/\(∃ ys,SqT K H1 l2 ys)/\R (Itz K l1 l2) H1
theorem pi_zip {a b : Expr} {ta : TA} {p pos pt : Pos} {elts : List Expr} {x1} (hg : Gl X "zip") (hm : X.mg "zip" = none) (ha : PA X [a, b] ta) (hs : starEach [a, b] X.env = [(false, eval a X.env), (false, eval b X.env)] := by rfl) (hs2 : starEach [b] X.env = [(false, eval b X.env)] := by rfl) :
    PI X (.Tuple elts x1 pt) (.Call (.Name "zip" p) [a,b] [] pos) (iZip X.K ta):=by
  intro pins s σ H R I h
  refine Call_ (ld_blt I hg hm boot_zip (PyProof.Rows.callWith_type1 (thn (ha pos pins s σ H _ I h) fun us s1 ⟨vs,H1,I1,r1,q1⟩=>?_) (by rw [hs,hs2]) (by rw [hs2];rfl)))
  obtain ⟨l1,l2,e,⟨xs,q1⟩,⟨ys,q2⟩,q⟩:=q1
  subst e
  cases r1 with
  | cons r rr =>
    cases rr with
    | cons r' rr =>
      cases rr
      cases (show _=Value.ref l1 from r)
      cases (show _=Value.ref l2 from r')
      obtain ⟨its,rv,p1,_⟩:=I1.tuple q1
      obtain ⟨its',rv',p2,_⟩:=I1.tuple q2
      have a1:l1 < s1.heap.objs.size:=by obtain ⟨_,e,_⟩:=p1;exact Heap.lt_size e
      have a2:l2 < s1.heap.objs.size:=by obtain ⟨_,e,_⟩:=p2;exact Heap.lt_size e
      refine callZip (show s1.heap.IsTuple l1 its.toArray from p1) (show s1.heap.IsTuple l2 its'.toArray from p2) fun g Z all=>?_
      refine wpAny_pyIter_zip (s:={ s1 with heap:=g }) Z.z ?_
      refine ⟨_,_,_,_,H1,rfl,I1.kept (t':=s1.toks) all,turn_zip (PyProof.Rows.zipApart_new a1 a2),⟨Z.z,Z.a,Z.b,Z.i1,Z.i2⟩,fun b hb=>?_,q⟩
      have ge:s1.heap.objs.size<=b:=by
        simp only [List.mem_cons,List.mem_nil_iff,or_false] at hb
        rcases hb with rfl | rfl | rfl | rfl | rfl
        . exact Nat.le_add_right _ 4
        . exact Nat.le_add_right _ 2
        . exact Nat.le_add_right _ 3
        . exact Nat.le_refl _
        . exact Nat.le_add_right _ 1
      exact I1.fpOk ge (I1.hok.fresh ge)
end
end L2
end
section
namespace L2
open PySem PySem.Spec PyProof.Rows
theorem weight_in:∀ (ns:List Int) (n:Int),n ∈ ns->PySem.W.WData.weight (.int n)<=PySem.W.WData.weightAll (ns.map PySem.W.WData.int)
  | m :: ns, n, h => by
    rw [List.map_cons,PySem.W.WData.weightAll]
    rcases List.mem_cons.mp h with rfl | h
    . omega
    . have:=weight_in ns n h
      omega
theorem walkB {l:PySem.W.OpenLaw} {n k:Nat} {q:Program} {loose:List Str} {XP:(Str->Option Value)->Heap->Prop} {YP:World->Heap->Prop} {d:DefRec} {K:Params->PySem.W.Frag} {sp:PySem.W.Frag->Sp} {x:Str}
  (hn:l.most=some n) (hn2:n<=sizeLine) (hdf:d.params.defaults=[]) (hr:Room k callerA) (hY:∀ (w:World) (h:Heap),YP w h->(K w.params).In h)
  (F:∀ (w:World) (mg:Str->Option Value) (fa:Addr) (h:Heap),(K w.params).In h->h.Ns mainGlobals mg->mg d.name=some (.ref fa) ->
   ∃ fd:FuncData,(∀ (s:Shared) (u:Value),BindsTo s fd ⟨[u],[]⟩ [(x,u)])/\∀ base:Heap,(K w.params).In base->base.Ns mainGlobals mg->FnOk l.prog w (K w.params) mg base CX0 k fa fd [x] (sp (K w.params)))
  (hsp:∀ (K:PySem.W.Frag) (H:Hp) (a:Addr) (ns:List Int),ns.length<=n->(∀ v ∈ ns,Builtin.Int.intBits v<=2 ^ 20)->SqL K H a (ns.map V.int)->sp K [.ref a] H (fun v _=>v = .bl true) fun _ _ _=>False) :
  PySem.W.WalkO q loose XP YP l.row.toRowW d [] (fun f vs=>PySem.call f vs):=by
 intro w s₀ s₁ mg mb G Y fa o pm cd doc dV kV ho hd hcd hD hmg hg args vals as hpre hlay hrd hwl hlo
 obtain rfl:dV = .none:=PySem.W.Dflts.none hD hdf
 obtain rfl:kV = .none:=PySem.W.Dflts.noKw hD
 obtain ⟨a,vs,ns,rfl,rfl,hobj,hints,hlen⟩:=Att.script_of hn hpre hwl
 have bits:∀ v ∈ ns,Builtin.Int.intBits v<=2 ^ 20:=fun v hv=>by
  have h1:PySem.W.WData.layable (.list (ns.map PySem.W.WData.int))=true:=by
   have h2:[PySem.W.WData.list (ns.map PySem.W.WData.int)].all PySem.W.WData.layable=true:=hlay
   simpa only [List.all_cons,List.all_nil,Bool.and_true] using h2
  have h3:=(PySem.W.layableW_iff.mp h1).2.2
  have h4:=weight_in ns v hv
  rw [PySem.W.WData.weight] at h3
  have h5:PySem.W.WData.weight (.int v)=Builtin.Int.intBits v:=by first | rfl | simp only [PySem.W.WData.weight,Builtin.Int.intBits]
  omega
 have KX:=hY w _ Y
 obtain ⟨fd,hb,hF⟩:=F w mg fa _ KX G.T.g hmg
 have call:=law_call KX G.T.g G.T.b G.T.builtins G.T.nolimit hg hobj hints (Nat.le_trans hlen hn2) hr hF hb (fun H hO hS=>hsp (K w.params) H a ns hlen bits hS) fun H e s' z=>z
 refine PySem.W.enter_call (codeAny_mono call fun r s' hq=>?_)
 obtain ⟨rfl,h2,h3,h4⟩:=hq
 exact ⟨.inl ⟨.bool true,.bool true,[],rfl,fun _=>rfl,.bool true,Att.post_true l _,fun _=>⟨List.Pairwise.nil,fun _ hm=>(nomatch hm)⟩⟩,h2,h3,h4⟩
end L2
end
section
namespace L2
open PySem PySem.Spec PyProof.Rows
open PySem.W (Dat kqdP kqdPs kqdOk)
def Tm (H H':Hp):Prop:=∀ (K:PySem.W.Frag) (a:Addr) (xs:List V),SqT K H a xs->SqT K H' a xs
theorem Tm.refl (H:Hp):Tm H H:=fun _ _ _ h=>h
theorem Tm.trans {H H1 H2:Hp} (a:Tm H H1) (b:Tm H1 H2):Tm H H2:=fun K c o h=>b K c o (a K c o h)
theorem Same.tm {H H':Hp} (e:Same H H'):Tm H H':=fun _ _ _ h=>e.tup h
theorem Tm.lst {H:Hp} {D:Addr} {ys:List V} (h:H D=some (.lst ys)) (o:HO):Tm H (upd H D o):=fun K a xs q=>by
 rcases q with (q | ⟨ob,q⟩) | q
 ·exact .inl (.inl (by rw [upd_ne (ne_of q h (fun z=>by cases z))];exact q))
 ·exact .inl (.inr ⟨ob,by rw [upd_ne (ne_of q h (fun z=>by cases z))];exact q⟩)
 ·exact .inr q
def SB (p:Addr) (H H':Hp):Prop:=∀ b o,b ≠ p->H b=some o->H' b=some o
theorem SB.trans {p:Addr} {H H1 H2:Hp} (a:SB p H H1) (b:SB p H1 H2):SB p H H2:=fun c o n h=>b c o n (a c o n h)
theorem Same.sb {p:Addr} {H H':Hp} (e:Same H H'):SB p H H':=fun b o _ h=>e b o h
theorem SB.upd {p:Addr} {H:Hp} {o:HO}:SB p H (upd H p o):=fun b u n h=>by rw [upd_ne n];exact h
theorem SB.tm {p:Addr} {H H':Hp} {ys:List V} (e:SB p H H') (h:H p=some (.lst ys)):Tm H H':=fun K a xs q=>by
 rcases q with (q | ⟨ob,q⟩) | q
 ·exact .inl (.inl (e _ _ (ne_of q h (fun z=>by cases z)) q))
 ·exact .inl (.inr ⟨ob,e _ _ (ne_of q h (fun z=>by cases z)) q⟩)
 ·exact .inr q
theorem Same.snoc {H H5:Hp} {D:Addr} {o:HO} (h:Same H H5) (hn:H D=Option.none):Same H (upd H5 D o):=fun b u e=>by rw [upd_ne (ne_of_none e hn)];exact h b u e
mutual
inductive Fz (K:PySem.W.Frag) (H:Hp):V->Dat->Prop
 | none:Fz K H .non .none
 | bool (b:Bool):Fz K H (.bl b) (.bool b)
 | int (i:Int):Fz K H (.int i) (.int i)
 | str (x:Str):Fz K H (.str x) (.str x)
 | tup {a:Addr} {xs:List V} {ds:List Dat}:SqT K H a xs->Fzs K H xs ds->Fz K H (.ref a) (.tuple ds)
inductive Fzs (K:PySem.W.Frag) (H:Hp):List V->List Dat->Prop
 | nil:Fzs K H [] []
 | cons {x:V} {d:Dat} {xs:List V} {ds:List Dat}:Fz K H x d->Fzs K H xs ds->Fzs K H (x :: xs) (d :: ds)
end
section
variable {K:PySem.W.Frag} {H H':Hp}
mutual
theorem Fz.tm (e:Tm H H'):∀ {v:V} {d:Dat},Fz K H v d->Fz K H' v d
 | _,_,.none=>.none
 | _,_,.bool b=>.bool b
 | _,_,.int i=>.int i
 | _,_,.str x=>.str x
 | _,_,.tup h r=>.tup (e _ _ _ h) (Fzs.tm e r)
theorem Fzs.tm (e:Tm H H'):∀ {v:List V} {d:List Dat},Fzs K H v d->Fzs K H' v d
 | _,_,.nil=>.nil
 | _,_,.cons h r=>.cons (Fz.tm e h) (Fzs.tm e r)
end
theorem Fzs.length:∀ {v:List V} {d:List Dat},Fzs K H v d->v.length=d.length
 | _,_,.nil=>rfl
 | _,_,.cons _ r=>by rw [List.length_cons,List.length_cons,Fzs.length r]
theorem Fzs.snoc:∀ {v:List V} {d:List Dat} {x:V} {e:Dat},Fzs K H v d->Fz K H x e->Fzs K H (v ++ [x]) (d ++ [e])
 | _,_,_,_,.nil,h=>.cons h .nil
 | _,_,_,_,.cons a r,h=>.cons a (Fzs.snoc r h)
theorem Fzs.ints_inv:∀ {vs:List V} {ns:List Int},Fzs K H vs (ns.map Dat.int)->vs=ns.map V.int
  | _,[],h=>by cases h;rfl
  | _,n :: ns,h=>by
    cases h with
    | cons a r =>
      cases a
      rw [Fzs.ints_inv r];rfl
end
section
variable {K:PySem.W.Frag} {te:TE} {σ:St} {H:Hp} {Q:VK}
theorem comp_by {J:It} {g:TG} {no n:Nat} (ds:List Dat) (hn:ds.length=n) (hz:n<=sizeLine) {Pσ:Nat->St->Prop} (h0:Pσ 0 (List.replicate no none ++ σ))
  (stop:∀ H',Same H H'->J.stop n H') (go:∀ i H',i < n->Same H H'->J.go i H')
  (turn:∀ i σ' H' d,ds[i]?=some d->Same H H'->Pσ i σ'->∀ x H2,J.yld i H' x H2->g x σ' H2 fun σ3 H3=>te σ3 H3 fun v H5=>Pσ (i + 1) σ3/\Same H' H5/\Fz K H5 v d)
  (mono:∀ x σ' H2 Q1 Q2,(∀ σ3 H3,Q1 σ3 H3->Q2 σ3 H3)->g x σ' H2 Q1->g x σ' H2 Q2) (monoE:∀ σ' H2 Q1 Q2,(∀ v H3,Q1 v H3->Q2 v H3)->te σ' H2 Q1->te σ' H2 Q2)
  (fin:∀ D H' ys,Same H H'->H' D=some (.lst ys)->H D=Option.none->Fzs K H' ys ds->Q (.ref D) H') :
  CompW no (J) g tAll te σ H Q:=by
 intro D hD
 refine ⟨fun i m σ' H'=>m=n - i/\i<=n/\Pσ i σ'/\Same H H'/\∃ ys,H' D=some (.lst ys)/\Fzs K H' ys (ds.take i),⟨n,by omega,Nat.zero_le _,h0,Same.new hD _,[],upd_same,.nil⟩,?_⟩
 rintro i m σ' H' ⟨rfl,hi,hp,hs,ys,hy,hf⟩
 by_cases hlt:i < n
 ·refine .inr ⟨go i H' hlt hs,fun x H2 hy2=>?_⟩
  obtain ⟨d,hd⟩:∃ d,ds[i]?=some d:=⟨ds[i],by simp⟩
  refine mono _ _ _ _ _ (fun σ3 H3 h3=>?_) (turn i σ' H' d hd hs hp x H2 hy2)
  unfold tAll
  dsimp only
  rw [if_pos rfl]
  refine monoE _ _ _ _ (fun v H5 h5=>?_) h3
  obtain ⟨p5,s5,f5⟩:=h5
  have l:ys.length=i:=by rw [hf.length,List.length_take];omega
  refine ⟨ys,s5 _ _ hy,by omega,n - (i + 1),by omega,rfl,hlt,p5,(hs.trans s5).snoc hD,ys ++ [v],upd_same,?_⟩
  have tm:=Tm.lst (s5 _ _ hy) (.lst (ys ++ [v]))
  rw [List.take_add_one,hd]
  exact ((hf.tm s5.tm).tm tm).snoc (f5.tm tm)
 ·have e:i=n:=by omega
  subst e
  refine .inl ⟨stop H' hs,fin D H' ys hs hy hD ?_⟩
  rw [<- hn,List.take_length] at hf
  exact hf
theorem gName_mono {i:Nat}:∀ x σ' H2 Q1 Q2,(∀ σ3 H3,Q1 σ3 H3->Q2 σ3 H3)->gName i x σ' H2 Q1->gName i x σ' H2 Q2:=fun _ _ _ _ _ h q=>h _ _ q
theorem comp_tup {a:Addr} {xs:List V} (ds:List Dat) (hS:SqT K H a xs) (hn:ds.length=xs.length) (hz:xs.length<=sizeLine)
  (turn:∀ (i:Nat) x H' d,xs[i]?=some x->ds[i]?=some d->Same H H'->te (some x :: σ) H' fun v H5=>Same H' H5/\Fz K H5 v d)
  (monoE:∀ σ' H2 Q1 Q2,(∀ v H3,Q1 v H3->Q2 v H3)->te σ' H2 Q1->te σ' H2 Q2)
  (fin:∀ D H' ys,Same H H'->H' D=some (.lst ys)->H D=Option.none->Fzs K H' ys ds->Q (.ref D) H') :
  CompW 1 (Itt K a) (gName 0) tAll te σ H Q:=by
 refine comp_by (J:=Itt K a) (K:=K) ds hn hz (Pσ:=fun _ σ'=>∃ o,σ'=o :: σ) ⟨none,rfl⟩ (fun H' s=>⟨xs,s.tup hS,Nat.le_refl _⟩) (fun i H' hi s=>⟨xs,xs[i],s.tup hS,by simp [hi]⟩) ?_ gName_mono monoE fin
 rintro i σ' H' d hd s ⟨o,rfl⟩ x H2 ⟨rfl,hy⟩
 have hx:=hy xs (s.tup hS)
 refine monoE _ _ _ _ (fun v H3 h=>?_) (turn i x H2 d hx hd s)
 exact ⟨⟨_,rfl⟩,h⟩
def gPair (K:PySem.W.Frag):TG:=gTup K 2 (gCons (gName 0) (gCons (gName 1) gNil))
theorem comp_zip {l1 l2:Addr} {xs ys:List V} (ds:List Dat) (h1:SqT K H l1 xs) (h2:SqT K H l2 ys) (hl:ys.length=xs.length) (hn:ds.length=xs.length) (hz:xs.length<=sizeLine)
  (turn:∀ (i:Nat) x y H' d,xs[i]?=some x->ys[i]?=some y->ds[i]?=some d->Same H H'->te (some x :: some y :: σ) H' fun v H5=>Same H' H5/\Fz K H5 v d)
  (monoE:∀ σ' H2 Q1 Q2,(∀ v H3,Q1 v H3->Q2 v H3)->te σ' H2 Q1->te σ' H2 Q2)
  (fin:∀ D H' ys,Same H H'->H' D=some (.lst ys)->H D=Option.none->Fzs K H' ys ds->Q (.ref D) H') :
  CompW 2 (Itz K l1 l2) (gPair K) tAll te σ H Q:=by
 refine comp_by (J:=Itz K l1 l2) (K:=K) ds hn hz (Pσ:=fun _ σ'=>∃ o p,σ'=o :: p :: σ) ⟨none,none,rfl⟩ (fun H' s=>⟨xs,s.tup h1,Nat.le_refl _,ys,s.tup h2⟩) (fun i H' hi s=>⟨xs,ys,xs[i],ys[i],s.tup h1,s.tup h2,by simp [hi],by simp [hl,hi]⟩) ?_ ?_ monoE fin
 ·rintro i σ' H' d hd s ⟨o,o',rfl⟩ x H2 ⟨p,hp,rfl,hy⟩
  have hi:i < xs.length:=by
   have:=(List.getElem?_eq_some_iff.mp hd).1
   omega
  have ex:xs[i]?=some xs[i]:=by simp [hi]
  have ey:ys[i]?=some (ys[i]'(by omega)):=by simp [hl,hi]
  have e2:=hy xs ys _ _ (s.tup h1) (s.tup h2) ex ey
  subst e2
  have s2:Same H' (upd H' p (.tup [xs[i],ys[i]'(by omega)])):=Same.new hp _
  refine ⟨p,_,rfl,SqT.of upd_same,rfl,_,_,rfl,_,_,rfl,rfl,?_⟩
  refine monoE _ _ _ _ (fun v H3 h=>?_) (turn i _ _ _ d ex ey hd (s.trans s2))
  exact ⟨⟨_,_,rfl⟩,s2.trans h.1,h.2⟩
 ·rintro x σ' H2 Q1 Q2 hq ⟨a,vs,e1,e2,e3,v1,r1,e4,v2,r2,e5,e6,q⟩
  exact ⟨a,vs,e1,e2,e3,v1,r1,e4,v2,r2,e5,e6,hq _ _ q⟩
theorem pg_pair {X:Cx} {own:List Str} {scope:Scope} {C:Addr} {fp:List Addr} {s:Shared} {H:Hp} {x y:Str} {px py pos:Pos} {k:Nat} (hc:X.calm=true) (nd:(cxComp X own scope C fp s H).N.Nodup) (h0:(cxComp X own scope C fp s H).N[0]?=some x) (h1:(cxComp X own scope C fp s H).N[1]?=some y)
  (l0:(cxComp X own scope C fp s H).env.scope.names.lookup x=some .local) (l1:(cxComp X own scope C fp s H).env.scope.names.lookup y=some .local):PG (cxComp X own scope C fp s H) (.Tuple [.Name x px,.Name y py] k pos) (gPair X.K) :=
 pg_tup (X:=cxComp X own scope C fp s H) (n:=2) hc (pgs_cons (pg_name (i:=0) nd h0 (Or.inl l0) (Or.inr l0)) (pgs_cons (pg_name (i:=1) nd h1 (Or.inl l1) (Or.inr l1)) pgs_nil))
end
end L2
end
section
namespace L2
open PySem PySem.Spec PyProof.Rows
section
variable {X:Cx} {es:List Expr} {t:TA} {te:TE}
theorem pa_i {i:Int} {j:Nat} {p:Pos} (hr:PA X es t):PA X (.Constant (.int i) j p :: es) (tCons (tC (.int i)) t):=pa_cons pe_int hr rfl
theorem pa_n {x:Str} {p:Pos} (ha:PE X (.Name x p) te) (hr:PA X es t):PA X (.Name x p :: es) (tCons te t):=pa_cons ha hr rfl
theorem pa_b {a b:Expr} {op:Operator} {p:Pos} (ha:PE X (.BinOp a op b p) te) (hr:PA X es t):PA X (.BinOp a op b p :: es) (tCons te t):=pa_cons ha hr rfl
theorem pa_u {a:Expr} {op:UnaryOp} {p:Pos} (ha:PE X (.UnaryOp op a p) te) (hr:PA X es t):PA X (.UnaryOp op a p :: es) (tCons te t):=pa_cons ha hr rfl
theorem pa_s {a b:Expr} {p:Pos} (ha:PE X (.Subscript a b p) te) (hr:PA X es t):PA X (.Subscript a b p :: es) (tCons te t):=pa_cons ha hr rfl
theorem pa_c {f:Expr} {a:List Expr} {k:List Keyword} {p:Pos} (ha:PE X (.Call f a k p) te) (hr:PA X es t):PA X (.Call f a k p :: es) (tCons te t):=pa_cons ha hr rfl
theorem pa_t {a:List Expr} {p:Pos} {k:Nat} (ha:PE X (.Tuple a k p) te) (hr:PA X es t):PA X (.Tuple a k p :: es) (tCons te t):=pa_cons ha hr rfl
theorem pa_l {a:List Expr} {p:Pos} (ha:PE X (.List a p) te) (hr:PA X es t):PA X (.List a p :: es) (tCons te t):=pa_cons ha hr rfl
theorem pix_call {f:Expr} {a:List Expr} {k:List Keyword} {p:Pos}:PlainIx (.Call f a k p):=fun _ _=>rfl
theorem sw_sub {a b:Expr} {p:Pos} {t:Option Expr} {l:Nat} {env:Env}:swapsWith (.Subscript a b p) t l env=pure false:=rfl
end
end L2
end
section
namespace L2
open PySem PySem.Spec PyProof.Rows
open PySem.W (Dat)
def Src (J:It) (H:Hp) (xs:List V):Prop:=∀ H',Same H H'->J.stop xs.length H'/\∀ i x,xs[i]?=some x->J.go i H'/\∀ y H2,J.yld i H' y H2->H'=H2/\x=y
section
variable {K:PySem.W.Frag} {H:Hp} {σ:St} {te:TE} {tt:TT} {Q:VK} {J:It} {xs:List V}
theorem src_tup {a:Addr} (h:SqT K H a xs):Src (Itt K a) H xs:=fun H' s=>⟨⟨xs,s.tup h,Nat.le_refl _⟩,fun i x hx=>⟨⟨xs,x,s.tup h,hx⟩,fun y H2 ⟨e,q⟩=>⟨e.symm,by
 have:=q xs (s.tup h)
 rw [hx] at this;cases this;rfl⟩⟩⟩
theorem src_lst {a:Addr} (h:SqL K H a xs):Src (Itl K a) H xs:=fun H' s=>⟨⟨xs,s.seq h,Nat.le_refl _⟩,fun i x hx=>⟨⟨xs,x,s.seq h,hx⟩,fun y H2 ⟨e,q⟩=>⟨e.symm,by
 have:=q xs (s.seq h)
 rw [hx] at this;cases this;rfl⟩⟩⟩
theorem src_rng {lo:Int} {n:Nat}:Src (Itr lo n) H ((List.range n).map fun (i:Nat)=>V.int (lo + i)):=fun H' s=>⟨by show n<=_;simp,fun i x hx=>by
  rw [List.getElem?_map] at hx
  cases e:(List.range n)[i]? with
  | none=>rw [e] at hx;cases hx
  | some j =>
    rw [e] at hx;cases hx
    have hi:i < n:=by simpa using (List.getElem?_eq_some_iff.mp e).1
    have hj:j=i:=by
      have:=(List.getElem?_eq_some_iff.mp e).2
      simpa using this.symm
    subst hj
    exact ⟨hi,fun y H2 ⟨e1,e2⟩=>⟨e1.symm,e2.symm⟩⟩⟩
theorem comp_src (S:Src J H xs) (kp:V->Bool) (dv:V->Dat) (hz:xs.length<=sizeLine)
  (test:∀ x ∈ xs,∀ H',Same H H'->∀ R:Bool->Hp->Prop,(∀ H4,Same H' H4->R (kp x) H4)->tt (some x :: σ) H' R)
  (turn:∀ x ∈ xs,kp x=true->∀ H',Same H H'->∀ R:VK,(∀ v H5,Same H' H5->Fz K H5 v (dv x)->R v H5)->te (some x :: σ) H' R)
  (fin:∀ D H' ys,Same H H'->H' D=some (.lst ys)->H D=none->Fzs K H' ys ((xs.filter kp).map dv)->Q (.ref D) H') :
  CompW 1 J (gName 0) tt te σ H Q:=by
 intro D hD
 refine ⟨fun i m σ' H'=>m=xs.length - i/\i<=xs.length/\(∃ o,σ'=o :: σ)/\Same H H'/\∃ ys,H' D=some (.lst ys)/\Fzs K H' ys (((xs.take i).filter kp).map dv),⟨xs.length,by omega,Nat.zero_le _,⟨_,rfl⟩,Same.new hD _,[],upd_same,.nil⟩,?_⟩
 rintro i m σ' H' ⟨rfl,hi,⟨o,rfl⟩,hs,ys,hy,hf⟩
 obtain ⟨stop,each⟩:=S H' hs
 by_cases hlt:i < xs.length
 ·obtain ⟨go,yl⟩:=each i xs[i] (by simp [hlt])
  have hm:xs[i] ∈ xs:=List.getElem_mem hlt
  refine .inr ⟨go,fun y H2 q=>?_⟩
  obtain ⟨rfl,rfl⟩:=yl y H2 q
  show tt (some xs[i] :: σ) H' _
  refine test _ hm H' hs _ fun H4 s4=>?_
  have tk:xs.take (i + 1)=xs.take i ++ [xs[i]]:=by rw [List.take_add_one];simp [hlt]
  by_cases hk:kp xs[i]=true
  ·rw [if_pos hk]
   refine turn _ hm hk H4 (hs.trans s4) _ fun v H5 s5 f5=>?_
   have l:ys.length<=i:=by
    rw [hf.length,List.length_map]
    exact Nat.le_trans (List.length_filter_le _ _) (by rw [List.length_take];omega)
   have hy5:=s5 _ _ (s4 _ _ hy)
   refine ⟨ys,hy5,by omega,xs.length - (i + 1),by omega,rfl,hlt,⟨_,rfl⟩,(hs.trans (s4.trans s5)).snoc hD,ys ++ [v],upd_same,?_⟩
   have tm:=Tm.lst hy5 (.lst (ys ++ [v]))
   rw [tk,List.filter_append,List.map_append]
   have:[xs[i]].filter kp=[xs[i]]:=by simp [hk]
   rw [this]
   exact ((hf.tm (s4.trans s5).tm).tm tm).snoc (f5.tm tm)
  ·rw [if_neg hk]
   refine ⟨xs.length - (i + 1),by omega,rfl,hlt,⟨_,rfl⟩,hs.trans s4,ys,s4 _ _ hy,?_⟩
   rw [tk,List.filter_append]
   have:[xs[i]].filter kp=[]:=by simp [hk]
   rw [this,List.append_nil]
   exact hf.tm s4.tm
 ·have e:i=xs.length:=by omega
  subst e
  refine .inl ⟨stop,fin D H' ys hs hy hD ?_⟩
  rw [List.take_length] at hf
  exact hf
theorem comp_all (S:Src J H xs) (dv:V->Dat) (hz:xs.length<=sizeLine)
  (turn:∀ x ∈ xs,∀ H',Same H H'->∀ R:VK,(∀ v H5,Same H' H5->Fz K H5 v (dv x)->R v H5)->te (some x :: σ) H' R)
  (fin:∀ D H' ys,Same H H'->H' D=some (.lst ys)->H D=none->Fzs K H' ys (xs.map dv)->Q (.ref D) H') :
  CompW 1 J (gName 0) tAll te σ H Q :=
 comp_src S (fun _=>true) dv hz (fun x _ H' _ R q=>q H' (Same.refl _)) (fun x hx _=>turn x hx) fun D H' ys s h n f=>fin D H' ys s h n (by
  have e:xs.filter (fun _=>true)=xs:=List.filter_eq_self.mpr fun _ _=>rfl
  rw [e] at f;exact f)
theorem comp_ints {ns:List Int} (S:Src J H (ns.map V.int)) (fn:Int->Int) (hz:ns.length<=sizeLine)
  (turn:∀ n ∈ ns,∀ H',Same H H'->∀ R:VK,(∀ H5,Same H' H5->R (.int (fn n)) H5)->te (some (.int n) :: σ) H' R)
  (fin:∀ D H',Same H H'->H' D=some (.lst ((ns.map fn).map V.int))->H D=none->Q (.ref D) H') :
  CompW 1 J (gName 0) tAll te σ H Q:=by
 refine comp_all (K:=[]) S (fun v=>match v with | .int n=>.int (fn n) | _=>.none) (by rw [List.length_map];exact hz) (fun x hx H' s R q=>?_) fun D H' ys s h n f=>?_
 ·obtain ⟨n,hn,rfl⟩:=List.mem_map.mp hx
  exact turn n hn H' s R fun H5 s5=>q _ _ s5 (.int _)
 ·rw [List.map_map] at f
  have e:ys=(ns.map fn).map V.int:=Fzs.ints_inv (by rw [List.map_map];exact f)
  subst e
  exact fin D H' s h n
theorem comp_ifs {ns:List Int} (S:Src J H (ns.map V.int)) (kp:Int->Bool) (hz:ns.length<=sizeLine)
  (test:∀ n ∈ ns,∀ H',Same H H'->∀ R:Bool->Hp->Prop,(∀ H4,Same H' H4->R (kp n) H4)->tt (some (.int n) :: σ) H' R)
  (turn:∀ n ∈ ns,∀ H',Same H H'->∀ R:VK,(∀ H5,Same H' H5->R (.int n) H5)->te (some (.int n) :: σ) H' R)
  (fin:∀ D H',Same H H'->H' D=some (.lst ((ns.filter kp).map V.int))->H D=none->Q (.ref D) H') :
  CompW 1 J (gName 0) tt te σ H Q:=by
 refine comp_src (K:=[]) S (fun v=>match v with | .int n=>kp n | _=>false) (fun v=>match v with | .int n=>.int n | _=>.none) (by rw [List.length_map];exact hz) (fun x hx H' s R q=>?_) (fun x hx _ H' s R q=>?_) fun D H' ys s h n f=>?_
 ·obtain ⟨n,hn,rfl⟩:=List.mem_map.mp hx
  exact test n hn H' s R q
 ·obtain ⟨n,hn,rfl⟩:=List.mem_map.mp hx
  exact turn n hn H' s R fun H5 s5=>q _ _ s5 (.int _)
 ·have e:ys=(ns.filter kp).map V.int:=Fzs.ints_inv (by
   rw [List.filter_map,List.map_map] at f
   exact f)
  subst e
  exact fin D H' s h n
theorem comp_inv {lo:Int} {n:Nat} (hz:n<=sizeLine) (Iv:Addr->Nat->Hp->List V->Prop) (h0:∀ D,H D=none->Iv D 0 (upd H D (.lst [])) [])
  (turn:∀ D i H' ys,i < n->H D=none->H' D=some (.lst ys)->ys.length=i->Iv D i H' ys->∀ R:VK,(∀ v H5,H5 D=some (.lst ys)->Iv D (i + 1) (upd H5 D (.lst (ys ++ [v]))) (ys ++ [v])->R v H5)->te (some (.int (lo + i)) :: σ) H' R)
  (fin:∀ D H' ys,H D=none->H' D=some (.lst ys)->ys.length=n->Iv D n H' ys->Q (.ref D) H') :
  CompW 1 (Itr lo n) (gName 0) tAll te σ H Q:=by
 intro D hD
 refine ⟨fun i m σ' H'=>m=n - i/\i<=n/\(∃ o,σ'=o :: σ)/\∃ ys,H' D=some (.lst ys)/\ys.length=i/\Iv D i H' ys,⟨n,by omega,Nat.zero_le _,⟨_,rfl⟩,[],upd_same,rfl,h0 D hD⟩,?_⟩
 rintro i m σ' H' ⟨rfl,hi,⟨o,rfl⟩,ys,hy,hl,hv⟩
 by_cases hlt:i < n
 ·refine .inr ⟨hlt,fun y H2 ⟨e1,e2⟩=>?_⟩
  subst e1 e2
  unfold gName tAll
  dsimp only
  rw [if_pos rfl]
  show te (some (V.int (lo + i)) :: σ) H2 _
  refine turn D i H2 ys hlt hD hy hl hv _ fun v H5 h5 q=>?_
  exact ⟨ys,h5,by omega,n - (i + 1),by omega,rfl,hlt,⟨_,rfl⟩,ys ++ [v],upd_same,by rw [List.length_append,hl];rfl,q⟩
 ·have e:i=n:=by omega
  subst e
  exact .inl ⟨Nat.le_refl _,fin D H' ys hD hy hl hv⟩
end
theorem SB.snoc {p D:Addr} {H H5:Hp} {o:HO} (h:SB p H H5) (hn:H D=Option.none):SB p H (L2.upd H5 D o):=fun b u e q=>by rw [upd_ne (ne_of_none q hn)];exact h b u e q
theorem ixN_of {n:Nat} {d:Int} (h0:0<=d) (h1:d < (n:Int)):ixN n d=some d.toNat:=by
 unfold ixN
 rw [if_pos h0,if_pos h1]
theorem tSeq_cut {t r:TS} {D:Ends} {σ:St} {H:Hp} (Mid:St->Hp->Prop) (h1:∀ N:St->Hp->Prop,(∀ σ H,Mid σ H->N σ H)->t { D with nx:=N } σ H) (h2:∀ σ H,Mid σ H->r D σ H):tSeq t r D σ H:=h1 _ h2
theorem kqd_ints (ns:List Int) (n:Nat):(ns.map Dat.int).all (PySem.W.kqdOk n)=true:=by
 rw [List.all_map,List.all_eq_true]
 intro x _
 cases n <;> rfl
theorem kqd_lst {ns:List Int}:PySem.W.kqdOk 9 (.list (ns.map .int))=true:=kqd_ints ns 8
theorem kqd_tup {ns:List Int}:PySem.W.kqdOk 9 (.tuple (ns.map .int))=true:=kqd_ints ns 8
theorem map_int_inj {ns ms:List Int} (h:ns.map Dat.int=ms.map Dat.int):ns=ms:=by
  induction ns generalizing ms with
  | nil=>cases ms with
    | nil=>rfl
    | cons b r=>cases h
  | cons a r ih=>cases ms with
    | nil=>cases h
    | cons b r' =>
      rw [List.map_cons,List.map_cons] at h
      injection h with h1 h2
      injection h1 with h1
      rw [h1,ih h2]
theorem deq_lst {ns ms:List Int}:deq (.list (ns.map .int)) (.list (ms.map .int))=decide (ns=ms):=by
 by_cases h:ns=ms
 ·subst h;rw [deq_self,decide_eq_true rfl]
 ·rw [decide_eq_false h]
  exact deq_ne fun z=>h (map_int_inj (by injection z))
theorem deq_tup {ns ms:List Int}:deq (.tuple (ns.map .int)) (.tuple (ms.map .int))=decide (ns=ms):=by
 by_cases h:ns=ms
 ·subst h;rw [deq_self,decide_eq_true rfl]
 ·rw [decide_eq_false h]
  exact deq_ne fun z=>h (map_int_inj (by injection z))
theorem pe_tyn {X:Cx} {x:Str} {T:String} {pos:Pos} (hg:Gl X x) (hm:X.mg x=none) (hv:bootBuiltins x=some (.type T)) (hn:x ≠ "__name__" := by decide) (hd:(x == ("__debug__" : Str))=false:=by decide):PE X (.Name x pos) (tC (.ty T)) :=
 pe_bltn (v:=.ty T) hg hm hv rfl hn hd
end L2
end
section
namespace L2
open PySem PySem.Spec PyProof.Rows
def DefAt (K:PySem.W.Frag) (x:Str) (st:Stmt):Prop:=∃ (f:Addr) (oc:Value) (od:Option Addr) (kV dc pm:Value) (an:Option Addr) (cd ct:Value) (sl:Array (Option Value)),
 PySem.W.nsIn K mainGlobals x=some (some (.ref f))/\K.lookup f=some ⟨oc,od,.func (PySem.W.fnOf x x (defArgs st) (defBody st) (defScope st) .none kV dc pm an cd ct),sl⟩/\PySem.W.codeIn K cd x=true/\PySem.W.keepIn K (.ref f)=true
theorem DefAt.mk {K:PySem.W.Frag} {x:Str} {st:Stmt} {f:Addr} {oc:Value} {od:Option Addr} {kV dc pm:Value} {an:Option Addr} {cd ct:Value} {sl:Array (Option Value)} (a:PySem.W.nsIn K mainGlobals x=some (some (.ref f)))
  (l:K.lookup f=some ⟨oc,od,.func (PySem.W.fnOf x x (defArgs st) (defBody st) (defScope st) .none kV dc pm an cd ct),sl⟩) (c:PySem.W.codeIn K cd x=true) (k:PySem.W.keepIn K (.ref f)=true):DefAt K x st:=⟨f,oc,od,kV,dc,pm,an,cd,ct,sl,a,l,c,k⟩
theorem DefAt.get {K:PySem.W.Frag} {x:Str} {st:Stmt} {h:Heap} {mg:Str->Option Value} (d:DefAt K x st) (X:K.In h) (G:h.Ns mainGlobals mg):∃ (f:Addr) (fd:FuncData),Fun K x x st f fd/\mg x=some (.ref f)/\PySem.W.keepIn K (.ref f)=true:=by
 obtain ⟨f,oc,od,kV,dc,pm,an,cd,ct,sl,a,l,c,k⟩:=d
 exact ⟨f,_,fun_mk l c k,PySem.W.mg_of X G a,k⟩
theorem DefAt.law {K:PySem.W.Frag} {x y:Str} {st:Stmt} {h:Heap} {mg:Str->Option Value} {fa:Addr} (d:DefAt K x st) (X:K.In h) (G:h.Ns mainGlobals mg) (hfa:mg x=some (.ref fa))
  (hb:∀ (kV doc pm:Value) (an:Option Addr) (cdv ct:Value) (u:Value),bindArgs (PySem.W.fnOf x x (defArgs st) (defBody st) (defScope st) .none kV doc pm an cdv ct) ⟨[u],[]⟩=pure [(y,u)]):∃ (fd:FuncData),Fun K x x st fa fd/\∀ (s:Shared) (v:Value),BindsTo s fd ⟨[v],[]⟩ [(y,v)]:=by
 obtain ⟨f,oc,od,kV,dc,pm,an,cd,ct,sl,a,l,c,k⟩:=d
 have e:=hfa.symm.trans (PySem.W.mg_of X G a)
 cases e
 exact ⟨_,fun_mk l c k,fun s v=>.of_eq (hb kV dc pm an cd ct v)⟩
end L2
end
section
namespace L2
open PySem PySem.Spec PyProof.Rows
structure ZE (X:Cx) (e:Expr) (t:TE):Prop where out:PE X e t
structure ZT (X:Cx) (e:Expr) (t:TT):Prop where out:PT X e t
structure ZW (X:Cx) (e:Expr) (t:TT):Prop where out:PW X e t
structure ZA (X:Cx) (es:List Expr) (t:TA):Prop where out:PA X es t
structure ZS (X:Cx) (st:Stmt) (t:TS):Prop where out:PS X st t
structure ZSs (X:Cx) (st:List Stmt) (t:TS):Prop where out:PSs X st t
structure ZG (X:Cx) (e:Expr) (t:TG):Prop where out:PG X e t
structure ZGs (X:Cx) (es:List Expr) (t:TGs):Prop where out:PGs X es t
structure ZI (X:Cx) (tg iter:Expr) (wi:TI):Prop where out:PI X tg iter wi
structure ZTs (X:Cx) (es:List Expr) (t:TT):Prop where out:PTs X es t
structure ZO (X:Cx) (e:Option Expr) (t:TO):Prop where out:PO X e t
section
variable {X:Cx} {a b c e tg:Expr} {es:List Expr} {te ta tb tc:TE} {t:TA} {pos p p2:Pos} {x:Str}
theorem zss_nil:ZSs X [] tNext:=⟨pss_nil⟩
theorem zss_cons {st:Stmt} {rest:List Stmt} {t u:TS} (h1:ZS X st t) (h2:ZSs X rest u):ZSs X (st :: rest) (tSeq t u):=⟨pss_cons h1.out h2.out⟩
theorem zss_one {st:Stmt} {t:TS} (h1:ZS X st t):ZSs X [st] t:=⟨pss_one h1.out⟩
theorem zs_set {i:Nat} {pos':Pos} (hN:X.N.Nodup) (hi:X.N[i]?=some x) (hx:Loc X.env.scope x) (he:ZE X e te) (hs:swapsWith e (some (.Name x pos')) pos.line X.env=pure false:=by rfl) (hf:X.fn x=true\/X.env.scope.names.lookup x=some .local:=by first | exact .inl rfl | exact .inr rfl | assumption) :
  ZS X (.Assign [.Name x pos'] e pos) (tAsg te (gName i)):=⟨ps_set hN hi hx he.out hs hf⟩
theorem zs_for {iter:Expr} {body:List Stmt} {wi:TI} {g:TG} {tb:TS} (hp:PassesOwn (model X.prog X.w) X.A X.env X.xe) (hc:X.calm=true) (hi:ZI X tg iter wi) (hg:ZG X tg g) (hb:ZSs X body tb)
  (hs:∀ x,foldedSetIterable iter X.env x=pure x:=by intro _;rfl):ZS X (.For tg iter body [] pos) (tFor wi g tb):=⟨ps_for hp hc hi.out hg.out hb.out hs⟩
theorem zs_while {body:List Stmt} {tc:TT} {tb:TS} (hp:PassesOwn (model X.prog X.w) X.A X.env X.xe) (hc:ZT X c tc) (hb:ZSs X body tb):ZS X (.While c body [] pos) (tWhile tc tb):=⟨ps_while hp hc.out hb.out⟩
theorem zs_if {l m:List Stmt} {tc:TT} {t u:TS} (hc:ZT X c tc) (ha:ZSs X l t) (hb:ZSs X m u):ZS X (.If c l m pos) (tIfS tc t u):=⟨ps_if hc.out ha.out hb.out⟩
theorem zs_ret (he:ZE X e te):ZS X (.Return (some e) pos) (tRet te):=⟨ps_ret he.out⟩
theorem zs_expr (he:ZE X e te) (hs:swapsWith e none pos.line X.env=pure false:=by rfl):ZS X (.Expr e pos) (tDrop te):=⟨ps_expr he.out hs⟩
theorem zs_asg {g:TG} (he:ZE X e te) (hg:ZG X tg g) (hs:swapsWithSole [tg] e pos.line X.env=pure false:=by rfl) (hw:swappedStores [tg] e X.env=pure none:=by rfl)
  (h1:(assignEach [tg] X.env).map (·.2)=[assign tg X.env]:=by rfl):ZS X (.Assign [tg] e pos) (tAsg te g):=⟨ps_asg he.out hg.out hs hw h1⟩
theorem zs_par {i j:Nat} {y:Str} {ta:TA} {px py pt:Pos} {kt k2 pt2} (hc:X.calm=true) (hN:X.N.Nodup) (hi:X.N[i]?=some x) (hj:X.N[j]?=some y) (hij:i ≠ j)
  (hx:X.env.scope.names.lookup x=some .local) (hy:X.env.scope.names.lookup y=some .local) (ha:ZA X [a,b] ta)
  (hw:swappedStores [.Tuple [.Name x px,.Name y py] kt pt] (.Tuple [a,b] k2 pt2) X.env=pure (some [x,y]))
  (hs:swapsWithSole [.Tuple [.Name x px,.Name y py] kt pt] (.Tuple [a,b] k2 pt2) pos.line X.env=pure false:=by rfl) :
  ZS X (.Assign [.Tuple [.Name x px,.Name y py] kt pt] (.Tuple [a,b] k2 pt2) pos) (tPar i j ta):=⟨ps_par hc hN hi hj hij hx hy ha.out hw hs⟩
theorem ze_int {i j}:ZE X (.Constant (.int i) j pos) (tC (.int i)):=⟨pe_int⟩
theorem ze_bl {b j}:ZE X (.Constant (.bool b) j pos) (tC (.bl b)):=⟨pe_bl⟩
theorem ze_non {j}:ZE X (.Constant .none j pos) (tC .non):=⟨pe_non⟩
theorem zv (i:Nat) (hN:X.N[i]?=some x:=by rfl) (hv:Vis X.env.scope x:=by first | exact Or.inl rfl | exact Or.inr (Or.inl rfl) | exact Or.inr (Or.inr rfl)) (hd:(x == ("__debug__" : Str))=false:=by decide)
  (hcd:(x == ("__classdict__" : Str))=false:=by decide):ZE X (.Name x pos) (tVar i):=⟨pe_var hN hv hd hcd⟩
theorem ze_glob {v:V} {u:Value} (hg:Gl X x) (hm:X.mg x=some u) (r:RelV v u) (hd:(x == ("__debug__" : Str))=false:=by decide):ZE X (.Name x pos) (tC v):=⟨pe_glob hg hm r hd⟩
theorem ze_tyn {T:String} (hg:Gl X x) (hm:X.mg x=none) (hv:bootBuiltins x=some (.type T)) (hn:x ≠ "__name__" := by decide) (hd:(x == ("__debug__" : Str))=false:=by decide):ZE X (.Name x pos) (tC (.ty T)):=⟨pe_tyn hg hm hv hn hd⟩
theorem ze_op {op:Operator} {r:R2} (ho:OpR X (binaryOp op) r) (ha:ZE X a ta) (hb:ZE X b tb):ZE X (.BinOp a op b pos) (tOp r ta tb):=⟨pe_op ho ha.out hb.out⟩
theorem ze_un {op:UnaryOp} {r:V->Hp->VK->Prop} (ho:UnR X (unaryOp op) r) (ha:ZE X a ta):ZE X (.UnaryOp op a pos) (tUn r ta):=⟨pe_un ho ha.out⟩
theorem ze_cmpR {op:CmpOp} {r:R2} (ho:OpR X (compareOp op) r) (ha:ZE X a ta) (hb:ZE X b tb) (hm:behindInMarks op b=false):ZE X (.Compare a [op] [b] pos) (tOp r ta tb):=⟨pe_cmpR ho ha.out hb.out hm⟩
theorem zt_cmpR {op:CmpOp} {r:R2} (ho:OpR X (compareOp op) r) (ha:ZE X a ta) (hb:ZE X b tb) (hm:behindInMarks op b=false):ZT X (.Compare a [op] [b] pos) (tTest (tOp r ta tb)):=⟨pt_cmpR ho ha.out hb.out hm⟩
theorem zt_val {t:TE} (h:ZE X e t) (he:∀ whole,isTrue e X.env whole=(do let v <- whole;standAt e.pos;holding [v] (truthy v)):=by intro _;rfl):ZT X e (tB t):=⟨pt_val h.out he⟩
theorem zt_not {tA:TT} (ha:ZT X a tA):ZT X (.UnaryOp .Not a pos) (tNot tA):=⟨pt_not ha.out⟩
theorem ZW.pt {t:TT} (h:ZW X e t):ZT X e t:=⟨h.out.pt⟩
theorem zw_or1 {tA:TT} (ha:ZT X a tA):ZW X (.BoolOp .Or [a] pos) tA:=⟨pw_or1 ha.out⟩
theorem zw_or {tA tB':TT} (ha:ZT X a tA) (hb:ZW X (.BoolOp .Or (b :: es) pos) tB'):ZW X (.BoolOp .Or (a :: b :: es) pos) (tOr tA tB'):=⟨pw_or ha.out hb.out⟩
theorem ze_one {op} (h:ZE X a ta):ZE X (.BoolOp op [a] pos) ta:=⟨pe_one h.out⟩
theorem ze_and (ha:ZE X a ta) (hb:ZE X (.BoolOp .And (b :: es) pos) tb):ZE X (.BoolOp .And (a :: b :: es) pos) (tAndV ta tb):=⟨pe_and ha.out hb.out⟩
theorem ze_not (ha:ZE X a ta):ZE X (.UnaryOp .Not a pos) (tNotV ta):=⟨pe_not ha.out⟩
theorem ze_ix {r:R2} (hr:IxR X r) (ha:ZE X a ta) (hb:ZE X b tb) (hs:PlainIx b):ZE X (.Subscript a b pos) (tOp r ta tb):=⟨pe_ix hr ha.out hb.out hs⟩
theorem ze_slice {lo hi:Option Expr} {tl th:TO} {r:V->Option Int->Option Int->Hp->VK->Prop} (hr:SlR X r) (he:ZE X e te) (hl:ZO X lo tl) (hu:ZO X hi th):ZE X (.Subscript e (.Slice lo hi none p2) pos) (tSl r te tl th):=⟨pe_slice hr he.out hl.out hu.out⟩
theorem zo_none:ZO X none tNoPart:=⟨po_none⟩
theorem zo_some (h:ZE X e te):ZO X (some e) (tPart te):=⟨po_some h.out⟩
theorem ze_lst (h:ZA X es t):ZE X (.List es pos) (tLst t):=⟨pe_lst h.out⟩
theorem ze_tup {x1} (h:ZA X es t):ZE X (.Tuple es x1 pos) (tTup t):=⟨pe_tup h.out⟩
theorem ze_call {CX:CXT} {k:Nat} {f:Addr} {fd:FuncData} {ps:List Str} {sp:Sp} {ds:List Value} {dvs:List V} {E:XK} (F:FnOk X.prog X.w X.K X.mg X.base CX k f fd ps sp) (hr:Room k X.A) (hg:Gl X x) (hm:X.mg x=some (.ref f)) (hk:PySem.W.keepIn X.K (.ref f)=true) (hb:Binds X.K fd ps ds) (hd:Vals dvs ds) (hx:Passes CX X E)
  (ha:ZA X (e :: es) t) (hdb:(x == ("__debug__" : Str))=false:=by decide) (he:starEach (e :: es) X.env=(false,eval e X.env) :: starEach es X.env:=by rfl) (hpl:(backTo pos (starEach es X.env)).any (·.1)=false:=by rfl) :
  ZE X (.Call (.Name x p) (e :: es) [] pos) (tCall sp dvs E t):=⟨pe_call F hr hg hm hk hb hd hx ha.out hdb he hpl⟩
theorem ze_callB {id:String} {r:List V->Hp->VK->Prop} (hc:CallR X (.builtin id) r) (hg:Gl X x) (hm:X.mg x=none) (hv:bootBuiltins x=some (.builtin id)) (ha:ZA X (e :: es) t) (hn:x ≠ "__name__" := by decide) (hdb:(x == ("__debug__" : Str))=false:=by decide)
  (he:starEach (e :: es) X.env=(false,eval e X.env) :: starEach es X.env:=by rfl) (hpl:(backTo pos (starEach es X.env)).any (·.1)=false:=by rfl):ZE X (.Call (.Name x p) (e :: es) [] pos) (tCB r t):=⟨pe_callB hc hg hm hv ha.out hn hdb he hpl⟩
theorem ze_callTy {T:String} {r:List V->Hp->VK->Prop} (hc:CallR X (.type T) r) (hg:Gl X x) (hm:X.mg x=none) (hv:bootBuiltins x=some (.type T)) (ha:ZA X (e :: es) t) (hn:x ≠ "__name__" := by decide) (hdb:(x == ("__debug__" : Str))=false:=by decide)
  (he:starEach (e :: es) X.env=(false,eval e X.env) :: starEach es X.env:=by rfl) (hpl:(backTo pos (starEach es X.env)).any (·.1)=false:=by rfl):ZE X (.Call (.Name x p) (e :: es) [] pos) (tCB r t):=⟨pe_callTy hc hg hm hv ha.out hn hdb he hpl⟩
theorem za_nil:ZA X [] tNil:=⟨pa_nil⟩
theorem za_cons (ha:ZE X e te) (hr:ZA X es t) (hs:starEach (e :: es) X.env=(false,eval e X.env) :: starEach es X.env:=by rfl):ZA X (e :: es) (tCons te t):=⟨pa_cons ha.out hr.out hs⟩
theorem za_i {i:Int} {j:Nat} (hr:ZA X es t):ZA X (.Constant (.int i) j p :: es) (tCons (tC (.int i)) t):=⟨pa_i hr.out⟩
theorem za_n (ha:ZE X (.Name x p) te) (hr:ZA X es t):ZA X (.Name x p :: es) (tCons te t):=⟨pa_n ha.out hr.out⟩
theorem za_b {op:Operator} (ha:ZE X (.BinOp a op b p) te) (hr:ZA X es t):ZA X (.BinOp a op b p :: es) (tCons te t):=⟨pa_b ha.out hr.out⟩
theorem za_u {op:UnaryOp} (ha:ZE X (.UnaryOp op a p) te) (hr:ZA X es t):ZA X (.UnaryOp op a p :: es) (tCons te t):=⟨pa_u ha.out hr.out⟩
theorem za_s (ha:ZE X (.Subscript a b p) te) (hr:ZA X es t):ZA X (.Subscript a b p :: es) (tCons te t):=⟨pa_s ha.out hr.out⟩
theorem za_c {f:Expr} {l:List Expr} {k:List Keyword} (ha:ZE X (.Call f l k p) te) (hr:ZA X es t):ZA X (.Call f l k p :: es) (tCons te t):=⟨pa_c ha.out hr.out⟩
theorem za_t {l:List Expr} {k:Nat} (ha:ZE X (.Tuple l k p) te) (hr:ZA X es t):ZA X (.Tuple l k p :: es) (tCons te t):=⟨pa_t ha.out hr.out⟩
theorem za_l {l:List Expr} (ha:ZE X (.List l p) te) (hr:ZA X es t):ZA X (.List l p :: es) (tCons te t):=⟨pa_l ha.out hr.out⟩
theorem zg_name {i:Nat} (hN:X.N.Nodup) (hi:X.N[i]?=some x) (hx:Loc X.env.scope x) (hf:X.fn x=true\/X.env.scope.names.lookup x=some .local:=by first | exact .inl rfl | exact .inr rfl | assumption):ZG X (.Name x pos) (gName i):=⟨pg_name hN hi hx hf⟩
theorem zg_sub {o i:Expr} {to ti:TE} {t:TSet} (ho:ZE X o to) (hi:ZE X i ti) (hs:PSet X t) (ha:∀ v,assign (.Subscript o i pos) X.env v=(do
   let ov <- holding [v] (eval o X.env)
   let iv <- holding [v,ov] (eval i X.env)
   standAt pos
   holding [v,ov,iv] (setItem ov iv v)
   release [v,ov,iv] []):=by intro _;rfl):ZG X (.Subscript o i pos) (gSub to ti t):=⟨pg_sub ho.out hi.out hs ha⟩
theorem zgs_nil:ZGs X [] gNil:=⟨pgs_nil⟩
theorem zgs_cons {t:TG} {u:TGs} (h1:ZG X e t) (h2:ZGs X es u) (hs:(assignEach (e :: es) X.env).map (·.2)=assign e X.env :: (assignEach es X.env).map (·.2):=by rfl):ZGs X (e :: es) (gCons t u):=⟨pgs_cons h1.out h2.out hs⟩
theorem zg_tup {k:Nat} {t:TGs} {n:Nat} (hc:X.calm=true) (h:ZGs X es t) (hn:(assignEach es X.env).length=n:=by rfl) (hst:(assignEach es X.env).findIdx? (·.1)=none:=by rfl):ZG X (.Tuple es k pos) (gTup X.K n t):=⟨pg_tup hc h.out hn hst⟩
theorem zi_list (hl:ZE X e te):ZI X tg e (iList X.K te):=⟨pi_list hl.out⟩
theorem zi_tup (hl:ZE X e te):ZI X tg e (iTup X.K te):=⟨pi_tup hl.out⟩
theorem zi_range1 {ta:TA} (hg:Gl X "range") (hm:X.mg "range" = none) (ha:ZA X [a] ta) (hs:starEach [a] X.env=[(false,eval a X.env)]:=by rfl):ZI X tg (.Call (.Name "range" p) [a] [] pos) (iRng1 ta):=⟨pi_range1 hg hm ha.out hs⟩
theorem zi_range2 {ta:TA} (hg:Gl X "range") (hm:X.mg "range" = none) (ha:ZA X [a,b] ta) (hs:starEach [a,b] X.env=[(false,eval a X.env),(false,eval b X.env)]:=by rfl) (hs2:starEach [b] X.env=[(false,eval b X.env)]:=by rfl) :
  ZI X tg (.Call (.Name "range" p) [a,b] [] pos) (iRng2 ta):=⟨pi_range2 hg hm ha.out hs hs2⟩
theorem zts_nil:ZTs X [] tAll:=⟨pts_nil⟩
theorem zts_one {t:TT} (h:ZT X c t):ZTs X [c] t:=⟨pts_one h.out⟩
theorem ze_comp {own:List Str} {scope sc:Scope} {iter elt:Expr} {ifs:List Expr} {wi:TI} {g:TG} {tt:TT} {N0 P0:List Str} (S0:FnScope N0 P0 sc) (hc:X.calm=true) (S1:CompScope own N0 sc scope) (hi:ZI X tg iter wi)
  (hg:∀ C fp s H,(maskN own N0).Nodup->ZG (cxComp X own scope C fp s H) tg g) (ht:∀ C fp s H,ZTs (cxComp X own scope C fp s H) ifs tt) (he:∀ C fp s H,ZE (cxComp X own scope C fp s H) elt te)
  (hs:∀ x,foldedSetIterable iter X.env x=pure x:=by intro _;rfl) (hN0:X.N=N0:=by rfl) (hsc:X.env.scope=sc:=by rfl):ZE X (.ListComp elt [⟨tg,iter,ifs,0⟩] scope pos) (tCompB own.length wi g tt te) :=
 ⟨pe_comp S0 hc S1 hi.out (fun C fp s H n=>(hg C fp s H n).out) (fun C fp s H=>(ht C fp s H).out) (fun C fp s H=>(he C fp s H).out) hs hN0 hsc⟩
theorem zi_zip {ta:TA} {pt:Pos} {elts:List Expr} {x1} (hg:Gl X "zip") (hm:X.mg "zip" = none) (ha:ZA X [a,b] ta) (hs:starEach [a,b] X.env=[(false,eval a X.env),(false,eval b X.env)]:=by rfl) (hs2:starEach [b] X.env=[(false,eval b X.env)]:=by rfl) :
  ZI X (.Tuple elts x1 pt) (.Call (.Name "zip" p) [a,b] [] pos) (iZip X.K ta):=⟨pi_zip hg hm ha.out hs hs2⟩
theorem zg_pair {own:List Str} {scope:Scope} {C:Addr} {fp:List Addr} {s:Shared} {H:Hp} {x y:Str} {px py:Pos} {k:Nat} (hc:X.calm=true) (nd:(cxComp X own scope C fp s H).N.Nodup) (h0:(cxComp X own scope C fp s H).N[0]?=some x) (h1:(cxComp X own scope C fp s H).N[1]?=some y)
  (l0:(cxComp X own scope C fp s H).env.scope.names.lookup x=some .local) (l1:(cxComp X own scope C fp s H).env.scope.names.lookup y=some .local):ZG (cxComp X own scope C fp s H) (.Tuple [.Name x px,.Name y py] k pos) (gPair X.K):=⟨pg_pair hc nd h0 h1 l0 l1⟩
end
section
variable {P:Program} {w:World} {K:PySem.W.Frag} {mg:Str->Option Value} {base:Heap}
theorem Fun.okZ {x qual:Str} {st:Stmt} {f:Addr} {fd:FuncData} {N ps:List Str} {k:Nat} {sp:Sp} (F:Fun K x qual st f fd) (S:FnScope N ps (defScope st)) (len:∀ vs H Q E,sp vs H Q E->vs.length=ps.length)
  (hbody:∀ (cdv:Value) (A:Around) (outer:List Env) (s:Shared) (H:Hp) (vs:List V) (Q:VK) (E:XK),Room k (A.deeper (envOfC qual (defScope st) s.heap.objs.size f cdv))->sp vs H Q E ->
   ∃ t,ZSs (cxOf CX0 P w K mg base N qual (defScope st) f cdv A outer s H E).nox (defBody st) t/\t { nx:=fun _ H'=>Q .non H',rt:=Q } (start N vs) H):FnOk P w K mg base CX0 (k + 1) f fd ps sp :=
 F.ok S len fun cdv A outer s H vs Q E hr h=>let ⟨t,b,q⟩:=hbody cdv A outer s H vs Q E hr h;⟨t,b.out,q⟩
end
end L2
end
section
namespace L2
open PySem PySem.Spec PyProof.Rows
open PySem.W (Dat)
def NL (H H':Hp):Prop:=∀ b o,(∀ ys,o ≠ HO.lst ys)->H b=some o->H' b=some o
theorem Same.nl {H H':Hp} (e:Same H H'):NL H H':=fun b o _ h=>e b o h
theorem NL.upd {H:Hp} {D:Addr} {ys:List V} {o:HO} (h:H D=some (.lst ys)):NL H (L2.upd H D o):=fun b u n q=>by
 rw [upd_ne (fun z=>?_)]
 ·exact q
 ·subst z;rw [h] at q;cases q;exact n ys rfl
theorem NL.trans {H H1 H2:Hp} (a:NL H H1) (b:NL H1 H2):NL H H2:=fun c o n h=>b c o n (a c o n h)
section
variable {K:PySem.W.Frag} {H:Hp} {σ:St} {te:TE} {Q:VK} {J:It} {xs:List V}
theorem comp_pos (S:Src J H xs) (hz:xs.length<=sizeLine) (Pd:Nat->V->Hp->Prop) (hst:∀ i v H H',NL H H'->Pd i v H->Pd i v H')
  (turn:∀ i x,xs[i]?=some x->∀ H',Same H H'->∀ R:VK,(∀ v H5,Same H' H5->Pd i v H5->R v H5)->te (some x :: σ) H' R)
  (fin:∀ D H' ys,Same H H'->H' D=some (.lst ys)->H D=none->ys.length=xs.length->(∀ i v,ys[i]?=some v->Pd i v H')->Q (.ref D) H') :
  CompW 1 J (gName 0) tAll te σ H Q:=by
 intro D hD
 refine ⟨fun i m σ' H'=>m=xs.length - i/\i<=xs.length/\(∃ o,σ'=o :: σ)/\Same H H'/\∃ ys,H' D=some (.lst ys)/\ys.length=i/\∀ j v,ys[j]?=some v->Pd j v H',⟨xs.length,by omega,Nat.zero_le _,⟨_,rfl⟩,Same.new hD _,[],upd_same,rfl,fun j v e=>by simp at e⟩,?_⟩
 rintro i m σ' H' ⟨rfl,hi,⟨o,rfl⟩,hs,ys,hy,hl,hf⟩
 obtain ⟨stop,each⟩:=S H' hs
 by_cases hlt:i < xs.length
 ·have hx:xs[i]?=some xs[i]:=by simp [hlt]
  obtain ⟨go,yl⟩:=each i xs[i] hx
  refine .inr ⟨go,fun y H2 q=>?_⟩
  obtain ⟨rfl,rfl⟩:=yl y H2 q
  unfold gName tAll
  dsimp only
  rw [if_pos rfl]
  show te (some xs[i] :: σ) H' _
  refine turn i _ hx H' hs _ fun v H5 s5 f5=>?_
  have hy5:=s5 _ _ hy
  refine ⟨ys,hy5,by omega,xs.length - (i + 1),by omega,rfl,hlt,⟨_,rfl⟩,(hs.trans s5).snoc hD,ys ++ [v],upd_same,by rw [List.length_append,hl];rfl,fun j u e=>?_⟩
  have nl:=NL.upd (o:=.lst (ys ++ [v])) hy5
  by_cases hj:j < ys.length
  ·rw [List.getElem?_append_left hj] at e
   exact hst _ _ _ _ (s5.nl.trans nl) (hf j u e)
  ·rw [List.getElem?_append_right (by omega)] at e
   have ej:j - ys.length=0:=by
    have:=(List.getElem?_eq_some_iff.mp e).1
    simp at this;omega
   rw [ej] at e
   cases e
   have:j=i:=by omega
   subst this
   exact hst _ _ _ _ nl f5
 ·have e:i=xs.length:=by omega
  subst e
  exact .inl ⟨stop,fin D H' ys hs hy hD hl hf⟩
theorem get3 {α:Type} {x1 x2 x3 x:α} {i:Nat} (h:[x1,x2,x3][i]?=some x):(i=0/\x1=x)\/(i=1/\x2=x)\/(i=2/\x3=x):=by
 match i,h with
 | 0,h=>exact .inl ⟨rfl,by simpa using h⟩
 | 1,h=>exact .inr (.inl ⟨rfl,by simpa using h⟩)
 | 2,h=>exact .inr (.inr ⟨rfl,by simpa using h⟩)
theorem three_of {α:Type} {ys:List α} (h:ys.length=3):∃ a b c,ys=[a,b,c]:=by
 match ys,h with
 | [a,b,c],_=>exact ⟨a,b,c,rfl⟩
theorem comp3 {x1 x2 x3:V} {n1 n2 n3:Int} (S:Src J H [x1,x2,x3])
  (t1:∀ H',Same H H'->∀ R:VK,(∀ H5,Same H' H5->R (.int n1) H5)->te (some x1 :: σ) H' R)
  (t2:∀ H',Same H H'->∀ R:VK,(∀ H5,Same H' H5->R (.int n2) H5)->te (some x2 :: σ) H' R)
  (t3:∀ H',Same H H'->∀ R:VK,(∀ H5,Same H' H5->R (.int n3) H5)->te (some x3 :: σ) H' R)
  (fin:∀ D H',Same H H'->H' D=some (.lst ([n1,n2,n3].map V.int))->H D=none->Q (.ref D) H') :
  CompW 1 J (gName 0) tAll te σ H Q:=by
 refine comp_pos S (show 3<=sizeLine by decide) (fun i v _=>[V.int n1,.int n2,.int n3][i]?=some v) (fun _ _ _ _ _ h=>h) (fun i x hx H' s R k=>?_) fun D H' ys s h n l p=>?_
 ·rcases get3 hx with ⟨rfl,rfl⟩ | ⟨rfl,rfl⟩ | ⟨rfl,rfl⟩
  ·exact t1 H' s R fun H5 s5=>k _ _ s5 rfl
  ·exact t2 H' s R fun H5 s5=>k _ _ s5 rfl
  ·exact t3 H' s R fun H5 s5=>k _ _ s5 rfl
 ·obtain ⟨a,b,c,rfl⟩:=three_of l
  have e1:=p 0 a rfl
  have e2:=p 1 b rfl
  have e3:=p 2 c rfl
  cases e1;cases e2;cases e3
  exact fin D H' s h n
theorem comp3T {x1 x2 x3:V} {n1 n2 n3:List V} (S:Src J H [x1,x2,x3])
  (t1:∀ H',Same H H'->∀ R:VK,(∀ p H5,Same H' H5->H5 p=some (.tup n1)->R (.ref p) H5)->te (some x1 :: σ) H' R)
  (t2:∀ H',Same H H'->∀ R:VK,(∀ p H5,Same H' H5->H5 p=some (.tup n2)->R (.ref p) H5)->te (some x2 :: σ) H' R)
  (t3:∀ H',Same H H'->∀ R:VK,(∀ p H5,Same H' H5->H5 p=some (.tup n3)->R (.ref p) H5)->te (some x3 :: σ) H' R)
  (fin:∀ D H' p1 p2 p3,Same H H'->H' D=some (.lst [.ref p1,.ref p2,.ref p3])->H D=none->H' p1=some (.tup n1)->H' p2=some (.tup n2)->H' p3=some (.tup n3)->Q (.ref D) H') :
  CompW 1 J (gName 0) tAll te σ H Q:=by
 refine comp_pos S (show 3<=sizeLine by decide) (fun i v H'=>∃ p n,v = .ref p/\[n1,n2,n3][i]?=some n/\H' p=some (.tup n)) (fun i v H H' nl h=>?_) (fun i x hx H' s R k=>?_) fun D H' ys s h n l p=>?_
 ·obtain ⟨p,n,e1,e2,e3⟩:=h
  exact ⟨p,n,e1,e2,nl _ _ (fun ys z=>by cases z) e3⟩
 ·rcases get3 hx with ⟨rfl,rfl⟩ | ⟨rfl,rfl⟩ | ⟨rfl,rfl⟩
  ·exact t1 H' s R fun p H5 s5 h5=>k _ _ s5 ⟨p,_,rfl,rfl,h5⟩
  ·exact t2 H' s R fun p H5 s5 h5=>k _ _ s5 ⟨p,_,rfl,rfl,h5⟩
  ·exact t3 H' s R fun p H5 s5 h5=>k _ _ s5 ⟨p,_,rfl,rfl,h5⟩
 ·obtain ⟨a,b,c,rfl⟩:=three_of l
  obtain ⟨p1,m1,rfl,e1,h1⟩:=p 0 a rfl
  obtain ⟨p2,m2,rfl,e2,h2⟩:=p 1 b rfl
  obtain ⟨p3,m3,rfl,e3,h3⟩:=p 2 c rfl
  cases e1;cases e2;cases e3
  exact fin D H' p1 p2 p3 s h n h1 h2 h3
end
section
variable {X:Cx} {e o:Expr} {to te:TE} {apos cpos:Pos}
theorem ze_append (ho:ZE X o to) (ha:ZE X e te) (hbase:attributeBase o "append" X.env (eval o X.env)=eval o X.env:=by rfl)
  (hfew:((backTo cpos (starEach [e] X.env)).all (fun x => !x.1) && (backToKw cpos (keywordEach [] X.env)).all (fun x=>x.1.isSome)
   && decide ([e].length + ([]:List Keyword).length + (if ([]:List Keyword).isEmpty then 0 else 1) < 30))=true:=by rfl)
  (hline:(apos.endLine == cpos.line)=true:=by rfl) (hs:starEach [e] X.env=(false,eval e X.env) :: starEach [] X.env:=by rfl) :
  ZE X (.Call (.Attribute o "append" apos) [e] [] cpos) (tBM X.K "list" rAppend to (tCons te tNil)) :=
 ⟨pe_bm PySem.F.plainAttrs_list slot_list_append (by rfl) mt_append ho.out (pa_cons ha.out pa_nil hs) hbase hfew hline hs⟩
end
section
variable {X:Cx} {own:List Str} {scope:Scope} {C:Addr} {fp:List Addr} {s:Shared} {H:Hp}
theorem ix_tupC:IxR (cxComp X own scope C fp s H) (rIxT X.K):=ix_tup
theorem ix_listC:IxR (cxComp X own scope C fp s H) (rIxL X.K):=ix_list
theorem op_neDC (hu:(cxComp X own scope C fp s H).A.units + 64 < cLine):OpR (cxComp X own scope C fp s H) (compareOp .NotEq) (rEqD X.K true):=op_neD hu
theorem call_tupleC:CallR (cxComp X own scope C fp s H) (.type "tuple") (fun xs H Q=>∃ p ys,xs=[.ref p]/\((SqL X.K H p ys/\∀ l,H l=none->Q (.ref l) (upd H l (.tup ys)))\/(SqT X.K H p ys/\Q (.ref p) H))):=call_tuple_of
end
def rCatW (K:PySem.W.Frag):R2:=fun x y H Q=>∃ a b xs ys,x = .ref a/\y = .ref b/\SqT K H a xs/\SqT K H b ys/\xs.length + ys.length<=sizeLine/\∀ p H',Same H H'->SqT K H' p (xs ++ ys)->Q (.ref p) H'
section
variable {X:Cx}
theorem op_catW:OpR X (binaryOp .Add) (rCatW X.K):=by
 intro pins s σ H x y v u Q I rx ry h
 obtain ⟨a,b,xs,ys,rfl,rfl,ha,hb,hz,q⟩:=h
 by_cases hx:xs=[]
 ·subst hx
  cases rx
  cases ry
  obtain ⟨its,r1,p1,_⟩:=I.tuple ha
  obtain ⟨its2,r2,p2,_⟩:=I.tuple hb
  obtain ⟨m,F⟩:=I.fr
  have e:its=[]:=r1.nil_iff.mpr rfl
  refine add_tuples (news:=[]) F (fun p hp=>by simp at hp) p1 p2 (fun _=>⟨.ref b,H,I,rfl,q b H (Same.refl _) (by simpa using hb)⟩) (fun n=>absurd e n) (fun n=>absurd e n) ?_
  rw [<- r1.length, <- r2.length];exact hz
 ·refine op_catT pins s σ H _ _ v u Q I rx ry ⟨a,b,xs,ys,rfl,rfl,ha,hb,hx,hz,fun e=>?_,fun e p hp=>?_⟩
  ·subst e;exact q a H (Same.refl _) (by rw [List.append_nil];exact ha)
  ·exact q p _ (Same.new hp _) (SqT.of upd_same)
end
end L2
end
section
namespace L2
open PySem PySem.Spec PyProof.Rows
def relS (scope sc:Scope):Scope:={ scope with names:=scope.names.map fun (n,k)=>if (k == NameKind.free && sc.kind == .function && sc.names.lookup n == some .cell) then (n,NameKind.cell) else (n,k) }
section
variable {X:Cx} {own own2:List Str} {scope scope2 sc:Scope} {elt tg iter:Expr} {ifs:List Expr} {pos:Pos} {wi:TI} {g:TG} {tt:TT} {te:TE} {N:List Str}
theorem pe_compX (hc:X.calm=true) (S1:CompScope own N sc scope) (hi:PI X tg iter wi)
  (hg:∀ C fp s H,(maskN own N).Nodup->PG (cxComp X own scope C fp s H) tg g) (ht:∀ C fp s H,PTs (cxComp X own scope C fp s H) ifs tt) (he:∀ C fp s H,PE (cxComp X own scope C fp s H) elt te)
  (hs:∀ x,foldedSetIterable iter X.env x=pure x) (hN0:X.N=N) (hsc:X.env.scope=sc):PE X (.ListComp elt [⟨tg,iter,ifs,0⟩] scope pos) (tCompB own.length wi g tt te):=by
 intro pins s σ H Q I h
 subst hN0 hsc
 have S:=S1
 replace hg:=fun C fp s H=>hg C fp s H S1.nd
 rw [eval_ListComp]
 refine wpAny_comprehension_free (use:=none) rfl hs (comp_clos S I) S.kind S.loc (thn (hi pins s σ H _ I h) fun xv s₁ h₁=>thn h₁ fun itv s₂ h₂=>?_)
 obtain ⟨it,fp,tn,J,H2,rfl,I2,T,st2,f2,q2⟩:=h₂
 refine comp_block (Q:=Q) hc S hg ht he I2 T st2 f2 q2 ?_
 intro D C s' H' m I' hm hC hCle q
 refine ⟨m,hm,fun h' hs'=>⟨.ref D,H',?_,rfl,q⟩⟩
 exact I'.letgo hC I2.sz hCle I2.lt (fun x c e=>let ⟨v,z⟩:=I2.cell x c e;z.lt) (fun p hp=>Heap.lt_size (I2.pin p hp).1) hs'
theorem ze_compN {C1:Addr} {fp1:List Addr} {s1:Shared} {H1:Hp} {P0:List Str} (S0:FnScope N P0 sc) (hc:X.calm=true) (S1:CompScope own2 (maskN own N) (relS scope sc) scope2) (hi:ZI (cxComp X own scope C1 fp1 s1 H1) tg iter wi)
  (hg:∀ C fp s H,(maskN own2 (maskN own N)).Nodup->ZG (cxComp (cxComp X own scope C1 fp1 s1 H1) own2 scope2 C fp s H) tg g) (ht:∀ C fp s H,ZTs (cxComp (cxComp X own scope C1 fp1 s1 H1) own2 scope2 C fp s H) ifs tt) (he:∀ C fp s H,ZE (cxComp (cxComp X own scope C1 fp1 s1 H1) own2 scope2 C fp s H) elt te)
  (hs:∀ x,foldedSetIterable iter (cxComp X own scope C1 fp1 s1 H1).env x=pure x:=by intro _;rfl) (hN0:X.N=N:=by rfl) (hsc:X.env.scope=sc:=by rfl):ZE (cxComp X own scope C1 fp1 s1 H1) (.ListComp elt [⟨tg,iter,ifs,0⟩] scope2 pos) (tCompB own2.length wi g tt te) :=
 ⟨pe_compX (X:=cxComp X own scope C1 fp1 s1 H1) hc S1 hi.out (fun C fp s H n=>(hg C fp s H n).out) (fun C fp s H=>(ht C fp s H).out) (fun C fp s H=>(he C fp s H).out) hs (by show maskN own X.N=_;rw [hN0]) (by subst hsc;rfl)⟩
variable {C:Addr} {fp:List Addr} {s:Shared} {H:Hp} {e:Expr}
theorem zi_listC (hl:ZE (cxComp X own scope C fp s H) e te):ZI (cxComp X own scope C fp s H) tg e (iList X.K te):=zi_list hl
theorem zi_tupC (hl:ZE (cxComp X own scope C fp s H) e te):ZI (cxComp X own scope C fp s H) tg e (iTup X.K te):=zi_tup hl
end
end L2
end
section
namespace Num
def gcdN (ns:List Int):Nat:=ns.foldl (fun d n=>Nat.gcd d n.natAbs) 0
theorem gcdN_snoc (ns:List Int) (n:Int):gcdN (ns ++ [n])=Nat.gcd (gcdN ns) n.natAbs:=by
 unfold gcdN;rw [List.foldl_append];rfl
theorem foldl_gcd (ns:List Int):∀ d:Nat,ns.foldl (fun d n=>Nat.gcd d n.natAbs) d=Nat.gcd d (gcdN ns):=by
  induction ns with
  | nil=>intro d;simp [gcdN]
  | cons n ns ih =>
    intro d
    unfold gcdN
    rw [List.foldl_cons,List.foldl_cons,ih,ih,Nat.gcd_assoc,Nat.gcd_zero_left]
theorem gcdN_cons (n:Int) (ns:List Int):gcdN (n :: ns)=Nat.gcd n.natAbs (gcdN ns):=by
 show List.foldl _ _ _=_
 rw [List.foldl_cons,foldl_gcd,Nat.gcd_zero_left]
theorem gcdN_dvd:∀ {ns:List Int} {n:Int},n ∈ ns->(gcdN ns:Int) ∣ n
  | m :: ns,n,h=>by
    rw [gcdN_cons]
    rcases List.mem_cons.mp h with rfl | h
    . exact Int.ofNat_dvd_left.mpr (Nat.gcd_dvd_left _ _)
    . exact Int.dvd_trans (Int.natCast_dvd_natCast.mpr (Nat.gcd_dvd_right _ _)) (gcdN_dvd h)
theorem gcdN_zero:∀ {ns:List Int},gcdN ns=0->∀ n ∈ ns,n=0
  | m :: ns,h,n,hn=>by
    rw [gcdN_cons] at h
    obtain ⟨h1,h2⟩:=Nat.gcd_eq_zero_iff.mp h
    rcases List.mem_cons.mp hn with rfl | hn
    . omega
    . exact gcdN_zero h2 n hn
theorem gcdN_pos {ns:List Int} (h:∃ n ∈ ns,n ≠ 0):0 < gcdN ns:=by
 obtain ⟨n,hn,h0⟩:=h
 rcases Nat.eq_zero_or_pos (gcdN ns) with z | z
 ·exact absurd (gcdN_zero z n hn) h0
 ·exact z
theorem gcdN_mul (c:Int) (ns:List Int):gcdN (ns.map (c * ·))=c.natAbs * gcdN ns:=by
 induction ns with
 | nil=>simp [gcdN]
 | cons n ns ih=>rw [List.map_cons,gcdN_cons,gcdN_cons,ih,Int.natAbs_mul,Nat.gcd_mul_left]
theorem gcdN_le {ns:List Int} {n:Int} (h:n ∈ ns) (h0:n ≠ 0):gcdN ns<=n.natAbs:=Nat.le_of_dvd (by omega) (Int.ofNat_dvd_left.mp (gcdN_dvd h))
def fst0:List Int->Int
 | []=>0
 | x :: r=>if x=0 then fst0 r else x
theorem fst0_mul (c:Int):∀ ns:List Int,fst0 (ns.map (c * ·))=c * fst0 ns
  | []=>by simp [fst0]
  | x :: r => by
    rw [List.map_cons,fst0,fst0,fst0_mul c r]
    by_cases hc:c=0
    . subst hc;simp
    . by_cases hx:x=0
      . simp [hx]
      . rw [if_neg (Int.mul_ne_zero hc hx),if_neg hx]
theorem fst0_ne:∀ {ns:List Int},(∃ n ∈ ns,n ≠ 0)->fst0 ns ≠ 0
  | x :: r, ⟨n, hn, h0⟩ => by
    rw [fst0]
    split
    . rename_i hx
      rcases List.mem_cons.mp hn with rfl | hn
      . exact absurd hx h0
      . exact fst0_ne ⟨n,hn,h0⟩
    . assumption
def unit (ns:List Int):Int:=if fst0 ns < 0 then -(gcdN ns:Int) else gcdN ns
def pl (ns:List Int):List Int:=ns.map fun n=>n / unit ns
theorem unit_ne {ns:List Int} (h:∃ n ∈ ns,n ≠ 0):unit ns ≠ 0:=by
 have:=gcdN_pos h
 unfold unit;split <;> omega
theorem unit_dvd {ns:List Int} {n:Int} (h:n ∈ ns):unit ns ∣ n:=by
 unfold unit;split
 ·exact Int.neg_dvd.mpr (gcdN_dvd h)
 ·exact gcdN_dvd h
theorem pl_mul {ns:List Int}:(pl ns).map (unit ns * ·)=ns:=by
 unfold pl
 rw [List.map_map]
 conv=>rhs;rw [<- List.map_id ns]
 refine List.map_congr_left fun n hn=>?_
 show unit ns * (n / unit ns)=n
 exact Int.mul_ediv_cancel' (unit_dvd hn)
theorem unit_natAbs (ns:List Int):(unit ns).natAbs=gcdN ns:=by
 unfold unit;split <;> omega
theorem gcd_pl {ns:List Int} (h:∃ n ∈ ns,n ≠ 0):gcdN (pl ns)=1:=by
 have e:=gcdN_mul (unit ns) (pl ns)
 rw [pl_mul,unit_natAbs] at e
 have p:=gcdN_pos h
 exact Nat.eq_of_mul_eq_mul_left p (by omega)
theorem fst_pl {ns:List Int} (h:∃ n ∈ ns,n ≠ 0):0 < fst0 (pl ns):=by
 have e:=fst0_mul (unit ns) (pl ns)
 rw [pl_mul] at e
 have p:=gcdN_pos h
 have f:=fst0_ne h
 by_cases hn:fst0 ns < 0
 ·have u:unit ns = -(gcdN ns:Int):=if_pos hn
  rw [u] at e
  refine Int.not_le.mp fun z=>?_
  have:0 <= -(gcdN ns:Int) * fst0 (pl ns):=Int.mul_nonneg_of_nonpos_of_nonpos (by omega) z
  omega
 ·have u:unit ns=(gcdN ns:Int):=if_neg hn
  rw [u] at e
  refine Int.not_le.mp fun z=>?_
  have:(gcdN ns:Int) * fst0 (pl ns)<=0:=Int.mul_nonpos_of_nonneg_of_nonpos (by omega) z
  omega
theorem nz_pl {ns:List Int} (h:∃ n ∈ ns,n ≠ 0):∃ n ∈ pl ns,n ≠ 0:=by
 obtain ⟨n,hn,h0⟩:=h
 refine ⟨n / unit ns,List.mem_map.mpr ⟨n,hn,rfl⟩,fun z=>h0 ?_⟩
 have:=Int.mul_ediv_cancel' (unit_dvd hn)
 rw [z] at this;omega
theorem nz_mul {ns:List Int} {c:Int} (hc:c ≠ 0) (h:∃ n ∈ ns,n ≠ 0):∃ n ∈ ns.map (c * ·),n ≠ 0:=by
 obtain ⟨n,hn,h0⟩:=h
 exact ⟨c * n,List.mem_map.mpr ⟨n,hn,rfl⟩,Int.mul_ne_zero hc h0⟩
theorem pl_of_mul {ms:List Int} {c:Int} (hc:c ≠ 0) (hg:gcdN ms=1) (hf:0 < fst0 ms):pl (ms.map (c * ·))=ms:=by
 have u:unit (ms.map (c * ·))=c:=by
  unfold unit
  rw [gcdN_mul,hg,fst0_mul]
  by_cases h:c < 0
  ·rw [if_pos (Int.mul_neg_of_neg_of_pos h hf)];omega
  ·rw [if_neg (by have:=Int.mul_pos (show 0 < c by omega) hf;omega)];omega
 unfold pl
 rw [u,List.map_map]
 conv=>rhs;rw [<- List.map_id ms]
 refine List.map_congr_left fun n hn=>?_
 show c * n / c=n
 exact Int.mul_ediv_cancel_left n hc
theorem pl_scale {ns:List Int} {c:Int} (hc:c ≠ 0) (h:∃ n ∈ ns,n ≠ 0):pl (ns.map (c * ·))=pl ns:=by
 have e:ns.map (c * ·)=(pl ns).map ((c * unit ns) * ·):=by
  conv=>lhs;rw [<- pl_mul (ns:=ns)]
  rw [List.map_map]
  refine List.map_congr_left fun n _=>?_
  show c * (unit ns * n)=c * unit ns * n
  rw [Int.mul_assoc]
 rw [e]
 exact pl_of_mul (Int.mul_ne_zero hc (unit_ne h)) (gcd_pl h) (fst_pl h)
theorem pl_length (ns:List Int):(pl ns).length=ns.length:=List.length_map _
theorem pl_le {ns:List Int} (h:∃ n ∈ ns,n ≠ 0) {m:Int} (hm:m ∈ pl ns):∃ n ∈ ns,m.natAbs<=n.natAbs:=by
 obtain ⟨n,hn,rfl⟩:=List.mem_map.mp hm
 refine ⟨n,hn,?_⟩
 have e:=Int.mul_ediv_cancel' (unit_dvd hn)
 have e2:=congrArg Int.natAbs e
 rw [Int.natAbs_mul,unit_natAbs] at e2
 have p:=gcdN_pos h
 calc (n / unit ns).natAbs=1 * (n / unit ns).natAbs:=by omega
  _<=gcdN ns * (n / unit ns).natAbs:=Nat.mul_le_mul_right _ p
  _=n.natAbs:=e2
end Num
end
section
namespace Num
def qm:List Int->List Int->List Int
 | [a,b,c,d],[e,f,g,h]=>[a * e - b * f - c * g - d * h,a * f + b * e + c * h - d * g,a * g - b * h + c * e + d * f,a * h + b * g - c * f + d * e]
 | _,_=>[]
def cj:List Int->List Int
 | [a,b,c,d]=>[a, -b, -c, -d]
 | _=>[]
def nrm:List Int->Int
 | [a,b,c,d]=>a * a + b * b + c * c + d * d
 | _=>0
theorem four_of {ns:List Int} (h:ns.length=4):∃ a b c d,ns=[a,b,c,d]:=by
 match ns,h with
 | [a,b,c,d],_=>exact ⟨a,b,c,d,rfl⟩
theorem sq_nn (a:Int):0<=a * a:=by
 rcases Int.le_total 0 a with h | h
 ·exact Int.mul_nonneg h h
 ·exact Int.mul_nonneg_of_nonpos_of_nonpos h h
theorem sq_pos {a:Int} (h:a ≠ 0):0 < a * a:=by
 have:=sq_nn a
 have:a * a ≠ 0:=Int.mul_ne_zero h h
 omega
theorem nrm_pos {ns:List Int} (h:ns.length=4) (hz:∃ n ∈ ns,n ≠ 0):0 < nrm ns:=by
 obtain ⟨a,b,c,d,rfl⟩:=four_of h
 obtain ⟨n,hn,h0⟩:=hz
 have ha:=sq_nn a
 have hb:=sq_nn b
 have hc:=sq_nn c
 have hd:=sq_nn d
 have hp:=sq_pos h0
 show 0 < a * a + b * b + c * c + d * d
 simp only [List.mem_cons,List.mem_nil_iff,or_false] at hn
 rcases hn with rfl | rfl | rfl | rfl <;> omega
def Bd (b:Nat) (ns:List Int):Prop:=∀ n ∈ ns,n.natAbs<=b
theorem bd_pl {ns:List Int} {x:Nat} (hz:∃ n ∈ ns,n ≠ 0) (hx:Bd x ns):Bd x (pl ns):=fun m hm=>let ⟨n,hn,hle⟩:=pl_le hz hm;Nat.le_trans hle (hx n hn)
end Num
end
section
namespace K0
open PySem L2 Num
section
variable {K:PySem.W.Frag}
def spCD (K:PySem.W.Frag):Sp:=fun vs H Q _=>∃ (a:Addr) (ns:List Int),vs=[.ref a]/\SqT K H a (ns.map V.int)/\Q (.int (gcdN ns)) H
theorem gcd_step {a b:Int} (ha:0<=a) (hb:0 < b):Nat.gcd b.toNat (a % b).toNat=Nat.gcd a.toNat b.toNat:=by
 have h1:(a % b).toNat=a.toNat % b.toNat:=by
  have e:=Int.toNat_emod ha (Int.le_of_lt hb)
  exact e
 rw [h1,Nat.gcd_comm, <- Nat.gcd_rec,Nat.gcd_comm]
def Sm (ns:List Int):Prop:=∀ n ∈ ns,n.natAbs < 2 ^ 9000
def spT (K:PySem.W.Frag) (pre:List Int->Prop) (fn:List Int->List Int):Sp:=fun vs H Q _=>∃ (a:Addr) (ns:List Int),vs=[.ref a]/\SqT K H a (ns.map V.int)/\ns.length<=1000/\pre ns /\
 ∀ (r:Addr) (H':Hp),Same H H'->H' r=some (.tup ((fn ns).map V.int))->Q (.ref r) H'
def red (ns:List Int):List Int:=ns.map fun n=>n / (gcdN ns:Int)
theorem gcd_small {ns:List Int} (h:∃ n ∈ ns,n ≠ 0) (hs:Sm ns):((gcdN ns:Nat):Int).natAbs.log2 < 9000:=by
 obtain ⟨n,hn,h0⟩:=h
 have h1:=gcdN_le hn h0
 have h2:=hs n hn
 have h3:((gcdN ns:Nat):Int).natAbs < 2 ^ 9000:=by
  rw [Int.natAbs_natCast]
  exact Nat.lt_of_le_of_lt h1 h2
 exact (Nat.log2_lt (by have:=gcdN_pos ⟨n,hn,h0⟩;omega)).mpr h3
def sop (ns ms:List Int):Int:=(List.zipWith (· * ·) ns ms).sum
theorem mulOk_of {i j:Int} (hi:i.natAbs < 2 ^ 100000) (hj:j.natAbs < 2 ^ 100000):IntMulOk i j:=by
 have b:∀ k:Int,k.natAbs < 2 ^ 100000->Builtin.Int.intBits k<=2 ^ 20:=fun k hk=>by
  unfold Builtin.Int.intBits
  split
  ·exact Nat.zero_le _
  ·rename_i h0
   have hne:k.natAbs ≠ 0:=by
    intro z
    apply h0
    have:k=0:=by omega
    simp [this]
   have:=(Nat.log2_lt hne).mpr hk
   omega
 exact IntMulOk.of_bits (b i hi) (b j hj)
theorem pow_lift {n:Nat} (h:n < 2 ^ 9000):n < 2 ^ 100000:=Nat.lt_of_lt_of_le h (Nat.pow_le_pow_right (by decide) (by decide))
def spSop (K:PySem.W.Frag):Sp:=fun vs H Q _=>∃ (a b:Addr) (ns ms:List Int),vs=[.ref a,.ref b]/\SqT K H a (ns.map V.int)/\SqT K H b (ms.map V.int)/\ns.length<=1000/\ms.length=ns.length/\Sm ns/\Sm ms /\
 ∀ (H':Hp),Same H H'->Q (.int (sop ns ms)) H'
def spSize (K:PySem.W.Frag):Sp:=fun vs H Q _=>∃ (a:Addr) (ns:List Int),vs=[.ref a]/\SqT K H a (ns.map V.int)/\ns.length<=1000/\Sm ns/\∀ (H':Hp),Same H H'->Q (.int (sop ns ns)) H'
theorem lex_fst0:∀ {l:List Int} {n:Nat},l.length=n->HT.lexLt l (List.replicate n 0)=decide (fst0 l < 0)
  | [],n,h=>by subst h;rfl
  | x :: r,n,h=>by
    subst h
    rw [List.length_cons,List.replicate_succ,HT.lexLt_cons,fst0,lex_fst0 rfl]
    by_cases hx:x=0
    . rw [if_pos hx,if_pos hx]
    . rw [if_neg hx,if_neg hx]
theorem red_mul (ns:List Int):(red ns).map ((gcdN ns:Int) * ·)=ns:=by
 unfold red
 rw [List.map_map]
 conv=>rhs;rw [<- List.map_id ns]
 refine List.map_congr_left fun n hn=>?_
 exact Int.mul_ediv_cancel' (gcdN_dvd hn)
theorem plain_eq {ns:List Int} (h:∃ n ∈ ns,n ≠ 0):(if fst0 (red ns) < 0 then (red ns).map (fun n => -n) else red ns)=pl ns:=by
 have e:=fst0_mul (gcdN ns) (red ns)
 rw [red_mul] at e
 have p:=gcdN_pos h
 by_cases hn:fst0 (red ns) < 0
 ·rw [if_pos hn]
  have u:unit ns = -(gcdN ns:Int):=if_pos (by rw [e];exact Int.mul_neg_of_pos_of_neg (by omega) hn)
  unfold pl red
  rw [u,List.map_map]
  refine List.map_congr_left fun n _=>?_
  show -(n / (gcdN ns:Int))=n / -(gcdN ns:Int)
  rw [Int.ediv_neg]
 ·rw [if_neg hn]
  have u:unit ns=(gcdN ns:Int):=if_neg (by rw [e];have:=Int.mul_nonneg (show (0:Int)<=gcdN ns by omega) (show 0<=fst0 (red ns) by omega);omega)
  unfold pl red
  rw [u]
def PlainPre (ns:List Int):Prop:=ns.length=4/\(∃ n ∈ ns,n ≠ 0)/\Sm ns
def Pu (H:Hp) (p:Addr):Prop:=∃ a b:Int,H p=some (.lst [.int a,.int b])
def spDraw:Sp:=fun vs H Q _=>∃ (p:Addr) (m:Int),vs=[.ref p,.int m]/\Pu H p/\0 < m/\m < 2 ^ 200/\∀ (d:Int) (H':Hp),0<=d->d < m->SB p H H'->Pu H' p->Q (.int d) H'
theorem at_draw {ms:List Int} {d:Int} (h0:0<=d) (h1:d < (ms.length:Int)):∃ m ∈ ms,atI (ms.map V.int) d=some (.int m):=by
 obtain ⟨j,rfl⟩:=Int.eq_ofNat_of_zero_le h0
 have hj:j < ms.length:=by omega
 refine ⟨ms[j],List.getElem_mem hj,?_⟩
 exact atI_nat (by rw [List.getElem?_map];simp [hj])
theorem Pu.ne {H:Hp} {p l:Addr} (h:Pu H p) (hl:H l=none):l ≠ p:=by
 obtain ⟨a,b,e⟩:=h
 intro z;subst z;rw [hl] at e;cases e
theorem Pu.same {H H':Hp} {p:Addr} (h:Pu H p) (s:Same H H'):Pu H' p:=by
 obtain ⟨a,b,e⟩:=h;exact ⟨a,b,s _ _ e⟩
theorem Pu.off {H:Hp} {p D:Addr} {o:HO} (h:Pu H p) (n:D ≠ p):Pu (upd H D o) p:=by
 obtain ⟨a,b,e⟩:=h
 exact ⟨a,b,by rw [upd_ne (Ne.symm n)];exact e⟩
def spWhole:Sp:=fun vs H Q _=>∃ (n:Int),vs=[.int n]/\Q (.bl true) H
def spDiv:Sp:=fun vs H Q _=>∃ (a b:Int),vs=[.int a,.int b]/\Q (.int ((Nat.gcd a.natAbs b.natAbs:Nat):Int)) H
theorem first_at:∀ {ns:List Int},(∃ n ∈ ns,n ≠ 0)->(ns.filter (fun n => !decide (V.int n=V.int 0)))[0]?=some (fst0 ns)
  | [],h=>by obtain ⟨n,hn,_⟩:=h;cases hn
  | x :: r, h => by
    by_cases hx:x=0
    . subst hx
      rw [List.filter_cons_of_neg (by simp),fst0,if_pos rfl]
      refine first_at ?_
      obtain ⟨n,hn,h0⟩:=h
      rcases List.mem_cons.mp hn with z | z
      . exact absurd z h0
      . exact ⟨n,z,h0⟩
    . rw [List.filter_cons_of_pos (by simp [hx]),fst0,if_neg hx]
      rfl
def spLaw (K:PySem.W.Frag):Sp:=fun vs H Q _=>∃ (a:Addr) (ns:List Int),vs=[.ref a]/\SqL K H a (ns.map V.int)/\ns.length<=63/\(∀ v ∈ ns,Builtin.Int.intBits v<=2 ^ 20)/\∀ (H':Hp),Q (.bl true) H'
theorem sm_bd {ns:List Int} {b:Nat} (h:Bd b ns) (hb:b < 2 ^ 9000):Sm ns:=fun n hn=>Nat.lt_of_le_of_lt (h n hn) hb
theorem bd_mono {ns:List Int} {a b:Nat} (h:Bd a ns) (hab:a<=b):Bd b ns:=fun n hn=>Nat.le_trans (h n hn) hab
theorem at40 {a b c d:Int}:atI ([a,b,c,d].map V.int) 0=some (.int a):=rfl
theorem at41 {a b c d:Int}:atI ([a,b,c,d].map V.int) 1=some (.int b):=rfl
theorem at42 {a b c d:Int}:atI ([a,b,c,d].map V.int) 2=some (.int c):=rfl
theorem at43 {a b c d:Int}:atI ([a,b,c,d].map V.int) 3=some (.int d):=rfl
end
end K0
end
section
namespace K0
open PySem L2 Num
theorem red_scale {ns:List Int} {c:Int} (hc:0 < c):red (ns.map (c * ·))=red ns:=by
 unfold red
 rw [List.map_map,gcdN_mul]
 refine List.map_congr_left fun n _=>?_
 show c * n / ((c.natAbs * gcdN ns:Nat):Int)=n / (gcdN ns:Int)
 rw [Int.natCast_mul,Int.natAbs_of_nonneg (Int.le_of_lt hc),Int.mul_ediv_mul_of_pos _ _ hc]
def fr (t b:Int):List Int:=red [t,b]
theorem fr_eq {t b t' b':Int} (hb:0 < b) (hb':0 < b') (h:t * b'=t' * b):fr t b=fr t' b':=by
 unfold fr
 rw [<- red_scale (ns:=[t,b]) hb', <- red_scale (ns:=[t',b']) hb]
 simp only [List.map_cons,List.map_nil]
 rw [Int.mul_comm b' t,h,Int.mul_comm b t',Int.mul_comm b' b]
theorem fr_two (t b:Int):∃ t' b',fr t b=[t',b']:=⟨_,_,rfl⟩
theorem fr_pos {t b t' b':Int} (hb:0 < b) (h:fr t b=[t',b']):0 < b'/\b'.natAbs<=b.natAbs/\t'.natAbs<=t.natAbs/\t * b'=t' * b/\Nat.gcd t'.natAbs b'.natAbs=1:=by
 have hg:0 < gcdN [t,b]:=gcdN_pos ⟨b,by simp,by omega⟩
 have d1:(gcdN [t,b]:Int) ∣ t:=gcdN_dvd (by simp)
 have d2:(gcdN [t,b]:Int) ∣ b:=gcdN_dvd (by simp)
 have e1:t'=t / (gcdN [t,b]:Int):=by injection h with h1 _;exact h1.symm
 have e2:b'=b / (gcdN [t,b]:Int):=by injection h with _ h2;injection h2 with h2 _;exact h2.symm
 obtain ⟨u,hu⟩:=d1
 obtain ⟨v,hv⟩:=d2
 have hgi:(0:Int) < (gcdN [t,b]:Int):=by omega
 have eg:gcdN [t,b]=gcdN [t,b] * Nat.gcd u.natAbs v.natAbs:=by
  have:gcdN ([u,v].map ((gcdN [t,b]:Int) * ·))=gcdN [t,b] * gcdN [u,v]:=by rw [gcdN_mul,Int.natAbs_natCast]
  rw [List.map_cons,List.map_cons,List.map_nil, <- hu, <- hv] at this
  have e:gcdN [u,v]=Nat.gcd u.natAbs v.natAbs:=by rw [gcdN_cons,gcdN_cons];simp [gcdN]
  rw [e] at this
  exact this
 generalize gcdN [t,b]=g at *
 have eu:t'=u:=by rw [e1,hu,Int.mul_ediv_cancel_left _ (by omega)]
 have ev:b'=v:=by rw [e2,hv,Int.mul_ediv_cancel_left _ (by omega)]
 subst eu ev
 have vp:0 < b':=by
  rcases Int.lt_trichotomy b' 0 with z | z | z
  ·have:=Int.mul_neg_of_pos_of_neg hgi z;omega
  ·subst z;simp at hv;omega
  ·exact z
 refine ⟨vp,?_,?_,?_,?_⟩
 ·rw [hv,Int.natAbs_mul,Int.natAbs_natCast];exact Nat.le_mul_of_pos_left _ hg
 ·rw [hu,Int.natAbs_mul,Int.natAbs_natCast];exact Nat.le_mul_of_pos_left _ hg
 ·rw [hu,hv,Int.mul_assoc,Int.mul_left_comm]
 ·have:g * 1=g * Nat.gcd t'.natAbs b'.natAbs:=by omega
  exact (Nat.eq_of_mul_eq_mul_left hg this).symm
structure Pt (H:Hp) (p:Addr) (f1 f2 f3:List Int):Prop where
 ex:∃ p1 p2 p3,H p=some (.tup [.ref p1,.ref p2,.ref p3])/\H p1=some (.tup (f1.map V.int))/\H p2=some (.tup (f2.map V.int))/\H p3=some (.tup (f3.map V.int))
theorem Pt.same {H H':Hp} {p:Addr} {f1 f2 f3:List Int} (h:Pt H p f1 f2 f3) (e:Same H H'):Pt H' p f1 f2 f3:=by
 obtain ⟨p1,p2,p3,h0,h1,h2,h3⟩:=h.ex
 exact ⟨p1,p2,p3,e _ _ h0,e _ _ h1,e _ _ h2,e _ _ h3⟩
def Bt (n:Int) (k:Nat):Prop:=n.natAbs<=2 ^ k
theorem Bt.mul {a b:Int} {x y:Nat} (ha:Bt a x) (hb:Bt b y):Bt (a * b) (x + y):=by
 unfold Bt at *
 rw [Int.natAbs_mul,Nat.pow_add];exact Nat.mul_le_mul ha hb
theorem Bt.add {a b:Int} {x:Nat} (ha:Bt a x) (hb:Bt b x):Bt (a + b) (x + 1):=by
 unfold Bt at *
 rw [Nat.pow_succ,Nat.mul_two]
 exact Nat.le_trans (Int.natAbs_add_le a b) (Nat.add_le_add ha hb)
theorem Bt.sub {a b:Int} {x:Nat} (ha:Bt a x) (hb:Bt b x):Bt (a - b) (x + 1):=by
 unfold Bt at *
 rw [Nat.pow_succ,Nat.mul_two]
 exact Nat.le_trans (Int.natAbs_sub_le a b) (Nat.add_le_add ha hb)
theorem Bt.up {a:Int} {x y:Nat} (h:Bt a x) (hxy:x<=y):Bt a y:=Nat.le_trans h (Nat.pow_le_pow_right (by decide) hxy)
theorem Bt.lt {a:Int} {x:Nat} (h:Bt a x) (hx:x < 9000):a.natAbs < 2 ^ 9000:=Nat.lt_of_le_of_lt h (Nat.pow_lt_pow_right (by decide) hx)
theorem Bt.mulOk {a b:Int} {x y:Nat} (ha:Bt a x) (hb:Bt b y) (hx:x < 9000:=by decide) (hy:y < 9000:=by decide):IntMulOk a b:=mulOk_of (pow_lift (ha.lt hx)) (pow_lift (hb.lt hy))
theorem Bt.log {a:Int} {x:Nat} (h:Bt a x) (h0:a ≠ 0) (hx:x < 9000:=by decide):a.natAbs.log2 < 9000:=(Nat.log2_lt (by omega)).mpr (h.lt hx)
theorem sm2 {a b:Int} {x:Nat} (ha:Bt a x) (hb:Bt b x) (hx:x < 9000:=by decide):Sm [a,b]:=fun n hn=>by
 simp only [List.mem_cons,List.mem_nil_iff,or_false] at hn
 rcases hn with rfl | rfl
 ·exact ha.lt hx
 ·exact hb.lt hx
def spCM (K:PySem.W.Frag):Sp:=fun vs H Q _=>∃ (a:Addr) (bs:List Int) (C:Int),vs=[.ref a]/\SqL K H a (bs.map V.int)/\(∀ b ∈ bs,0 < b/\b ∣ C)/\0 < C/\Bt C 3000 /\
 ∀ (L:Int) (H':Hp),Same H H'->0 < L->(∀ b ∈ bs,b ∣ L)->L ∣ C->Q (.int L) H'
theorem bt_dvd {a C:Int} {k:Nat} (h:a ∣ C) (hC:0 < C) (b:Bt C k):Bt a k:=by
 obtain ⟨u,hu⟩:=h
 refine Nat.le_trans ?_ b
 have:u ≠ 0:=fun z=>by subst z;simp at hu;omega
 rw [hu,Int.natAbs_mul];exact Nat.le_mul_of_pos_right _ (by omega)
def spLow (K:PySem.W.Frag):Sp:=fun vs H Q _=>∃ (p q:Addr) (n1 n2 n3 b:Int),vs=[.ref p]/\H p=some (.tup [.ref q,.int b])/\H q=some (.tup ([n1,n2,n3].map V.int))/\0 < b/\Bt n1 8900/\Bt n2 8900/\Bt n3 8900/\Bt b 8900 /\
 ∀ (r:Addr) (H':Hp),Same H H'->Pt H' r (fr n1 b) (fr n2 b) (fr n3 b)->Q (.ref r) H'
def rw1 (a b c d:Int):List Int:=[a * a + b * b - c * c - d * d,2 * (b * c - a * d),2 * (b * d + a * c)]
def rw2 (a b c d:Int):List Int:=[2 * (b * c + a * d),a * a - b * b + c * c - d * d,2 * (c * d - a * b)]
def rw3 (a b c d:Int):List Int:=[2 * (b * d - a * c),2 * (c * d + a * b),a * a - b * b - c * c + d * d]
def spWT (K:PySem.W.Frag):Sp:=fun vs H Q _=>∃ (x:Addr) (a b c d:Int),vs=[.ref x]/\SqT K H x ([a,b,c,d].map V.int)/\Bd (2 ^ 1000) [a,b,c,d] /\
 ∀ (r:Addr) (H':Hp),Same H H'->Pt H' r (rw1 a b c d) (rw2 a b c d) (rw3 a b c d)->Q (.ref r) H'
def tp (rw:List Int) (t1 b1 t2 b2 t3 b3:Int):Int:=sop rw [t1 * (b2 * b3),t2 * (b1 * b3),t3 * (b1 * b2)]
theorem gcdN2' (t b:Int):gcdN [t,b]=Nat.gcd t.natAbs b.natAbs:=by rw [gcdN_cons,gcdN_cons];simp [gcdN]
theorem cm_step {m n C:Int} (hm:0 < m) (hn:0 < n) (hC:0 < C) (dm:m ∣ C) (dn:n ∣ C) (bC:Bt C 3000):((gcdN [m,n]:Nat):Int) ≠ 0/\((gcdN [m,n]:Nat):Int).natAbs.log2 < 9000/\Bt (m.fdiv (gcdN [m,n]:Nat)) 3000 /\
  0 < m.fdiv (gcdN [m,n]:Nat) * n/\m ∣ m.fdiv (gcdN [m,n]:Nat) * n/\n ∣ m.fdiv (gcdN [m,n]:Nat) * n/\m.fdiv (gcdN [m,n]:Nat) * n ∣ C:=by
 have hg:0 < gcdN [m,n]:=gcdN_pos ⟨n,by simp,by omega⟩
 have hl:gcdN [m,n]<=n.natAbs:=gcdN_le (by simp) (by omega)
 have d1:(gcdN [m,n]:Int) ∣ m:=gcdN_dvd (by simp)
 have d2:(gcdN [m,n]:Int) ∣ n:=gcdN_dvd (by simp)
 have bn:=bt_dvd dn hC bC
 have bm:=bt_dvd dm hC bC
 have bg:Bt ((gcdN [m,n]:Nat):Int) 3000:=by unfold Bt;rw [Int.natAbs_natCast];exact Nat.le_trans hl bn
 have lc:m.fdiv (gcdN [m,n]:Nat) * n ∣ C:=by
  rw [Int.fdiv_eq_ediv_of_dvd d1]
  obtain ⟨M,rfl⟩:=Int.eq_ofNat_of_zero_le (Int.le_of_lt hm)
  obtain ⟨N,rfl⟩:=Int.eq_ofNat_of_zero_le (Int.le_of_lt hn)
  obtain ⟨c,rfl⟩:=Int.eq_ofNat_of_zero_le (Int.le_of_lt hC)
  rw [gcdN2',Int.natAbs_natCast,Int.natAbs_natCast]
  have e:((M:Int) / (Nat.gcd M N:Nat) * (N:Int))=((Nat.lcm M N:Nat):Int):=by
   rw [<- Int.natCast_ediv, <- Int.natCast_mul]
   congr 1
   unfold Nat.lcm
   rw [Nat.div_mul_right_comm (Nat.gcd_dvd_left M N)]
  rw [e]
  exact Int.natCast_dvd_natCast.mpr (Nat.lcm_dvd (Int.natCast_dvd_natCast.mp dm) (Int.natCast_dvd_natCast.mp dn))
 rw [Int.fdiv_eq_ediv_of_dvd d1] at lc ⊢
 obtain ⟨u,hu⟩:=d1
 obtain ⟨v,hv⟩:=d2
 generalize gcdN [m,n]=g at *
 have eu:m / (g:Int)=u:=by rw [hu,Int.mul_ediv_cancel_left _ (by omega)]
 rw [eu] at lc ⊢
 have up:0 < u:=by
  rcases Int.lt_trichotomy u 0 with z | z | z
  ·have:=Int.mul_neg_of_pos_of_neg (show (0:Int) < g by omega) z;omega
  ·subst z;simp at hu;omega
  ·exact z
 refine ⟨by omega,bg.log (by omega),?_,Int.mul_pos up hn,⟨v,?_⟩,⟨u,Int.mul_comm _ _⟩,lc⟩
 ·refine Nat.le_trans ?_ bm
  rw [hu,Int.natAbs_mul,Int.natAbs_natCast];exact Nat.le_mul_of_pos_left _ hg
 ·rw [hu,hv];grind
theorem lev_part {L b:Int} (hb:0 < b) (hL:0 < L) (hd:b ∣ L) (bL:Bt L 3000):L.fdiv b * b=L/\Bt (L.fdiv b) 3000:=by
 rw [Int.fdiv_eq_ediv_of_dvd hd]
 obtain ⟨u,hu⟩:=hd
 have e:L / b=u:=by rw [hu,Int.mul_ediv_cancel_left _ (by omega)]
 rw [e]
 refine ⟨by rw [hu,Int.mul_comm],Nat.le_trans ?_ bL⟩
 rw [hu,Int.natAbs_mul];exact Nat.le_mul_of_pos_left _ (by omega)
theorem atA {x y:V}:atI [x,y] 0=some x:=rfl
theorem atB {x y:V}:atI [x,y] 1=some y:=rfl
theorem sop4 (a b c d:Int):sop [a,b,c,d] [a,b,c,d]=nrm [a,b,c,d]:=by
 simp only [sop,nrm,List.zipWith_cons_cons,List.zipWith_nil_right,List.sum_cons,List.sum_nil];omega
theorem two1:Bt 2 1:=by unfold Bt;decide
theorem sq3 {a b c d:Int} (ha:Bt a 2000) (hb:Bt b 2000) (hc:Bt c 2000) (hd:Bt d 2000):Bt (a + b - c - d) 2003:=((ha.add hb).sub (hc.up (by decide))).sub (hd.up (by decide))
theorem sq3' {a b c d:Int} (ha:Bt a 2000) (hb:Bt b 2000) (hc:Bt c 2000) (hd:Bt d 2000):Bt (a - b + c - d) 2003:=((ha.sub hb).add (hc.up (by decide))).sub (hd.up (by decide))
theorem sq3'' {a b c d:Int} (ha:Bt a 2000) (hb:Bt b 2000) (hc:Bt c 2000) (hd:Bt d 2000):Bt (a - b - c + d) 2003:=((ha.sub hb).sub (hc.up (by decide))).add (hd.up (by decide))
theorem tw {a b:Int} (ha:Bt a 2000) (hb:Bt b 2000):Bt (2 * (a - b)) 2003:=(two1.mul (ha.sub hb)).up (by decide)
theorem tw' {a b:Int} (ha:Bt a 2000) (hb:Bt b 2000):Bt (2 * (a + b)) 2003:=(two1.mul (ha.add hb)).up (by decide)
theorem rows_bt {a b c d:Int} (h:Bd (2 ^ 1000) [a,b,c,d]):(∀ n ∈ rw1 a b c d,Bt n 2003)/\(∀ n ∈ rw2 a b c d,Bt n 2003)/\(∀ n ∈ rw3 a b c d,Bt n 2003):=by
 have ha:Bt a 1000:=h a (by simp)
 have hb:Bt b 1000:=h b (by simp)
 have hc:Bt c 1000:=h c (by simp)
 have hd:Bt d 1000:=h d (by simp)
 have m:∀ {x y:Int},Bt x 1000->Bt y 1000->Bt (x * y) 2000:=fun hx hy=>hx.mul hy
 refine ⟨fun n hn=>?_,fun n hn=>?_,fun n hn=>?_⟩
 ·simp only [rw1,List.mem_cons,List.mem_nil_iff,or_false] at hn
  rcases hn with rfl | rfl | rfl
  ·exact sq3 (m ha ha) (m hb hb) (m hc hc) (m hd hd)
  ·exact tw (m hb hc) (m ha hd)
  ·exact tw' (m hb hd) (m ha hc)
 ·simp only [rw2,List.mem_cons,List.mem_nil_iff,or_false] at hn
  rcases hn with rfl | rfl | rfl
  ·exact tw' (m hb hc) (m ha hd)
  ·exact sq3' (m ha ha) (m hb hb) (m hc hc) (m hd hd)
  ·exact tw (m hc hd) (m ha hb)
 ·simp only [rw3,List.mem_cons,List.mem_nil_iff,or_false] at hn
  rcases hn with rfl | rfl | rfl
  ·exact tw (m hb hd) (m ha hc)
  ·exact tw' (m hc hd) (m ha hb)
  ·exact sq3'' (m ha ha) (m hb hb) (m hc hc) (m hd hd)
theorem nrm_bt {a b c d:Int} (h:Bd (2 ^ 1000) [a,b,c,d]):Bt (nrm [a,b,c,d]) 2003:=by
 have ha:Bt a 1000:=h a (by simp)
 have hb:Bt b 1000:=h b (by simp)
 have hc:Bt c 1000:=h c (by simp)
 have hd:Bt d 1000:=h d (by simp)
 exact (((ha.mul ha).add (hb.mul hb)).add ((hc.mul hc).up (by decide))).add ((hd.mul hd).up (by decide))
theorem bts {ns:List Int} {k:Nat} (h:∀ n ∈ ns,Bt n k) (hk:k < 9000:=by decide):Sm ns:=fun n hn=>(h n hn).lt hk
theorem gcdN2 (t b:Int):gcdN [t,b]=Nat.gcd t.natAbs b.natAbs:=by rw [gcdN_cons,gcdN_cons];simp [gcdN]
def spMade (K:PySem.W.Frag):Sp:=fun vs H Q _=>∃ (t b:Int),vs=[.int t,.int b]/\0 < b/\Bt b 8000/\∀ (r:Addr) (H':Hp),Same H H'->H' r=some (.tup ((fr t b).map V.int))->Q (.ref r) H'
def ptD (f1 f2 f3:List Int):PySem.W.Dat:=.tuple [.tuple (f1.map .int),.tuple (f2.map .int),.tuple (f3.map .int)]
theorem kqd_pt {f1 f2 f3:List Int}:PySem.W.kqdOk 9 (ptD f1 f2 f3)=true:=by
 show List.all [_,_,_] (PySem.W.kqdOk 8)=true
 have e:∀ f:List Int,PySem.W.kqdOk 8 (.tuple (f.map .int))=true:=fun f=>kqd_ints f 7
 simp only [List.all_cons,List.all_nil,Bool.and_true,e]
end K0
end
section
namespace K0
open PySem L2 Num
def qv (t b:Int):Rat:=(t:Rat) / (b:Rat)
theorem rmul_ne {a b:Rat} (ha:a ≠ 0) (hb:b ≠ 0):a * b ≠ 0:=by grind
theorem cast_ne {b:Int} (h:b ≠ 0):(b:Rat) ≠ 0:=fun z=>h (by exact_mod_cast z)
theorem fr_qv {t b t' b':Int} (hb:0 < b) (hb':0 < b') (h:qv t b=qv t' b'):fr t b=fr t' b':=by
 refine fr_eq hb hb' ?_
 have h1:=cast_ne (show b ≠ 0 by omega)
 have h2:=cast_ne (show b' ≠ 0 by omega)
 unfold qv at h
 have:(t:Rat) * b'=t' * b:=by grind
 exact_mod_cast this
theorem qv_of {t b t' b':Int} (hb:b ≠ 0) (hb':b' ≠ 0) (h:t * b'=t' * b):qv t b=qv t' b':=by
 have h1:=cast_ne hb
 have h2:=cast_ne hb'
 unfold qv
 have:(t:Rat) * b'=t' * b:=by exact_mod_cast h
 grind
def R1 (a b c d x y z:Rat):Rat:=(a * a + b * b - c * c - d * d) * x + 2 * (b * c - a * d) * y + 2 * (b * d + a * c) * z
def R2 (a b c d x y z:Rat):Rat:=2 * (b * c + a * d) * x + (a * a - b * b + c * c - d * d) * y + 2 * (c * d - a * b) * z
def R3 (a b c d x y z:Rat):Rat:=2 * (b * d - a * c) * x + 2 * (c * d + a * b) * y + (a * a - b * b - c * c + d * d) * z
def N4 (a b c d:Rat):Rat:=a * a + b * b + c * c + d * d
structure Lo (k:Nat) (t b:Int) (x:Rat):Prop where
 pos:0 < b
 low:Nat.gcd t.natAbs b.natAbs=1
 bt:Bt t k
 bb:Bt b k
 val:qv t b=x
theorem Lo.fr {k:Nat} {t b:Int} {x:Rat} (h:Lo k t b x):fr t b=[t,b]:=by
 unfold K0.fr red
 rw [gcdN2,h.low]
 simp
theorem Lo.eq {k k':Nat} {t b t' b':Int} {x:Rat} (h:Lo k t b x) (h':Lo k' t' b' x):[t,b]=[t',b']:=by
 rw [<- h.fr, <- h'.fr]
 exact fr_qv h.pos h'.pos (by rw [h.val,h'.val])
theorem Lo.of {k:Nat} {T B t b:Int} {x:Rat} (hB:0 < B) (hT:Bt T k) (hb:Bt B k) (h:K0.fr T B=[t,b]) (hv:qv T B=x):Lo k t b x:=by
 obtain ⟨h1,h2,h3,h4,h5⟩:=fr_pos hB h
 refine ⟨h1,h5,Nat.le_trans h3 hT,Nat.le_trans h2 hb,?_⟩
 rw [<- hv]
 exact (qv_of (by omega) (by omega) h4).symm
theorem rows_btG {m:Nat} {a b c d:Int} (h:Bd (2 ^ m) [a,b,c,d]):(∀ n ∈ rw1 a b c d,Bt n (2 * m + 3))/\(∀ n ∈ rw2 a b c d,Bt n (2 * m + 3))/\(∀ n ∈ rw3 a b c d,Bt n (2 * m + 3)):=by
 have ha:Bt a m:=h a (by simp)
 have hb:Bt b m:=h b (by simp)
 have hc:Bt c m:=h c (by simp)
 have hd:Bt d m:=h d (by simp)
 have q:∀ {x y:Int},Bt x m->Bt y m->Bt (x * y) (2 * m):=fun hx hy=>(hx.mul hy).up (by omega)
 have s1:∀ {w x y z:Int},Bt w (2 * m)->Bt x (2 * m)->Bt y (2 * m)->Bt z (2 * m)->Bt (w + x - y - z) (2 * m + 3):=fun hw hx hy hz=>((hw.add hx).sub (hy.up (by omega))).sub (hz.up (by omega))
 have s2:∀ {w x y z:Int},Bt w (2 * m)->Bt x (2 * m)->Bt y (2 * m)->Bt z (2 * m)->Bt (w - x + y - z) (2 * m + 3):=fun hw hx hy hz=>((hw.sub hx).add (hy.up (by omega))).sub (hz.up (by omega))
 have s3:∀ {w x y z:Int},Bt w (2 * m)->Bt x (2 * m)->Bt y (2 * m)->Bt z (2 * m)->Bt (w - x - y + z) (2 * m + 3):=fun hw hx hy hz=>((hw.sub hx).sub (hy.up (by omega))).add (hz.up (by omega))
 have d1:∀ {x y:Int},Bt x (2 * m)->Bt y (2 * m)->Bt (2 * (x - y)) (2 * m + 3):=fun hx hy=>(two1.mul (hx.sub hy)).up (by omega)
 have d2:∀ {x y:Int},Bt x (2 * m)->Bt y (2 * m)->Bt (2 * (x + y)) (2 * m + 3):=fun hx hy=>(two1.mul (hx.add hy)).up (by omega)
 refine ⟨fun n hn=>?_,fun n hn=>?_,fun n hn=>?_⟩
 ·simp only [rw1,List.mem_cons,List.mem_nil_iff,or_false] at hn
  rcases hn with rfl | rfl | rfl
  ·exact s1 (q ha ha) (q hb hb) (q hc hc) (q hd hd)
  ·exact d1 (q hb hc) (q ha hd)
  ·exact d2 (q hb hd) (q ha hc)
 ·simp only [rw2,List.mem_cons,List.mem_nil_iff,or_false] at hn
  rcases hn with rfl | rfl | rfl
  ·exact d2 (q hb hc) (q ha hd)
  ·exact s2 (q ha ha) (q hb hb) (q hc hc) (q hd hd)
  ·exact d1 (q hc hd) (q ha hb)
 ·simp only [rw3,List.mem_cons,List.mem_nil_iff,or_false] at hn
  rcases hn with rfl | rfl | rfl
  ·exact d1 (q hb hd) (q ha hc)
  ·exact d2 (q hc hd) (q ha hb)
  ·exact s3 (q ha ha) (q hb hb) (q hc hc) (q hd hd)
theorem nrm_btG {m:Nat} {a b c d:Int} (h:Bd (2 ^ m) [a,b,c,d]):Bt (nrm [a,b,c,d]) (2 * m + 3):=by
 have ha:Bt a m:=h a (by simp)
 have hb:Bt b m:=h b (by simp)
 have hc:Bt c m:=h c (by simp)
 have hd:Bt d m:=h d (by simp)
 have q:∀ {x y:Int},Bt x m->Bt y m->Bt (x * y) (2 * m):=fun hx hy=>(hx.mul hy).up (by omega)
 exact (((q ha ha).add (q hb hb)).add ((q hc hc).up (by omega))).add ((q hd hd).up (by omega))
theorem N4_scale (u p q r s:Rat):N4 (u * p) (u * q) (u * r) (u * s)=u * u * N4 p q r s:=by unfold N4;grind
theorem N4_ne {ns:List Int} {a b c d:Int} (e:ns=[a,b,c,d]) (hz:∃ n ∈ ns,n ≠ 0):N4 a b c d ≠ 0:=by
 subst e
 have np:=nrm_pos (ns:=[a,b,c,d]) rfl hz
 have cN:((nrm [a,b,c,d]:Int):Rat)=N4 a b c d:=by unfold nrm N4;push_cast;rfl
 rw [<- cN]
 exact cast_ne (by omega)
theorem div_help {x y n m u X:Rat} (hu:u ≠ 0) (hn:n ≠ 0) (hm:m ≠ 0) (h1:u * u * x=X) (h2:u * u * n=m):x / n=X / m:=by
 subst h1 h2
 grind
theorem R1_scale (u p q r s x y z:Rat):R1 (u * p) (u * q) (u * r) (u * s) x y z=u * u * R1 p q r s x y z:=by unfold R1;grind
theorem R2_scale (u p q r s x y z:Rat):R2 (u * p) (u * q) (u * r) (u * s) x y z=u * u * R2 p q r s x y z:=by unfold R2;grind
theorem R3_scale (u p q r s x y z:Rat):R3 (u * p) (u * q) (u * r) (u * s) x y z=u * u * R3 p q r s x y z:=by unfold R3;grind
theorem crossed {x n y m:Rat} (hn:n ≠ 0) (hm:m ≠ 0) (h:x / n=y / m):x * m=y * n:=by grind
theorem R1_pl {a b c d p q r s:Int} {x y z:Rat} (hp:pl [a,b,c,d]=[p,q,r,s]) (z1:∃ n ∈ [a,b,c,d],n ≠ 0):R1 a b c d x y z / N4 a b c d=R1 p q r s x y z / N4 p q r s:=by
 have hu:=cast_ne (unit_ne z1)
 have n1:=N4_ne rfl z1
 have n3:=N4_ne hp (nz_pl z1)
 have em:=pl_mul (ns:=[a,b,c,d])
 rw [hp] at em
 generalize unit [a,b,c,d]=u at *
 simp only [List.map_cons,List.map_nil,List.cons.injEq,and_true] at em
 obtain ⟨m1,m2,m3,m4⟩:=em
 have k1:(u:Rat) * p=a:=by exact_mod_cast m1
 have k2:(u:Rat) * q=b:=by exact_mod_cast m2
 have k3:(u:Rat) * r=c:=by exact_mod_cast m3
 have k4:(u:Rat) * s=d:=by exact_mod_cast m4
 have A:=R1_scale u p q r s x y z
 have B:=N4_scale u p q r s
 rw [k1,k2,k3,k4] at A B
 rw [A]
 exact (div_help (X:=u * u * R1 p q r s x y z) hu n3 n1 rfl B.symm (y:=0)).symm
theorem R2_pl {a b c d p q r s:Int} {x y z:Rat} (hp:pl [a,b,c,d]=[p,q,r,s]) (z1:∃ n ∈ [a,b,c,d],n ≠ 0):R2 a b c d x y z / N4 a b c d=R2 p q r s x y z / N4 p q r s:=by
 have hu:=cast_ne (unit_ne z1)
 have n1:=N4_ne rfl z1
 have n3:=N4_ne hp (nz_pl z1)
 have em:=pl_mul (ns:=[a,b,c,d])
 rw [hp] at em
 generalize unit [a,b,c,d]=u at *
 simp only [List.map_cons,List.map_nil,List.cons.injEq,and_true] at em
 obtain ⟨m1,m2,m3,m4⟩:=em
 have k1:(u:Rat) * p=a:=by exact_mod_cast m1
 have k2:(u:Rat) * q=b:=by exact_mod_cast m2
 have k3:(u:Rat) * r=c:=by exact_mod_cast m3
 have k4:(u:Rat) * s=d:=by exact_mod_cast m4
 have A:=R2_scale u p q r s x y z
 have B:=N4_scale u p q r s
 rw [k1,k2,k3,k4] at A B
 rw [A]
 exact (div_help (X:=u * u * R2 p q r s x y z) hu n3 n1 rfl B.symm (y:=0)).symm
theorem R3_pl {a b c d p q r s:Int} {x y z:Rat} (hp:pl [a,b,c,d]=[p,q,r,s]) (z1:∃ n ∈ [a,b,c,d],n ≠ 0):R3 a b c d x y z / N4 a b c d=R3 p q r s x y z / N4 p q r s:=by
 have hu:=cast_ne (unit_ne z1)
 have n1:=N4_ne rfl z1
 have n3:=N4_ne hp (nz_pl z1)
 have em:=pl_mul (ns:=[a,b,c,d])
 rw [hp] at em
 generalize unit [a,b,c,d]=u at *
 simp only [List.map_cons,List.map_nil,List.cons.injEq,and_true] at em
 obtain ⟨m1,m2,m3,m4⟩:=em
 have k1:(u:Rat) * p=a:=by exact_mod_cast m1
 have k2:(u:Rat) * q=b:=by exact_mod_cast m2
 have k3:(u:Rat) * r=c:=by exact_mod_cast m3
 have k4:(u:Rat) * s=d:=by exact_mod_cast m4
 have A:=R3_scale u p q r s x y z
 have B:=N4_scale u p q r s
 rw [k1,k2,k3,k4] at A B
 rw [A]
 exact (div_help (X:=u * u * R3 p q r s x y z) hu n3 n1 rfl B.symm (y:=0)).symm
def Alike (a b c d e f g h x y z:Rat):Prop:=R1 a b c d x y z / N4 a b c d=R1 e f g h x y z / N4 e f g h/\R2 a b c d x y z / N4 a b c d=R2 e f g h x y z / N4 e f g h/\R3 a b c d x y z / N4 a b c d=R3 e f g h x y z / N4 e f g h
theorem prods {a b c d e f g h:Rat} (n:N4 a b c d ≠ 0) (m:N4 e f g h ≠ 0) (h1:Alike a b c d e f g h 1 0 0) (h2:Alike a b c d e f g h 2 1 0) (h3:Alike a b c d e f g h (-1) 3 1) :
  (a * a * N4 e f g h=e * e * N4 a b c d/\a * b * N4 e f g h=e * f * N4 a b c d/\a * c * N4 e f g h=e * g * N4 a b c d/\a * d * N4 e f g h=e * h * N4 a b c d) /\
  (b * b * N4 e f g h=f * f * N4 a b c d/\b * c * N4 e f g h=f * g * N4 a b c d/\b * d * N4 e f g h=f * h * N4 a b c d)/\(c * c * N4 e f g h=g * g * N4 a b c d/\c * d * N4 e f g h=g * h * N4 a b c d)/\d * d * N4 e f g h=h * h * N4 a b c d:=by
 obtain ⟨p1,p2,p3⟩:=h1
 obtain ⟨q1,q2,q3⟩:=h2
 obtain ⟨r1,r2,r3⟩:=h3
 replace p1:=crossed n m p1
 replace p2:=crossed n m p2
 replace p3:=crossed n m p3
 replace q1:=crossed n m q1
 replace q2:=crossed n m q2
 replace q3:=crossed n m q3
 replace r1:=crossed n m r1
 replace r2:=crossed n m r2
 replace r3:=crossed n m r3
 have eN:N4 a b c d=a * a + b * b + c * c + d * d:=rfl
 have eM:N4 e f g h=e * e + f * f + g * g + h * h:=rfl
 generalize N4 a b c d=N at *
 generalize N4 e f g h=M at *
 unfold R1 at p1 q1 r1
 unfold R2 at p2 q2 r2
 unfold R3 at p3 q3 r3
 refine ⟨⟨?_,?_,?_,?_⟩,⟨?_,?_,?_⟩,⟨?_,?_⟩,?_⟩ <;> grind
theorem pl_prop {ns ms:List Int} {k l:Int} (hk:k ≠ 0) (hl:l ≠ 0) (h:ns.map (k * ·)=ms.map (l * ·)) (z1:∃ n ∈ ns,n ≠ 0) (z2:∃ n ∈ ms,n ≠ 0):pl ns=pl ms:=by
 rw [<- pl_scale hk z1,h,pl_scale hl z2]
theorem alike_pl {a b c d e f g h:Int} (z1:∃ n ∈ [a,b,c,d],n ≠ 0) (z2:∃ n ∈ [e,f,g,h],n ≠ 0) (h1:Alike a b c d e f g h 1 0 0) (h2:Alike a b c d e f g h 2 1 0) (h3:Alike a b c d e f g h (-1) 3 1):pl [a,b,c,d]=pl [e,f,g,h]:=by
 have n:=N4_ne rfl z1
 have m:=N4_ne rfl z2
 obtain ⟨⟨aa,ab,ac,ad⟩,⟨bb,bc,bd⟩,⟨cc,cd⟩,dd⟩:=prods n m h1 h2 h3
 have cN:((nrm [a,b,c,d]:Int):Rat)=N4 a b c d:=by unfold nrm N4;push_cast;rfl
 have cM:((nrm [e,f,g,h]:Int):Rat)=N4 e f g h:=by unfold nrm N4;push_cast;rfl
 have pn:=nrm_pos (ns:=[a,b,c,d]) rfl z1
 have pm:=nrm_pos (ns:=[e,f,g,h]) rfl z2
 rw [<- cN, <- cM] at aa ab ac ad bb bc bd cc cd dd
 generalize nrm [a,b,c,d]=N at *
 generalize nrm [e,f,g,h]=M at *
 replace aa:a * a * M=e * e * N:=by exact_mod_cast aa
 replace ab:a * b * M=e * f * N:=by exact_mod_cast ab
 replace ac:a * c * M=e * g * N:=by exact_mod_cast ac
 replace ad:a * d * M=e * h * N:=by exact_mod_cast ad
 replace bb:b * b * M=f * f * N:=by exact_mod_cast bb
 replace bc:b * c * M=f * g * N:=by exact_mod_cast bc
 replace bd:b * d * M=f * h * N:=by exact_mod_cast bd
 replace cc:c * c * M=g * g * N:=by exact_mod_cast cc
 replace cd:c * d * M=g * h * N:=by exact_mod_cast cd
 replace dd:d * d * M=h * h * N:=by exact_mod_cast dd
 have key:∀ x y:Int,x ≠ 0->x * x * M=y * y * N->x * M ≠ 0/\y * N ≠ 0:=fun x y hx e=>by
  have h1:x * M ≠ 0:=Int.mul_ne_zero hx (by omega)
  refine ⟨h1,fun z=>?_⟩
  have h2:x * (x * M)=y * (y * N):=by rw [<- Int.mul_assoc,e,Int.mul_assoc]
  rw [z,Int.mul_zero] at h2
  exact Int.mul_ne_zero hx h1 h2
 have four:∀ {x1 x2 x3 x4 y1 y2 y3 y4:Int},x1=y1->x2=y2->x3=y3->x4=y4->[x1,x2,x3,x4]=[y1,y2,y3,y4]:=fun h1 h2 h3 h4=>by rw [h1,h2,h3,h4]
 by_cases ha:a=0
 ·by_cases hb:b=0
  ·by_cases hc:c=0
   ·by_cases hd:d=0
    ·subst ha hb hc hd
     obtain ⟨x,hx,h0⟩:=z1
     simp at hx;exact absurd hx h0
    ·obtain ⟨k1,k2⟩:=key d h hd dd
     exact pl_prop k1 k2 (four (by grind) (by grind) (by grind) (by grind)) z1 z2
   ·obtain ⟨k1,k2⟩:=key c g hc cc
    exact pl_prop k1 k2 (four (by grind) (by grind) (by grind) (by grind)) z1 z2
  ·obtain ⟨k1,k2⟩:=key b f hb bb
   exact pl_prop k1 k2 (four (by grind) (by grind) (by grind) (by grind)) z1 z2
 ·obtain ⟨k1,k2⟩:=key a e ha aa
  exact pl_prop k1 k2 (four (by grind) (by grind) (by grind) (by grind)) z1 z2
end K0
end
section
namespace K0
open PySem L2 Num
structure PC (H:Hp) (r:Addr) (c:Nat) (x y z:Rat):Prop where
 ex:∃ t1 b1 t2 b2 t3 b3,Pt H r [t1,b1] [t2,b2] [t3,b3]/\Lo c t1 b1 x/\Lo c t2 b2 y/\Lo c t3 b3 z/\∃ C T1 T2 T3:Int,0 < C/\Bt C c/\Bt T1 c/\Bt T2 c/\Bt T3 c/\qv T1 C=x/\qv T2 C=y/\qv T3 C=z
def bk (n:List Int):List Int:=pl (cj n)
end K0
end
section
namespace K0
open PySem L2 Num
def spPurse2:Sp:=fun vs H Q _=>∃ (c:Int),vs=[.int c]/\∀ (p:Addr) (H':Hp),H p=none->Same H H'->Pu H' p->Q (.ref p) H'
def spNumber2:Sp:=fun vs H Q _=>∃ (p:Addr) (k:Int),vs=[.ref p,.int k]/\Pu H p/\∀ (d:Int) (H':Hp),d.natAbs<=10 ^ 30->SB p H H'->Pu H' p->Q (.int d) H'
theorem okL {i j:Int} (h1 : -(2 ^ 64) < i) (h2:i < 2 ^ 64):IntMulOk i j:=CMul.ok (.inl ⟨h1,h2⟩)
theorem okR {i j:Int} (h1 : -(2 ^ 64) < j) (h2:j < 2 ^ 64):IntMulOk i j:=CMul.ok (.inr ⟨h1,h2⟩)
def spNamed (K:PySem.W.Frag):Sp:=fun vs H Q _=>∃ (n:Int),vs=[.int n]/\∀ (r:Addr) (ms:List Int) (H':Hp),Same H H'->H' r=some (.tup (ms.map V.int))->ms.length=4->(∃ m ∈ ms,m ≠ 0)->Bd 9 ms->Q (.ref r) H'
theorem fmod_gcd {a b:Int} (hb:b ≠ 0):Nat.gcd b.natAbs (a.fmod b).natAbs=Nat.gcd a.natAbs b.natAbs:=by
 have e:=Int.fmod_add_mul_fdiv a b
 have h1:Int.gcd b (a.fmod b)=Int.gcd b a:=by
  conv=>rhs;rw [<- e]
  rw [Int.gcd_add_mul_left_right]
 have h2:Int.gcd b (a.fmod b)=Nat.gcd b.natAbs (a.fmod b).natAbs:=rfl
 have h3:Int.gcd b a=Nat.gcd b.natAbs a.natAbs:=rfl
 rw [h2,h3] at h1
 rw [h1,Nat.gcd_comm]
theorem fmod_lt {a b:Int} (hb:b ≠ 0):(a.fmod b).natAbs < b.natAbs:=by
 rw [Int.fmod_eq_emod]
 have e0:=Int.emod_nonneg a hb
 have e1:=Int.emod_lt a hb
 split
 ·omega
 ·rename_i h
  have h1:¬ 0<=b:=fun z=>h (.inl z)
  have h2:a % b ≠ 0:=fun z=>h (.inr (Int.dvd_of_emod_eq_zero z))
  omega
def spFour2 (K:PySem.W.Frag):Sp:=fun vs H Q _=>∃ (p:Addr) (m:Int),vs=[.ref p,.int m]/\Pu H p/\0 < m/\m < 100/\∀ (r:Addr) (ns:List Int) (H':Hp),ns.length=4->(∃ n ∈ ns,n ≠ 0)->Bd (6 * 10 ^ 30) ns->SB p H H'->Pu H' p->SqT K H' r (ns.map V.int)->Q (.ref r) H'
theorem Pt.nl {H H':Hp} {p:Addr} {f1 f2 f3:List Int} (h:Pt H p f1 f2 f3) (e:NL H H'):Pt H' p f1 f2 f3:=by
 obtain ⟨p1,p2,p3,h0,h1,h2,h3⟩:=h.ex
 have t:∀ {a:Addr} {xs:List V},H a=some (.tup xs)->H' a=some (.tup xs):=fun h=>e _ _ (fun ys z=>by cases z) h
 exact ⟨p1,p2,p3,t h0,t h1,t h2,t h3⟩
structure Tb (H:Hp) (r:Addr) (f11 f12 f13 f21 f22 f23 f31 f32 f33:List Int):Prop where
 ex:∃ p1 p2 p3,H r=some (.tup [.ref p1,.ref p2,.ref p3])/\Pt H p1 f11 f12 f13/\Pt H p2 f21 f22 f23/\Pt H p3 f31 f32 f33
def tbD (f11 f12 f13 f21 f22 f23 f31 f32 f33:List Int):PySem.W.Dat:=.tuple [ptD f11 f12 f13,ptD f21 f22 f23,ptD f31 f32 f33]
def TbOf (H:Hp) (r:Addr) (a b c d:Int):Prop :=
 Tb H r (fr (a * a + b * b - c * c - d * d) (nrm [a,b,c,d])) (fr (2 * (b * c - a * d)) (nrm [a,b,c,d])) (fr (2 * (b * d + a * c)) (nrm [a,b,c,d]))
  (fr (2 * (b * c + a * d)) (nrm [a,b,c,d])) (fr (a * a - b * b + c * c - d * d) (nrm [a,b,c,d])) (fr (2 * (c * d - a * b)) (nrm [a,b,c,d]))
  (fr (2 * (b * d - a * c)) (nrm [a,b,c,d])) (fr (2 * (c * d + a * b)) (nrm [a,b,c,d])) (fr (a * a - b * b - c * c + d * d) (nrm [a,b,c,d]))
def spTable (K:PySem.W.Frag):Sp:=fun vs H Q _=>∃ (x:Addr) (a b c d:Int),vs=[.ref x]/\SqT K H x ([a,b,c,d].map V.int)/\(∃ n ∈ [a,b,c,d],n ≠ 0)/\Bd (2 ^ 1000) [a,b,c,d]/\∀ (r:Addr) (H':Hp),Same H H'->TbOf H' r a b c d->Q (.ref r) H'
end K0
end
section
namespace L2
open PySem PySem.Spec PyProof.Rows
end L2
namespace K0
open PySem L2 Num
open PySem.W (Dat)
def rs (ns:List Int):List Int:=match ns with | [a,_,_,_]=>fr (a * a) (nrm ns) | _=>[]
def cr (a b c d e f:Int):List Int:=[b * f - c * e,c * d - a * f,a * e - b * d]
def ps (k l:Int):List Int:=[k / unit [l,k],l / unit [l,k]]
end K0
end
section
namespace D
open PySem L2 K0
open PySem.W (Dat)
def SqN (N:Addr->Prop) (K:PySem.W.Frag) (H:Hp) (a:Addr) (xs:List V):Prop:=(N a/\Rd H a (.lst xs))\/SqL K (fun _=>none) a xs
theorem SqN.sq {N:Addr->Prop} {K:PySem.W.Frag} {H:Hp} {a:Addr} {xs:List V} (h:SqN N K H a xs):SqL K H a xs:=by
 rcases h with ⟨_,h⟩ | (h | ⟨o,h⟩) | h
 ·exact .inl h
 ·cases h
 ·cases h
 ·exact .inr h
mutual
inductive Dz (N:Addr->Prop) (K:PySem.W.Frag) (H:Hp):V->Dat->Prop
 | none:Dz N K H .non .none
 | bool (b:Bool):Dz N K H (.bl b) (.bool b)
 | int (i:Int):Dz N K H (.int i) (.int i)
 | str (x:Str):Dz N K H (.str x) (.str x)
 | tup {a:Addr} {xs:List V} {ds:List Dat}:SqT K H a xs->Dzs N K H xs ds->Dz N K H (.ref a) (.tuple ds)
 | lst {a:Addr} {xs:List V} {ds:List Dat}:SqN N K H a xs->Dzs N K H xs ds->Dz N K H (.ref a) (.list ds)
 | exc {a:Addr} {c:Array UInt8}:N a->XAt K H a c->Dz N K H (.ref a) (.bytes c)
inductive Dzs (N:Addr->Prop) (K:PySem.W.Frag) (H:Hp):List V->List Dat->Prop
 | nil:Dzs N K H [] []
 | cons {x:V} {d:Dat} {xs:List V} {ds:List Dat}:Dz N K H x d->Dzs N K H xs ds->Dzs N K H (x :: xs) (d :: ds)
end
structure Ev (W:Addr->Prop) (H H':Hp):Prop where
 keep:∀ b o,¬ W b->H b=some o->H' b=some o
 tm:Tm H H'
theorem Ev.refl {W:Addr->Prop} {H:Hp}:Ev W H H:=⟨fun _ _ _ h=>h,Tm.refl _⟩
theorem Ev.trans {W:Addr->Prop} {H H1 H2:Hp} (a:Ev W H H1) (b:Ev W H1 H2):Ev W H H2:=⟨fun c o n h=>b.keep c o n (a.keep c o n h),a.tm.trans b.tm⟩
theorem Ev.of {W:Addr->Prop} {H H':Hp} (s:Same H H'):Ev W H H':=⟨fun c o _ h=>s c o h,s.tm⟩
theorem Ev.mono {W W':Addr->Prop} {H H':Hp} (a:Ev W H H') (m:∀ b,W b->W' b):Ev W' H H':=⟨fun c o n h=>a.keep c o (fun z=>n (m c z)) h,a.tm⟩
structure Own where
 R:(Addr->Prop)->PySem.W.Frag->Hp->Addr->List Addr->Prop
 ev:∀ {N W:Addr->Prop} {K:PySem.W.Frag} {H H':Hp} {a:Addr} {l:List Addr},R N K H a l->Ev W H H'->(∀ a,N a->¬ W a)->(∀ b o,b ∈ l->H b=some o->H' b=some o)->R N K H' a l
 wide:∀ {N N':Addr->Prop} {K:PySem.W.Frag} {H:Hp} {a:Addr} {l:List Addr},R N K H a l->(∀ a o,N a->H a=some o->N' a)->R N' K H a l
 al:∀ {N:Addr->Prop} {K:PySem.W.Frag} {H:Hp} {a:Addr} {l:List Addr},R N K H a l->∀ b,b ∈ l->∃ o,H b=some o
inductive Sl where
 | un | dat (d:Dat) | pu | own (ds:List Dat) | vw (ds:List Dat) | dt (o:Own)
section
variable {N N':Addr->Prop} {K:PySem.W.Frag} {H H':Hp}
mutual
theorem Dz.ev {W:Addr->Prop} (e:Ev W H H') (nw:∀ a,N a->¬ W a):∀ {v:V} {d:Dat},Dz N K H v d->Dz N K H' v d
 | _,_,.none=>.none
 | _,_,.bool b=>.bool b
 | _,_,.int i=>.int i
 | _,_,.str x=>.str x
 | _,_,.tup h r=>.tup (e.tm _ _ _ h) (Dzs.ev e nw r)
 | _,_,.lst h r=>.lst (by
   rcases h with ⟨n,h | ⟨o,h⟩⟩ | h
   ·exact .inl ⟨n,.inl (e.keep _ _ (nw _ n) h)⟩
   ·exact .inl ⟨n,.inr ⟨o,e.keep _ _ (nw _ n) h⟩⟩
   ·exact .inr h) (Dzs.ev e nw r)
 | _,_,.exc n h=>.exc n (let ⟨ob,C,q,z⟩:=h;⟨ob,C,e.keep _ _ (nw _ n) q,z⟩)
theorem Dzs.ev {W:Addr->Prop} (e:Ev W H H') (nw:∀ a,N a->¬ W a):∀ {v:List V} {d:List Dat},Dzs N K H v d->Dzs N K H' v d
 | _,_,.nil=>.nil
 | _,_,.cons h r=>.cons (Dz.ev e nw h) (Dzs.ev e nw r)
end
mutual
theorem Dz.mono (m:∀ a,N a->N' a):∀ {v:V} {d:Dat},Dz N K H v d->Dz N' K H v d
 | _,_,.none=>.none
 | _,_,.bool b=>.bool b
 | _,_,.int i=>.int i
 | _,_,.str x=>.str x
 | _,_,.tup h r=>.tup h (Dzs.mono m r)
 | _,_,.lst h r=>.lst (h.elim (fun z=>.inl ⟨m _ z.1,z.2⟩) .inr) (Dzs.mono m r)
 | _,_,.exc n h=>.exc (m _ n) h
theorem Dzs.mono (m:∀ a,N a->N' a):∀ {v:List V} {d:List Dat},Dzs N K H v d->Dzs N' K H v d
 | _,_,.nil=>.nil
 | _,_,.cons h r=>.cons (Dz.mono m h) (Dzs.mono m r)
end
mutual
theorem Dz.is:∀ {v:V} {d:Dat},Dz N K H v d->Is K H v d
 | _,_,.none=>.none
 | _,_,.bool b=>.bool b
 | _,_,.int i=>.int i
 | _,_,.str x=>.str x
 | _,_,.tup h r=>.tup h (Dzs.is r)
 | _,_,.lst h r=>.lst h.sq (Dzs.is r)
 | _,_,.exc _ h=>.exc h
theorem Dzs.is:∀ {v:List V} {d:List Dat},Dzs N K H v d->Iss K H v d
 | _,_,.nil=>.nil
 | _,_,.cons h r=>.cons (Dz.is h) (Dzs.is r)
end
theorem Dzs.len:∀ {v:List V} {d:List Dat},Dzs N K H v d->v.length=d.length
 | _,_,.nil=>rfl
 | _,_,.cons _ r=>by rw [List.length_cons,List.length_cons,Dzs.len r]
theorem Dzs.app:∀ {v v':List V} {d d':List Dat},Dzs N K H v d->Dzs N K H v' d'->Dzs N K H (v ++ v') (d ++ d')
 | _,_,_,_,.nil,h=>h
 | _,_,_,_,.cons a r,h=>.cons a (Dzs.app r h)
theorem Dzs.get:∀ {v:List V} {d:List Dat} {i:Nat} {e:Dat},Dzs N K H v d->d[i]?=some e->∃ x,v[i]?=some x/\Dz N K H x e
  | _,_,_,_,.nil,h=>by simp at h
  | _,_,0,_,.cons a r,h=>by simp at h;subst h;exact ⟨_,rfl,a⟩
  | _,_,i + 1,e,.cons a r,h=>by
    obtain ⟨x,q,z⟩:=Dzs.get (i:=i) r (by simpa using h)
    exact ⟨x,by simpa using q,z⟩
theorem Dzs.drop:∀ {v:List V} {d:List Dat} (n:Nat),Dzs N K H v d->Dzs N K H (v.drop n) (d.drop n)
 | _,_,0,h=>h
 | _,_,n + 1,.nil=>.nil
 | _,_,n + 1,.cons a r=>by simpa using Dzs.drop n r
theorem Dzs.take:∀ {v:List V} {d:List Dat} (n:Nat),Dzs N K H v d->Dzs N K H (v.take n) (d.take n)
 | _,_,0,h=>by simpa using Dzs.nil
 | _,_,n + 1,.nil=>.nil
 | _,_,n + 1,.cons a r=>by simpa using Dzs.cons a (Dzs.take n r)
theorem Dzs.ints (ns:List Int):Dzs N K H (ns.map V.int) (ns.map Dat.int):=by
 induction ns with
 | nil=>exact .nil
 | cons n ns ih=>exact .cons (.int n) ih
theorem Dzs.inv:∀ {vs:List V} {ns:List Int},Dzs N K H vs (ns.map Dat.int)->vs=ns.map V.int
  | _,[],h=>by cases h;rfl
  | _,n :: ns,h=>by
    cases h with
    | cons a r=>cases a;rw [Dzs.inv r];rfl
end
mutual
def noL:Dat->Bool
 | .tuple ds=>noLs ds
 | .list _=>false
 | .none=>true
 | .bool _=>true
 | .int _=>true
 | .str _=>true
 | _=>false
def noLs:List Dat->Bool
 | []=>true
 | d :: r=>noL d && noLs r
end
section
variable {N N':Addr->Prop} {K:PySem.W.Frag} {H H':Hp}
mutual
theorem Dz.free:∀ {v:V} {d:Dat},Dz N K H v d->noL d=true->Dz N' K H v d
 | _,_,.none,_=>.none
 | _,_,.bool b,_=>.bool b
 | _,_,.int i,_=>.int i
 | _,_,.str x,_=>.str x
 | _,_,.tup h r,z=>.tup h (Dzs.free r (by rw [noL] at z;exact z))
 | _,_,.lst h r,z=>by rw [noL] at z;cases z
 | _,_,.exc _ h,z=>by simp [noL] at z
theorem Dzs.free:∀ {v:List V} {d:List Dat},Dzs N K H v d->noLs d=true->Dzs N' K H v d
  | _,_,.nil,_=>.nil
  | _,_,.cons h r,z=>by
    rw [noLs,Bool.and_eq_true] at z
    exact .cons (Dz.free h z.1) (Dzs.free r z.2)
end
end
theorem noLs_ints (ns:List Int):noLs (ns.map .int)=true:=by
 induction ns with
 | nil=>rw [List.map_nil,noLs]
 | cons n r ih=>rw [List.map_cons,noLs,ih,noL];rfl
section
variable {N N':Addr->Prop} {K:PySem.W.Frag} {H:Hp}
end
structure Ok (p:Option Addr) (W:Addr->Prop) (H:Hp):Prop where
 pu:∀ q,p=some q->Pu H q/\W q
 al:∀ a,W a->∃ ys,H a=some ys
inductive Rs (p:Option Addr) (W:Addr->Prop) (K:PySem.W.Frag) (H:Hp):List Addr->St->List Sl->Prop
 | nil:Rs p W K H [] [] []
 | un {L:List Addr} {σ:St} {τ:List Sl} {o:Option V}:Rs p W K H L σ τ->Rs p W K H L (o :: σ) (.un :: τ)
 | dat {L:List Addr} {σ:St} {τ:List Sl} {v:V} {d:Dat}:Dz (fun a=>¬ W a) K H v d->Rs p W K H L σ τ->Rs p W K H L (some v :: σ) (.dat d :: τ)
 | pu {L:List Addr} {σ:St} {τ:List Sl} {q:Addr}:p=some q->Rs p W K H L σ τ->Rs p W K H L (some (.ref q) :: σ) (.pu :: τ)
 | own {L:List Addr} {σ:St} {τ:List Sl} {a:Addr} {vs:List V} {ds:List Dat}:W a->p ≠ some a->a ∉ L->H a=some (.lst vs)->Dzs (fun a=>¬ W a) K H vs ds->Rs p W K H L σ τ->Rs p W K H (a :: L) (some (.ref a) :: σ) (.own ds :: τ)
 | dt {L l:List Addr} {σ:St} {τ:List Sl} {a:Addr} {o:Own}:(∀ b,b ∈ l->W b)->(∀ b,b ∈ l->p ≠ some b)->(∀ b,b ∈ l->b ∉ L)->o.R (fun a=>¬ W a) K H a l->Rs p W K H L σ τ->Rs p W K H (l ++ L) (some (.ref a) :: σ) (.dt o :: τ)
def Rv (p:Option Addr) (W:Addr->Prop) (K:PySem.W.Frag) (H H':Hp) (v:V):Sl->Prop
 | .un=>True
 | .dat d=>Dz (fun a=>¬ W a) K H' v d
 | .pu=>∃ q,p=some q/\v = .ref q
 | .own ds=>∃ a vs,v = .ref a/\H a=none/\H' a=some (.lst vs)/\Dzs (fun a=>¬ W a) K H' vs ds
 | .dt o=>∃ a l,v = .ref a/\(∀ b,b ∈ l->H b=none)/\o.R (fun a=>¬ W a) K H' a l
 | .vw ds=>∃ a vs,v = .ref a/\SqN (fun a=>p ≠ some a) K H' a vs/\Dzs (fun a=>¬ W a) K H' vs ds
inductive Rvs (p:Option Addr) (W:Addr->Prop) (K:PySem.W.Frag) (H H':Hp):List V->List Sl->Prop
 | nil:Rvs p W K H H' [] []
 | cons {v:V} {s:Sl} {vs:List V} {ss:List Sl}:Rv p W K H H' v s->Rvs p W K H H' vs ss->Rvs p W K H H' (v :: vs) (s :: ss)
def Pp (p:Option Addr):Addr->Prop:=fun a=>p=some a
section
variable {p:Option Addr} {W:Addr->Prop} {K:PySem.W.Frag} {H H1 H':Hp} {σ:St} {τ:List Sl} {L:List Addr} {v:V} {s:Sl}
theorem Ok.ev (o:Ok p W H) (e:Ev (Pp p) H H') (q:∀ q,p=some q->Pu H' q):Ok p W H':=⟨fun a ha=>⟨q a ha,(o.pu a ha).2⟩,fun a ha=>by
 by_cases z:p=some a
 ·obtain ⟨x,y,h⟩:=q a z;exact ⟨_,h⟩
 ·obtain ⟨ys,h⟩:=o.al a ha;exact ⟨ys,e.keep _ _ z h⟩⟩
theorem Rs.ev (r:Rs p W K H L σ τ) (e:Ev (Pp p) H H') (pw:∀ q,p=some q->W q):Rs p W K H' L σ τ:=by
 have nw:∀ a,¬ W a->¬ Pp p a:=fun a n z=>n (pw a z)
 induction r with
 | nil=>exact .nil
 | un _ ih=>exact .un ih
 | dat h _ ih=>exact .dat (h.ev e nw) ih
 | pu h _ ih=>exact .pu h ih
 | own h1 h2 h3 h4 h5 _ ih=>exact .own h1 h2 h3 (e.keep _ _ h2 h4) (h5.ev e nw) ih
 | dt h1 h2 h3 h4 _ ih=>exact .dt h1 h2 h3 (Own.ev _ h4 e nw fun b o hb h=>e.keep _ _ (h2 b hb) h) ih
theorem Rs.get_dat (r:Rs p W K H L σ τ):∀ {i:Nat} {d:Dat},τ[i]?=some (.dat d)->∃ v,σ[i]?=some (some v)/\Dz (fun a=>¬ W a) K H v d:=by
  induction r with
  | nil=>intro i d h;simp at h
  | un _ ih =>
    intro i d h
    match i,h with
    | 0,h=>simp at h
    | i + 1,h=>exact ih (i:=i) (by simpa using h)
  | dat z _ ih =>
    intro i d h
    match i,h with
    | 0,h=>simp at h;subst h;exact ⟨_,rfl,z⟩
    | i + 1,h=>exact ih (i:=i) (by simpa using h)
  | pu _ _ ih =>
    intro i d h
    match i,h with
    | 0,h=>simp at h
    | i + 1,h=>exact ih (i:=i) (by simpa using h)
  | own _ _ _ _ _ _ ih =>
    intro i d h
    match i,h with
    | 0,h=>simp at h
    | i + 1,h=>exact ih (i:=i) (by simpa using h)
  | dt _ _ _ _ _ ih =>
    intro i d h
    match i,h with
    | 0,h=>simp at h
    | i + 1,h=>exact ih (i:=i) (by simpa using h)
theorem Rs.get_pu (r:Rs p W K H L σ τ):∀ {i:Nat},τ[i]?=some .pu->∃ q,p=some q/\σ[i]?=some (some (.ref q)):=by
  induction r with
  | nil=>intro i h;simp at h
  | un _ ih =>
    intro i h
    match i,h with
    | 0,h=>simp at h
    | i + 1,h=>exact ih (i:=i) (by simpa using h)
  | dat z _ ih =>
    intro i h
    match i,h with
    | 0,h=>simp at h
    | i + 1,h=>exact ih (i:=i) (by simpa using h)
  | pu z _ ih =>
    intro i h
    match i,h with
    | 0,h=>exact ⟨_,z,rfl⟩
    | i + 1,h=>exact ih (i:=i) (by simpa using h)
  | own _ _ _ _ _ _ ih =>
    intro i h
    match i,h with
    | 0,h=>simp at h
    | i + 1,h=>exact ih (i:=i) (by simpa using h)
  | dt _ _ _ _ _ ih =>
    intro i h
    match i,h with
    | 0,h=>simp at h
    | i + 1,h=>exact ih (i:=i) (by simpa using h)
theorem Rs.get_own (r:Rs p W K H L σ τ):∀ {i:Nat} {ds:List Dat},τ[i]?=some (.own ds)->∃ a vs,σ[i]?=some (some (.ref a))/\W a/\p ≠ some a/\a ∈ L/\H a=some (.lst vs)/\Dzs (fun a=>¬ W a) K H vs ds:=by
  induction r with
  | nil=>intro i ds h;simp at h
  | un _ ih =>
    intro i ds h
    match i,h with
    | 0,h=>simp at h
    | i + 1,h=>exact ih (i:=i) (by simpa using h)
  | dat z _ ih =>
    intro i ds h
    match i,h with
    | 0,h=>simp at h
    | i + 1,h=>exact ih (i:=i) (by simpa using h)
  | pu z _ ih =>
    intro i ds h
    match i,h with
    | 0,h=>simp at h
    | i + 1,h=>exact ih (i:=i) (by simpa using h)
  | own h1 h2 h3 h4 h5 _ ih =>
    intro i ds h
    match i,h with
    | 0,h=>simp at h;subst h;exact ⟨_,_,rfl,h1,h2,List.mem_cons_self,h4,h5⟩
    | i + 1,h =>
      obtain ⟨a,vs,e1,e2,e3,e4,e5⟩:=ih (i:=i) (by simpa using h)
      exact ⟨a,vs,by simpa using e1,e2,e3,List.mem_cons_of_mem _ e4,e5⟩
  | dt h1 h2 h3 h4 _ ih =>
    intro i ds h
    match i,h with
    | 0,h=>simp at h
    | i + 1,h =>
      obtain ⟨a,vs,e1,e2,e3,e4,e5⟩:=ih (i:=i) (by simpa using h)
      exact ⟨a,vs,by simpa using e1,e2,e3,List.mem_append_right _ e4,e5⟩
theorem Rs.set (r:Rs p W K H L σ τ) {v:V} {s:Sl} (hs:(s = .un)\/(∃ d,s = .dat d/\Dz (fun a=>¬ W a) K H v d)\/(s = .pu/\∃ q,p=some q/\v = .ref q)):∀ (i:Nat),∃ L',(∀ a,a ∈ L'->a ∈ L)/\Rs p W K H L' (σ.set i (some v)) (τ.set i s):=by
  induction r with
  | nil=>intro i;exact ⟨[],fun _ h=>h,.nil⟩
  | un r ih =>
    intro i
    match i with
    | 0 =>
      rcases hs with rfl | ⟨d,rfl,z⟩ | ⟨rfl,q,z,rfl⟩
      . exact ⟨_,fun _ h=>h,.un r⟩
      . exact ⟨_,fun _ h=>h,.dat z r⟩
      . exact ⟨_,fun _ h=>h,.pu z r⟩
    | i + 1=>obtain ⟨L',h1,h2⟩:=ih i;exact ⟨L',h1,.un h2⟩
  | dat y r ih =>
    intro i
    match i with
    | 0 =>
      rcases hs with rfl | ⟨d,rfl,z⟩ | ⟨rfl,q,z,rfl⟩
      . exact ⟨_,fun _ h=>h,.un r⟩
      . exact ⟨_,fun _ h=>h,.dat z r⟩
      . exact ⟨_,fun _ h=>h,.pu z r⟩
    | i + 1=>obtain ⟨L',h1,h2⟩:=ih i;exact ⟨L',h1,.dat y h2⟩
  | pu y r ih =>
    intro i
    match i with
    | 0 =>
      rcases hs with rfl | ⟨d,rfl,z⟩ | ⟨rfl,q,z,rfl⟩
      . exact ⟨_,fun _ h=>h,.un r⟩
      . exact ⟨_,fun _ h=>h,.dat z r⟩
      . exact ⟨_,fun _ h=>h,.pu z r⟩
    | i + 1=>obtain ⟨L',h1,h2⟩:=ih i;exact ⟨L',h1,.pu y h2⟩
  | own h1 h2 h3 h4 h5 r ih =>
    intro i
    match i with
    | 0 =>
      rcases hs with rfl | ⟨d,rfl,z⟩ | ⟨rfl,q,z,rfl⟩
      . exact ⟨_,fun _ h=>List.mem_cons_of_mem _ h,.un r⟩
      . exact ⟨_,fun _ h=>List.mem_cons_of_mem _ h,.dat z r⟩
      . exact ⟨_,fun _ h=>List.mem_cons_of_mem _ h,.pu z r⟩
    | i + 1 =>
      obtain ⟨L',g1,g2⟩:=ih i
      refine ⟨_ :: L',fun b hb=>?_,.own h1 h2 (fun z=>h3 (g1 _ z)) h4 h5 g2⟩
      rcases List.mem_cons.mp hb with rfl | hb
      . exact List.mem_cons_self
      . exact List.mem_cons_of_mem _ (g1 b hb)
  | dt h1 h2 h3 h4 r ih =>
    intro i
    match i with
    | 0 =>
      rcases hs with rfl | ⟨d,rfl,z⟩ | ⟨rfl,q,z,rfl⟩
      . exact ⟨_,fun _ h=>List.mem_append_right _ h,.un r⟩
      . exact ⟨_,fun _ h=>List.mem_append_right _ h,.dat z r⟩
      . exact ⟨_,fun _ h=>List.mem_append_right _ h,.pu z r⟩
    | i + 1 =>
      obtain ⟨L',g1,g2⟩:=ih i
      exact ⟨_ ++ L',fun b hb=>(List.mem_append.mp hb).elim (List.mem_append_left _) (fun z=>List.mem_append_right _ (g1 b z)),.dt h1 h2 (fun b hb z=>h3 b hb (g1 _ z)) h4 g2⟩
theorem Rs.wide {W':Addr->Prop} (r:Rs p W K H L σ τ) (m:∀ a,W a->W' a) (n:∀ a,W' a->¬ W a->H a=none):Rs p W' K H L σ τ:=by
 induction r with
 | nil=>exact .nil
 | un _ ih=>exact .un ih
 | dat h _ ih=>exact .dat (wideZ h) ih
 | pu h _ ih=>exact .pu h ih
 | own h1 h2 h3 h4 h5 _ ih=>exact .own (m _ h1) h2 h3 h4 (wideZs h5) ih
 | dt h1 h2 h3 h4 _ ih=>exact .dt (fun b hb=>m _ (h1 b hb)) h2 h3 (Own.wide _ h4 fun a o na ha wa=>by rw [n a wa na] at ha;cases ha) ih
where
 wideZ : ∀ {v : V} {d : Dat}, Dz (fun a => ¬ W a) K H v d -> Dz (fun a => ¬ W' a) K H v d
  | _,_,.none=>.none
  | _,_,.bool b=>.bool b
  | _,_,.int i=>.int i
  | _,_,.str x=>.str x
  | _,_,.tup h r=>.tup h (wideZs r)
  | _,_,.lst h r=>.lst (by
    rcases h with ⟨nn,h⟩ | h
    ·refine .inl ⟨fun z=>?_,h⟩
     have e1:=n _ z nn
     rcases h with h | ⟨o,h⟩
     ·rw [e1] at h;cases h
     ·rw [e1] at h;cases h
    ·exact .inr h) (wideZs r)
  | _,_,.exc nn h=>.exc (fun z=>by obtain ⟨_,_,q,_⟩:=h;rw [n _ z nn] at q;cases q) h
 wideZs:∀ {v:List V} {d:List Dat},Dzs (fun a=>¬ W a) K H v d->Dzs (fun a=>¬ W' a) K H v d
  | _,_,.nil=>.nil
  | _,_,.cons h r=>.cons (wideZ h) (wideZs r)
end
end D
end
section
namespace D
open PySem L2 K0
open PySem.W (Dat)
section
variable (p:Option Addr) (K:PySem.W.Frag)
def E (te:TE) (τ:List Sl) (C:Sl->Prop):Prop:=∀ (W:Addr->Prop) (L:List Addr) (σ:St) (H:Hp) (Q:VK),Rs p W K H L σ τ->Ok p W H->(∀ v H' s,C s->Ev (Pp p) H H'->Ok p W H'->Rv p W K H H' v s->Q v H')->te σ H Q
def E1 (te:TE) (τ:List Sl) (s:Sl):Prop:=E p K te τ (fun x=>s=x)
def A (ta:TA) (τ:List Sl) (C:List Sl->Prop):Prop:=∀ (W:Addr->Prop) (L:List Addr) (σ:St) (H:Hp) (Q:List V->Hp->Prop),Rs p W K H L σ τ->Ok p W H->(∀ vs H' ss,C ss->Ev (Pp p) H H'->Ok p W H'->Rvs p W K H H' vs ss->Q vs H')->ta σ H Q
def A1 (ta:TA) (τ:List Sl) (ss:List Sl):Prop:=A p K ta τ (fun x=>ss=x)
def T (tt:TT) (τ:List Sl) (C:Bool->Prop):Prop:=∀ (W:Addr->Prop) (L:List Addr) (σ:St) (H:Hp) (Q:Bool->Hp->Prop),Rs p W K H L σ τ->Ok p W H->(∀ b H',C b->Ev (Pp p) H H'->Ok p W H'->Q b H')->tt σ H Q
def T1 (tt:TT) (τ:List Sl) (b:Bool):Prop:=T p K tt τ (fun x=>b=x)
end
section
variable {p:Option Addr} {K:PySem.W.Frag} {W:Addr->Prop} {L:List Addr} {σ:St} {H H0 H1 H2:Hp} {τ:List Sl} {ta tb te:TE} {tas:TA} {v:V} {s:Sl}
theorem Ok.pw (o:Ok p W H):∀ q,p=some q->W q:=fun q h=>(o.pu q h).2
theorem Ok.nw (o:Ok p W H):∀ a,¬ W a->¬ Pp p a:=fun a n z=>n (o.pw a z)
theorem Ok.same (o:Ok p W H) (s:Same H H1):Ok p W H1:=o.ev (Ev.of s) fun q h=>(o.pu q h).1.same s
theorem Ok.back (o:Ok p W H1) (e:Ev (Pp p) H H1) {a:Addr} (h:H1 a=none):H a=none:=by
  cases q:H a with
  | none=>rfl
  | some u =>
    by_cases z:p=some a
    . obtain ⟨x,y,e2⟩:=(o.pu a z).1;rw [h] at e2;cases e2
    . rw [e.keep _ _ z q] at h;cases h
theorem Ok.fresh (o:Ok p W H) {a:Addr} (h:H a=none):¬ W a:=fun z=>by
 obtain ⟨ys,e⟩:=o.al a z;rw [h] at e;cases e
theorem Ok.np (o:Ok p W H) {a:Addr} (h:H a=none):p ≠ some a:=fun z=>o.fresh h (o.pw a z)
theorem Rv.ev (h:Rv p W K H0 H v s) (e:Ev (Pp p) H H1) (o:Ok p W H) (o0:Ok p W H0):Rv p W K H0 H1 v s:=by
  cases s with
  | un=>trivial
  | dat d=>exact Dz.ev e o.nw h
  | pu=>exact h
  | own ds =>
    obtain ⟨a,vs,rfl,h1,h2,h3⟩:=h
    exact ⟨a,vs,rfl,h1,e.keep _ _ (o0.np h1) h2,h3.ev e o.nw⟩
  | dt ds =>
    obtain ⟨a,l,rfl,h1,h2⟩:=h
    exact ⟨a,l,rfl,h1,Own.ev _ h2 e o.nw fun b u hb h=>e.keep _ _ (o0.np (h1 b hb)) h⟩
  | vw ds =>
    obtain ⟨a,vs,rfl,h2,h3⟩:=h
    refine ⟨a,vs,rfl,?_,h3.ev e o.nw⟩
    rcases h2 with ⟨z,h2 | ⟨u,h2⟩⟩ | h2
    . exact .inl ⟨z,.inl (e.keep _ _ z h2)⟩
    . exact .inl ⟨z,.inr ⟨u,e.keep _ _ z h2⟩⟩
    . exact .inr h2
theorem Rv.base (h:Rv p W K H1 H v s) (e:Ev (Pp p) H0 H1) (o1:Ok p W H1):Rv p W K H0 H v s:=by
 cases s with
 | own ds=>obtain ⟨a,vs,rfl,h1,h2⟩:=h;exact ⟨a,vs,rfl,o1.back e h1,h2⟩
 | dt ds=>obtain ⟨a,vs,rfl,h1,h2⟩:=h;exact ⟨a,vs,rfl,fun b hb=>o1.back e (h1 b hb),h2⟩
 | _=>exact h
theorem Rvs.base {vs:List V} {ss:List Sl} (h:Rvs p W K H1 H vs ss) (e:Ev (Pp p) H0 H1) (o1:Ok p W H1):Rvs p W K H0 H vs ss:=by
 induction h with
 | nil=>exact .nil
 | cons a _ ih=>exact .cons (a.base e o1) ih
theorem E.mono {C C':Sl->Prop} (h:E p K te τ C) (m:∀ s,C s->C' s):E p K te τ C':=fun W L σ H Q r o q=>h W L σ H Q r o fun v H' s c=>q v H' s (m s c)
theorem E1.var {i:Nat} {d:Dat} (h:τ[i]?=some (.dat d)):E1 p K (tVar i) τ (.dat d):=fun W L σ H Q r o q=>by
 obtain ⟨v,e,z⟩:=r.get_dat h
 exact ⟨v,e,q v H _ rfl Ev.refl o z⟩
theorem E1.varP {i:Nat} (h:τ[i]?=some .pu):E1 p K (tVar i) τ .pu:=fun W L σ H Q r o q=>by
 obtain ⟨a,e,z⟩:=r.get_pu h
 exact ⟨_,z,q _ H _ rfl Ev.refl o ⟨a,e,rfl⟩⟩
theorem E1.varO {i:Nat} {ds:List Dat} (h:τ[i]?=some (.own ds)):E1 p K (tVar i) τ (.vw ds):=fun W L σ H Q r o q=>by
 obtain ⟨a,vs,e,w,n,_,h1,z⟩:=r.get_own h
 exact ⟨_,e,q _ H _ rfl Ev.refl o ⟨a,vs,rfl,.inl ⟨n,.inl h1⟩,z⟩⟩
theorem E1.varL {i:Nat} {ds:List Dat} (h:τ[i]?=some (.dat (.list ds))):E1 p K (tVar i) τ (.vw ds):=fun W L σ H Q r o q=>by
 obtain ⟨v,e,z⟩:=r.get_dat h
 cases z with
 | lst h1 h2=>exact ⟨_,e,q _ H _ rfl Ev.refl o ⟨_,_,rfl,h1.elim (fun z=>.inl ⟨fun y=>z.1 (o.pw _ y),z.2⟩) .inr,h2⟩⟩
theorem E1.int {i:Int}:E1 p K (tC (.int i)) τ (.dat (.int i)):=fun W L σ H Q r o q=>q _ H _ rfl Ev.refl o (.int i)
theorem E1.bl {i:Bool}:E1 p K (tC (.bl i)) τ (.dat (.bool i)):=fun W L σ H Q r o q=>q _ H _ rfl Ev.refl o (.bool i)
theorem E1.non:E1 p K (tC .non) τ (.dat .none):=fun W L σ H Q r o q=>q _ H _ rfl Ev.refl o .none
theorem E1.frz {ds:List Dat} (h:E1 p K te τ (.own ds)):E1 p K te τ (.dat (.list ds)):=fun W L σ H Q r o q=>h W L σ H Q r o fun v H' s e ev o' rv=>by
 subst e
 obtain ⟨a,vs,rfl,h1,h2,h3⟩:=rv
 exact q _ H' _ rfl ev o' (.lst (.inl ⟨o.fresh h1,.inl h2⟩) h3)
theorem E1.vwo {ds:List Dat} (h:E1 p K te τ (.own ds)):E1 p K te τ (.vw ds):=fun W L σ H Q r o q=>h W L σ H Q r o fun v H' s e ev o' rv=>by
 subst e
 obtain ⟨a,vs,rfl,h1,h2,h3⟩:=rv
 exact q _ H' _ rfl ev o' ⟨a,vs,rfl,.inl ⟨o.np h1,.inl h2⟩,h3⟩
theorem E1.vwd {ds:List Dat} (h:E1 p K te τ (.dat (.list ds))):E1 p K te τ (.vw ds):=fun W L σ H Q r o q=>h W L σ H Q r o fun v H' s e ev o' rv=>by
 subst e
 cases rv with
 | lst h1 h2=>exact q _ H' _ rfl ev o' ⟨_,_,rfl,h1.elim (fun z=>.inl ⟨fun y=>z.1 (o.pw _ y),z.2⟩) .inr,h2⟩
theorem E.op2 {r:R2} {A B C:Sl->Prop} {B':Sl->Sl->Prop} (ha:E p K ta τ A) (hb:∀ s,A s->E p K tb τ (B' s))
  (hr:∀ s t,A s->B' s t->∀ (W:Addr->Prop) (H0 H:Hp) (x y:V) (Q:VK),Ok p W H0->Ok p W H->Rv p W K H0 H x s->Rv p W K H0 H y t->(∀ v H' u,C u->Ev (Pp p) H H'->Ok p W H'->Rv p W K H0 H' v u->Q v H')->r x y H Q):E p K (tOp r ta tb) τ C :=
 fun W L σ H Q rs o q=>ha W L σ H _ rs o fun x H1 s cs e1 o1 rv1=>hb s cs W L σ H1 _ (rs.ev e1 o.pw) o1 fun y H2 t ct e2 o2 rv2 =>
  hr s t cs ct W H H2 x y _ o o2 (rv1.ev e2 o1 o) (rv2.base e1 o1) fun v H' u cu e3 o3 rv3=>q v H' u cu ((e1.trans e2).trans e3) o3 rv3
theorem E1.op2 {r:R2} {a b c:Sl} (ha:E1 p K ta τ a) (hb:E1 p K tb τ b)
  (hr:∀ (W:Addr->Prop) (H0 H:Hp) (x y:V) (Q:VK),Ok p W H0->Ok p W H->Rv p W K H0 H x a->Rv p W K H0 H y b->(∀ v H',Ev (Pp p) H H'->Ok p W H'->Rv p W K H0 H' v c->Q v H')->r x y H Q):E1 p K (tOp r ta tb) τ c :=
 E.op2 (B:=fun _=>True) (B':=fun _ x=>b=x) ha (fun _ _=>hb) fun s t hs ht W H0 H x y Q o0 o r1 r2 q=>by
  subst hs ht
  exact hr W H0 H x y Q o0 o r1 r2 fun v H'=>q v H' c rfl
theorem Rv.int_inv {i:Int} (h:Rv p W K H0 H v (.dat (.int i))):v = .int i:=by cases h;rfl
theorem Rv.bl_inv {i:Bool} (h:Rv p W K H0 H v (.dat (.bool i))):v = .bl i:=by cases h;rfl
theorem Rv.non_inv (h:Rv p W K H0 H v (.dat .none)):v = .non:=by cases h;rfl
theorem E1.opI0 {g:Int->Int->V} {i j:Int} {d:Dat} (ha:E1 p K ta τ (.dat (.int i))) (hb:E1 p K tb τ (.dat (.int j))) (hd:∀ (N:Addr->Prop) (K:PySem.W.Frag) (H:Hp),Dz N K H (g i j) d):E1 p K (tOp (rI0 g) ta tb) τ (.dat d) :=
 E1.op2 ha hb fun W H0 H x y Q o0 o r1 r2 q=>⟨i,j,r1.int_inv,r2.int_inv,q _ H Ev.refl o (hd _ K H)⟩
theorem E1.opI {g:Int->Int->V} {Cn:Int->Int->Prop} {i j:Int} {d:Dat} (ha:E1 p K ta τ (.dat (.int i))) (hb:E1 p K tb τ (.dat (.int j))) (hc:Cn i j) (hd:∀ (N:Addr->Prop) (K:PySem.W.Frag) (H:Hp),Dz N K H (g i j) d):E1 p K (tOp (rI Cn g) ta tb) τ (.dat d) :=
 E1.op2 ha hb fun W H0 H x y Q o0 o r1 r2 q=>⟨i,j,r1.int_inv,r2.int_inv,hc,q _ H Ev.refl o (hd _ K H)⟩
section
variable {i j:Int} (ha:E1 p K ta τ (.dat (.int i))) (hb:E1 p K tb τ (.dat (.int j)))
include ha hb
theorem E1.add:E1 p K (tOp (rI0 fun i j=>.int (i + j)) ta tb) τ (.dat (.int (i + j))):=E1.opI0 ha hb fun _ _ _=>.int _
theorem E1.sub:E1 p K (tOp (rI0 fun i j=>.int (i - j)) ta tb) τ (.dat (.int (i - j))):=E1.opI0 ha hb fun _ _ _=>.int _
theorem E1.mul (hc:IntMulOk i j):E1 p K (tOp (rI IntMulOk fun i j=>.int (i * j)) ta tb) τ (.dat (.int (i * j))):=E1.opI ha hb hc fun _ _ _=>.int _
theorem E1.fdiv (hc:CDivB i j):E1 p K (tOp (rI CDivB fun i j=>.int (i.fdiv j)) ta tb) τ (.dat (.int (i.fdiv j))):=E1.opI ha hb hc fun _ _ _=>.int _
theorem E1.mod (hc:0 < j):E1 p K (tOp (rI (fun _ j=>0 < j) fun i j=>.int (i % j)) ta tb) τ (.dat (.int (i % j))):=E1.opI ha hb hc fun _ _ _=>.int _
theorem E1.pow (hc:CPow i j):E1 p K (tOp (rI CPow fun i j=>.int (i ^ j.toNat)) ta tb) τ (.dat (.int (i ^ j.toNat))):=E1.opI ha hb hc fun _ _ _=>.int _
theorem E1.eq:E1 p K (tOp rEq ta tb) τ (.dat (.bool (decide (i=j)))):=E1.op2 ha hb fun W H0 H x y Q o0 o r1 r2 q=>by
 cases r1.int_inv;cases r2.int_inv
 refine ⟨rfl,q _ H Ev.refl o ?_⟩
 have e:decide (V.int i=V.int j)=decide (i=j):=by rw [decide_eq_decide];exact ⟨fun h=>by injection h,fun h=>by rw [h]⟩
 rw [e];exact .bool _
theorem E1.ne:E1 p K (tOp rNe ta tb) τ (.dat (.bool (!decide (i=j)))):=E1.op2 ha hb fun W H0 H x y Q o0 o r1 r2 q=>by
 cases r1.int_inv;cases r2.int_inv
 refine ⟨rfl,q _ H Ev.refl o ?_⟩
 have e:decide (V.int i=V.int j)=decide (i=j):=by rw [decide_eq_decide];exact ⟨fun h=>by injection h,fun h=>by rw [h]⟩
 rw [e];exact .bool _
end
theorem E1.neg {i:Int} (ha:E1 p K ta τ (.dat (.int i))):E1 p K (tUn (rU fun i=>.int (-i)) ta) τ (.dat (.int (-i))):=fun W L σ H Q rs o q=>ha W L σ H _ rs o fun x H1 s e e1 o1 rv=>by
 subst e;cases rv.int_inv
 exact ⟨i,rfl,q _ H1 _ rfl e1 o1 (.int _)⟩
def datOf:Sl->Option Dat
 | .dat d=>some d
 | .vw ds=>some (.list ds)
 | .own ds=>some (.list ds)
 | _=>none
theorem Rv.isD {d:Dat} (h:Rv p W K H0 H v s) (e:datOf s=some d):Is K H v d:=by
 cases s with
 | un=>cases e
 | pu=>cases e
 | dat d'=>cases e;exact Dz.is h
 | own ds=>cases e;obtain ⟨a,vs,rfl,_,h2,h3⟩:=h;exact .lst (SqL.of h2) h3.is
 | dt ds=>cases e
 | vw ds=>cases e;obtain ⟨a,vs,rfl,h2,h3⟩:=h;exact .lst h2.sq h3.is
theorem E1.eqD {a b:Sl} {d e:Dat} (ha:E1 p K ta τ a) (hb:E1 p K tb τ b) (ea:datOf a=some d) (eb:datOf b=some e) (k1:PySem.W.kqdOk 9 d=true) (k2:PySem.W.kqdOk 9 e=true):E1 p K (tOp (rEqD K false) ta tb) τ (.dat (.bool (deq d e))) :=
 E1.op2 ha hb fun W H0 H x y Q o0 o r1 r2 q=>⟨d,e,r1.isD ea,r2.isD eb,k1,k2,q _ H Ev.refl o (.bool _)⟩
theorem E1.neD {a b:Sl} {d e:Dat} (ha:E1 p K ta τ a) (hb:E1 p K tb τ b) (ea:datOf a=some d) (eb:datOf b=some e) (k1:PySem.W.kqdOk 9 d=true) (k2:PySem.W.kqdOk 9 e=true):E1 p K (tOp (rEqD K true) ta tb) τ (.dat (.bool (!deq d e))) :=
 E1.op2 ha hb fun W H0 H x y Q o0 o r1 r2 q=>⟨d,e,r1.isD ea,r2.isD eb,k1,k2,q _ H Ev.refl o (.bool _)⟩
theorem atI_dz {N:Addr->Prop} {xs:List V} {ds:List Dat} {i:Int} {d:Dat} (h:Dzs N K H xs ds) (e:atI ds i=some d):∃ x,atI xs i=some x/\Dz N K H x d:=by
  unfold atI at e ⊢
  rw [h.len]
  cases q:ixN ds.length i with
  | none=>rw [q] at e;cases e
  | some j =>
    rw [q] at e
    obtain ⟨x,e1,e2⟩:=h.get (i:=j) (by simpa using e)
    exact ⟨x,by simpa using e1,e2⟩
theorem E1.ixT {ds:List Dat} {i:Int} {d:Dat} (ha:E1 p K ta τ (.dat (.tuple ds))) (hb:E1 p K tb τ (.dat (.int i))) (h:atI ds i=some d):E1 p K (tOp (rIxT K) ta tb) τ (.dat d) :=
  E1.op2 ha hb fun W H0 H x y Q o0 o r1 r2 q=>by
    cases r2.int_inv
    cases r1 with
    | tup h1 h2 =>
      obtain ⟨x,e1,e2⟩:=atI_dz h2 h
      exact ⟨_,_,i,x,rfl,rfl,h1,e1,q _ H Ev.refl o e2⟩
theorem E1.ixL {ds:List Dat} {i:Int} {d:Dat} (ha:E1 p K ta τ (.vw ds)) (hb:E1 p K tb τ (.dat (.int i))) (h:atI ds i=some d):E1 p K (tOp (rIxL K) ta tb) τ (.dat d) :=
 E1.op2 ha hb fun W H0 H x y Q o0 o r1 r2 q=>by
  cases r2.int_inv
  obtain ⟨a,vs,rfl,h1,h2⟩:=r1
  obtain ⟨x,e1,e2⟩:=atI_dz h2 h
  exact ⟨_,_,i,x,rfl,rfl,h1.sq,e1,q _ H Ev.refl o e2⟩
theorem E1.isN {d:Dat} (ha:E1 p K ta τ (.dat d)) (hb:E1 p K tb τ (.dat .none)):E1 p K (tOp (fun x y H Q=>y = .non/\Q (.bl (decide (x = .non))) H) ta tb) τ (.dat (.bool (match d with | .none=>true | _=>false))) :=
 E1.op2 ha hb fun W H0 H x y Q o0 o r1 r2 q=>by
  refine ⟨r2.non_inv,q _ H Ev.refl o ?_⟩
  cases r1 <;> exact .bool _
theorem E1.notN {d:Dat} (ha:E1 p K ta τ (.dat d)) (hb:E1 p K tb τ (.dat .none)):E1 p K (tOp (fun x y H Q=>y = .non/\Q (.bl (!decide (x = .non))) H) ta tb) τ (.dat (.bool (match d with | .none=>false | _=>true))) :=
 E1.op2 ha hb fun W H0 H x y Q o0 o r1 r2 q=>by
  refine ⟨r2.non_inv,q _ H Ev.refl o ?_⟩
  cases r1 <;> exact .bool _
theorem A1.nil:A1 p K tNil τ []:=fun W L σ H Q rs o q=>q [] H _ rfl Ev.refl o .nil
theorem A.cons {C1:Sl->Prop} {C2:Sl->List Sl->Prop} {C:List Sl->Prop} (ha:E p K te τ C1) (hr:∀ s,C1 s->A p K tas τ (C2 s)) (m:∀ s ss,C1 s->C2 s ss->C (s :: ss)):A p K (tCons te tas) τ C:=fun W L σ H Q rs o q =>
 ha W L σ H _ rs o fun x H1 s c1 e1 o1 rv1=>hr s c1 W L σ H1 _ (rs.ev e1 o.pw) o1 fun xs H2 ss c2 e2 o2 rv2=>q _ H2 _ (m s ss c1 c2) (e1.trans e2) o2 (.cons (rv1.ev e2 o1 o) (rv2.base e1 o1))
theorem A1.cons {ss:List Sl} (ha:E1 p K te τ s) (hr:A1 p K tas τ ss):A1 p K (tCons te tas) τ (s :: ss):=A.cons (C2:=fun _ x=>ss=x) ha (fun _ _=>hr) fun s ss h1 h2=>by rw [h1,h2]
theorem Rvs.dats {ds:List Dat} {vs:List V} (h:Rvs p W K H0 H vs (ds.map .dat)):Dzs (fun a=>¬ W a) K H vs ds:=by
  induction ds generalizing vs with
  | nil=>cases h;exact .nil
  | cons d r ih =>
    cases h with
    | cons a t=>exact .cons a (ih t)
theorem Rvs.len {ss:List Sl} {vs:List V} (h:Rvs p W K H0 H vs ss):vs.length=ss.length:=by
 induction h with
 | nil=>rfl
 | cons _ _ ih=>rw [List.length_cons,List.length_cons,ih]
theorem E1.tup {ds:List Dat} (h:A1 p K tas τ (ds.map .dat)) (hz:ds.length<=sizeLine):E1 p K (tTup tas) τ (.dat (.tuple ds)):=fun W L σ H Q rs o q =>
 h W L σ H _ rs o fun vs H1 ss e e1 o1 rv=>by
  subst e
  refine ⟨by rw [rv.len,List.length_map];exact hz,fun a ha=>?_⟩
  have s1:=Same.new ha (.tup vs)
  exact q _ _ _ rfl (e1.trans (Ev.of s1)) (o1.same s1) (.tup (SqT.of upd_same) (rv.dats.ev (W:=Pp p) (Ev.of s1) o1.nw))
theorem E1.lst {ds:List Dat} (h:A1 p K tas τ (ds.map .dat)) (hz:ds.length<=sizeLine):E1 p K (tLst tas) τ (.own ds):=fun W L σ H Q rs o q =>
 h W L σ H _ rs o fun vs H1 ss e e1 o1 rv=>by
  subst e
  refine ⟨by rw [rv.len,List.length_map];exact hz,fun a ha=>?_⟩
  have s1:=Same.new ha (.lst vs)
  exact q _ _ _ rfl (e1.trans (Ev.of s1)) (o1.same s1) ⟨a,vs,rfl,o1.back e1 ha,upd_same,rv.dats.ev (W:=Pp p) (Ev.of s1) o1.nw⟩
theorem E1.to {s':Sl} (h:E1 p K te τ s) (e:s=s'):E1 p K te τ s':=e ▸ h
theorem T1.test {b:Bool} (h:E1 p K te τ (.dat (.bool b))):T1 p K (tTest te) τ b:=fun W L σ H Q rs o q=>h W L σ H _ rs o fun v H' s e e1 o1 rv=>by
 subst e;cases rv.bl_inv;exact ⟨b,rfl,q b H' rfl e1 o1⟩
theorem T1.val {b:Bool} (h:E1 p K te τ (.dat (.bool b))):T1 p K (tB te) τ b:=fun W L σ H Q rs o q=>h W L σ H _ rs o fun v H' s e e1 o1 rv=>by
 subst e;cases rv.bl_inv;exact ⟨b,rfl,q b H' rfl e1 o1⟩
theorem T1.not {tt:TT} {b:Bool} (h:T1 p K tt τ b):T1 p K (tNot tt) τ (!b):=fun W L σ H Q rs o q=>h W L σ H _ rs o fun v H' e e1 o1=>by
 subst e;exact q _ H' rfl e1 o1
theorem T.or {tt tu:TT} {C D:Bool->Prop} (h:T p K tt τ C) (ht:C true->D true) (hf:C false->T p K tu τ D):T p K (tOr tt tu) τ D:=fun W L σ H Q rs o q=>h W L σ H _ rs o fun v H' c e1 o1=>by
 cases v with
 | false=>rw [if_neg (by decide)];exact hf c W L σ H' _ (rs.ev e1 o.pw) o1 fun b H2 d e2=>q b H2 d (e1.trans e2)
 | true=>rw [if_pos rfl];exact q _ H' (ht c) e1 o1
theorem T1.orF {tt tu:TT} (h:T1 p K tt τ false) (h2:T1 p K tu τ false):T1 p K (tOr tt tu) τ false:=T.or h (fun z=>by cases z) fun _=>h2
theorem E1.andV {b c:Bool} (h:E1 p K ta τ (.dat (.bool b))) (h2:b=true->E1 p K tb τ (.dat (.bool c))) (hc:b=false->c=false):E1 p K (tAndV ta tb) τ (.dat (.bool c)):=fun W L σ H Q rs o q=>h W L σ H _ rs o fun v H' s e e1 o1 rv=>by
 subst e;cases rv.bl_inv
 refine ⟨b,rfl,?_⟩
 cases b with
 | true=>rw [if_pos rfl];exact h2 rfl W L σ H' _ (rs.ev e1 o.pw) o1 fun v H2 s e e2 o2 rv=>q v H2 s e (e1.trans e2) o2 (rv.base e1 o1)
 | false=>rw [if_neg (by decide)];rw [hc rfl] at q;exact q _ H' _ rfl e1 o1 (.bool _)
end
end D
end
section
namespace D
open PySem L2 K0
open PySem.W (Dat)
def Rr (p:Option Addr) (W:Addr->Prop) (K:PySem.W.Frag) (L:List Addr) (H H':Hp) (v:V):Sl->Prop
 | .own ds=>∃ a vs,v = .ref a/\(a ∈ L\/H a=none)/\H' a=some (.lst vs)/\Dzs (fun a=>¬ W a) K H' vs ds
 | .dt o=>∃ a l,v = .ref a/\(∀ b,b ∈ l->b ∈ L\/H b=none)/\o.R (fun a=>¬ W a) K H' a l
 | s=>Rv p W K H H' v s
section
variable (p:Option Addr) (K:PySem.W.Frag)
def S (ts:TS) (τ:List Sl) (nx:List Sl->Prop) (rt:Sl->Prop):Prop:=∀ (W:Addr->Prop) (L:List Addr) (σ:St) (H:Hp) (D:Ends),Rs p W K H L σ τ->Ok p W H ->
 (∀ (W':Addr->Prop) (L':List Addr) σ' H' τ',nx τ'->Ev W H H'->Ok p W' H'->(∀ a,W a->∃ ys,H' a=some ys)->(∀ a,W' a->W a\/H a=none)->(∀ a,a ∈ L'->a ∈ L\/H a=none)->Rs p W' K H' L' σ' τ'->D.nx σ' H') ->
 (∀ (W':Addr->Prop) H' v s,rt s->Ev W H H'->Ok p W' H'->(∀ a,W a->∃ ys,H' a=some ys)->(∀ a,W' a->W a\/H a=none)->Rr p W' K L H H' v s->D.rt v H')->ts D σ H
end
section
variable {p:Option Addr} {K:PySem.W.Frag} {W:Addr->Prop} {L:List Addr} {σ:St} {H H0 H1 H2:Hp} {τ:List Sl} {te:TE} {v:V} {s:Sl} {nx:List Sl->Prop} {rt:Sl->Prop} {t u:TS}
theorem Rv.rr (h:Rv p W K H0 H v s):Rr p W K L H0 H v s:=by
 cases s with
 | own ds=>obtain ⟨a,vs,e,h1,h2⟩:=h;exact ⟨a,vs,e,.inr h1,h2⟩
 | dt ds=>obtain ⟨a,vs,e,h1,h2⟩:=h;exact ⟨a,vs,e,fun b hb=>.inr (h1 b hb),h2⟩
 | _=>exact h
theorem Rr.base {L':List Addr} (h:Rr p W K L' H1 H v s) (hn:∀ a,H1 a=none->H0 a=none) (hl:∀ a,a ∈ L'->a ∈ L\/H0 a=none):Rr p W K L H0 H v s:=by
 cases s with
 | own ds=>obtain ⟨a,vs,e,h1,h2⟩:=h;exact ⟨a,vs,e,h1.elim (hl a) fun z=>.inr (hn a z),h2⟩
 | dt ds=>obtain ⟨a,vs,e,h1,h2⟩:=h;exact ⟨a,vs,e,fun b hb=>(h1 b hb).elim (hl b) fun z=>.inr (hn b z),h2⟩
 | _=>exact h
theorem Ev.ofP (e:Ev (Pp p) H H1) (o:Ok p W H):Ev W H H1:=e.mono o.pw
theorem Ev.chain {W W':Addr->Prop} (e:Ev W H H1) (e2:Ev W' H1 H2) (n:∀ a,W' a->W a\/H a=none):Ev W H H2:=⟨fun b o nb h=>e2.keep b o (fun z=>by
 rcases n b z with y | y
 ·exact nb y
 ·rw [h] at y;cases y) (e.keep b o nb h),e.tm.trans e2.tm⟩
theorem Ev.none (e:Ev W H H1) (al:∀ a,W a->∃ ys,H1 a=some ys) {a:Addr} (h:H1 a=none):H a=none:=by
  cases q:H a with
  | none=>rfl
  | some u =>
    by_cases z:W a
    . obtain ⟨ys,e2⟩:=al a z;rw [h] at e2;cases e2
    . rw [e.keep _ _ z q] at h;cases h
theorem al_chain {W W1:Addr->Prop} (w1:∀ a,W a->∃ ys,H1 a=some ys) (w2:∀ a,W1 a->∃ ys,H2 a=some ys) (e2:Ev W1 H1 H2):∀ a,W a->∃ ys,H2 a=some ys:=fun a ha=>by
 by_cases z:W1 a
 ·exact w2 a z
 ·obtain ⟨ys,h⟩:=w1 a ha;exact ⟨ys,e2.keep _ _ z h⟩
theorem S.seq {M:List Sl->Prop} (h1:S p K t τ M rt) (h2:∀ τ',M τ'->S p K u τ' nx rt):S p K (tSeq t u) τ nx rt:=fun W L σ H D r o q1 q2 =>
 h1 W L σ H _ r o (fun W1 L1 σ1 H1 τ1 m e1 o1 w1 n1 l1 r1=>by
  have hn:∀ a,H1 a=none->H a=none:=fun a ha=>e1.none w1 ha
  exact h2 τ1 m W1 L1 σ1 H1 D r1 o1 (fun W2 L2 σ2 H2 τ2 c e2 o2 w2 n2 l2 r2=>q1 W2 L2 σ2 H2 τ2 c (e1.chain e2 n1) o2 (al_chain w1 w2 e2)
    (fun a ha=>(n2 a ha).elim (n1 a) fun z=>.inr (hn a z)) (fun a ha=>(l2 a ha).elim (l1 a) fun z=>.inr (hn a z)) r2)
   fun W2 H2 v s c e2 o2 w2 n2 rv=>q2 W2 H2 v s c (e1.chain e2 n1) o2 (al_chain w1 w2 e2) (fun a ha=>(n2 a ha).elim (n1 a) fun z=>.inr (hn a z)) (rv.base hn l1)) q2
theorem S.next (h:nx τ):S p K tNext τ nx rt:=fun W L σ H D r o q1 q2=>q1 W L σ H τ h Ev.refl o o.al (fun _ h=>.inl h) (fun _ h=>.inl h) r
theorem S.ret {C:Sl->Prop} (h:E p K te τ C) (m:∀ s,C s->rt s):S p K (tRet te) τ nx rt:=fun W L σ H D r o q1 q2=>h W L σ H _ r o fun v H' s c e o' rv=>q2 W H' v s (m s c) (e.ofP o) o' o'.al (fun _ h=>.inl h) rv.rr
theorem S.ret1 (h:E1 p K te τ s) (m:rt s):S p K (tRet te) τ nx rt:=S.ret h fun x e=>e ▸ m
theorem S.iff {tc:TT} {C:Bool->Prop} (h:T p K tc τ C) (ht:C true->S p K t τ nx rt) (hf:C false->S p K u τ nx rt):S p K (tIfS tc t u) τ nx rt:=fun W L σ H D r o q1 q2=>h W L σ H _ r o fun b H1 c e o1=>by
 have e1:=e.ofP o
 have hn:∀ a,H1 a=none->H a=none:=fun a ha=>e1.none (fun a h=>o1.al a h) ha
 have go:∀ {t:TS},S p K t τ nx rt->t D σ H1:=fun h=>h W L σ H1 D (r.ev e o.pw) o1 (fun W2 L2 σ2 H2 τ2 c e2 o2 w2 n2 l2 r2=>q1 W2 L2 σ2 H2 τ2 c (e1.trans e2) o2 (al_chain o1.al w2 e2) (fun a ha=>(n2 a ha).elim .inl fun z=>.inr (hn a z)) (fun a ha=>(l2 a ha).elim .inl fun z=>.inr (hn a z)) r2)
   fun W2 H2 v s c e2 o2 w2 n2 rv=>q2 W2 H2 v s c (e1.trans e2) o2 (al_chain o1.al w2 e2) (fun a ha=>(n2 a ha).elim .inl fun z=>.inr (hn a z)) (rv.base hn fun _ h=>.inl h)
 cases b with
 | true=>rw [if_pos rfl];exact go (ht c)
 | false=>rw [if_neg (by decide)];exact go (hf c)
theorem S.if1 {tc:TT} {b:Bool} (h:T1 p K tc τ b) (ht:b=true->S p K t τ nx rt) (hf:b=false->S p K u τ nx rt):S p K (tIfS tc t u) τ nx rt:=S.iff h ht hf
theorem S.ifF {tc:TT} (h:T1 p K tc τ false) (hf:S p K u τ nx rt):S p K (tIfS tc t u) τ nx rt:=S.iff h (fun z=>by cases z) fun _=>hf
theorem S.ifT {tc:TT} (h:T1 p K tc τ true) (hf:S p K t τ nx rt):S p K (tIfS tc t u) τ nx rt:=S.iff h (fun _=>hf) (fun z=>by cases z)
theorem S.ifs {tc:TT} {b:Bool} (h:T1 p K tc τ b) (ht:b=true->S p K t τ (fun τ'=>S p K u τ' nx rt) rt) (hf:b=false->S p K u τ nx rt):S p K (tSeq (tIfS tc t tNext) u) τ nx rt :=
 S.seq (M:=fun τ'=>S p K u τ' nx rt) (S.if1 h ht fun z=>S.next (hf z)) fun _ h=>h
theorem S.ifsF {tc:TT} (h:T1 p K tc τ false) (hf:S p K u τ nx rt):S p K (tSeq (tIfS tc t tNext) u) τ nx rt:=S.ifs h (fun z=>by cases z) fun _=>hf
theorem S.ifsC {tc:TT} {C:Bool->Prop} (h:T p K tc τ C) (ht:C true->S p K t τ (fun τ'=>S p K u τ' nx rt) rt) (hf:C false->S p K u τ nx rt):S p K (tSeq (tIfS tc t tNext) u) τ nx rt :=
 S.seq (M:=fun τ'=>S p K u τ' nx rt) (S.iff h ht fun z=>S.next (hf z)) fun _ h=>h
def flat:Sl->Bool
 | .own _=>false
 | .dt _=>false
 | .vw _=>false
 | _=>true
theorem S.asg {C:Sl->Prop} {i:Nat} (h:E p K te τ C) (hf:∀ s,C s->flat s=true) (m:∀ s,C s->nx (τ.set i s)):S p K (tAsg te (gName i)) τ nx rt:=fun W L σ H D r o q1 q2=>h W L σ H _ r o fun v H1 s c e o1 rv=>by
 have z:=hf s c
 obtain ⟨L',l,r'⟩:=(r.ev e o.pw).set (v:=v) (s:=s) (by
  cases s with
  | un=>exact .inl rfl
  | dat d=>exact .inr (.inl ⟨d,rfl,rv⟩)
  | pu=>exact .inr (.inr ⟨rfl,rv⟩)
  | own ds=>cases z
  | dt ds=>cases z
  | vw ds=>cases z) i
 exact q1 W L' _ H1 _ (m s c) (e.ofP o) o1 o1.al (fun _ h=>.inl h) (fun a ha=>.inl (l a ha)) r'
theorem S.letC {C:Sl->Prop} {i:Nat} (h:E p K te τ C) (hf:∀ s,C s->flat s=true) (m:∀ s,C s->S p K u (τ.set i s) nx rt):S p K (tSeq (tAsg te (gName i)) u) τ nx rt :=
 S.seq (M:=fun τ'=>∃ s,C s/\τ'=τ.set i s) (S.asg h hf fun s c=>⟨s,c,rfl⟩) fun τ' ⟨s,c,e⟩=>e ▸ m s c
theorem S.let1 {i:Nat} {τ':List Sl} (h:E1 p K te τ s) (m:S p K u τ' nx rt) (e:τ.set i s=τ':=by rfl) (hf:flat s=true:=by rfl):S p K (tSeq (tAsg te (gName i)) u) τ nx rt :=
 S.letC h (fun x y=>y ▸ hf) fun x y=>by subst y;rw [e];exact m
theorem S.asg1 {i:Nat} {τ':List Sl} (h:E1 p K te τ s) (m:nx τ') (e:τ.set i s=τ':=by rfl) (hf:flat s=true:=by rfl):S p K (tAsg te (gName i)) τ nx rt :=
 S.asg h (fun x y=>y ▸ hf) fun x y=>by subst y;rw [e];exact m
theorem Rs.setO (r:Rs p W K H L σ τ) {a:Addr} {vs:List V} {ds:List Dat} (wa:W a) (np:p ≠ some a) (nl:a ∉ L) (h:H a=some (.lst vs)) (z:Dzs (fun a=>¬ W a) K H vs ds):∀ (i:Nat),∃ L',(∀ b,b ∈ L'->b=a\/b ∈ L)/\Rs p W K H L' (σ.set i (some (.ref a))) (τ.set i (.own ds)):=by
  induction r with
  | nil=>intro i;exact ⟨[],fun _ h=>.inr h,.nil⟩
  | un r ih =>
    intro i
    match i with
    | 0=>exact ⟨_,fun b hb=>by simpa using hb,.own wa np nl h z r⟩
    | i + 1=>obtain ⟨L',h1,h2⟩:=ih nl i;exact ⟨L',h1,.un h2⟩
  | dat y r ih =>
    intro i
    match i with
    | 0=>exact ⟨_,fun b hb=>by simpa using hb,.own wa np nl h z r⟩
    | i + 1=>obtain ⟨L',h1,h2⟩:=ih nl i;exact ⟨L',h1,.dat y h2⟩
  | pu y r ih =>
    intro i
    match i with
    | 0=>exact ⟨_,fun b hb=>by simpa using hb,.own wa np nl h z r⟩
    | i + 1=>obtain ⟨L',h1,h2⟩:=ih nl i;exact ⟨L',h1,.pu y h2⟩
  | own g1 g2 g3 g4 g5 r ih =>
    intro i
    have nl':=fun y=>nl (List.mem_cons_of_mem _ y)
    match i with
    | 0=>exact ⟨_,fun b hb=>(List.mem_cons.mp hb).imp id (List.mem_cons_of_mem _),.own wa np nl' h z r⟩
    | i + 1 =>
      obtain ⟨L',h1,h2⟩:=ih nl' i
      refine ⟨_ :: L',fun b hb=>?_,.own g1 g2 (fun y=>?_) g4 g5 h2⟩
      . rcases List.mem_cons.mp hb with rfl | hb
        . exact .inr List.mem_cons_self
        . exact (h1 b hb).imp id (List.mem_cons_of_mem _)
      . rcases h1 _ y with y | y
        . exact nl (y ▸ List.mem_cons_self)
        . exact g3 y
  | dt g1 g2 g3 g4 r ih =>
    intro i
    have nl':=fun y=>nl (List.mem_append_right _ y)
    match i with
    | 0=>exact ⟨_,fun b hb=>(List.mem_cons.mp hb).imp id (List.mem_append_right _),.own wa np nl' h z r⟩
    | i + 1 =>
      obtain ⟨L',h1,h2⟩:=ih nl' i
      refine ⟨_ ++ L',fun b hb=>?_,.dt g1 g2 (fun b hb y=>?_) g4 h2⟩
      . rcases List.mem_append.mp hb with hb | hb
        . exact .inr (List.mem_append_left _ hb)
        . exact (h1 b hb).imp id (List.mem_append_right _)
      . rcases h1 _ y with y | y
        . exact nl (y ▸ List.mem_append_left _ hb)
        . exact g3 b hb y
theorem Rs.own_in (r:Rs p W K H L σ τ):∀ a,a ∈ L->∃ vs,H a=some vs:=by
  induction r with
  | nil=>intro a h;cases h
  | un _ ih=>exact ih
  | dat _ _ ih=>exact ih
  | pu _ _ ih=>exact ih
  | own _ _ _ h4 _ _ ih => intro a h; rcases List.mem_cons.mp h with rfl | h
                           . exact ⟨_,h4⟩
                           . exact ih a h
  | dt _ _ _ h4 _ ih =>
    intro a h;rcases List.mem_append.mp h with h | h
    . exact Own.al _ h4 a h
    . exact ih a h
theorem Dzs.wide {W W':Addr->Prop} {vs:List V} {ds:List Dat} (h:Dzs (fun a=>¬ W a) K H vs ds) (n:∀ a,W' a->¬ W a->H a=none):Dzs (fun a=>¬ W' a) K H vs ds:=by
 exact go n h
where
 go {W W':Addr->Prop} (n:∀ a,W' a->¬ W a->H a=none):∀ {vs:List V} {ds:List Dat},Dzs (fun a=>¬ W a) K H vs ds->Dzs (fun a=>¬ W' a) K H vs ds
  | _,_,.nil=>.nil
  | _,_,.cons h r=>.cons (go1 n h) (go n r)
 go1 {W W':Addr->Prop} (n:∀ a,W' a->¬ W a->H a=none):∀ {v:V} {d:Dat},Dz (fun a=>¬ W a) K H v d->Dz (fun a=>¬ W' a) K H v d
  | _,_,.none=>.none
  | _,_,.bool b=>.bool b
  | _,_,.int i=>.int i
  | _,_,.str x=>.str x
  | _,_,.tup h r=>.tup h (go n r)
  | _,_,.lst h r=>.lst (by
    rcases h with ⟨nn,h⟩ | h
    ·refine .inl ⟨fun z=>?_,h⟩
     have e1:=n _ z nn
     rcases h with h | ⟨o,h⟩
     ·rw [e1] at h;cases h
     ·rw [e1] at h;cases h
    ·exact .inr h) (go n r)
  | _,_,.exc nn h=>.exc (fun z=>by obtain ⟨_,_,q,_⟩:=h;rw [n _ z nn] at q;cases q) h
theorem Dzs.old {W W':Addr->Prop} {H H':Hp} (e:Ev W H H') (n:∀ a,W' a->W a\/H a=none):∀ {vs:List V} {ds:List Dat},Dzs (fun a=>¬ W a) K H vs ds->Dzs (fun a=>¬ W' a) K H' vs ds
  | _,_,.nil=>.nil
  | _,_,.cons h r=>.cons (go1 h) (Dzs.old e n r)
where
  go1 : ∀ {v : V} {d : Dat}, Dz (fun a => ¬ W a) K H v d -> Dz (fun a => ¬ W' a) K H' v d
    | _,_,.none=>.none
    | _,_,.bool b=>.bool b
    | _,_,.int i=>.int i
    | _,_,.str x=>.str x
    | _,_,.tup h r=>.tup (e.tm _ _ _ h) (Dzs.old e n r)
    | _, _, .lst h r => .lst (by
        rcases h with ⟨nn,h⟩ | h
        . refine .inl ⟨fun z=>?_,?_⟩
          . have e1:=(n _ z).resolve_left nn
            rcases h with h | ⟨o,h⟩
            . rw [e1] at h;cases h
            . rw [e1] at h;cases h
          . exact h.imp (e.keep _ _ nn) fun ⟨o,h⟩=>⟨o,e.keep _ _ nn h⟩
        . exact .inr h) (Dzs.old e n r)
    | _,_,.exc nn h=>.exc (fun z=>by obtain ⟨_,_,q,_⟩:=h;rw [(n _ z).resolve_left nn] at q;cases q) (let ⟨ob,C,q,z⟩:=h;⟨ob,C,e.keep _ _ nn q,z⟩)
theorem S.letOC {C:List Dat->Prop} {i:Nat} (h:E p K te τ (fun s=>∃ ds,s = .own ds/\noLs ds=true/\C ds)) (m:∀ ds,C ds->S p K u (τ.set i (.own ds)) nx rt):S p K (tSeq (tAsg te (gName i)) u) τ nx rt:=by
 refine S.seq (M:=fun τ'=>∃ ds,C ds/\τ'=τ.set i (.own ds)) (fun W L σ H D r o q1 q2=>?_) fun τ' ⟨ds,c,e⟩=>e ▸ m ds c
 refine h W L σ H _ r o fun v H1 s c e o1 rv=>?_
 obtain ⟨ds,rfl,nl,cd⟩:=c
 obtain ⟨a,vs,rfl,h1,h2,h3⟩:=rv
 have nw:=o.fresh h1
 have wid:∀ b,(W b\/b=a)->¬ W b->H b=none:=fun b hb nb=>(hb.resolve_left nb) ▸ h1
 have r1:Rs p (fun b=>W b\/b=a) K H1 L σ τ:=(r.wide (fun _ h=>.inl h) wid).ev e fun q hq=>.inl (o.pw q hq)
 have al:a ∉ L:=fun z=>by obtain ⟨_,y⟩:=r.own_in a z;rw [h1] at y;cases y
 obtain ⟨L',l,r2⟩:=r1.setO (.inr rfl) (o.np h1) al h2 (h3.free nl) i
 refine q1 _ L' _ H1 _ ⟨ds,cd,rfl⟩ (e.ofP o) ⟨fun q hq=>⟨(o1.pu q hq).1,.inl (o1.pw q hq)⟩,fun b hb=>?_⟩ o1.al (fun b hb=>hb.imp id fun (z:b=a)=>by rw [z];exact h1) (fun b hb=>?_) r2
 ·rcases hb with hb | rfl
  ·exact o1.al b hb
  ·exact ⟨_,h2⟩
 ·rcases l b hb with rfl | hb
  ·exact .inr h1
  ·exact .inl hb
theorem S.letO {ds:List Dat} {i:Nat} {τ':List Sl} (h:E1 p K te τ (.own ds)) (nl:noLs ds=true) (m:S p K u τ' nx rt) (e:τ.set i (.own ds)=τ':=by rfl):S p K (tSeq (tAsg te (gName i)) u) τ nx rt :=
 S.letOC (C:=fun x=>ds=x) (E.mono h fun s hs=>⟨ds,hs.symm,nl,rfl⟩) fun x hx=>by subst hx;rw [e];exact m
theorem Rs.chg (r:Rs p W K H L σ τ) {a:Addr} {vs0 vs:List V} (ha:W a) (h0:H a=some (.lst vs0)):a ∉ L->Rs p W K (upd H a (.lst vs)) L σ τ:=by
  have ev:Ev (fun b=>b=a) H (upd H a (.lst vs)):=⟨fun b o n h=>by rw [upd_ne n];exact h,Tm.lst h0 _⟩
  have nw:∀ b,¬ W b->¬ b=a:=fun b n z=>n (z ▸ ha)
  induction r with
  | nil=>intro _;exact .nil
  | un _ ih=>intro h;exact .un (ih h)
  | dat h _ ih=>intro n;exact .dat (h.ev ev nw) (ih n)
  | pu h _ ih=>intro n;exact .pu h (ih n)
  | own h1 h2 h3 h4 h5 _ ih =>
    intro n
    refine .own h1 h2 h3 ?_ (h5.ev ev nw) (ih fun z=>n (List.mem_cons_of_mem _ z))
    rw [upd_ne (fun z=>n (by rw [<- z];exact List.mem_cons_self))];exact h4
  | dt h1 h2 h3 h4 _ ih =>
    intro n
    exact .dt h1 h2 h3 (Own.ev _ h4 ev nw fun b o hb h=>by rw [upd_ne (fun (z:b=a)=>n (z ▸ List.mem_append_left _ hb))];exact h) (ih fun z=>n (List.mem_append_right _ z))
theorem Rs.chgO {a:Addr} {vs0 vs:List V} {ds:List Dat} (ha:W a) (h0:H a=some (.lst vs0)) (hz:Dzs (fun a=>¬ W a) K (upd H a (.lst vs)) vs ds):∀ {L:List Addr} {σ:St} {τ:List Sl},Rs p W K H L σ τ->∀ {i:Nat} {ds0:List Dat},τ[i]?=some (.own ds0)->σ[i]?=some (some (.ref a))->Rs p W K (upd H a (.lst vs)) L σ (τ.set i (.own ds)):=by
  have ev:Ev (fun b=>b=a) H (upd H a (.lst vs)):=⟨fun b o n h=>by rw [upd_ne n];exact h,Tm.lst h0 _⟩
  have nw:∀ b,¬ W b->¬ b=a:=fun b n z=>n (z ▸ ha)
  intro L σ τ r
  induction r with
  | nil=>intro i ds0 h;simp at h
  | un r ih =>
    intro i ds0 h e
    match i,h,e with
    | 0,h,_=>simp at h
    | i + 1,h,e=>exact .un (ih (i:=i) (by simpa using h) (by simpa using e))
  | dat y r ih =>
    intro i ds0 h e
    match i,h,e with
    | 0,h,_=>simp at h
    | i + 1,h,e=>exact .dat (y.ev ev nw) (ih (i:=i) (by simpa using h) (by simpa using e))
  | pu y r ih =>
    intro i ds0 h e
    match i,h,e with
    | 0,h,_=>simp at h
    | i + 1,h,e=>exact .pu y (ih (i:=i) (by simpa using h) (by simpa using e))
  | own h1 h2 h3 h4 h5 r ih =>
    intro i ds0 h e
    match i,h,e with
    | 0,h,e =>
      simp at e;subst e
      exact .own h1 h2 h3 upd_same hz (r.chg h1 h4 h3)
    | i + 1,h,e =>
      have e':_:=e
      simp only [List.getElem?_cons_succ] at e'
      obtain ⟨a',vs',g1,g2,g3,g4,g5,g6⟩:=r.get_own (i:=i) (by simpa using h)
      rw [e'] at g1;cases g1
      refine .own h1 h2 h3 ?_ (h5.ev ev nw) (ih (i:=i) (by simpa using h) e')
      rw [upd_ne (fun z=>h3 (by rw [z];exact g4))];exact h4
  | dt h1 h2 h3 h4 r ih =>
    intro i ds0 h e
    match i,h,e with
    | 0,h,e =>
      simp at h
    | i + 1,h,e =>
      have e':_:=e
      simp only [List.getElem?_cons_succ] at e'
      obtain ⟨a',vs',g1,g2,g3,g4,g5,g6⟩:=r.get_own (i:=i) (by simpa using h)
      rw [e'] at g1;cases g1
      exact .dt h1 h2 h3 (Own.ev _ h4 ev nw fun b o hb h=>by rw [upd_ne (fun (z:b=a)=>h3 b hb (z ▸ g4))];exact h) (ih (i:=i) (by simpa using h) e')
theorem S.append {i:Nat} {ds:List Dat} {C:Dat->Prop} (h:τ[i]?=some (.own ds)) (he:E p K te τ (fun s=>∃ d,s = .dat d/\noL d=true/\C d)) (hz:ds.length < sizeLine) (m:∀ d,C d->nx (τ.set i (.own (ds ++ [d])))):S p K (tDrop (tBM K "list" rAppend (tVar i) (tCons te tNil))) τ nx rt:=fun W L σ H D r o q1 q2=>by
  obtain ⟨a,vs,e,w,n,l,h1,z⟩:=r.get_own h
  refine ⟨_,e,.inl ⟨rfl,_,SqL.of h1⟩,he W L σ H _ r o fun v H1 s c e1 o1 rv=>?_⟩
  obtain ⟨d,rfl,nl,cd⟩:=c
  have r1:=r.ev e1 o.pw
  obtain ⟨a',vs',e',w',n',l',h1',z'⟩:=r1.get_own h
  rw [e] at e';cases e'
  have ev:Ev (fun b=>b=a) H1 (upd H1 a (.lst (vs' ++ [v]))):=⟨fun b o n h=>by rw [upd_ne n];exact h,Tm.lst h1' _⟩
  have nw:∀ b,¬ W b->¬ b=a:=fun b n z=>n (z ▸ w)
  refine ⟨a,vs',v,rfl,rfl,h1',by rw [z'.len];exact hz,?_⟩
  refine q1 W L σ _ _ (m d cd) ((e1.ofP o).trans (ev.mono fun b hb=>hb ▸ w)) ⟨fun q hq=>⟨?_,o1.pw q hq⟩,fun b hb=>?_⟩ ?_ (fun _ h=>.inl h) (fun _ h=>.inl h) (Rs.chgO w h1' ((z'.app (.cons rv .nil)).ev ev nw) r1 h e)
  . obtain ⟨x,y,u⟩:=(o1.pu q hq).1
    exact ⟨x,y,by rw [upd_ne (fun z=>n' (by rw [<- z];exact hq))];exact u⟩
  all_goals
    first
    | (by_cases z:b=a
       . subst z;exact ⟨_,upd_same⟩
       . rw [upd_ne z];exact o1.al b hb)
    | (intro b hb
       by_cases z:b=a
       . subst z;exact ⟨_,upd_same⟩
       . rw [upd_ne z];exact o1.al b hb)
theorem S.append1 {i:Nat} {ds:List Dat} {d:Dat} {τ':List Sl} (h:τ[i]?=some (.own ds)) (he:E1 p K te τ (.dat d)) (nl:noL d=true) (hz:ds.length < sizeLine) (m:nx τ') (e:τ.set i (.own (ds ++ [d]))=τ':=by rfl):S p K (tDrop (tBM K "list" rAppend (tVar i) (tCons te tNil))) τ nx rt :=
 S.append (C:=fun x=>d=x) h (E.mono he fun s hs=>⟨d,hs.symm,nl,rfl⟩) hz fun x hx=>by subst hx;rw [e];exact m
end
end D
end
section
namespace D
open PySem L2 K0
open PySem.W (Dat)
def Jd (W:Addr->Prop) (K:PySem.W.Frag) (J:It) (H:Hp) (ds:List Dat):Prop:=∀ (W':Addr->Prop) (H':Hp),Ev W H H'->(∀ a,W' a->W a\/H a=none)->J.stop ds.length H'/\∀ i d,ds[i]?=some d->J.go i H'/\∀ y H2,J.yld i H' y H2->Same H' H2/\Dz (fun a=>¬ W' a) K H2 y d
section
variable (p:Option Addr) (K:PySem.W.Frag)
def Wk (wi:TI) (τ:List Sl) (ds:List Dat):Prop:=∀ (W:Addr->Prop) (L:List Addr) (σ:St) (H:Hp) (R:It->Hp->Prop),Rs p W K H L σ τ->Ok p W H->(∀ J H1,Ev (Pp p) H H1->Ok p W H1->Jd W K J H1 ds->R J H1)->wi σ H R
def Gd (g:TG) (d:Dat) (τ τ':List Sl):Prop:=∀ (W:Addr->Prop) (L:List Addr) (σ:St) (H:Hp) (v:V) (Q:St->Hp->Prop),Rs p W K H L σ τ->Dz (fun a=>¬ W a) K H v d->(∀ L' σ',(∀ a,a ∈ L'->a ∈ L)->Rs p W K H L' σ' τ'->Q σ' H)->g v σ H Q
end
section
variable {p:Option Addr} {K:PySem.W.Frag} {W:Addr->Prop} {L:List Addr} {σ:St} {H H1 H2:Hp} {τ τ':List Sl} {tb te:TE} {tas:TA} {v:V} {s:Sl} {nx:List Sl->Prop} {rt:Sl->Prop} {t u:TS} {ds:List Dat} {wi:TI}
theorem Wk.tup (h:E1 p K te τ (.dat (.tuple ds))):Wk p K (iTup K te) τ ds:=fun W L σ H R r o q=>h W L σ H _ r o fun v H1 s e e1 o1 rv=>by
  subst e
  cases rv with
  | tup h1 h2 =>
    rename_i a xs
    refine ⟨a,rfl,⟨xs,h1⟩,q _ H1 e1 o1 fun W' H' ev n=>?_⟩
    have h1':=ev.tm _ _ _ h1
    have h2':=Dzs.old ev n h2
    refine ⟨⟨xs,h1',by rw [h2.len];exact Nat.le_refl _⟩,fun i d hd=>?_⟩
    obtain ⟨x,ex,zx⟩:=h2'.get hd
    exact ⟨⟨xs,x,h1',ex⟩,fun y H2 ⟨e,q⟩=>by
      subst e
      have:=q xs h1'
      rw [ex] at this;cases this
      exact ⟨Same.refl _,zx⟩⟩
theorem Wk.lst (h:E1 p K te τ (.dat (.list ds))):Wk p K (iList K te) τ ds:=fun W L σ H R r o q=>h W L σ H _ r o fun v H1 s e e1 o1 rv=>by
  subst e
  cases rv with
  | lst h1 h2 =>
    rename_i a xs
    refine ⟨a,rfl,⟨xs,h1.sq⟩,q _ H1 e1 o1 fun W' H' ev n=>?_⟩
    have h1':SqL K H' a xs:=by
      rcases h1 with ⟨nn,h1⟩ | h1
      . exact .inl (h1.imp (ev.keep _ _ nn) fun ⟨o,h⟩=>⟨o,ev.keep _ _ nn h⟩)
      . exact SqN.sq (N:=fun _=>True) (.inr h1)
    have h2':=Dzs.old ev n h2
    refine ⟨⟨xs,h1',by rw [h2.len];exact Nat.le_refl _⟩,fun i d hd=>?_⟩
    obtain ⟨x,ex,zx⟩:=h2'.get hd
    exact ⟨⟨xs,x,h1',ex⟩,fun y H2 ⟨e,q⟩=>by
      subst e
      have:=q xs h1'
      rw [ex] at this;cases this
      exact ⟨Same.refl _,zx⟩⟩
def rangeD (lo:Int) (n:Nat):List Dat:=(List.range n).map fun (i:Nat)=>.int (lo + i)
theorem rangeD_get {lo:Int} {n i:Nat} {d:Dat} (h:(rangeD lo n)[i]?=some d):i < n/\d = .int (lo + i):=by
  unfold rangeD at h
  rw [List.getElem?_map] at h
  cases e:(List.range n)[i]? with
  | none=>rw [e] at h;cases h
  | some j =>
    rw [e] at h;cases h
    have hi:i < n:=by simpa using (List.getElem?_eq_some_iff.mp e).1
    have hj:j=i:=by
      have:=(List.getElem?_eq_some_iff.mp e).2
      simpa using this.symm
    subst hj
    exact ⟨hi,rfl⟩
theorem rangeD_len {lo:Int} {n:Nat}:(rangeD lo n).length=n:=by unfold rangeD;simp
theorem jd_rng {lo:Int} {n:Nat}:Jd W K (Itr lo n) H (rangeD lo n):=fun W' H' ev nn=>⟨by show n<=_;rw [rangeD_len];exact Nat.le_refl _,fun i d hd=>by
 obtain ⟨hi,rfl⟩:=rangeD_get hd
 exact ⟨hi,fun y H2 ⟨e1,e2⟩=>by subst e1 e2;exact ⟨Same.refl _,.int _⟩⟩⟩
theorem Wk.rng {j:Int} {n:Nat} (h:A1 p K tas τ [.dat (.int j)]) (hn:j.toNat=n) (h1 : -(2 ^ 62)<=j:=by decide) (h2:j < 2 ^ 62:=by decide):Wk p K (iRng1 tas) τ (rangeD 0 n):=fun W L σ H R r o q=>h W L σ H _ r o fun vs H1 ss e e1 o1 rv=>by
  subst e hn
  cases rv with
  | cons a t =>
    cases t
    cases a.int_inv
    exact ⟨j,rfl,h1,h2,q _ H1 e1 o1 jd_rng⟩
def zipD:List Dat->List Dat->List Dat:=List.zipWith fun x y=>.tuple [x,y]
theorem zipD_get:∀ {xs ys:List Dat} {i:Nat} {d:Dat},(zipD xs ys)[i]?=some d->∃ x y,xs[i]?=some x/\ys[i]?=some y/\d = .tuple [x,y]:=by
  intro xs ys i d h
  unfold zipD at h
  rw [List.getElem?_zipWith] at h
  cases e1:xs[i]? with
  | none=>rw [e1] at h;simp at h
  | some x =>
    cases e2:ys[i]? with
    | none=>rw [e1,e2] at h;simp at h
    | some y=>rw [e1,e2] at h;simp at h;exact ⟨x,y,rfl,rfl,h.symm⟩
theorem Wk.zip {xs ys:List Dat} (h:A1 p K tas τ [.dat (.tuple xs),.dat (.tuple ys)]) (hl:ys.length=xs.length):Wk p K (iZip K tas) τ (zipD xs ys):=fun W L σ H R r o q=>h W L σ H _ r o fun vs H1 ss e e1 o1 rv=>by
  subst e
  cases rv with
  | cons a t =>
    cases t with
    | cons b t =>
      cases t
      cases a with
      | tup h1 h2 =>
        cases b with
        | tup h3 h4 =>
          rename_i a1 x1 a2 x2
          refine ⟨a1,a2,rfl,⟨_,h1⟩,⟨_,h3⟩,q _ H1 e1 o1 fun W' H' ev n=>?_⟩
          have g1:=ev.tm _ _ _ h1
          have g3:=ev.tm _ _ _ h3
          have g2:=Dzs.old ev n h2
          have g4:=Dzs.old ev n h4
          have ll:(zipD xs ys).length=xs.length:=by unfold zipD;rw [List.length_zipWith,hl,Nat.min_self]
          refine ⟨⟨_,g1,by rw [g2.len,ll];exact Nat.le_refl _,_,g3⟩,fun i d hd=>?_⟩
          obtain ⟨x,y,ex,ey,rfl⟩:=zipD_get hd
          obtain ⟨vx,ux,zx⟩:=g2.get ex
          obtain ⟨vy,uy,zy⟩:=g4.get ey
          refine ⟨⟨_,_,vx,vy,g1,g3,ux,uy⟩,fun z H2 ⟨a,ha,e,q⟩=>?_⟩
          have:=q _ _ _ _ g1 g3 ux uy
          subst this e
          have s:=Same.new ha (.tup [vx,vy])
          have e:Ev (fun _=>False) H' (upd H' a (.tup [vx,vy])):=Ev.of s
          exact ⟨s,.tup (SqT.of upd_same) (.cons (zx.ev e fun _ _ h=>h) (.cons (zy.ev e fun _ _ h=>h) .nil))⟩
theorem Gd.name {i:Nat} {d:Dat} (e:τ.set i (.dat d)=τ':=by rfl):Gd p K (gName i) d τ τ':=fun W L σ H v Q r z q=>by
 obtain ⟨L',l,r'⟩:=r.set (v:=v) (s:=.dat d) (.inr (.inl ⟨d,rfl,z⟩)) i
 rw [e] at r'
 exact q L' _ l r'
theorem Gd.pair {i j : Nat} {x y : Dat} (e : (τ.set i (.dat x)).set j (.dat y) = τ' := by rfl) : Gd p K (gTup K 2 (gCons (gName i) (gCons (gName j) gNil))) (.tuple [x, y]) τ τ' := fun W L σ H v Q r z q => by
  cases z with
  | tup h1 h2 =>
    cases h2 with
    | cons za t =>
      cases t with
      | cons zb t =>
        cases t
        obtain ⟨L1,l1,r1⟩:=r.set (s:=.dat x) (.inr (.inl ⟨x,rfl,za⟩)) i
        obtain ⟨L2,l2,r2⟩:=r1.set (s:=.dat y) (.inr (.inl ⟨y,rfl,zb⟩)) j
        rw [e] at r2
        exact ⟨_,_,rfl,h1,rfl,_,_,rfl,_,_,rfl,rfl,q L2 _ (fun a h=>l1 a (l2 a h)) r2⟩
theorem S.asgG {g:TG} {d:Dat} (h:E1 p K te τ (.dat d)) (hg:Gd p K g d τ τ') (m:nx τ'):S p K (tAsg te g) τ nx rt:=fun W L σ H D r o q1 q2=>h W L σ H _ r o fun v H1 s e e1 o1 rv=>by
 subst e
 exact hg W L σ H1 v _ (r.ev e1 o.pw) rv fun L' σ' l r'=>q1 W L' σ' H1 _ m (e1.ofP o) o1 o1.al (fun _ h=>.inl h) (fun a h=>.inl (l a h)) r'
theorem S.letG {g:TG} {d:Dat} (h:E1 p K te τ (.dat d)) (hg:Gd p K g d τ τ') (m:S p K u τ' nx rt):S p K (tSeq (tAsg te g) u) τ nx rt:=S.seq (M:=fun x=>τ'=x) (S.asgG h hg rfl) fun x e=>e ▸ m
theorem S.for {g:TG} {tb:TS} (hw:Wk p K wi τ ds) (I:Nat->List Sl->Prop) (h0:I 0 τ) (turn:∀ i d τ1,ds[i]?=some d->I i τ1->∃ τ2,Gd p K g d τ1 τ2/\S p K tb τ2 (I (i + 1)) rt) (done:∀ τ1,I ds.length τ1->nx τ1):S p K (tFor wi g tb) τ nx rt:=fun W L σ H D r o q1 q2=>by
 refine hw W L σ H _ r o fun J H1 e1 o1 jd=>?_
 have ew:=e1.ofP o
 have hn:∀ a,H1 a=none->H a=none:=fun a ha=>ew.none o1.al ha
 refine ⟨fun i m σ' H'=>m=ds.length - i/\i<=ds.length/\∃ (W':Addr->Prop) (L':List Addr) (τ1:List Sl),I i τ1/\Ev W H1 H'/\Ok p W' H'/\(∀ a,W a->∃ ys,H' a=some ys)/\(∀ a,W' a->W a\/H1 a=none)/\(∀ a,a ∈ L'->a ∈ L\/H1 a=none)/\Rs p W' K H' L' σ' τ1,
  ⟨ds.length,by omega,Nat.zero_le _,W,L,τ,h0,Ev.refl,o1,o1.al,fun _ h=>.inl h,fun _ h=>.inl h,r.ev e1 o.pw⟩,?_⟩
 rintro i m σ' H' ⟨rfl,hi,W',L',τ1,hI,ev,ok,al,nn,ll,rs⟩
 obtain ⟨stop,each⟩:=jd W' H' ev nn
 by_cases hlt:i < ds.length
 ·have hd:ds[i]?=some ds[i]:=by simp [hlt]
  obtain ⟨go,yl⟩:=each i _ hd
  obtain ⟨τ2,hg,hb⟩:=turn i _ τ1 hd hI
  refine .inr ⟨go,fun σ'' H''=>ds.length - (i + 1)=ds.length - (i + 1)/\i + 1<=ds.length/\∃ (W':Addr->Prop) (L':List Addr) (τ1:List Sl),I (i + 1) τ1/\Ev W H1 H''/\Ok p W' H''/\(∀ a,W a->∃ ys,H'' a=some ys)/\(∀ a,W' a->W a\/H1 a=none)/\(∀ a,a ∈ L'->a ∈ L\/H1 a=none)/\Rs p W' K H'' L' σ'' τ1,fun σ'' H'' h=>⟨_,by omega,h⟩,fun x H2 y=>?_⟩
  obtain ⟨s2,z2⟩:=yl x H2 y
  have e2:Ev (Pp p) H' H2:=Ev.of s2
  have o2:=ok.same s2
  have ev2:Ev W H1 H2:=ev.trans (Ev.of s2)
  have al2:∀ a,W a->∃ ys,H2 a=some ys:=fun a ha=>let ⟨ys,h⟩:=al a ha;⟨ys,s2 _ _ h⟩
  have hn2:∀ a,H2 a=none->H1 a=none:=fun a ha=>ev2.none al2 ha
  refine hg W' L' σ' H2 x _ (rs.ev e2 ok.pw) z2 fun L3 σ3 l3 rs3=>?_
  refine hb W' L3 σ3 H2 _ rs3 o2 (fun W4 L4 σ4 H4 τ4 c e4 o4 w4 n4 l4 r4=>?_) (fun W4 H4 v s c e4 o4 w4 n4 rv=>?_)
  ·exact ⟨rfl,hlt,W4,L4,τ4,c,ev2.chain e4 nn,o4,al_chain al2 w4 e4,fun a ha=>(n4 a ha).elim (nn a) fun z=>.inr (hn2 a z),fun a ha=>(l4 a ha).elim (fun z=>ll a (l3 a z)) fun z=>.inr (hn2 a z),r4⟩
  ·have nn':∀ a,W' a->W a\/H a=none:=fun a ha=>(nn a ha).imp id (hn a)
   refine q2 W4 H4 v s c ((ew.trans ev2).chain e4 nn') o4 (al_chain al2 w4 e4) (fun a ha=>(n4 a ha).elim (nn' a) fun z=>.inr (hn a (hn2 a z))) (rv.base (fun a z=>hn a (hn2 a z)) fun a ha=>?_)
   exact (ll a (l3 a ha)).imp id (hn a)
 ·have e:i=ds.length:=by omega
  subst e
  exact .inl ⟨stop,q1 W' L' σ' H' τ1 (done τ1 hI) (ew.trans ev) ok al (fun a ha=>(nn a ha).imp id (hn a)) (fun a ha=>(ll a ha).imp id (hn a)) rs⟩
end
end D
end
section
namespace D
open PySem L2 K0
open PySem.W (Dat)
section
variable {p:Option Addr} {K:PySem.W.Frag} {W:Addr->Prop} {L:List Addr} {σ:St} {H H1 H2:Hp} {τ:List Sl} {te:TE} {v:V} {s:Sl} {nx:List Sl->Prop} {u:TS} {ds:List Dat} {wi:TI} {tt:TT}
def Gc (p:Option Addr) (K:PySem.W.Frag) (no:Nat) (g:TG) (d:Dat) (own:List Sl):Prop:=∀ (W:Addr->Prop) (L:List Addr) (ρ σ:St) (τ:List Sl) (H:Hp) (v:V) (Q:St->Hp->Prop),ρ.length=no->Rs p W K H L σ τ->Dz (fun a=>¬ W a) K H v d->(∀ ρ',ρ'.length=no->Rs p W K H L (ρ' ++ σ) (own ++ τ)->Q (ρ' ++ σ) H)->g v (ρ ++ σ) H Q
theorem Gc.name {d:Dat}:Gc p K 1 (gName 0) d [.dat d]:=fun W L ρ σ τ H v Q l r z q=>by
 match ρ,l with
 | [o],_=>exact q [some v] rfl (.dat z r)
theorem Rs.evx {X:Addr->Prop} {H':Hp} (r:Rs p W K H L σ τ) (e:Ev X H H') (nx:∀ a,¬ W a->¬ X a) (no:∀ a o,H a=some o->p ≠ some a->¬ X a):Rs p W K H' L σ τ:=by
 induction r with
 | nil=>exact .nil
 | un _ ih=>exact .un ih
 | dat h _ ih=>exact .dat (h.ev e nx) ih
 | pu h _ ih=>exact .pu h ih
 | own h1 h2 h3 h4 h5 _ ih=>exact .own h1 h2 h3 (e.keep _ _ (no _ _ h4 h2) h4) (h5.ev e nx) ih
 | dt h1 h2 h3 h4 _ ih=>exact .dt h1 h2 h3 (Own.ev _ h4 e nx fun b o hb h=>e.keep _ _ (no _ _ h (h2 b hb)) h) ih
theorem E.comp {no:Nat} {g:TG} (hw:Wk p K wi τ ds) (own:Dat->List Sl) (hg:∀ d,d ∈ ds->Gc p K no g d (own d)) (kp:Dat->Bool) (Cd:Dat->Dat->Prop) (ht:∀ d,d ∈ ds->T1 p K tt (own d ++ τ) (kp d))
  (turn:∀ d,d ∈ ds->kp d=true->E p K te (own d ++ τ) (fun s=>∃ e,s = .dat e/\Cd d e)) (hz:ds.length<=sizeLine) :
  E p K (tCompB no wi g tt te) τ (fun s=>∃ es,s = .own es/\es.length=(ds.filter kp).length/\∀ (i:Nat) (e:Dat),es[i]?=some e->∃ d,(ds.filter kp)[i]?=some d/\Cd d e):=fun W L σ H Q r o q=>by
 refine hw W L σ H _ r o fun J H1 e1 o1 jd=>?_
 intro D hD
 have nD:=o1.fresh hD
 have pD:=o1.np hD
 have r1:=r.ev e1 o.pw
 have r1':Rs p (fun b=>W b\/b=D) K H1 L σ τ:=r1.wide (fun _ h=>.inl h) fun b hb nb=>(hb.resolve_left nb) ▸ hD
 refine ⟨fun i m σ' H'=>m=ds.length - i/\i<=ds.length/\(∃ ρ,ρ.length=no/\σ'=ρ ++ σ)/\Ev (fun a=>Pp p a\/a=D) H1 H'/\(∀ q,p=some q->Pu H' q)/\∃ (vs:List V) (es:List Dat),H' D=some (.lst vs)/\Dzs (fun b=>¬ (W b\/b=D)) K H' vs es/\es.length=((ds.take i).filter kp).length/\∀ (j:Nat) (e:Dat),es[j]?=some e->∃ d,((ds.take i).filter kp)[j]?=some d/\Cd d e,
  ⟨ds.length,by omega,Nat.zero_le _,⟨List.replicate no none,by simp,rfl⟩,⟨fun b u nb h=>by rw [upd_ne (fun z=>nb (.inr z))];exact h,(Same.new hD _).tm⟩,fun q hq=>(o1.pu q hq).1.same (Same.new hD _),[],[],upd_same,.nil,by simp,fun j e h=>by simp at h⟩,?_⟩
 rintro i m σ' H' ⟨rfl,hi,⟨ρ,lρ,rfl⟩,ev,pu,vs,es,hv,zv,le,hes⟩
 have evW:Ev W H1 H':=⟨fun b u nb h=>ev.keep b u (fun z=>z.elim (fun y=>nb (o1.pw b y)) fun y=>by rw [y] at h;rw [hD] at h;cases h) h,ev.tm⟩
 have ok':Ok p (fun b=>W b\/b=D) H':=⟨fun q hq=>⟨pu q hq,.inl (o1.pw q hq)⟩,fun b hb=>by
  by_cases z:b=D
  ·subst z;exact ⟨_,hv⟩
  ·by_cases y:p=some b
   ·obtain ⟨x1,x2,h⟩:=pu b y;exact ⟨_,h⟩
   ·obtain ⟨ys,h⟩:=o1.al b (hb.resolve_right z)
    exact ⟨ys,ev.keep _ _ (fun w=>w.elim y z) h⟩⟩
 have evD:Ev (fun b=>W b\/b=D) H1 H':=evW.mono fun _ h=>.inl h
 have rs':Rs p (fun b=>W b\/b=D) K H' L σ τ:=by
  refine Rs.evx r1' ev (fun a ha z=>?_) fun a u ha np z=>?_
  ·rcases z with z | z
   ·exact ha (.inl (o1.pw a z))
   ·exact ha (.inr z)
  ·rcases z with z | z
   ·exact np z
   ·rw [z,hD] at ha;cases ha
 obtain ⟨stop,each⟩:=jd (fun b=>W b\/b=D) H' evW fun a ha=>ha.imp id fun z=>by rw [z];exact hD
 have o1f:H D=none:=o1.back e1 hD
 by_cases hlt:i < ds.length
 ·have hd : ds[i]? = some ds[i] := by simp [hlt]
  have hm:ds[i] ∈ ds:=List.getElem_mem hlt
  obtain ⟨go,yl⟩:=each i _ hd
  have tk:ds.take (i + 1)=ds.take i ++ [ds[i]]:=by rw [List.take_add_one];simp [hlt]
  refine .inr ⟨go,fun x H2 y=>?_⟩
  obtain ⟨s2,z2⟩:=yl x H2 y
  have ok2:=ok'.same s2
  refine hg _ hm _ L ρ σ τ H2 x _ lρ (rs'.ev (Ev.of s2) ok'.pw) z2 fun ρ' lρ' rs2=>?_
  refine ht _ hm _ L _ H2 _ rs2 ok2 fun b H4 eb e4 o4=>?_
  have pvH:Ev (fun a=>Pp p a\/a=D) H' H4:=(Ev.of s2).trans (e4.mono fun _ h=>.inl h)
  have hv4:H4 D=some (.lst vs):=e4.keep _ _ pD (s2 _ _ hv)
  have zv4:Dzs (fun b=>¬ (W b\/b=D)) K H4 vs es:=(zv.ev (W:=fun _=>False) (Ev.of s2) fun _ _ h=>h).ev e4 fun a ha z=>ha (.inl (o1.pw a z))
  subst eb
  by_cases hk:kp ds[i]=true
  ·rw [if_pos hk]
   refine turn _ hm hk _ L _ H4 _ (rs2.ev e4 ok2.pw) o4 fun v H5 s c e5 o5 rv=>?_
   obtain ⟨e,rfl,ce⟩:=c
   have hv5:H5 D=some (.lst vs):=e5.keep _ _ pD hv4
   have zv5:=zv4.ev e5 fun a ha z=>ha (.inl (o1.pw a z))
   have ll:vs.length<=i:=by rw [zv.len,le];exact Nat.le_trans (List.length_filter_le _ _) (by rw [List.length_take];omega)
   have evu:Ev (fun b=>b=D) H5 (upd H5 D (.lst (vs ++ [v]))):=⟨fun b o n h=>by rw [upd_ne n];exact h,Tm.lst hv5 _⟩
   refine ⟨vs,hv5,by omega,ds.length - (i + 1),by omega,rfl,hlt,⟨ρ',lρ',rfl⟩,(ev.trans (pvH.trans (e5.mono fun _ h=>.inl h))).trans (evu.mono fun _ h=>.inr h),fun q hq=>?_,vs ++ [v],es ++ [e],upd_same,(zv5.app (.cons rv .nil)).ev evu fun b hb z=>hb (.inr z),?_,fun j f hj=>?_⟩
   ·obtain ⟨x1,x2,h⟩:=(o5.pu q hq).1
    exact ⟨x1,x2,by rw [upd_ne (fun z=>pD (by rw [<- z];exact hq))];exact h⟩
   ·rw [tk,List.filter_append,List.length_append,List.length_append,le];simp [hk]
   ·rw [tk,List.filter_append]
    have h1:[ds[i]].filter kp=[ds[i]]:=by simp [hk]
    rw [h1]
    by_cases hj2:j < es.length
    ·rw [List.getElem?_append_left hj2] at hj
     rw [List.getElem?_append_left (by rw [<- le];exact hj2)]
     exact hes j f hj
    ·rw [List.getElem?_append_right (by omega)] at hj
     have ej:j - es.length=0:=by
      have:=(List.getElem?_eq_some_iff.mp hj).1
      simp at this;omega
     rw [ej] at hj
     cases hj
     rw [List.getElem?_append_right (by omega), <- le,ej]
     exact ⟨_,rfl,ce⟩
  ·rw [if_neg hk]
   refine ⟨ds.length - (i + 1),by omega,rfl,hlt,⟨ρ',lρ',rfl⟩,ev.trans pvH,fun q hq=>(o4.pu q hq).1,vs,es,hv4,zv4,?_,fun j f hj=>?_⟩
   ·rw [tk,List.filter_append,List.length_append,le];simp [hk]
   ·obtain ⟨d,h1,h2⟩:=hes j f hj
    rw [tk,List.filter_append]
    have h3:[ds[i]].filter kp=[]:=by simp [hk]
    rw [h3,List.append_nil]
    exact ⟨d,h1,h2⟩
 ·have e:i=ds.length:=by omega
  subst e
  rw [List.take_length] at le hes
  have evP:Ev (Pp p) H1 H':=⟨fun b u nb h=>ev.keep b u (fun z=>z.elim nb fun y=>by rw [y] at h;rw [hD] at h;cases h) h,ev.tm⟩
  refine .inl ⟨stop,q _ H' _ ⟨es,rfl,le,hes⟩ (e1.trans evP) (o1.ev evP pu) ⟨D,vs,rfl,o1f,hv,zv.mono fun a ha z=>ha (.inl z)⟩⟩
end
end D
end
section
namespace D
open PySem L2 K0
open PySem.W (Dat)
section
variable {p:Option Addr} {K:PySem.W.Frag} {W:Addr->Prop} {L:List Addr} {σ:St} {H H0 H1 H2:Hp} {τ τ':List Sl} {ta tb te:TE} {tas:TA} {v:V} {s:Sl} {t:TS} {ds:List Dat} {wi:TI} {tt:TT}
theorem T1.all:T1 p K tAll τ true:=fun W L σ H Q r o q=>q true H rfl Ev.refl o
theorem filter_true (ds:List Dat):ds.filter (fun _=>true)=ds:=List.filter_eq_self.mpr fun _ _=>rfl
theorem E.compC {Cd:Dat->Dat->Prop} (hw:Wk p K wi τ ds) (turn:∀ d,d ∈ ds->E p K te (.dat d :: τ) (fun s=>∃ e,s = .dat e/\Cd d e)) (hz:ds.length<=sizeLine) :
  E p K (tCompB 1 wi (gName 0) tAll te) τ (fun s=>∃ es,s = .own es/\es.length=ds.length/\∀ (i:Nat) (e:Dat),es[i]?=some e->∃ d,ds[i]?=some d/\Cd d e):=by
 have h:=E.comp (tt:=tAll) hw (fun d=>[.dat d]) (fun d _=>Gc.name) (fun _=>true) Cd (fun _ _=>T1.all) (fun d hd _=>turn d hd) hz
 rw [filter_true] at h
 exact h
theorem map_of {f:Dat->Dat} {es:List Dat} (l:es.length=ds.length) (h:∀ (i:Nat) (e:Dat),es[i]?=some e->∃ d,ds[i]?=some d/\f d=e):es=ds.map f:=by
  apply List.ext_getElem?
  intro i
  rw [List.getElem?_map]
  cases q:es[i]? with
  | none =>
    have:=List.getElem?_eq_none_iff.mp q
    rw [List.getElem?_eq_none (by omega)];rfl
  | some e=>obtain ⟨d,h1,h2⟩:=h i e q;rw [h1, <- h2];rfl
theorem E1.compM {f:Dat->Dat} (hw:Wk p K wi τ ds) (turn:∀ d,d ∈ ds->E1 p K te (.dat d :: τ) (.dat (f d))) (hz:ds.length<=sizeLine):E1 p K (tCompB 1 wi (gName 0) tAll te) τ (.own (ds.map f)):=by
 refine E.mono (E.compC (Cd:=fun d e=>f d=e) hw (fun d hd=>E.mono (turn d hd) fun s hs=>⟨_,hs.symm,rfl⟩) hz) fun s hs=>?_
 obtain ⟨es,rfl,l,h⟩:=hs
 rw [map_of l h]
theorem E1.compF {f:Dat->Dat} {kp:Dat->Bool} (hw:Wk p K wi τ ds) (ht:∀ d,d ∈ ds->T1 p K tt (.dat d :: τ) (kp d)) (turn:∀ d,d ∈ ds->kp d=true->E1 p K te (.dat d :: τ) (.dat (f d))) (hz:ds.length<=sizeLine):E1 p K (tCompB 1 wi (gName 0) tt te) τ (.own ((ds.filter kp).map f)):=by
 refine E.mono (E.comp hw (fun d=>[.dat d]) (fun d _=>Gc.name) kp (fun d e=>f d=e) ht (fun d hd hk=>E.mono (turn d hd hk) fun s hs=>⟨_,hs.symm,rfl⟩) hz) fun s hs=>?_
 obtain ⟨es,rfl,l,h⟩:=hs
 rw [map_of l h]
def p1:Dat->Dat
 | .tuple [x,_]=>x
 | d=>d
def p2:Dat->Dat
 | .tuple [_,y]=>y
 | d=>d
theorem E1.cb1 {r:List V->Hp->VK->Prop} {a c:Sl} (ha:A1 p K tas τ [a]) (hr:∀ (W:Addr->Prop) (H0 H:Hp) (x:V) (Q:VK),Ok p W H0->Ok p W H->Ev (Pp p) H0 H->Rv p W K H0 H x a->(∀ v H',Ev (Pp p) H H'->Ok p W H'->Rv p W K H0 H' v c->Q v H')->r [x] H Q):E1 p K (tCB r tas) τ c:=fun W L σ H Q rs o q =>
  ha W L σ H _ rs o fun vs H1 ss e e1 o1 rv=>by
    subst e
    cases rv with
    | cons a t =>
      cases t
      exact hr W H H1 _ _ o o1 e1 a fun v H' e2 o2 rv=>q v H' _ rfl (e1.trans e2) o2 rv
theorem E1.tupleL {ds:List Dat} (ha:A1 p K tas τ [.vw ds]):E1 p K (tCB (fun xs H Q=>∃ p ys,xs=[.ref p]/\((SqL K H p ys/\∀ l,H l=none->Q (.ref l) (upd H l (.tup ys)))\/(SqT K H p ys/\Q (.ref p) H))) tas) τ (.dat (.tuple ds)) :=
 E1.cb1 ha fun W H0 H x Q o0 o _ r q=>by
  obtain ⟨a,vs,rfl,h1,h2⟩:=r
  refine ⟨a,vs,rfl,.inl ⟨h1.sq,fun l hl=>?_⟩⟩
  have s:=Same.new hl (.tup vs)
  exact q _ _ (Ev.of s) (o.same s) (.tup (SqT.of upd_same) (h2.ev (W:=Pp p) (Ev.of s) o.nw))
theorem E1.lenL {ds:List Dat} (ha:A1 p K tas τ [.vw ds]):E1 p K (tCB (fun xs H Q=>∃ p ys,xs=[.ref p]/\(SqL K H p ys\/SqT K H p ys)/\Q (.int ys.length) H) tas) τ (.dat (.int ds.length)) :=
 E1.cb1 ha fun W H0 H x Q o0 o _ r q=>by
  obtain ⟨a,vs,rfl,h1,h2⟩:=r
  refine ⟨a,vs,rfl,.inl h1.sq,?_⟩
  rw [h2.len]
  exact q _ H Ev.refl o (.int _)
theorem E1.lenT {ds:List Dat} (ha:A1 p K tas τ [.dat (.tuple ds)]):E1 p K (tCB (fun xs H Q=>∃ p ys,xs=[.ref p]/\(SqL K H p ys\/SqT K H p ys)/\Q (.int ys.length) H) tas) τ (.dat (.int ds.length)) :=
  E1.cb1 ha fun W H0 H x Q o0 o _ r q=>by
    cases r with
    | tup h1 h2 =>
      refine ⟨_,_,rfl,.inr h1,?_⟩
      rw [h2.len]
      exact q _ H Ev.refl o (.int _)
def cutA {α:Type} (xs:List α) (lo hi:Option Int):List α:=(xs.drop (HT.sIx xs.length 0 lo)).take (HT.sIx xs.length xs.length hi - HT.sIx xs.length 0 lo)
def O1 (p:Option Addr) (K:PySem.W.Frag) (to:TO) (τ:List Sl) (i:Option Int):Prop:=∀ (W:Addr->Prop) (L:List Addr) (σ:St) (H:Hp) (Q:Option Int->Hp->Prop),Rs p W K H L σ τ->Ok p W H->(∀ H',Ev (Pp p) H H'->Ok p W H'->Q i H')->to σ H Q
theorem O1.none:O1 p K tNoPart τ Option.none:=fun W L σ H Q r o q=>q H Ev.refl o
theorem O1.some {i:Int} (h:E1 p K te τ (.dat (.int i))):O1 p K (tPart te) τ (Option.some i):=fun W L σ H Q r o q=>h W L σ H _ r o fun v H1 s e e1 o1 rv=>by
 subst e;cases rv.int_inv;exact ⟨i,rfl,q H1 e1 o1⟩
theorem cut_dz {N:Addr->Prop} {vs:List V} {ds:List Dat} {lo hi:Option Int} (h:Dzs N K H vs ds):Dzs N K H (cutV vs lo hi) (cutA ds lo hi):=by
 unfold cutV cutA
 rw [h.len]
 exact (h.drop _).take _
theorem E1.slT {ds:List Dat} {lo hi:Option Int} {tl th:TO} (h:E1 p K te τ (.dat (.tuple ds))) (hl:O1 p K tl τ lo) (hh:O1 p K th τ hi) (hn:¬ (HT.sIx ds.length 0 lo=0/\HT.sIx ds.length ds.length hi=ds.length)):E1 p K (tSl (rSlT K) te tl th) τ (.dat (.tuple (cutA ds lo hi))):=fun W L σ H Q r o q =>
  h W L σ H _ r o fun v H1 s e e1 o1 rv => by
    subst e
    refine hl W L σ H1 _ (r.ev e1 o.pw) o1 fun H2 e2 o2=>hh W L σ H2 _ ((r.ev e1 o.pw).ev e2 o.pw) o2 fun H3 e3 o3=>?_
    cases (rv.ev (e2.trans e3) o1 o) with
    | tup h1 h2 =>
      rename_i a vs
      refine ⟨a,vs,rfl,h1,by rw [h2.len];exact hn,fun l hl=>?_⟩
      have s:=Same.new hl (.tup (cutV vs lo hi))
      exact q _ _ _ rfl ((e1.trans (e2.trans e3)).trans (Ev.of s)) (o3.same s) (.tup (SqT.of upd_same) ((cut_dz h2).ev (W:=Pp p) (Ev.of s) o3.nw))
theorem E1.slL {ds:List Dat} {lo hi:Option Int} {tl th:TO} (h:E1 p K te τ (.vw ds)) (hl:O1 p K tl τ lo) (hh:O1 p K th τ hi):E1 p K (tSl (rSlL K) te tl th) τ (.own (cutA ds lo hi)):=fun W L σ H Q r o q =>
 h W L σ H _ r o fun v H1 s e e1 o1 rv=>by
  subst e
  refine hl W L σ H1 _ (r.ev e1 o.pw) o1 fun H2 e2 o2=>hh W L σ H2 _ ((r.ev e1 o.pw).ev e2 o.pw) o2 fun H3 e3 o3=>?_
  obtain ⟨a,vs,rfl,h1,h2⟩:=rv.ev (e2.trans e3) o1 o
  refine ⟨a,vs,rfl,h1.sq,fun l hl=>?_⟩
  have s:=Same.new hl (.lst (cutV vs lo hi))
  exact q _ _ _ rfl ((e1.trans (e2.trans e3)).trans (Ev.of s)) (o3.same s) ⟨l,_,rfl,o3.back (e1.trans (e2.trans e3)) hl,upd_same,(cut_dz h2).ev (W:=Pp p) (Ev.of s) o3.nw⟩
theorem E1.catT {xs ys:List Dat} (ha:E1 p K ta τ (.dat (.tuple xs))) (hb:E1 p K tb τ (.dat (.tuple ys))) (hz:xs.length + ys.length<=sizeLine):E1 p K (tOp (rCatW K) ta tb) τ (.dat (.tuple (xs ++ ys))) :=
  E1.op2 ha hb fun W H0 H x y Q o0 o r1 r2 q=>by
    cases r1 with
    | tup h1 h2 =>
      cases r2 with
      | tup h3 h4 =>
        refine ⟨_,_,_,_,rfl,rfl,h1,h3,by rw [h2.len,h4.len];exact hz,fun a H' s h=>?_⟩
        exact q _ H' (Ev.of s) (o.same s) (.tup h ((h2.app h4).ev (W:=Pp p) (Ev.of s) o.nw))
theorem E1.catL {xs ys:List Dat} (ha:E1 p K ta τ (.own xs)) (hb:E1 p K tb τ (.own ys)) (hz:xs.length + ys.length<=sizeLine):E1 p K (tOp rCat ta tb) τ (.own (xs ++ ys)):=fun W L σ H Q rs o q =>
 ha W L σ H _ rs o fun x H1 s e e1 o1 rv1=>hb W L σ H1 _ (rs.ev e1 o.pw) o1 fun y H2 t e' e2 o2 rv2=>by
  subst e e'
  obtain ⟨a,vs,rfl,h0,h1,h2⟩:=rv1.ev e2 o1 o
  obtain ⟨b,us,rfl,h3,h4,h5⟩:=rv2
  refine ⟨a,b,vs,us,rfl,rfl,h1,h4,by rw [h2.len,h5.len];exact hz,fun l hl=>?_⟩
  have s:=Same.new hl (.lst (vs ++ us))
  have e12:=e1.trans e2
  exact q _ _ _ rfl (e12.trans (Ev.of s)) (o2.same s) ⟨l,_,rfl,o2.back e12 hl,upd_same,(h2.app h5).ev (W:=Pp p) (Ev.of s) o2.nw⟩
end
def spP (K:PySem.W.Frag) (R:List Dat->Dat->Prop):Sp:=fun vs H Q _=>∃ ds d,Dzs (fun _=>True) K H vs ds/\R ds d/\∀ v H',Same H H'->Dz (fun a=>H a=none) K H' v d->Q v H'
def spU (K:PySem.W.Frag) (R:List Dat->(Dat->Prop)->Prop):Sp:=fun vs H Q _=>∃ q us ds C,vs = .ref q :: us/\Dzs (fun a=>a ≠ q) K H us ds/\Pu H q/\R ds C/\∀ v H' d,C d->Ev (fun a=>a=q) H H'->Pu H' q->Dz (fun a=>H a=none) K H' v d->Q v H'
section
variable {p:Option Addr} {K:PySem.W.Frag} {W:Addr->Prop} {L:List Addr} {σ:St} {H H0 H1 H2:Hp} {τ τ':List Sl} {ta tb te:TE} {tas:TA} {v:V} {s:Sl} {t:TS} {ds:List Dat} {E':XK}
def datsOf:List Sl->Option (List Dat)
  | []=>some []
  | s :: r=>match datOf s,datsOf r with
    | some d,some ds=>some (d :: ds)
    | _,_=>none
theorem Rvs.dz {ss:List Sl} {vs:List V} (h:Rvs p W K H0 H vs ss):∀ {ds:List Dat},datsOf ss=some ds->Dzs (fun _=>True) K H vs ds:=by
  induction h with
  | nil=>intro ds e;cases e;exact .nil
  | cons a t ih =>
    rename_i v s vs ss
    intro ds e
    unfold datsOf at e
    cases e1:datOf s with
    | none=>rw [e1] at e;simp at e
    | some d =>
      cases e2:datsOf ss with
      | none=>rw [e1,e2] at e;simp at e
      | some r =>
        rw [e1,e2] at e;cases e
        refine .cons ?_ (ih e2)
        cases s with
        | un=>cases e1
        | pu=>cases e1
        | dat d'=>cases e1;exact Dz.mono (fun _ _=>trivial) a
        | own ds=>cases e1;obtain ⟨a,vs,rfl,_,h2,h3⟩:=a;exact .lst (.inl ⟨trivial,.inl h2⟩) (h3.mono fun _ _=>trivial)
        | dt ds=>cases e1
        | vw ds=>cases e1;obtain ⟨a,vs,rfl,h2,h3⟩:=a;exact .lst (h2.elim (fun z=>.inl ⟨trivial,z.2⟩) .inr) (h3.mono fun _ _=>trivial)
theorem E1.call {R:List Dat->Dat->Prop} {ss:List Sl} {ds:List Dat} {d:Dat} (ha:A1 p K tas τ ss) (hr:R ds d) (hd:datsOf ss=some ds:=by rfl):E1 p K (tCall (spP K R) [] E' tas) τ (.dat d):=fun W L σ H Q rs o q=>ha W L σ H _ rs o fun vs H1 ss e e1 o1 rv=>by
 subst e
 rw [List.append_nil]
 exact ⟨ds,d,rv.dz hd,hr,fun v H' s z=>q v H' _ rfl (e1.trans (Ev.of s)) (o1.same s) (z.mono fun a ha=>o1.fresh ha)⟩
theorem Rvs.dzp {q:Addr} {vs:List V} {ds:List Dat} (h:Rvs (some q) W K H0 H vs (ds.map .dat)) (w:W q):Dzs (fun a=>a ≠ q) K H vs ds:=h.dats.mono fun a n z=>n (by rw [z];exact w)
theorem E.callU {R:List Dat->(Dat->Prop)->Prop} {ds:List Dat} {C:Dat->Prop} (ha:A1 p K tas τ (.pu :: ds.map .dat)) (hr:R ds C):E p K (tCall (spU K R) [] E' tas) τ (fun s=>∃ d,s = .dat d/\C d):=fun W L σ H Q rs o q=>ha W L σ H _ rs o fun vs H1 ss e e1 o1 rv=>by
  subst e
  rw [List.append_nil]
  cases rv with
  | cons a t =>
    obtain ⟨q0,rfl,rfl⟩:=a
    have w:=o1.pw q0 rfl
    refine ⟨q0,_,ds,C,rfl,Rvs.dzp t w,(o1.pu q0 rfl).1,hr,fun v H' d c ev pu z=>?_⟩
    have e2:Ev (Pp (some q0)) H1 H':=ev.mono fun a h=>by rw [h];rfl
    exact q v H' _ ⟨d,rfl,c⟩ (e1.trans e2) (o1.ev e2 fun q hq=>by cases hq;exact pu) (z.mono fun a ha=>o1.fresh ha)
def Gives (d:Dat):Sl->Prop
 | .dat e=>d=e/\noL d=true
 | .own ds=>d = .list ds/\noLs ds=true
 | _=>False
theorem rs_start {N:Addr->Prop}:∀ {vs:List V} {ds:List Dat} (n:Nat),Dzs N K H vs ds->(∀ a,N a->¬ W a)->Rs p W K H [] (vs.map some ++ List.replicate n none) (ds.map .dat ++ List.replicate n .un)
  | _,_,0,.nil,_=>.nil
  | _,_,n + 1,.nil,h=>by
    have:=rs_start n (Dzs.nil (N:=N) (K:=K) (H:=H)) h
    rw [List.replicate_succ,List.replicate_succ]
    exact .un this
  | _,_,n,.cons a r,h=>.dat (a.mono h) (rs_start n r h)
variable {P:Program} {w:World} {mg:Str->Option Value} {base:Heap}
theorem okP {x qual:Str} {st:Stmt} {f:Addr} {fd:FuncData} {N ps:List Str} {k:Nat} {R:List Dat->Dat->Prop} (F:Fun K x qual st f fd) (S0:FnScope N ps (defScope st)) (len:∀ ds d,R ds d->ds.length=ps.length)
    (body:∀ (cdv:Value) (A:Around) (outer:List Env) (s:Shared) (H:Hp) (E:XK),Room k (A.deeper (PyProof.Rows.envOfC qual (defScope st) s.heap.objs.size f cdv)) ->
      ∃ t,ZSs (cxOf CX0 P w K mg base N qual (defScope st) f cdv A outer s H E).nox (defBody st) t/\∀ ds d,R ds d->S none K t (ds.map .dat ++ List.replicate (N.length - ps.length) .un) (fun _=>d = .none) (Gives d)):FnOk P w K mg base CX0 (k + 1) f fd ps (spP K R):=by
  refine F.okZ S0 (fun vs H Q E h=>?_) (fun cdv A outer s H vs Q E hr h=>?_)
  . obtain ⟨ds,d,z,r,_⟩:=h;rw [z.len];exact len ds d r
  . obtain ⟨ds,d,z,r,q⟩:=h
    obtain ⟨t,hz,hs⟩:=body cdv A outer s H E hr
    refine ⟨t,hz,?_⟩
    have l:vs.length=ps.length:=by rw [z.len];exact len ds d r
    have r0:Rs none (fun _=>False) K H [] (L2.start N vs) (ds.map .dat ++ List.replicate (N.length - ps.length) .un):=by
      unfold L2.start
      rw [l]
      exact rs_start _ z fun a _ h=>h
    have same:∀ {H':Hp},Ev (fun _=>False) H H'->Same H H':=fun e b o h=>e.keep b o (fun z=>z) h
    refine hs ds d r (fun _=>False) [] _ H _ r0 ⟨fun q h=>(by cases h),fun a h=>False.elim h⟩ (fun W' L' σ' H' τ' e ev o' al n l r'=>?_) (fun W' H' v s e ev o' al n rv=>?_)
    . subst e;exact q .non H' (same ev) .none
    . cases s with
      | dat d' =>
        obtain ⟨rfl,nl⟩:=e
        exact q v H' (same ev) (Dz.free rv nl)
      | own es =>
        obtain ⟨rfl,nl⟩:=e
        obtain ⟨a,vs,rfl,h1,h2,h3⟩:=rv
        exact q _ H' (same ev) (.lst (.inl ⟨h1.resolve_left (fun z=>by cases z),.inl h2⟩) (h3.free nl))
      | dt es=>cases e
      | un=>cases e
      | pu=>cases e
      | vw ds=>cases e
theorem okU {x qual:Str} {st:Stmt} {f:Addr} {fd:FuncData} {N ps:List Str} {k:Nat} {R:List Dat->(Dat->Prop)->Prop} (F:Fun K x qual st f fd) (S0:FnScope N ps (defScope st)) (len:∀ ds C,R ds C->ds.length + 1=ps.length)
    (body:∀ (cdv:Value) (A:Around) (outer:List Env) (s:Shared) (H:Hp) (E:XK),Room k (A.deeper (PyProof.Rows.envOfC qual (defScope st) s.heap.objs.size f cdv)) ->
      ∃ t,ZSs (cxOf CX0 P w K mg base N qual (defScope st) f cdv A outer s H E).nox (defBody st) t/\∀ (q:Addr) ds C,R ds C->S (some q) K t (.pu :: ds.map .dat ++ List.replicate (N.length - ps.length) .un) (fun _=>False) (fun s=>∃ d,C d/\Gives d s)):FnOk P w K mg base CX0 (k + 1) f fd ps (spU K R):=by
  refine F.okZ S0 (fun vs H Q E h=>?_) (fun cdv A outer s H vs Q E hr h=>?_)
  . obtain ⟨q,us,ds,C,rfl,z,_,r,_⟩:=h;rw [List.length_cons,z.len];exact len ds C r
  . obtain ⟨q0,us,ds,C,rfl,z,pu,r,q⟩:=h
    obtain ⟨t,hz,hs⟩:=body cdv A outer s H E hr
    refine ⟨t,hz,?_⟩
    have l:(V.ref q0 :: us).length=ps.length:=by rw [List.length_cons,z.len];exact len ds C r
    have r0:Rs (some q0) (fun a=>a=q0) K H [] (L2.start N (.ref q0 :: us)) (.pu :: ds.map .dat ++ List.replicate (N.length - ps.length) .un):=by
      unfold L2.start
      rw [l]
      exact .pu rfl (rs_start _ z fun a h=>h)
    have o0:Ok (some q0) (fun a=>a=q0) H:=⟨fun q h=>(by cases h;exact ⟨pu,rfl⟩),fun a h=>by obtain ⟨x,y,e⟩:=pu;exact ⟨_,by rw [h];exact e⟩⟩
    refine hs q0 ds C r (fun a=>a=q0) [] _ H _ r0 o0 (fun W' L' σ' H' τ' e ev o' al n l r'=>e.elim) (fun W' H' v s e ev o' al n rv=>?_)
    obtain ⟨d,c,e⟩:=e
    cases s with
    | dat d' =>
      obtain ⟨rfl,nl⟩:=e
      exact q v H' _ c ev (o'.pu q0 rfl).1 (Dz.free rv nl)
    | own es =>
      obtain ⟨rfl,nl⟩:=e
      obtain ⟨a,vs,rfl,h1,h2,h3⟩:=rv
      exact q _ H' _ c ev (o'.pu q0 rfl).1 (.lst (.inl ⟨h1.resolve_left (fun z=>by cases z),.inl h2⟩) (h3.free nl))
    | dt es=>cases e
    | un=>cases e
    | pu=>cases e
    | vw ds=>cases e
end
end D
end
section
namespace L2
open PySem PySem.Spec PyProof.Rows
open PySem.W (Dat)
def tyD:Dat->String
 | .none => "NoneType"
 | .bool _ => "bool"
 | .int _ => "int"
 | .str _ => "str"
 | .tuple _ => "tuple"
 | .list _ => "list"
 | _ => "object"
def kitD (K:PySem.W.Frag) (d:Dat) (T:String):Option Bool:=match d with
 | .bytes _=>Option.none
 | d=>PySem.W.kitOne K (.type (tyD d)) (.type T)
theorem call_isiD {X:Cx} {T:String}:CallR X (.builtin "isinstance") (fun xs H Q=>∃ x d b,xs=[x,.ty T]/\Is X.K H x d/\kitD X.K d T=some b/\Q (.bl b) H):=by
  intro pins s σ H xs us Q I r h
  obtain ⟨x,d,b,rfl,z,e,q⟩:=h
  cases r with
  | cons r1 r2 =>
    cases r2 with
    | cons r3 r4 =>
      cases r4
      cases (show _=Value.type T from r3)
      have fin:∀ tk,EP X pins σ Q (.bool b) { s with toks:=tk }:=fun tk=>⟨.bl b,H,I.tok tk,rfl,q⟩
      cases z with
      | none=>exact isinst_ok I r1 .non e fin
      | bool y=>exact isinst_ok I r1 (.bl y) e fin
      | int i=>exact isinst_ok I r1 (.int i) e fin
      | str y=>exact isinst_ok I r1 (.str y) e fin
      | @tup a ys ds h1 h2 =>
        cases (show _=Value.ref a from r1)
        obtain ⟨its,_,⟨o,h3,h4,_⟩,_⟩:=I.tuple h1
        exact PySem.W.kia_one PySem.W.kitx_tuple I.kIn ⟨o,h3,h4⟩ e (fun z=>nomatch z) fin
      | @lst a ys ds h1 h2 =>
        cases (show _=Value.ref a from r1)
        obtain ⟨its,_,⟨o,n,h3,h4,_⟩,_⟩:=I.list h1
        exact PySem.W.kia_one PySem.W.kitx_list I.kIn ⟨o,h3,h4⟩ e (fun z=>nomatch z) fin
      | exc h=>cases e
end L2
namespace D
open PySem L2 K0 Num
open PySem.W (Dat)
abbrev tI (ns:List Int):Dat:=.tuple (ns.map .int)
section
variable {p:Option Addr} {K:PySem.W.Frag} {W:Addr->Prop} {L:List Addr} {σ:St} {H H0 H1:Hp} {τ:List Sl} {ta tb te:TE} {tas:TA} {v:V} {s:Sl} {t:TS} {ds:List Dat} {E':XK}
def dOf:List Sl->Option (List Dat)
  | []=>some []
  | .dat d :: r=>match dOf r with
    | some ds=>some (d :: ds)
    | none=>none
  | _=>none
theorem dOf_eq:∀ {ss:List Sl} {ds:List Dat},dOf ss=some ds->ss=ds.map .dat
  | [],ds,h=>by cases h;rfl
  | .dat d :: r,ds,h=>by
    unfold dOf at h
    cases e:dOf r with
    | none=>rw [e] at h;cases h
    | some es=>rw [e] at h;cases h;rw [dOf_eq e];rfl
  | .un :: _,_,h=>by cases h
  | .pu :: _,_,h=>by cases h
  | .own _ :: _,_,h=>by cases h
  | .dt _ :: _,_,h=>by cases h
  | .vw _ :: _,_,h=>by cases h
theorem E1.tu {ss:List Sl} {ds:List Dat} (h:A1 p K tas τ ss) (e:dOf ss=some ds) (hz:ds.length<=sizeLine):E1 p K (tTup tas) τ (.dat (.tuple ds)):=E1.tup (dOf_eq e ▸ h) hz
theorem E1.li {ss:List Sl} {ds:List Dat} (h:A1 p K tas τ ss) (e:dOf ss=some ds) (hz:ds.length<=sizeLine):E1 p K (tLst tas) τ (.own ds):=E1.lst (dOf_eq e ▸ h) hz
theorem E1.isi {T:String} {s:Sl} {d:Dat} {b:Bool} (ha:E1 p K te τ s) (hd:datOf s=some d) (hb:∀ K,kitD K d T=some b):E1 p K (tCB (fun xs H Q=>∃ x d b,xs=[x,.ty T]/\Is K H x d/\kitD K d T=some b/\Q (.bl b) H) (tCons te (tCons (tC (.ty T)) tNil))) τ (.dat (.bool b)):=fun W L σ H Q r o q =>
 ha W L σ H _ r o fun v H1 s e e1 o1 rv=>by
  subst e
  exact ⟨v,d,b,rfl,rv.isD hd,hb K,q _ H1 _ rfl e1 o1 (.bool _)⟩
theorem tup_inv {N:Addr->Prop} {ns:List Int} {v:V} (h:Dz N K H v (tI ns)):∃ a,v = .ref a/\SqT K H a (ns.map V.int):=by
 cases h with
 | tup h1 h2=>have e:=h2.inv;subst e;exact ⟨_,rfl,h1⟩
theorem told {N:Addr->Prop} {ns:List Int} {r:Addr} (h:H r=some (.tup (ns.map V.int))):Dz N K H (.ref r) (tI ns):=.tup (SqT.of h) (Dzs.ints _)
theorem E.c1 {sp:Sp} {ns:List Int} {C:Sl->Prop} (ha:A1 p K tas τ [.dat (tI ns)]) (h:∀ (W:Addr->Prop) (H:Hp) (a:Addr) (Q:VK),SqT K H a (ns.map V.int)->(∀ v H' s,C s->Same H H'->(∀ W,Rv p W K H H' v s)->Q v H')->sp [.ref a] H Q E'):E p K (tCall sp [] E' tas) τ C:=fun W L σ H Q rs o q=>ha W L σ H _ rs o fun vs H1 ss e e1 o1 rv=>by
  subst e
  cases rv with
  | cons a t =>
    cases t
    obtain ⟨r,rfl,z⟩:=tup_inv a
    exact h W H1 r _ z fun v H' s c sm z=>q v H' s c (e1.trans (Ev.of sm)) (o1.same sm) ((z W).base e1 o1)
theorem E1.cT {pre:List Int->Prop} {fn:List Int->List Int} {ns:List Int} (ha:A1 p K tas τ [.dat (tI ns)]) (hl:ns.length<=1000) (hp:pre ns):E1 p K (tCall (spT K pre fn) [] E' tas) τ (.dat (tI (fn ns))) :=
 E.c1 ha fun W H a Q z q=>⟨a,ns,rfl,z,hl,hp,fun r H' s h=>q _ H' _ rfl s fun W=>told h⟩
theorem E1.cSize {ns:List Int} (ha:A1 p K tas τ [.dat (tI ns)]) (hl:ns.length<=1000) (hs:Sm ns):E1 p K (tCall (spSize K) [] E' tas) τ (.dat (.int (sop ns ns))) :=
 E.c1 ha fun W H a Q z q=>⟨a,ns,rfl,z,hl,hs,fun H' s=>q _ H' _ rfl s fun W=>.int _⟩
theorem E.ci2 {sp:Sp} {a b:Int} {C:Sl->Prop} (ha:A1 p K tas τ [.dat (.int a),.dat (.int b)]) (h:∀ (H:Hp) (Q:VK),(∀ v H' s,C s->Same H H'->(∀ W,Rv p W K H H' v s)->Q v H')->sp [.int a,.int b] H Q E'):E p K (tCall sp [] E' tas) τ C:=fun W L σ H Q rs o q=>ha W L σ H _ rs o fun vs H1 ss e e1 o1 rv=>by
  subst e
  cases rv with
  | cons a t =>
    cases t with
    | cons b t =>
      cases t
      cases a.int_inv
      cases b.int_inv
      exact h H1 _ fun v H' s c sm z=>q v H' s c (e1.trans (Ev.of sm)) (o1.same sm) ((z W).base e1 o1)
theorem E1.cDiv {a b:Int} (ha:A1 p K tas τ [.dat (.int a),.dat (.int b)]):E1 p K (tCall spDiv [] E' tas) τ (.dat (.int ((Nat.gcd a.natAbs b.natAbs:Nat):Int))) :=
 E.ci2 ha fun H Q q=>⟨a,b,rfl,q _ H _ rfl (Same.refl _) fun W=>.int _⟩
theorem E1.cWhole {a:Int} (ha:A1 p K tas τ [.dat (.int a)]):E1 p K (tCall spWhole [] E' tas) τ (.dat (.bool true)):=fun W L σ H Q rs o q=>ha W L σ H _ rs o fun vs H1 ss e e1 o1 rv=>by
  subst e
  cases rv with
  | cons b t =>
    cases t
    cases b.int_inv
    exact ⟨a,rfl,q _ H1 _ rfl e1 o1 (.bool _)⟩
theorem sb_ev {q:Addr} {H H':Hp} (s:SB q H H') (pu:Pu H q):Ev (Pp (some q)) H H':=⟨fun b o n h=>s b o (fun z=>n (by rw [z];rfl)) h,by obtain ⟨x,y,e⟩:=pu;exact s.tm e⟩
def EI (p:Option Addr) (K:PySem.W.Frag) (te:TE) (τ:List Sl) (P:Int->Prop):Prop:=E p K te τ (fun s=>∃ i,s = .dat (.int i)/\P i)
theorem EI.of {i:Int} {P:Int->Prop} (h:E1 p K te τ (.dat (.int i))) (hp:P i):EI p K te τ P:=E.mono h fun s e=>⟨i,e.symm,hp⟩
theorem EI.mono {P P':Int->Prop} (h:EI p K te τ P) (m:∀ i,P i->P' i):EI p K te τ P':=E.mono h fun s ⟨i,e,hp⟩=>⟨i,e,m i hp⟩
theorem EI.op {g:Int->Int->Int} {P Q:Int->Prop} (ha:EI p K ta τ P) (hb:EI p K tb τ Q):EI p K (tOp (rI0 fun i j=>.int (g i j)) ta tb) τ (fun k=>∃ i j,P i/\Q j/\k=g i j) :=
 E.op2 (B:=fun _=>True) ha (fun _ _=>hb) fun s t ⟨i,e1,h1⟩ ⟨j,e2,h2⟩ W H0 H x y R o0 o r1 r2 q=>by
  subst e1 e2
  exact ⟨i,j,r1.int_inv,r2.int_inv,q _ H _ ⟨_,rfl,i,j,h1,h2,rfl⟩ Ev.refl o (.int _)⟩
theorem EI.draw {m:Int} (ha:A1 p K tas τ [.pu,.dat (.int m)]) (h0:0 < m) (h1:m < 2 ^ 200):EI p K (tCall spDraw [] E' tas) τ (fun d=>0<=d/\d < m):=fun W L σ H Q rs o q=>ha W L σ H _ rs o fun vs H1 ss e e1 o1 rv=>by
  subst e
  cases rv with
  | cons a t =>
    cases t with
    | cons b t =>
      cases t
      obtain ⟨q0,rfl,rfl⟩:=a
      cases b.int_inv
      have pu:=(o1.pu q0 rfl).1
      refine ⟨q0,m,rfl,pu,h0,h1,fun d H' d0 d1 sb pu'=>?_⟩
      have ev:=sb_ev sb pu
      exact q _ H' _ ⟨d,rfl,d0,d1⟩ (e1.trans ev) (o1.ev ev fun q hq=>by cases hq;exact pu') (.int _)
def ER (p:Option Addr) (K:PySem.W.Frag) (te:TE) (τ:List Sl) (P:List Int->Prop):Prop:=E p K te τ (fun s=>∃ ns,s = .dat (tI ns)/\P ns)
end
theorem Bt.add' {a b:Int} {x y:Nat} (ha:Bt a x) (hb:Bt b y):Bt (a + b) (max x y + 1):=(ha.up (Nat.le_max_left _ _)).add (hb.up (Nat.le_max_right _ _))
theorem Bt.neg' {a:Int} {x:Nat} (ha:Bt a x):Bt (-a) x:=by unfold Bt at *;rw [Int.natAbs_neg];exact ha
section
variable {p:Option Addr} {K:PySem.W.Frag} {τ:List Sl} {te:TE} {ds:List Dat}
theorem lsz {α:Type} {l:List α} {n:Nat} (h:l.length=n) (hn:n<=sizeLine):l.length<=sizeLine:=h ▸ hn
theorem z1:1<=sizeLine:=by decide
theorem z2:2<=sizeLine:=by decide
theorem z3:3<=sizeLine:=by decide
theorem z4:4<=sizeLine:=by decide
theorem z0:0<=sizeLine:=by decide
end
end D
end
namespace D
open PySem L2 K0 Num
open PySem.W (Dat)
section
def tw0 (x y z a b c e:Int):List Int:=[a * sop [x,y,z] [x,y,z],sop [x,y,z] [b,c,e] * x,sop [x,y,z] [b,c,e] * y,sop [x,y,z] [b,c,e] * z]
theorem sm_bd' {k:Nat} {ns:List Int} (h:Bd (2 ^ k) ns) (hk:k < 9000:=by decide):Sm ns:=sm_bd h (Nat.pow_lt_pow_right (by decide) hk)
theorem bd_up {k l:Nat} {ns:List Int} (h:Bd (2 ^ k) ns) (hk:k<=l:=by decide):Bd (2 ^ l) ns:=bd_mono h (Nat.pow_le_pow_right (by decide) hk)
theorem cpow10 {k:Int} (h0:0<=k) (h1:k<=1000000):CPow 10 k:=⟨h0,h1,by decide⟩
section
variable {p:Option Addr} {K:PySem.W.Frag} {τ:List Sl} {ta tb:TE}
end
theorem T1.eqn {p:Option Addr} {K:PySem.W.Frag} {τ:List Sl} {tt:TT} {b c:Bool} (h:T1 p K tt τ b) (e:b=c):T1 p K tt τ c:=e ▸ h
section
variable {p:Option Addr} {K:PySem.W.Frag} {τ:List Sl} {tt:TT}
theorem T1.notT (h:T1 p K tt τ true):T1 p K (tNot tt) τ false:=T1.not h
theorem T1.notF (h:T1 p K tt τ false):T1 p K (tNot tt) τ true:=T1.not h
theorem T1.neT {p:Option Addr} {K:PySem.W.Frag} {τ:List Sl} {ta tb:TE} {i j:Int} (ha:E1 p K ta τ (.dat (.int i))) (hb:E1 p K tb τ (.dat (.int j))) (e:i=j):T1 p K (tTest (tOp rNe ta tb)) τ false:=(T1.test (E1.ne ha hb)).eqn (by rw [decide_eq_true e];rfl)
theorem T1.neDT {p:Option Addr} {K:PySem.W.Frag} {τ:List Sl} {ta tb:TE} {a b:Sl} {d:Dat} (ha:E1 p K ta τ a) (hb:E1 p K tb τ b) (ea:datOf a=some d) (eb:datOf b=some d) (k1:PySem.W.kqdOk 9 d=true):T1 p K (tTest (tOp (rEqD K true) ta tb)) τ false:=(T1.test (E1.neD ha hb ea eb k1 k1)).eqn (by rw [deq_self];rfl)
end
theorem tI_inj {ns ms:List Int} (h:tI ns=tI ms):ns=ms:=map_int_inj (by injection h)
end
section
section
variable {p:Option Addr} {K:PySem.W.Frag} {W:Addr->Prop} {L:List Addr} {σ:St} {H H0 H1 H2:Hp} {τ τ':List Sl} {ta tb:TE} {tas:TA} {v:V} {s:Sl} {nx:List Sl->Prop} {rt:Sl->Prop} {t u:TS} {ds:List Dat} {E':XK}
theorem T.cmpI {g:Int->Int->Bool} {P Q:Int->Prop} (ha:EI p K ta τ P) (hb:EI p K tb τ Q):T p K (tTest (tOp (rI0 fun i j=>.bl (g i j)) ta tb)) τ (fun b=>∃ i j,P i/\Q j/\b=g i j):=fun W L σ H R rs o q =>
 ha W L σ H _ rs o fun x H1 s ⟨i,e,h1⟩ e1 o1 rv1=>hb W L σ H1 _ (rs.ev e1 o.pw) o1 fun y H2 t ⟨j,e',h2⟩ e2 o2 rv2=>by
  subst e e'
  cases rv1.int_inv;cases rv2.int_inv
  exact ⟨i,j,rfl,rfl,_,rfl,q _ H2 ⟨i,j,h1,h2,rfl⟩ (e1.trans e2) o2⟩
theorem T.eqI {P Q:Int->Prop} (ha:EI p K ta τ P) (hb:EI p K tb τ Q):T p K (tTest (tOp rEq ta tb)) τ (fun b=>∃ i j,P i/\Q j/\b=decide (i=j)):=fun W L σ H R rs o q =>
 ha W L σ H _ rs o fun x H1 s ⟨i,e,h1⟩ e1 o1 rv1=>hb W L σ H1 _ (rs.ev e1 o.pw) o1 fun y H2 t ⟨j,e',h2⟩ e2 o2 rv2=>by
  subst e e'
  cases rv1.int_inv;cases rv2.int_inv
  refine ⟨rfl,_,rfl,q _ H2 ⟨i,j,h1,h2,?_⟩ (e1.trans e2) o2⟩
  rw [decide_eq_decide];exact ⟨fun h=>by injection h,fun h=>by rw [h]⟩
theorem EI.lit {i:Int}:EI p K (tC (.int i)) τ (fun k=>k=i):=EI.of E1.int rfl
theorem E.callC {R:List Dat->Dat->Prop} {C:List Sl->Prop} {d:Dat} (ha:A p K tas τ C) (hr:∀ ss,C ss->∃ ds,datsOf ss=some ds/\R ds d):E1 p K (tCall (spP K R) [] E' tas) τ (.dat d):=fun W L σ H Q rs o q=>ha W L σ H _ rs o fun vs H1 ss c e1 o1 rv=>by
 obtain ⟨ds,hd,hr⟩:=hr ss c
 rw [List.append_nil]
 exact ⟨ds,d,rv.dz hd,hr,fun v H' s z=>q v H' _ rfl (e1.trans (Ev.of s)) (o1.same s) (z.mono fun a ha=>o1.fresh ha)⟩
def forget:Sl->Sl
 | .pu=>.un
 | s=>s
theorem Rs.forget {q:Addr} (r:Rs (some q) W K H L σ τ):Rs none W K H L σ (τ.map forget):=by
 induction r with
 | nil=>exact .nil
 | un _ ih=>exact .un ih
 | dat h _ ih=>exact .dat h ih
 | pu h _ ih=>exact .un ih
 | own h1 h2 h3 h4 h5 _ ih=>exact .own h1 (fun z=>by cases z) h3 h4 h5 ih
 | dt h1 h2 h3 h4 _ ih=>exact .dt h1 (fun b hb z=>by cases z) h3 h4 ih
theorem Rs.learn {q:Addr} {i:Nat} (r:Rs none W K H L σ τ) (nq:H q=none) (hw:∀ a,W a->∃ ys,H a=some ys):Rs (some q) (fun a=>W a\/a=q) K H L σ τ:=by
  have n:∀ a,(W a\/a=q)->¬ W a->H a=Option.none:=fun a h z=>(h.resolve_left z) ▸ nq
  induction r with
  | nil=>exact .nil
  | un _ ih=>exact .un ih
  | dat h _ ih =>
    refine .dat ?_ ih
    cases Dzs.wide (W':=fun a=>W a\/a=q) (.cons h .nil) n with
    | cons a _=>exact a
  | pu h _ ih=>cases h
  | own h1 h2 h3 h4 h5 _ ih=>exact .own (.inl h1) (fun z=>by cases z;rw [nq] at h4;cases h4) h3 h4 (Dzs.wide h5 n) ih
  | dt h1 h2 h3 h4 _ ih=>exact .dt (fun b hb=>.inl (h1 b hb)) (fun b hb z=>by cases z;obtain ⟨o,ho⟩:=Own.al _ h4 _ hb;rw [nq] at ho;cases ho) h3 (Own.wide _ h4 fun a o na ha wa=>by rw [n a wa na] at ha;cases ha) ih
theorem S.withPurse {sp:Sp} {ss:List Sl} {i:Nat} (ha:A1 none K tas τ ss) (hs:∀ (W:Addr->Prop) (H0 H:Hp) (vs:List V) (Q:VK),Rvs none W K H0 H vs ss->(∀ (q:Addr) (H':Hp),H q=none->Same H H'->Pu H' q->Q (.ref q) H')->sp (vs ++ []) H Q E')
  (m:∀ q,S (some q) K u (τ.set i .pu) (fun τ'=>nx (τ'.map forget)) rt) (hrt:∀ s,rt s->∃ d,s = .dat d):S none K (tSeq (tAsg (tCall sp [] E' tas) (gName i)) u) τ nx rt:=fun W L σ H D r o q1 q2 =>
 ha W L σ H _ r o fun vs H1 ss e e1 o1 rv=>by
  subst e
  refine hs W H H1 vs _ rv fun q H2 hq s2 pu=>?_
  have r1:=r.ev e1 o.pw
  have e2:Ev (Pp (some q)) H1 H2:=Ev.of s2
  have hq0:H q=none:=o1.back e1 hq
  have r2:Rs (some q) (fun a=>W a\/a=q) K H2 L σ τ:=(Rs.learn (i:=0) r1 hq o1.al).ev e2 fun a ha=>by cases ha;exact .inr rfl
  obtain ⟨L',l,r3⟩:=r2.set (v:=.ref q) (s:=.pu) (.inr (.inr ⟨rfl,q,rfl,rfl⟩)) i
  have o2:Ok (some q) (fun a=>W a\/a=q) H2:=⟨fun a ha=>by cases ha;exact ⟨pu,.inr rfl⟩,fun a ha=>by
   rcases ha with ha | rfl
   ·obtain ⟨ys,h⟩:=o1.al a ha;exact ⟨ys,s2 _ _ h⟩
   ·obtain ⟨x,y,h⟩:=pu;exact ⟨_,h⟩⟩
  have e02:Ev W H H2:=(e1.ofP o).trans (Ev.of s2)
  have n1:∀ a,(W a\/a=q)->W a\/H a=none:=fun a ha=>ha.imp id fun z=>by rw [z];exact hq0
  have al2:∀ a,W a->∃ ys,H2 a=some ys:=fun a ha=>let ⟨ys,h⟩:=o1.al a ha;⟨ys,s2 _ _ h⟩
  have hn:∀ a,H2 a=none->H a=none:=fun a ha=>e02.none al2 ha
  refine m q _ L' _ H2 _ r3 o2 (fun W4 L4 σ4 H4 τ4 c e4 o4 w4 n4 l4 r4=>?_) (fun W4 H4 v s c e4 o4 w4 n4 rv=>?_)
  ·exact q1 W4 L4 σ4 H4 _ c (e02.chain e4 n1) ⟨fun q h=>(by cases h),o4.al⟩ (fun a ha=>w4 a (.inl ha)) (fun a ha=>(n4 a ha).elim (n1 a) fun z=>.inr (hn a z)) (fun a ha=>(l4 a ha).elim (fun z=>.inl (l a z)) fun z=>.inr (hn a z)) r4.forget
  ·obtain ⟨d,rfl⟩:=hrt s c
   exact q2 W4 H4 v _ c (e02.chain e4 n1) ⟨fun q h=>(by cases h),o4.al⟩ (fun a ha=>w4 a (.inl ha)) (fun a ha=>(n4 a ha).elim (n1 a) fun z=>.inr (hn a z)) rv
theorem S.purse2 {i:Nat} {c:Int} (ha:A1 none K tas τ [.dat (.int c)]) (m:∀ q,S (some q) K u (τ.set i .pu) (fun τ'=>nx (τ'.map forget)) rt) (hrt:∀ s,rt s->∃ d,s = .dat d):S none K (tSeq (tAsg (tCall spPurse2 [] E' tas) (gName i)) u) τ nx rt :=
  S.withPurse ha (fun W H0 H vs Q rv q=>by
    cases rv with
    | cons a t =>
      cases t
      cases a.int_inv
      exact ⟨c,rfl,q⟩) m hrt
variable {P:Program} {w:World} {mg:Str->Option Value} {base:Heap}
theorem okL {x qual:Str} {st:Stmt} {f:Addr} {fd:FuncData} {N ps:List Str} {k:Nat} (F:Fun K x qual st f fd) (S0:FnScope N ps (defScope st)) (len:ps.length=1)
  (body:∀ (cdv:Value) (A:Around) (outer:List Env) (s:Shared) (H:Hp) (E:XK),Room k (A.deeper (PyProof.Rows.envOfC qual (defScope st) s.heap.objs.size f cdv)) ->
   ∃ t,ZSs (cxOf CX0 P w K mg base N qual (defScope st) f cdv A outer s H E).nox (defBody st) t/\∀ ns:List Int,ns.length<=63->(∀ v ∈ ns,Builtin.Int.intBits v<=2 ^ 20)->S none K t (.dat (.list (ns.map .int)) :: List.replicate (N.length - 1) .un) (fun _=>False) (fun s=>s = .dat (.bool true))):FnOk P w K mg base CX0 (k + 1) f fd ps (spLaw K):=by
 refine F.okZ S0 (fun vs H Q E h=>?_) (fun cdv A outer s H vs Q E hr h=>?_)
 ·obtain ⟨a,ns,rfl,_⟩:=h;rw [len];rfl
 ·obtain ⟨a,ns,rfl,hS,hl,hb,q⟩:=h
  obtain ⟨t,hz,hs⟩:=body cdv A outer s H E hr
  refine ⟨t,hz,?_⟩
  have z:Dzs (fun _=>True) K H [.ref a] [.list (ns.map .int)]:=.cons (.lst (by
   rcases hS with h | h
   ·exact .inl ⟨trivial,h⟩
   ·exact .inr (.inr h)) (Dzs.ints _)) .nil
  have r0:Rs none (fun _=>False) K H [] (L2.start N [.ref a]) (.dat (.list (ns.map .int)) :: List.replicate (N.length - 1) .un):=by
   unfold L2.start
   exact rs_start _ z fun a _ h=>h
  refine hs ns hl hb (fun _=>False) [] _ H _ r0 ⟨fun q h=>(by cases h),fun a h=>False.elim h⟩ (fun W' L' σ' H' τ' e ev o' al n l r'=>e.elim) (fun W' H' v s e ev o' al n rv=>?_)
  subst e
  cases (Rv.bl_inv (p:=none) (H0:=H) rv)
  exact q H'
end
end
end D
section
namespace D
open PySem L2 K0
open PySem.W (Dat)
section
variable {p:Option Addr} {K:PySem.W.Frag} {W:Addr->Prop} {L:List Addr} {σ:St} {H H1 H2:Hp} {τ:List Sl} {te:TE} {tas:TA} {v:V} {s:Sl} {u:TS} {ds:List Dat} {wi:TI}
theorem E.compX {no:Nat} {g:TG} (hw:Wk p K wi τ ds) (own:Dat->List Sl) (hg:∀ d,d ∈ ds->Gc p K no g d (own d)) (Cd:Nat->Dat->Prop)
  (turn:∀ (i:Nat) d,ds[i]?=some d->E p K te (own d ++ τ) (fun s=>∃ e,s = .dat e/\Cd i e)) (hz:ds.length<=sizeLine) :
  E p K (tCompB no wi g tAll te) τ (fun s=>∃ es,s = .own es/\es.length=ds.length/\∀ (i:Nat) (e:Dat),es[i]?=some e->Cd i e):=fun W L σ H Q r o q=>by
 refine hw W L σ H _ r o fun J H1 e1 o1 jd=>?_
 intro D hD
 have nD:=o1.fresh hD
 have pD:=o1.np hD
 have r1:=r.ev e1 o.pw
 have r1':Rs p (fun b=>W b\/b=D) K H1 L σ τ:=r1.wide (fun _ h=>.inl h) fun b hb nb=>(hb.resolve_left nb) ▸ hD
 refine ⟨fun i m σ' H'=>m=ds.length - i/\i<=ds.length/\(∃ ρ,ρ.length=no/\σ'=ρ ++ σ)/\Ev (fun a=>Pp p a\/a=D) H1 H'/\(∀ q,p=some q->Pu H' q)/\∃ (vs:List V) (es:List Dat),H' D=some (.lst vs)/\Dzs (fun b=>¬ (W b\/b=D)) K H' vs es/\es.length=i/\∀ (j:Nat) (e:Dat),es[j]?=some e->Cd j e,
  ⟨ds.length,by omega,Nat.zero_le _,⟨List.replicate no none,by simp,rfl⟩,⟨fun b u nb h=>by rw [upd_ne (fun z=>nb (.inr z))];exact h,(Same.new hD _).tm⟩,fun q hq=>(o1.pu q hq).1.same (Same.new hD _),[],[],upd_same,.nil,rfl,fun j e h=>by simp at h⟩,?_⟩
 rintro i m σ' H' ⟨rfl,hi,⟨ρ,lρ,rfl⟩,ev,pu,vs,es,hv,zv,le,hes⟩
 have evW:Ev W H1 H':=⟨fun b u nb h=>ev.keep b u (fun z=>z.elim (fun y=>nb (o1.pw b y)) fun y=>by rw [y] at h;rw [hD] at h;cases h) h,ev.tm⟩
 have ok':Ok p (fun b=>W b\/b=D) H':=⟨fun q hq=>⟨pu q hq,.inl (o1.pw q hq)⟩,fun b hb=>by
  by_cases z:b=D
  ·subst z;exact ⟨_,hv⟩
  ·by_cases y:p=some b
   ·obtain ⟨x1,x2,h⟩:=pu b y;exact ⟨_,h⟩
   ·obtain ⟨ys,h⟩:=o1.al b (hb.resolve_right z)
    exact ⟨ys,ev.keep _ _ (fun w=>w.elim y z) h⟩⟩
 have evD:Ev (fun b=>W b\/b=D) H1 H':=evW.mono fun _ h=>.inl h
 have rs':Rs p (fun b=>W b\/b=D) K H' L σ τ:=by
  refine Rs.evx r1' ev (fun a ha z=>?_) fun a u ha np z=>?_
  ·rcases z with z | z
   ·exact ha (.inl (o1.pw a z))
   ·exact ha (.inr z)
  ·rcases z with z | z
   ·exact np z
   ·rw [z,hD] at ha;cases ha
 obtain ⟨stop,each⟩:=jd (fun b=>W b\/b=D) H' evW fun a ha=>ha.imp id fun z=>by rw [z];exact hD
 have o1f:H D=none:=o1.back e1 hD
 by_cases hlt:i < ds.length
 ·have hd:ds[i]?=some ds[i]:=by simp [hlt]
  have hm:ds[i] ∈ ds:=List.getElem_mem hlt
  obtain ⟨go,yl⟩:=each i _ hd
  refine .inr ⟨go,fun x H2 y=>?_⟩
  obtain ⟨s2,z2⟩:=yl x H2 y
  have ok2:=ok'.same s2
  refine hg _ hm _ L ρ σ τ H2 x _ lρ (rs'.ev (Ev.of s2) ok'.pw) z2 fun ρ' lρ' rs2=>?_
  have hv4:H2 D=some (.lst vs):=s2 _ _ hv
  have zv4:Dzs (fun b=>¬ (W b\/b=D)) K H2 vs es:=zv.ev (W:=fun _=>False) (Ev.of s2) fun _ _ h=>h
  show tAll _ _ _
  unfold tAll
  dsimp only
  rw [if_pos rfl]
  refine turn i _ hd _ L _ H2 _ rs2 ok2 fun v H5 s c e5 o5 rv=>?_
  obtain ⟨e,rfl,ce⟩:=c
  have hv5:H5 D=some (.lst vs):=e5.keep _ _ pD hv4
  have zv5:=zv4.ev e5 fun a ha z=>ha (.inl (o1.pw a z))
  have ll:vs.length<=i:=by rw [zv.len,le];exact Nat.le_refl _
  have evu:Ev (fun b=>b=D) H5 (upd H5 D (.lst (vs ++ [v]))):=⟨fun b o n h=>by rw [upd_ne n];exact h,Tm.lst hv5 _⟩
  have pvH:Ev (fun a=>Pp p a\/a=D) H' H2:=Ev.of s2
  refine ⟨vs,hv5,by omega,ds.length - (i + 1),by omega,rfl,hlt,⟨ρ',lρ',rfl⟩,(ev.trans (pvH.trans (e5.mono fun _ h=>.inl h))).trans (evu.mono fun _ h=>.inr h),fun q hq=>?_,vs ++ [v],es ++ [e],upd_same,(zv5.app (.cons rv .nil)).ev evu fun b hb z=>hb (.inr z),?_,fun j f hj=>?_⟩
  ·obtain ⟨x1,x2,h⟩:=(o5.pu q hq).1
   exact ⟨x1,x2,by rw [upd_ne (fun z=>pD (by rw [<- z];exact hq))];exact h⟩
  ·rw [List.length_append,le];rfl
  ·by_cases hj2:j < es.length
   ·rw [List.getElem?_append_left hj2] at hj
    exact hes j f hj
   ·rw [List.getElem?_append_right (by omega)] at hj
    have ej:j - es.length=0:=by
     have:=(List.getElem?_eq_some_iff.mp hj).1
     simp at this;omega
    rw [ej] at hj
    cases hj
    have:j=i:=by omega
    rw [this];exact ce
 ·have e:i=ds.length:=by omega
  subst e
  have evP:Ev (Pp p) H1 H':=⟨fun b u nb h=>ev.keep b u (fun z=>z.elim nb fun y=>by rw [y] at h;rw [hD] at h;cases h) h,ev.tm⟩
  refine .inl ⟨stop,q _ H' _ ⟨es,rfl,le,hes⟩ (e1.trans evP) (o1.ev evP pu) ⟨D,vs,rfl,o1f,hv,zv.mono fun a ha z=>ha (.inl z)⟩⟩
theorem ext_of {es fs:List Dat} (l:es.length=fs.length) (h:∀ (i:Nat) (e:Dat),es[i]?=some e->fs[i]?=some e):es=fs:=by
  apply List.ext_getElem?
  intro i
  cases q:es[i]? with
  | none =>
    have:=List.getElem?_eq_none_iff.mp q
    rw [List.getElem?_eq_none (by omega)]
  | some e=>rw [h i e q]
theorem E1.compX {no:Nat} {g:TG} (fs:List Dat) (hw:Wk p K wi τ ds) (own:Dat->List Sl) (hg:∀ d,d ∈ ds->Gc p K no g d (own d)) (hl:fs.length=ds.length) (turn:∀ (i:Nat) d f,ds[i]?=some d->fs[i]?=some f->E1 p K te (own d ++ τ) (.dat f)) (hz:ds.length<=sizeLine):E1 p K (tCompB no wi g tAll te) τ (.own fs):=by
 refine E.mono (E.compX hw own hg (fun i e=>fs[i]?=some e) (fun i d hd=>?_) hz) fun s ⟨es,e,l,h⟩=>?_
 ·have hi:i < fs.length:=by rw [hl];exact (List.getElem?_eq_some_iff.mp hd).1
  have hf:fs[i]?=some fs[i]:=by simp [hi]
  exact E.mono (turn i d _ hd hf) fun s hs=>⟨_,hs.symm,hf⟩
 ·rw [e,ext_of (by rw [l,hl]) h]
theorem get2' {α:Type} {x1 x2 x:α} {i:Nat} (h:[x1,x2][i]?=some x):(i=0/\x1=x)\/(i=1/\x2=x):=by
 match i,h with
 | 0,h=>exact .inl ⟨rfl,by simpa using h⟩
 | 1,h=>exact .inr ⟨rfl,by simpa using h⟩
theorem E1.comp3 {d1 d2 d3 e1 e2 e3:Dat} (hw:Wk p K wi τ [d1,d2,d3]) (h1:E1 p K te (.dat d1 :: τ) (.dat e1)) (h2:E1 p K te (.dat d2 :: τ) (.dat e2)) (h3:E1 p K te (.dat d3 :: τ) (.dat e3)):E1 p K (tCompB 1 wi (gName 0) tAll te) τ (.own [e1,e2,e3]) :=
 E1.compX [e1,e2,e3] hw (fun d=>[.dat d]) (fun d _=>Gc.name) rfl (fun i d f hd hf=>by
  rcases get3 hd with ⟨rfl,rfl⟩ | ⟨rfl,rfl⟩ | ⟨rfl,rfl⟩
  ·cases hf;exact h1
  ·cases hf;exact h2
  ·cases hf;exact h3) (by show 3<=sizeLine;decide)
theorem rangeD_3:rangeD 0 3=[.int 0,.int 1,.int 2]:=rfl
theorem Wk.r3 (h:A1 p K tas τ [.dat (.int 3)]):Wk p K (iRng1 tas) τ [.int 0,.int 1,.int 2]:=rangeD_3 ▸ Wk.rng h rfl
end
end D
end
namespace D
open PySem L2 K0 Num
open PySem.W (Dat)
section
def qf (x:Rat):List Int:=[x.num,(x.den:Int)]
theorem qf_val (x:Rat):qv x.num x.den=x:=by
 unfold qv
 rw [<- Rat.divInt_eq_div,Rat.num_divInt_den]
theorem bt_some (n:Int):∃ k,Bt n k:=⟨n.natAbs,by unfold Bt;exact Nat.le_of_lt Nat.lt_two_pow_self⟩
theorem lo_qf (x:Rat) {k:Nat} (h1:Bt x.num k) (h2:Bt (x.den:Int) k):Lo k x.num x.den x:=⟨by have:=x.den_pos;omega,by rw [Int.natAbs_natCast];exact x.reduced,h1,h2,qf_val x⟩
theorem lo_qf' (x:Rat):∃ k,Lo k x.num x.den x:=by
 obtain ⟨k1,h1⟩:=bt_some x.num
 obtain ⟨k2,h2⟩:=bt_some (x.den:Int)
 exact ⟨max k1 k2,lo_qf x (h1.up (Nat.le_max_left _ _)) (h2.up (Nat.le_max_right _ _))⟩
theorem fr_qf {t b:Int} (hb:0 < b):fr t b=qf (qv t b):=by
 obtain ⟨t',b',e⟩:=fr_two t b
 obtain ⟨k1,h1⟩:=bt_some t
 obtain ⟨k2,h2⟩:=bt_some b
 have l:=Lo.of hb (h1.up (Nat.le_max_left k1 k2)) (h2.up (Nat.le_max_right k1 k2)) e rfl
 obtain ⟨k,l2⟩:=lo_qf' (qv t b)
 rw [e]
 exact l.eq l2
theorem lo_is {k:Nat} {t b:Int} {x:Rat} (h:Lo k t b x):[t,b]=qf x:=by
 obtain ⟨k',l⟩:=lo_qf' x
 exact h.eq l
def ptQ (x y z:Rat):Dat:=ptD (qf x) (qf y) (qf z)
theorem lo_over {c:Nat} {T C:Int} {x:Rat} (h0:0 < C) (hC:Bt C c) (hT:Bt T c) (e:qv T C=x):Lo c x.num x.den x:=by
 obtain ⟨t,b,e2⟩:=fr_two T C
 have l:=Lo.of h0 hT hC e2 e
 have:=lo_is l
 injection this with h1 h2
 injection h2 with h2 _
 rw [h1,h2] at l;exact l
section
variable {K:PySem.W.Frag} {W:Addr->Prop} {H:Hp}
theorem pt_dz {N:Addr->Prop} {f1 f2 f3:List Int} {r:Addr} (h:Pt H r f1 f2 f3):Dz N K H (.ref r) (ptD f1 f2 f3):=by
 obtain ⟨p1,p2,p3,h0,h1,h2,h3⟩:=h.ex
 exact .tup (SqT.of h0) (.cons (told h1) (.cons (told h2) (.cons (told h3) .nil)))
end
theorem kq_ptQ {x y z:Rat}:PySem.W.kqdOk 9 (ptQ x y z)=true:=kqd_pt
def sa (x y z a b c e:Int):Option (List Int):=if cr x y z b c e=[0,0,0] then some (if x=0 then (if y=0 then ps e (a * z) else ps c (a * y)) else ps b (a * x)) else none
end
section
def isNo:Dat->Bool
 | .none=>true
 | _=>false
section
variable {p:Option Addr} {K:PySem.W.Frag} {τ:List Sl} {ta tb:TE}
theorem E1.isNo {d:Dat} (ha:E1 p K ta τ (.dat d)) (hb:E1 p K tb τ (.dat .none)):E1 p K (tOp (fun x y H Q=>y = .non/\Q (.bl (decide (x = .non))) H) ta tb) τ (.dat (.bool (D.isNo d))) :=
 E1.op2 ha hb fun W H0 H x y Q o0 o r1 r2 q=>by
  refine ⟨r2.non_inv,q _ H Ev.refl o ?_⟩
  cases r1 <;> exact .bool _
end
end
section
def SmD:Nat->Dat->Prop
  | 0,_=>False
  | n + 1,d=>match d with
    | .int _=>True
    | .none=>True
    | .tuple ds=>ds.length<=1000/\∀ e ∈ ds,SmD n e
    | _=>False
def RSm (n:Nat):List Dat->Dat->Prop:=fun ds d=>∃ x,ds=[x,x]/\SmD n x/\d = .bool true
theorem SmD.ints {n:Nat} {ns:List Int} (h:ns.length<=1000):SmD (n + 2) (tI ns):=⟨by rw [List.length_map];exact h,fun e he=>by
 obtain ⟨m,_,rfl⟩:=List.mem_map.mp he
 trivial⟩
section
variable {p:Option Addr} {K:PySem.W.Frag} {τ:List Sl} {ta tb te:TE}
theorem E1.eqB {a b:Bool} (ha:E1 p K ta τ (.dat (.bool a))) (hb:E1 p K tb τ (.dat (.bool b))):E1 p K (tOp rEq ta tb) τ (.dat (.bool (decide (a=b)))):=E1.op2 ha hb fun W H0 H u v Q o0 o r1 r2 q=>by
 cases r1.bl_inv;cases r2.bl_inv
 refine ⟨rfl,q _ H Ev.refl o ?_⟩
 have e:decide (V.bl a=V.bl b)=decide (a=b):=by rw [decide_eq_decide];exact ⟨fun h=>by injection h,fun h=>by rw [h]⟩
 rw [e];exact .bool _
theorem E1.neB {a b:Bool} (ha:E1 p K ta τ (.dat (.bool a))) (hb:E1 p K tb τ (.dat (.bool b))):E1 p K (tOp rNe ta tb) τ (.dat (.bool (!decide (a=b)))):=E1.op2 ha hb fun W H0 H u v Q o0 o r1 r2 q=>by
 cases r1.bl_inv;cases r2.bl_inv
 refine ⟨rfl,q _ H Ev.refl o ?_⟩
 have e:decide (V.bl a=V.bl b)=decide (a=b):=by rw [decide_eq_decide];exact ⟨fun h=>by injection h,fun h=>by rw [h]⟩
 rw [e];exact .bool _
theorem E1.eqNN (ha:E1 p K ta τ (.dat .none)) (hb:E1 p K tb τ (.dat .none)):E1 p K (tOp rEq ta tb) τ (.dat (.bool true)):=E1.op2 ha hb fun W H0 H u v Q o0 o r1 r2 q=>by
 cases r1.non_inv;cases r2.non_inv
 refine ⟨rfl,q _ H Ev.refl o ?_⟩
 rw [decide_eq_true rfl];exact .bool _
theorem E1.isi' {T:String} {d:Dat} (b':Bool) (ha:E1 p K te τ (.dat d)) (hb:∀ K,kitD K d T=some b'):E1 p K (tCB (fun xs H Q=>∃ x d b,xs=[x,.ty T]/\Is K H x d/\kitD K d T=some b/\Q (.bl b) H) (tCons te (tCons (tC (.ty T)) tNil))) τ (.dat (.bool b')):=E1.isi ha rfl hb
end
end
section
section
variable {p:Option Addr} {K:PySem.W.Frag} {τ:List Sl} {tas:TA} {E':XK}
theorem ER.two {sp:Sp} {mo:Int} {P:List Int->Prop} (ha:A1 p K tas τ [.pu,.dat (.int mo)])
    (h:∀ (q:Addr) (H:Hp) (Q:VK),Pu H q->(∀ (r:Addr) (ns:List Int) (H':Hp),P ns->SB q H H'->Pu H' q->SqT K H' r (ns.map V.int)->Q (.ref r) H')->sp [.ref q,.int mo] H Q E'):ER p K (tCall sp [] E' tas) τ P:=fun W L σ H Q rs o q=>ha W L σ H _ rs o fun vs H1 ss e e1 o1 rv=>by
  subst e
  cases rv with
  | cons a t =>
    cases t with
    | cons b t =>
      cases t
      obtain ⟨q0,rfl,rfl⟩:=a
      cases b.int_inv
      have pu:=(o1.pu q0 rfl).1
      refine h q0 H1 _ pu fun r ns H' hp sb pu' hz=>?_
      have ev:=sb_ev sb pu
      exact q _ H' _ ⟨ns,rfl,hp⟩ (e1.trans ev) (o1.ev ev fun q hq=>by cases hq;exact pu') (.tup hz (Dzs.ints _))
theorem ER.four2 {mo:Int} (ha:A1 p K tas τ [.pu,.dat (.int mo)]) (h0:0 < mo) (h1:mo < 100):ER p K (tCall (spFour2 K) [] E' tas) τ (fun ns=>ns.length=4/\(∃ n ∈ ns,n ≠ 0)/\Bd (6 * 10 ^ 30) ns) :=
 ER.two ha fun q H Q pu k=>⟨q,mo,rfl,pu,h0,h1,fun r ns H' l nz bd sb pu' hz=>k r ns H' ⟨l,nz,bd⟩ sb pu' hz⟩
end
theorem cutA_to {α:Type} {xs:List α} {j:Nat}:cutA xs none (some (j:Int))=xs.take j:=by
 unfold cutA
 rw [HT.sIx_none,HT.sIx_nat,List.drop_zero,Nat.sub_zero]
 by_cases h:j<=xs.length
 ·rw [Nat.min_eq_left h]
 ·rw [Nat.min_eq_right (by omega),List.take_length,List.take_of_length_le (by omega)]
theorem mem_cells {sc:List Int} {ms:List Int} {j:Nat} {d:Dat} (h:d ∈ ms.map .int ++ cutA (sc.map .int) none (some (j:Int))):∃ c:Int,d = .int c:=by
 rw [cutA_to, <- List.map_take, <- List.map_append] at h
 obtain ⟨c,_,rfl⟩:=List.mem_map.mp h
 exact ⟨c,rfl⟩
end
section
structure LB (c:Nat) (T1 T2 T3 C:Int) (x y z:Rat):Prop where
 pos:0 < C
 bc:Bt C c
 b1:Bt T1 c
 b2:Bt T2 c
 b3:Bt T3 c
 e1:qv T1 C=x
 e2:qv T2 C=y
 e3:qv T3 C=z
section
variable {p:Option Addr} {K:PySem.W.Frag} {W:Addr->Prop} {H:Hp} {τ:List Sl} {tas:TA} {E':XK}
theorem EI.cCM {C:Int} {bs:List Int} (ha:A1 p K tas τ [.vw (bs.map .int)]) (hb:∀ b ∈ bs,0 < b/\b ∣ C) (h0:0 < C) (bC:Bt C 3000):EI p K (tCall (spCM K) [] E' tas) τ (fun L=>0 < L/\(∀ b ∈ bs,b ∣ L)/\L ∣ C):=fun W L σ H Q rs o q=>ha W L σ H _ rs o fun vs H1 ss e e1 o1 rv=>by
  subst e
  cases rv with
  | cons a t =>
    cases t
    obtain ⟨a,vs,rfl,h1,h2⟩:=a
    have e:=h2.inv
    subst e
    exact ⟨a,bs,C,rfl,h1.sq,hb,h0,bC,fun L H' s l0 l1 l2=>q _ H' _ ⟨L,rfl,l0,l1,l2⟩ (e1.trans (Ev.of s)) (o1.same s) (.int _)⟩
end
end
section
abbrev Q1 (a b d e:Int) (x y z:Rat):Rat:=K0.R1 a b d e x y z / N4 a b d e
abbrev Q2 (a b d e:Int) (x y z:Rat):Rat:=K0.R2 a b d e x y z / N4 a b d e
abbrev Q3 (a b d e:Int) (x y z:Rat):Rat:=K0.R3 a b d e x y z / N4 a b d e
section
variable {p:Option Addr} {K:PySem.W.Frag} {W:Addr->Prop} {H:Hp} {τ:List Sl} {tas:TA} {E':XK}
theorem E1.cMade {t b:Int} (ha:A1 p K tas τ [.dat (.int t),.dat (.int b)]) (h0:0 < b) (hb:Bt b 8000):E1 p K (tCall (spMade K) [] E' tas) τ (.dat (tI (fr t b))) :=
 E.ci2 ha fun H Q q=>⟨t,b,rfl,h0,hb,fun r H' s h=>q _ H' _ rfl s fun W=>told h⟩
end
end
def MM (p q r x y z w v:Rat):Rat:=v - 2 * (p * x + q * y + r * z) / (p * p + q * q + r * r) * w
abbrev M1 (p q r:Int) (x y z:Rat):Rat:=MM p q r x y z p x
end D
section
namespace D
open PySem PySem.Spec PyProof.Rows L2 K0 Num
open PySem.W (Dat)
def gLst (K:PySem.W.Frag) (n:Nat) (t:TGs):TG:=fun v σ H Q=>∃ a xs,v = .ref a/\SqL K H a xs/\xs.length=n/\t xs σ H Q
section
variable {X:Cx} {pos:Pos}
theorem pg_lst {es:List Expr} {k:Nat} {t:TGs} {n:Nat} (hc:X.calm=true) (h:PGs X es t)
  (hn:(assignEach es X.env).length=n:=by rfl) (hst:(assignEach es X.env).findIdx? (·.1)=none:=by rfl):PG X (.Tuple es k pos) (gLst X.K n t):=by
 intro pins s σ H v u Q I r hw
 obtain ⟨a,xs,e1,hq,hl,hw⟩:=hw
 subst e1
 cases r
 obtain ⟨its,rv,⟨o,m,h1,h2,h3,h4⟩,hz⟩:=I.list hq
 rw [assign_Tuple]
 refine wpAny_bind (wpAny_standAt ?_)
 unfold unpack
 rw [hst,show (assignEach es X.env).length=its.toArray.size by simp [hn, <- hl,rv.length]]
 refine wpAny_bind (wpAny_holding (PySem.W.kun_itemsOf (I.ok.hd hc) ⟨o,h1,h2,m,h4⟩ fun h' hx=>?_))
 have I1:Inv X pins σ H { s with heap:=h' }:=I.kept (t':=s.toks) fun b o e=>hx b o (Nat.ne_of_lt (Heap.lt_size e)) e
 exact h pins _ σ H xs _ Q I1 (by simpa using rv) hw
end
theorem zg_lst {X:Cx} {pos:Pos} {es:List Expr} {k:Nat} {t:TGs} {n:Nat} (hc:X.calm=true) (h:ZGs X es t) (hn:(assignEach es X.env).length=n:=by rfl) (hst:(assignEach es X.env).findIdx? (·.1)=none:=by rfl):ZG X (.Tuple es k pos) (gLst X.K n t):=⟨pg_lst hc h.out hn hst⟩
section
variable {K:PySem.W.Frag} {u:TS}
end
end D
end
namespace D
open PySem L2 K0 Num
open PySem.W (Dat)
section
section
variable {x y z:Rat}
end
section
variable {W:Addr->Prop}
end
theorem kq_ptQ9 {x y z:Rat}:PySem.W.kqdOk 9 (ptQ x y z)=true:=kq_ptQ
section
variable {x y z:Rat}
end
end
section
def iOr (a b:TI):TI:=fun σ H R=>a σ H R\/b σ H R
theorem zi_or {X:Cx} {tg e:Expr} {a b:TI} (ha:ZI X tg e a) (hb:ZI X tg e b):ZI X tg e (iOr a b):=⟨fun pins s σ H R I h=>h.elim (fun z=>ha.out pins s σ H R I z) fun z=>hb.out pins s σ H R I z⟩
section
variable {p:Option Addr} {K:PySem.W.Frag} {W:Addr->Prop} {H:Hp} {τ:List Sl} {tas:TA} {E':XK} {ds:List Dat} {a b:TI}
theorem Wk.orL (h:Wk p K a τ ds):Wk p K (iOr a b) τ ds:=fun W L σ H R r o q=>.inl (h W L σ H R r o q)
theorem Wk.orR (h:Wk p K b τ ds):Wk p K (iOr a b) τ ds:=fun W L σ H R r o q=>.inr (h W L σ H R r o q)
theorem E.cMadeA {C:List Sl->Prop} {P:Int->Int->Prop} (ha:A p K tas τ C) (hC:∀ ss,C ss->∃ t b:Int,ss=[.dat (.int t),.dat (.int b)]/\P t b/\0 < b/\Bt b 8000):E p K (tCall (spMade K) [] E' tas) τ (fun s=>∃ t b:Int,s = .dat (tI (qf (qv t b)))/\P t b):=fun W L σ H Q rs o q=>ha W L σ H _ rs o fun vs H1 ss c e1 o1 rv=>by
  obtain ⟨t,b,rfl,hp,h0,hb⟩:=hC ss c
  cases rv with
  | cons u v =>
    cases v with
    | cons v w =>
      cases w
      cases u.int_inv
      cases v.int_inv
      refine ⟨t,b,rfl,h0,hb,fun r H' s h=>?_⟩
      rw [fr_qf h0] at h
      exact q _ H' _ ⟨t,b,rfl,hp⟩ (e1.trans (Ev.of s)) (o1.same s) (told h)
end
end
abbrev sl (p q r:Int) (x y z:Rat):Rat:=((p:Rat) * x + q * y + r * z) / ((p:Rat) * p + q * q + r * r)
end D
section
namespace L2
open PySem PySem.Spec PyProof.Rows
def SI (b:Bool) (h:Heap) (it l:Addr) (i:Nat):Prop:=match b with | true=>h.IsListIter it l i | false=>h.IsTupleIter it l i
def SQ (b:Bool) (h:Heap) (l:Addr) (xs:Array Value):Prop:=match b with | true=>h.IsList l xs | false=>h.IsTuple l xs
theorem SI.extBut {b:Bool} {h h':Heap} {it l c:Addr} {i:Nat} (s:SI b h it l i) (e:Heap.ExtBut c h h') (n:it ≠ c):SI b h' it l i:=by
 cases b
 ·exact Heap.IsTupleIter.extBut s e n
 ·exact Heap.IsListIter.extBut s e n
theorem SQ.extBut {b:Bool} {h h':Heap} {l c:Addr} {xs:Array Value} (s:SQ b h l xs) (e:Heap.ExtBut c h h') (n:l ≠ c):SQ b h' l xs:=by
 cases b
 ·exact Heap.IsTuple.extBut s e n
 ·exact Heap.IsList.extBut s e n
theorem SI.at {b:Bool} {h h':Heap} {it l:Addr} {i:Nat} (s:SI b h it l i) (e:∀ o,h.get? it=some o->h'.get? it=some o):SI b h' it l i:=by
 cases b
 ·exact Heap.IsTupleIter.at s e
 ·exact Heap.IsListIter.at s e
theorem SQ.at {b:Bool} {h h':Heap} {l:Addr} {xs:Array Value} (s:SQ b h l xs) (e:∀ o,h.get? l=some o->h'.get? l=some o):SQ b h' l xs:=by
 cases b
 ·exact Heap.IsTuple.at s e
 ·exact Heap.IsList.at s e
theorem SI.ob {b:Bool} {h:Heap} {it l:Addr} {i:Nat} (s:SI b h it l i):∃ o,h.get? it=some o/\∃ vs,o.data = .fields vs:=by
 cases b
 ·obtain ⟨o,h1,_,h2⟩:=s;exact ⟨o,h1,_,h2⟩
 ·obtain ⟨o,h1,_,h2⟩:=s;exact ⟨o,h1,_,h2⟩
theorem SQ.lt {b:Bool} {h:Heap} {l:Addr} {xs:Array Value} (s:SQ b h l xs):l < h.objs.size:=by
 cases b
 ·obtain ⟨o,h1,_⟩:=s;exact Heap.lt_size h1
 ·obtain ⟨o,h1,_⟩:=s;exact Heap.lt_size h1
section
variable {prog:Program} {w:World} {A:Around} {E:Value->Shared->Prop} {s:Shared}
theorem siNext {b:Bool} {it t:Addr} {i:Nat} {its:Array Value} {x:Value} {Q:Value->Shared->Prop} (hit:SI b s.heap it t i) (ht:SQ b s.heap t its) (hx:its[i]?=some x)
  (k:∀ g,SI b g it t (i + 1)->Heap.SameBut it s.heap g->Q x { s with heap:=g }):wpAny (model prog w) A (Builtin.SmallTypes.nextOf (.ref it)) Q E s:=by
 cases b
 ·exact tupNext hit ht hx k
 ·exact wpAny_nextOf_list_item hit ht hx k
theorem siEnd {b:Bool} {it t:Addr} {i:Nat} {its:Array Value} {Q:Value->Shared->Prop} (hh:A.handled=none) (hit:SI b s.heap it t i) (ht:SQ b s.heap t its) (hx:its[i]?=none)
  (k:∀ g e,Heap.ExtBut it s.heap g->(∃ o,g.get? e=some o/\o.cls = .type "StopIteration")->E (.ref e) { s with heap:=g }):wpAny (model prog w) A (Builtin.SmallTypes.nextOf (.ref it)) Q E s:=by
 cases b
 ·exact tupEnd hh hit ht hx k
 ·exact wpAny_nextOf_list_end hh hit ht hx k
variable {b1 b2:Bool}
structure ZipG (b1 b2:Bool) (h:Heap) (z a b i1 i2 l1 l2:Addr) (xs ys:Array Value) (k:Nat) (f:Value):Prop where
 z:IsZip h z a b f
 a:IsPair h a (.ref i1) (.ref i2)
 b:∃ u v,IsPair h b u v
 i1:SI b1 h i1 l1 k
 i2:SI b2 h i2 l2 k
 l1:SQ b1 h l1 xs
 l2:SQ b2 h l2 ys
theorem zipNextG {z a b i1 i2 l1 l2:Addr} {k:Nat} {xs ys:Array Value} {x y:Value} {Q:Option Value->Shared->Prop} (D:ZipApart z a b i1 i2 l1 l2) (Z:ZipG b1 b2 s.heap z a b i1 i2 l1 l2 xs ys k .none) (hx:xs[k]?=some x) (hy:ys[k]?=some y)
  (kq:∀ g,ZipG b1 b2 g z a b i1 i2 l1 l2 xs ys (k + 1) (rawInt s.heap.objs.size)->IsPair g s.heap.objs.size x y->(∀ c o,c ≠ z->c ≠ b->c ≠ i1->c ≠ i2->s.heap.get? c=some o->g.get? c=some o)->Q (some (.ref s.heap.objs.size)) { s with heap:=g }) :
  wpAny (model prog w) A (pyNext (.ref z)) Q E s:=by
 obtain ⟨hz,ha,⟨u,v,hb⟩,h1,h2,t1,t2⟩:=Z
 have hT:s.TypeIs (.ref z) "zip" := ⟨_,hz,rfl⟩
 unfold pyNext
 refine wpAny_bind (wpAny_attempt (wpAny_callSpecial?_slot (name:=Str.ofString "__next__") hT F.slot_zip_next (wpAny_call_entry F.slot_zip_next hT F.entry_zip_next ?_ (F.args_zip_next_1 _))))
 show wpAny _ _ (field (.ref z) 2 >>= _) _ _ _;refine wpAny_bind (wpAny_field hz rfl (x:=.bool false) rfl ?_);show wpAny _ _ (field (.ref z) 3 >>= _) _ _ _
 refine wpAny_bind (wpAny_field hz rfl (x:=.ref a) rfl ?_);refine wpAny_bind (wpAny_seqItems ha rfl ?_);show wpAny _ _ (Builtin.SmallTypes.ownedTupleIsFree (.ref z) >>= _) _ _ _
 refine wpAny_bind ?_;unfold Builtin.SmallTypes.ownedTupleIsFree;refine wpAny_bind (wpAny_field hz rfl (x:=.none) rfl (wpAny_pure ?_))
 simp only [if_true];refine wpAny_bind (wpAny_rule ?_);refine wpAny_bind (wpAny_field hz rfl (x:=.ref b) rfl ?_)
 refine wpAny_bind (wpAny_setField_rec hz (by simp) fun g₁ e₁ s₁=>?_)
 replace e₁:IsZip g₁ z a b .ellipsis:=e₁
 refine wpAny_bind ?_;simp only [List.zipIdx_cons,List.zipIdx_nil,List.forIn_cons,List.forIn_nil]
 refine wpAny_bind (wpAny_bind (wpAny_onRaise ?_));show wpAny _ _ (Builtin.SmallTypes.nextOf (.ref i1) >>= _) _ _ _
 refine wpAny_bind (siNext (h1.extBut s₁.extBut D.i1z) (t1.extBut s₁.extBut D.l1z) hx fun g₂ f₂ s₂=>wpAny_pure ?_)
 have b₂:IsPair g₂ b u v:=s₂.extBut _ _ D.TOi1 (s₁.extBut _ _ D.TOz hb)
 refine wpAny_bind (wpAny_seqItems b₂ rfl ?_);refine wpAny_bind (wpAny_updateSeq_pair b₂ fun g₃ b₃ s₃=>?_)
 replace b₃:IsPair g₃ b x v:=b₃
 refine wpAny_bind (wpAny_letGo (wpAny_pure ?_));refine wpAny_bind (wpAny_bind (wpAny_onRaise ?_));show wpAny _ _ (Builtin.SmallTypes.nextOf (.ref i2) >>= _) _ _ _
 refine wpAny_bind (siNext (((h2.extBut s₁.extBut D.i2z).extBut s₂.extBut D.i12.symm).extBut s₃.extBut D.TOi2.symm) (((t2.extBut s₁.extBut D.l2z).extBut s₂.extBut D.l2i1).extBut s₃.extBut D.l2TO) hy fun g₄ f₄ s₄=>wpAny_pure ?_)
 have b₄:IsPair g₄ b x v:=s₄.extBut _ _ D.TOi2 b₃
 refine wpAny_bind (wpAny_seqItems b₄ rfl ?_);refine wpAny_bind (wpAny_updateSeq_pair b₄ fun g₅ b₅ s₅=>?_)
 replace b₅:IsPair g₅ b x y:=b₅
 refine wpAny_bind (wpAny_letGo (wpAny_pure (wpAny_pure ?_)));refine wpAny_bind (wpAny_seqItems b₅ rfl ?_);refine wpAny_bind (wpAny_newTuple ?_)
 have sz:g₅.objs.size=s.heap.objs.size:=by rw [s₅.1,s₄.1,s₃.1,s₂.1,s₁.1]
 have e₅:IsZip g₅ z a b .ellipsis:=s₅.extBut _ _ D.TOz.symm (s₄.extBut _ _ D.i2z.symm (s₃.extBut _ _ D.TOz.symm (s₂.extBut _ _ D.i1z.symm e₁)))
 have k₅:∀ c o,c ≠ z->c ≠ b->c ≠ i1->c ≠ i2->s.heap.get? c=some o->g₅.get? c=some o:=fun c o c1 c2 c3 c4 e=>s₅.extBut _ _ c2 (s₄.extBut _ _ c4 (s₃.extBut _ _ c2 (s₂.extBut _ _ c3 (s₁.extBut _ _ c1 e))))
 have m₁:SI b1 g₅ i1 l1 (k + 1):=((f₂.extBut s₃.extBut D.TOi1.symm).extBut s₄.extBut D.i12).extBut s₅.extBut D.TOi1.symm
 have m₂:SI b2 g₅ i2 l2 (k + 1):=f₄.extBut s₅.extBut D.TOi2.symm
 have lz:z < g₅.objs.size:=Heap.lt_size e₅
 show wpAny _ _ (Builtin.SmallTypes.ownedTupleHandOut (.ref z) (.ref g₅.objs.size) >>= _) _ _ _;refine wpAny_bind ?_;unfold Builtin.SmallTypes.ownedTupleHandOut
 have e₆:IsZip (g₅.push { cls:=.type "tuple",data:=.seq #[x,y] }) z a b .ellipsis:=Heap.get?_push_of_some _ e₅
 refine wpAny_bind (wpAny_setField_rec e₆ (by simp) fun g₇ e₇ s₇=>?_)
 replace e₇:IsZip g₇ z a b (rawInt g₅.objs.size):=e₇
 refine wpAny_setField_rec e₇ (by simp) fun g₈ e₈ s₈=>?_
 replace e₈:IsZip g₈ z a b (rawInt g₅.objs.size):=e₈
 have up:∀ c o,c ≠ z->g₅.get? c=some o->g₈.get? c=some o:=fun c o c1 e=>s₈.extBut _ _ c1 (s₇.extBut _ _ c1 (Heap.get?_push_of_some _ e))
 have p₈:IsPair g₈ g₅.objs.size x y:=s₈.extBut _ _ (Nat.ne_of_gt lz) (s₇.extBut _ _ (Nat.ne_of_gt lz) (Heap.get?_push_size _ rfl))
 rw [sz] at e₈ p₈
 refine wpAny_pure ⟨_,rfl,wpAny_pure ?_⟩
 show Q (some (.ref g₅.objs.size)) _;rw [sz]
 have all:∀ c o,c ≠ z->c ≠ b->c ≠ i1->c ≠ i2->s.heap.get? c=some o->g₈.get? c=some o:=fun c o c1 c2 c3 c4 e=>up c o c1 (k₅ c o c1 c2 c3 c4 e)
 exact kq g₈ ⟨e₈,all _ _ D.TIz D.TITO D.TIi1 D.TIi2 ha,⟨_,_,up _ _ D.TOz b₅⟩,m₁.at fun o e=>up _ o D.i1z e,m₂.at fun o e=>up _ o D.i2z e,t1.at fun o e=>all _ o D.l1z D.l1TO D.l1i1 D.l1i2 e,t2.at fun o e=>all _ o D.l2z D.l2TO D.l2i1 D.l2i2 e⟩ p₈ all
theorem zipEndG {z a b i1 i2 l1 l2:Addr} {k:Nat} {xs ys:Array Value} {Q:Option Value->Shared->Prop} (hh:A.handled=none) (D:ZipApart z a b i1 i2 l1 l2) (Z:ZipG b1 b2 s.heap z a b i1 i2 l1 l2 xs ys k .none) (hx:xs[k]?=none)
  (kq:∀ g,(∀ c o,c ≠ z->c ≠ b->c ≠ i1->c ≠ i2->s.heap.get? c=some o->g.get? c=some o)->Q none { s with heap:=g }):wpAny (model prog w) A (pyNext (.ref z)) Q E s:=by
 obtain ⟨hz,ha,⟨u,v,hb⟩,h1,h2,t1,t2⟩:=Z
 have hT:s.TypeIs (.ref z) "zip" := ⟨_,hz,rfl⟩
 unfold pyNext
 refine wpAny_bind (wpAny_attempt (wpAny_callSpecial?_slot (name:=Str.ofString "__next__") hT F.slot_zip_next (wpAny_call_entry F.slot_zip_next hT F.entry_zip_next ?_ (F.args_zip_next_1 _))))
 show wpAny _ _ (field (.ref z) 2 >>= _) _ _ _;refine wpAny_bind (wpAny_field hz rfl (x:=.bool false) rfl ?_);show wpAny _ _ (field (.ref z) 3 >>= _) _ _ _
 refine wpAny_bind (wpAny_field hz rfl (x:=.ref a) rfl ?_);refine wpAny_bind (wpAny_seqItems ha rfl ?_);show wpAny _ _ (Builtin.SmallTypes.ownedTupleIsFree (.ref z) >>= _) _ _ _
 refine wpAny_bind ?_;unfold Builtin.SmallTypes.ownedTupleIsFree;refine wpAny_bind (wpAny_field hz rfl (x:=.none) rfl (wpAny_pure ?_))
 simp only [if_true];refine wpAny_bind (wpAny_rule ?_);refine wpAny_bind (wpAny_field hz rfl (x:=.ref b) rfl ?_)
 refine wpAny_bind (wpAny_setField_rec hz (by simp) fun g₁ e₁ s₁=>?_)
 replace e₁:IsZip g₁ z a b .ellipsis:=e₁
 refine wpAny_bind ?_;simp only [List.zipIdx_cons,List.zipIdx_nil,List.forIn_cons,List.forIn_nil]
 refine wpAny_bind (wpAny_bind (wpAny_onRaise ?_));show wpAny _ _ (Builtin.SmallTypes.nextOf (.ref i1) >>= _) _ _ _
 refine wpAny_bind (siEnd hh (h1.extBut s₁.extBut D.i1z) (t1.extBut s₁.extBut D.l1z) hx fun g₂ e s₂ he=>?_)
 obtain ⟨oe,he1,he2⟩:=he
 have e₂:IsZip g₂ z a b .ellipsis:=s₂ _ _ D.i1z.symm e₁
 have hez:e ≠ z:=fun x=>by subst x;rw [e₂] at he1;cases he1;simp at he2
 refine wpAny_setField_rec e₂ (by simp) fun g₃ _ s₃=>?_
 refine wpAny_bind (wpAny_isInstance (T := "StopIteration") (b:=true) ⟨oe,s₃.extBut _ _ hez he1,he2⟩ isSubtype_stop ?_)
 exact wpAny_pure (kq _ fun c o c1 _ c3 _ x=>s₃.extBut _ _ c1 (s₂ _ _ c3 (s₁.extBut _ _ c1 x)))
abbrev zl (h:Heap) (l:Addr):Heap:=h.push { cls:=.type "list_iterator",data:=.fields #[.ref l,.int 0 0] }
abbrev zg (b:Bool) (h:Heap) (l:Addr):Heap:=h.push { cls:=.type (if b then "list_iterator" else "tuple_iterator"),data:=.fields #[.ref l,.int 0 0] }
theorem zipNewMeetsG (l1 l2:Addr) (xs ys:Array Value) :
  Meets (Builtin.«zip.__new__» ⟨[.type "zip",.ref l1,.ref l2],[]⟩) (fun _ R s=>SQ b1 s.heap l1 xs/\SQ b2 s.heap l2 ys/\∀ g,g=(((zg b2 (zg b1 s.heap l1) l2).push { cls:=.type "tuple",data:=.seq #[.ref s.heap.objs.size,.ref (zg b1 s.heap l1).objs.size] }).push { cls:=.type "tuple",data:=.seq #[.none,.none] }) ->
   R (.ok (.ret (.ref g.objs.size))) { s with heap:=g.push { cls:=.type "zip",data:=.fields #[.none,.bool false,.bool false,.ref (zg b2 (zg b1 s.heap l1) l2).objs.size,.ref ((zg b2 (zg b1 s.heap l1) l2).push { cls:=.type "tuple",data:=.seq #[.ref s.heap.objs.size,.ref (zg b1 s.heap l1).objs.size] }).objs.size] } }) :=
 .of_wp fun prog w A R s h=>by
  obtain ⟨hp,g,d,tk,os⟩:=s;obtain ⟨q1,q2,h⟩:=h
  have hsub:=sub_zip
  cases b1 <;> cases b2
  ·have L1:Heap.IsTuple (Shared.heap ⟨hp,g,d,tk,os⟩) l1 xs:=q1
   have L2:Heap.IsTuple (Shared.heap ⟨zh hp l1,g,d,tk,os⟩) l2 ys:=Heap.IsTuple.at q2 fun o e=>Heap.get?_push_of_some _ e
   wp_walk using wpAny_pyIter_tuple L1,wpAny_pyIter_tuple L2
   exact ⟨_,rfl,h _ rfl⟩
  ·have L1:Heap.IsTuple (Shared.heap ⟨hp,g,d,tk,os⟩) l1 xs:=q1
   have L2:Heap.IsList (Shared.heap ⟨zh hp l1,g,d,tk,os⟩) l2 ys:=Heap.IsList.at q2 fun o e=>Heap.get?_push_of_some _ e
   wp_walk using wpAny_pyIter_tuple L1,wpAny_pyIter_list L2
   exact ⟨_,rfl,h _ rfl⟩
  ·have L1:Heap.IsList (Shared.heap ⟨hp,g,d,tk,os⟩) l1 xs:=q1
   have L2:Heap.IsTuple (Shared.heap ⟨zl hp l1,g,d,tk,os⟩) l2 ys:=Heap.IsTuple.at q2 fun o e=>Heap.get?_push_of_some _ e
   wp_walk using wpAny_pyIter_list L1,wpAny_pyIter_tuple L2
   exact ⟨_,rfl,h _ rfl⟩
  ·have L1:Heap.IsList (Shared.heap ⟨hp,g,d,tk,os⟩) l1 xs:=q1
   have L2:Heap.IsList (Shared.heap ⟨zl hp l1,g,d,tk,os⟩) l2 ys:=Heap.IsList.at q2 fun o e=>Heap.get?_push_of_some _ e
   wp_walk using wpAny_pyIter_list L1,wpAny_pyIter_list L2
   exact ⟨_,rfl,h _ rfl⟩
theorem siNew {b:Bool} {h:Heap} {it l:Addr} (e:h.get? it=some { cls:=.type (if b then "list_iterator" else "tuple_iterator"),data:=.fields #[.ref l,.int 0 0] }):SI b h it l 0:=by
 cases b
 ·exact ⟨_,e,rfl,rfl⟩
 ·exact ⟨_,e,rfl,rfl⟩
theorem callZipG {l1 l2:Addr} {xs ys:Array Value} {Q:Value->Shared->Prop} (h1:SQ b1 s.heap l1 xs) (h2:SQ b2 s.heap l2 ys)
  (k:∀ g,ZipG b1 b2 g (s.heap.objs.size + 4) (s.heap.objs.size + 2) (s.heap.objs.size + 3) s.heap.objs.size (s.heap.objs.size + 1) l1 l2 xs ys 0 .none->(∀ c o,s.heap.get? c=some o->g.get? c=some o)->Q (.ref (s.heap.objs.size + 4)) { s with heap:=g }) :
  wpAny (model prog w) A (call (.type "zip") [.ref l1,.ref l2]) Q E s:=by
 refine callType_new F.called_zip (by decide) (F.typeCall_zip_2 _ _) (F.newCall_zip_2 _ _) (fun obj=>F.args_object_init_3 obj _ _) F.entry_zip_new (zipNewMeetsG l1 l2 xs ys) ⟨h1,h2,fun g hg=>?_⟩
 generalize e1:zg b1 s.heap l1=a1 at *
 generalize e2:zg b2 a1 l2=a2 at *
 generalize e3:a2.push { cls:=.type "tuple",data:=.seq #[.ref s.heap.objs.size,.ref a1.objs.size] }=a3 at *
 have n1:a1.objs.size=s.heap.objs.size + 1:=by rw [<- e1];exact Heap.size_push ..
 have n2:a2.objs.size=s.heap.objs.size + 2:=by rw [<- e2,Heap.size_push,n1]
 have n3:a3.objs.size=s.heap.objs.size + 3:=by rw [<- e3,Heap.size_push,n2]
 have n4:g.objs.size=s.heap.objs.size + 4:=by rw [hg,Heap.size_push,n3]
 have up1:∀ c o,s.heap.get? c=some o->a1.get? c=some o:=fun c o x=>e1 ▸ Heap.get?_push_of_some _ x
 have up2:∀ c o,a1.get? c=some o->a2.get? c=some o:=fun c o x=>e2 ▸ Heap.get?_push_of_some _ x
 have up3:∀ c o,a2.get? c=some o->a3.get? c=some o:=fun c o x=>e3 ▸ Heap.get?_push_of_some _ x
 have up4:∀ c o,a3.get? c=some o->g.get? c=some o:=fun c o x=>hg ▸ Heap.get?_push_of_some _ x
 have x1:a1.get? s.heap.objs.size=some { cls:=.type (if b1 then "list_iterator" else "tuple_iterator"),data:=.fields #[.ref l1,.int 0 0] }:=e1 ▸ Heap.get?_push_size _ rfl
 have x2:a2.get? (s.heap.objs.size + 1)=some { cls:=.type (if b2 then "list_iterator" else "tuple_iterator"),data:=.fields #[.ref l2,.int 0 0] }:=by rw [<- n1];exact e2 ▸ Heap.get?_push_size _ rfl
 have x3:a3.get? (s.heap.objs.size + 2)=some { cls:=.type "tuple",data:=.seq #[.ref s.heap.objs.size,.ref a1.objs.size] }:=by rw [<- n2];exact e3 ▸ Heap.get?_push_size _ rfl
 have x4:g.get? (s.heap.objs.size + 3)=some { cls:=.type "tuple",data:=.seq #[.none,.none] }:=by rw [<- n3];exact hg ▸ Heap.get?_push_size _ rfl
 have x5:(g.push { cls:=.type "zip",data:=.fields #[.none,.bool false,.bool false,.ref a2.objs.size,.ref a3.objs.size] }).get? (s.heap.objs.size + 4)=some { cls:=.type "zip",data:=.fields #[.none,.bool false,.bool false,.ref a2.objs.size,.ref a3.objs.size] }:=by rw [<- n4];exact Heap.get?_push_size _ rfl
 rw [n2,n3] at x5
 rw [n1] at x3
 show _/\_
 rw [n4,n2,n3]
 have all:∀ c o,s.heap.get? c=some o->(g.push { cls:=.type "zip",data:=.fields #[.none,.bool false,.bool false,.ref (s.heap.objs.size + 2),.ref (s.heap.objs.size + 3)] }).get? c=some o:=fun c o x=>Heap.get?_push_of_some _ (up4 _ _ (up3 _ _ (up2 _ _ (up1 _ _ x))))
 refine ⟨⟨_,x5,rfl⟩,k _ ⟨x5,Heap.get?_push_of_some _ (up4 _ _ x3),⟨_,_,Heap.get?_push_of_some _ x4⟩,siNew (Heap.get?_push_of_some _ (up4 _ _ (up3 _ _ (up2 _ _ x1)))),siNew (Heap.get?_push_of_some _ (up4 _ _ (up3 _ _ x2))),h1.at fun o e=>all _ o e,h2.at fun o e=>all _ o e⟩ all⟩
end
end L2
end
section
namespace L2
open PySem PySem.Spec PyProof.Rows
def SX (b:Bool) (K:PySem.W.Frag) (H:Hp) (a:Addr) (xs:List V):Prop:=match b with | true=>SqL K H a xs | false=>SqT K H a xs
theorem Inv.sx {X:Cx} {pins:List (Addr × Obj)} {σ:St} {H:Hp} {s:Shared} {b:Bool} {a:Addr} {xs:List V} (I:Inv X pins σ H s) (h:SX b X.K H a xs):∃ its:List Value,Vals xs its/\SQ b s.heap a its.toArray/\xs.length<=sizeLine:=by
 cases b
 ·obtain ⟨its,rv,p,hz⟩:=I.tuple h
  exact ⟨its,rv,p,hz⟩
 ·obtain ⟨its,rv,p,hz⟩:=I.list h
  exact ⟨its,rv,p.isList,hz⟩
theorem Inv.sx_inj {X:Cx} {pins:List (Addr × Obj)} {σ:St} {H:Hp} {s:Shared} {b:Bool} {a:Addr} {xs ys:List V} (I:Inv X pins σ H s) (h:SX b X.K H a xs) (h':SX b X.K H a ys):xs=ys:=by
 cases b
 ·exact I.tuple_inj h h'
 ·exact I.list_inj h h'
def ItzG (b1 b2:Bool) (K:PySem.W.Frag) (l1 l2:Addr):It :=
  ⟨fun i H=>∃ xs ys x y,SX b1 K H l1 xs/\SX b2 K H l2 ys/\xs[i]?=some x/\ys[i]?=some y,
   fun i H v H'=>∃ p,H p=none/\v = .ref p/\∀ xs ys x y,SX b1 K H l1 xs->SX b2 K H l2 ys->xs[i]?=some x->ys[i]?=some y->H'=upd H p (.tup [x,y]),
   fun i H=>∃ xs,SX b1 K H l1 xs/\xs.length<=i/\∃ ys,SX b2 K H l2 ys⟩
def zntG (b1 b2:Bool) (z a b i1 i2 l1 l2:Addr) (i:Nat) (h:Heap):Prop:=IsZip h z a b .none/\IsPair h a (.ref i1) (.ref i2)/\(∃ u v,IsPair h b u v)/\SI b1 h i1 l1 i/\SI b2 h i2 l2 i
theorem turn_zipG {b1 b2:Bool} {P:Program} {w:World} {K:PySem.W.Frag} {elts:List Expr} {x1} {pos:Pos} {z a b i1 i2 l1 l2:Addr} (D:ZipApart z a b i1 i2 l1 l2):Turn P w K (.Tuple elts x1 pos) (ItzG b1 b2 K l1 l2) [z,a,b,i1,i2] z (zntG b1 b2 z a b i1 i2 l1 l2) where
 mem:=by simp
 obj:=fun i h st c hc=>by
  obtain ⟨h1,h2,⟨u,v,h3⟩,h4,h5⟩:=st
  obtain ⟨o4,h4,_,d4⟩:=h4.ob
  obtain ⟨o5,h5,_,d5⟩:=h5.ob
  simp only [List.mem_cons,List.mem_nil_iff,or_false] at hc
  rcases hc with rfl | rfl | rfl | rfl | rfl
  ·exact ⟨_,h1,fun v z=>by cases z⟩
  ·exact ⟨_,h2,fun v z=>by cases z⟩
  ·exact ⟨_,h3,fun v z=>by cases z⟩
  ·exact ⟨_,h4,fun v z=>by rw [d4] at z;cases z⟩
  ·exact ⟨_,h5,fun v z=>by rw [d5] at z;cases z⟩
 keep:=fun i h h' st k=>by
  obtain ⟨h1,h2,⟨u,v,h3⟩,h4,h5⟩:=st
  exact ⟨k _ (by simp) _ h1,k _ (by simp) _ h2,⟨u,v,k _ (by simp) _ h3⟩,h4.at fun o e=>k _ (by simp) o e,h5.at fun o e=>k _ (by simp) o e⟩
 item := by
  intro X hP hw hK hc i pins s σ H E I hf st hg
  subst hP hw hK
  obtain ⟨xs,ys,x,y,q1,q2,hx,hy⟩:=hg
  obtain ⟨its,rv,p,hz⟩:=I.sx q1
  obtain ⟨its',rv',p',hz'⟩:=I.sx q2
  obtain ⟨u,hu,ru⟩:=rv.get hx
  obtain ⟨u',hu',ru'⟩:=rv'.get hy
  obtain ⟨h1,h2,h3,h4,h5⟩:=id st
  refine zipNextG D ⟨h1,h2,h3,h4,h5,p,p'⟩ (x:=u) (y:=u') (by simpa using hu) (by simpa using hu') fun g Z pr all=>⟨_,rfl,?_⟩
  refine wpAny_letOwnedTupleGo_zip (s:={ s with heap:=g }) Z.z fun g2 e2 s2=>?_
  have hn:H s.heap.objs.size=none:=I.hok.fresh (Nat.le_refl _)
  have lt:∀ c ∈ [z,a,b,i1,i2],c < s.heap.objs.size:=fun c hc=>by
   have:=(hf c hc)
   obtain ⟨w1,w2,⟨_,_,w3⟩,w4,w5⟩:=st
   obtain ⟨_,w4,_⟩:=w4.ob
   obtain ⟨_,w5,_⟩:=w5.ob
   simp only [List.mem_cons,List.mem_nil_iff,or_false] at hc
   rcases hc with rfl | rfl | rfl | rfl | rfl
   ·exact Heap.lt_size w1
   ·exact Heap.lt_size w2
   ·exact Heap.lt_size w3
   ·exact Heap.lt_size w4
   ·exact Heap.lt_size w5
  have kp:∀ c o,c ∉ [z,a,b,i1,i2]->s.heap.get? c=some o->g2.get? c=some o:=fun c o hc e=>by
   simp only [List.mem_cons,List.mem_nil_iff,or_false,not_or] at hc
   exact s2.extBut _ _ hc.1 (all c o hc.1 hc.2.2.1 hc.2.2.2.1 hc.2.2.2.2 e)
  have trk:∀ c u,H c=some u->c ∉ [z,a,b,i1,i2]:=fun c u e hc=>by rw [(hf c hc).1] at e;cases e
  have pr2:g2.get? s.heap.objs.size=some { cls:=.type "tuple",data:=.seq #[u,u'] }:=s2.extBut _ _ (Nat.ne_of_gt (lt z (by simp))) pr
  have I2:Inv X pins σ (upd H s.heap.objs.size (.tup [x,y])) { s with heap:=g2 }:=by
   refine I.step (g':=s.gens) (d':=s.drawn) (t':=s.toks) (ch:=[z,a,b,i1,i2]) (fun c hc=>?_) (fun c o _ _ hc e _=>kp c o hc e) (fun c o _ _ hc e _=>⟨o.slots,kp c o hc e⟩) (fun c o _ e n=>?_)
    (fun c o hc e=>⟨o,kp c o hc e⟩) (fun c vs e=>?_) (fun c o vs e=>?_) (fun c ps e=>⟨#[],?_⟩) (fun m hm=>?_) (fun c v e=>?_) I.bare
   ·obtain ⟨f0,f1,f2,f3,f4,f5⟩:=hf c hc
    exact ⟨f3,f1,f4,f5⟩
   ·rw [upd_ne (Nat.ne_of_lt (Heap.lt_size e))];exact n
   ·rw [upd_ne (ne_of_none e hn)];exact e
   ·rw [upd_ne (ne_of_none e hn)];exact e
   ·rw [upd_ne (ne_of_none e hn),e];simp
   ·obtain ⟨o,es,ep,ho,r⟩:=hm
    exact ⟨o,es,ep,kp _ o (fun hc=>(hf _ hc).2.1 rfl) ho,r⟩
   ·by_cases hb:c=s.heap.objs.size
    ·subst hb
     rw [upd_same] at e;cases e
     exact ⟨by show 2<=sizeLine;decide,[u,u'],.cons ru (.cons ru' .nil),⟨_,pr2,rfl,_,rfl⟩⟩
    ·rw [upd_ne hb] at e
     refine (I.hok c v e).stay (fun d o hd q=>kp d o ?_ q) (fun d q=>by rw [upd_ne (ne_of_none q hn)];exact q) fun d ts q=>by rw [upd_ne (ne_of_none q hn)];exact q
     rcases hd with rfl | hd
     ·exact trk _ _ e
     ·exact trk _ _ hd
  refine ⟨.ref s.heap.objs.size,_,I2,rfl,⟨_,hn,rfl,fun xs' ys' x' y' a1 a2 a3 a4=>?_⟩,⟨e2,s2.extBut _ _ D.TIz Z.a,?_,Z.i1.extBut s2.extBut D.i1z,Z.i2.extBut s2.extBut D.i2z⟩,fun c hc=>?_⟩
  ·rw [I.sx_inj a1 q1,hx] at a3
   rw [I.sx_inj a2 q2,hy] at a4
   cases a3;cases a4;rfl
  ·obtain ⟨v1,v2,e3⟩:=Z.b
   exact ⟨v1,v2,s2.extBut _ _ D.TOz e3⟩
  ·rw [upd_ne (Nat.ne_of_lt (lt c hc))];exact (hf c hc).1
 done:=by
  intro X hP hw hK hc i pins s σ H E I hf st hg
  subst hP hw hK
  obtain ⟨xs,q1,hx,ys,q2⟩:=hg
  obtain ⟨its,rv,p,hz⟩:=I.sx q1
  obtain ⟨its',rv',p',hz'⟩:=I.sx q2
  obtain ⟨h1,h2,h3,h4,h5⟩:=id st
  have hl:=rv.length
  refine zipEndG (I.ok.hd hc) D ⟨h1,h2,h3,h4,h5,p,p'⟩ (by simp;omega) fun g all=>⟨rfl,?_⟩
  have kp:∀ c o,c ∉ [z,a,b,i1,i2]->s.heap.get? c=some o->g.get? c=some o:=fun c o hc e=>by
   simp only [List.mem_cons,List.mem_nil_iff,or_false,not_or] at hc
   exact all c o hc.1 hc.2.2.1 hc.2.2.2.1 hc.2.2.2.2 e
  have trk:∀ c u,H c=some u->c ∉ [z,a,b,i1,i2]:=fun c u e hc=>by rw [(hf c hc).1] at e;cases e
  refine I.step (g':=s.gens) (d':=s.drawn) (t':=s.toks) (ch:=[z,a,b,i1,i2]) (fun c hc=>?_) (fun c o _ _ hc e _=>kp c o hc e) (fun c o _ _ hc e _=>⟨o.slots,kp c o hc e⟩) (fun c o _ e n=>n)
    (fun c o hc e=>⟨o,kp c o hc e⟩) (fun c vs e=>e) (fun c o vs e=>e) (fun c ps e=>⟨#[],by rw [e];simp⟩) (fun m hm=>?_) (fun c v e=>?_) I.bare
  ·obtain ⟨f0,f1,f2,f3,f4,f5⟩:=hf c hc
   exact ⟨f3,f1,f4,f5⟩
  ·obtain ⟨o,es,ep,ho,r⟩:=hm
   exact ⟨o,es,ep,kp _ o (fun hc=>(hf _ hc).2.1 rfl) ho,r⟩
  ·refine (I.hok c v e).stay (fun d o hd q=>kp d o ?_ q) (fun d q=>q) fun d ts q=>q
   rcases hd with rfl | hd
   ·exact trk _ _ e
   ·exact trk _ _ hd
 self:=fun _ _ _ _ _ st h=>wpAny_pyIter_zip st.1 h
section
variable {X:Cx}
def iZipG (b1 b2:Bool) (K:PySem.W.Frag) (ta:TA):TI:=fun σ H R=>ta σ H fun vs H1=>∃ l1 l2,vs=[.ref l1,.ref l2]/\(∃ xs,SX b1 K H1 l1 xs)/\(∃ ys,SX b2 K H1 l2 ys)/\R (ItzG b1 b2 K l1 l2) H1
theorem pi_zipG {b1 b2 : Bool} {a b : Expr} {ta : TA} {p pos pt : Pos} {elts : List Expr} {x1} (hg : Gl X "zip") (hm : X.mg "zip" = none) (ha : PA X [a, b] ta) (hs : starEach [a, b] X.env = [(false, eval a X.env), (false, eval b X.env)] := by rfl) (hs2 : starEach [b] X.env = [(false, eval b X.env)] := by rfl) :
    PI X (.Tuple elts x1 pt) (.Call (.Name "zip" p) [a,b] [] pos) (iZipG b1 b2 X.K ta):=by
  intro pins s σ H R I h
  refine Call_ (ld_blt I hg hm boot_zip (PyProof.Rows.callWith_type1 (thn (ha pos pins s σ H _ I h) fun us s1 ⟨vs,H1,I1,r1,q1⟩=>?_) (by rw [hs,hs2]) (by rw [hs2];rfl)))
  obtain ⟨l1,l2,e,⟨xs,q1⟩,⟨ys,q2⟩,q⟩:=q1
  subst e
  cases r1 with
  | cons r rr =>
    cases rr with
    | cons r' rr =>
      cases rr
      cases (show _=Value.ref l1 from r)
      cases (show _=Value.ref l2 from r')
      obtain ⟨its,rv,p1,_⟩:=I1.sx q1
      obtain ⟨its',rv',p2,_⟩:=I1.sx q2
      have a1:l1 < s1.heap.objs.size:=p1.lt
      have a2:l2 < s1.heap.objs.size:=p2.lt
      refine callZipG p1 p2 fun g Z all=>?_
      refine wpAny_pyIter_zip (s:={ s1 with heap:=g }) Z.z ?_
      refine ⟨_,_,_,_,H1,rfl,I1.kept (t':=s1.toks) all,turn_zipG (PyProof.Rows.zipApart_new a1 a2),⟨Z.z,Z.a,Z.b,Z.i1,Z.i2⟩,fun b hb=>?_,q⟩
      have ge:s1.heap.objs.size<=b:=by
        simp only [List.mem_cons,List.mem_nil_iff,or_false] at hb
        rcases hb with rfl | rfl | rfl | rfl | rfl
        . exact Nat.le_add_right _ 4
        . exact Nat.le_add_right _ 2
        . exact Nat.le_add_right _ 3
        . exact Nat.le_refl _
        . exact Nat.le_add_right _ 1
      exact I1.fpOk ge (I1.hok.fresh ge)
theorem zi_zipG (b1 b2:Bool) {ta:TA} {a b:Expr} {p pos pt:Pos} {elts:List Expr} {x1} (hg:Gl X "zip") (hm:X.mg "zip" = none) (ha:ZA X [a,b] ta) (hs:starEach [a,b] X.env=[(false,eval a X.env),(false,eval b X.env)]:=by rfl) (hs2:starEach [b] X.env=[(false,eval b X.env)]:=by rfl) :
  ZI X (.Tuple elts x1 pt) (.Call (.Name "zip" p) [a,b] [] pos) (iZipG b1 b2 X.K ta):=⟨pi_zipG hg hm ha.out hs hs2⟩
end
end L2
end
namespace D
open PySem L2 K0 Num
open PySem.W (Dat)
section
def sqD (b:Bool) (ds:List Dat):Dat:=match b with | true=>.list ds | false=>.tuple ds
theorem dz_sx {W:Addr->Prop} {K:PySem.W.Frag} {H:Hp} {v:V} {b:Bool} {ds:List Dat} (h:Dz (fun a=>¬ W a) K H v (sqD b ds)):∃ a vs,v = .ref a/\SX b K H a vs/\Dzs (fun a=>¬ W a) K H vs ds/\∀ H',Ev W H H'->SX b K H' a vs:=by
  cases b
  . cases h with
    | tup h1 h2=>exact ⟨_,_,rfl,h1,h2,fun H' ev=>ev.tm _ _ _ h1⟩
  . cases h with
    | lst h1 h2 =>
      refine ⟨_,_,rfl,h1.sq,h2,fun H' ev=>?_⟩
      rcases h1 with ⟨nn,h1⟩ | h1
      . exact .inl (h1.imp (ev.keep _ _ nn) fun ⟨o,h⟩=>⟨o,ev.keep _ _ nn h⟩)
      . exact SqN.sq (N:=fun _=>True) (.inr h1)
section
variable {p:Option Addr} {K:PySem.W.Frag} {τ:List Sl} {tas:TA}
theorem Wk.zipG {b1 b2:Bool} {xs ys:List Dat} (h:A1 p K tas τ [.dat (sqD b1 xs),.dat (sqD b2 ys)]) (hl:ys.length=xs.length):Wk p K (iZipG b1 b2 K tas) τ (zipD xs ys):=fun W L σ H R r o q=>h W L σ H _ r o fun vs H1 ss e e1 o1 rv=>by
  subst e
  cases rv with
  | cons a t =>
    cases t with
    | cons b t =>
      cases t
      obtain ⟨a1,x1,rfl,h1,h2,k1⟩:=dz_sx a
      obtain ⟨a2,x2,rfl,h3,h4,k2⟩:=dz_sx b
      refine ⟨a1,a2,rfl,⟨_,h1⟩,⟨_,h3⟩,q _ H1 e1 o1 fun W' H' ev n=>?_⟩
      have g1:=k1 H' ev
      have g3:=k2 H' ev
      have g2:=Dzs.old ev n h2
      have g4:=Dzs.old ev n h4
      have ll:(zipD xs ys).length=xs.length:=by unfold zipD;rw [List.length_zipWith,hl,Nat.min_self]
      refine ⟨⟨_,g1,by rw [g2.len,ll];exact Nat.le_refl _,_,g3⟩,fun i d hd=>?_⟩
      obtain ⟨x,y,ex,ey,rfl⟩:=zipD_get hd
      obtain ⟨vx,ux,zx⟩:=g2.get ex
      obtain ⟨vy,uy,zy⟩:=g4.get ey
      refine ⟨⟨_,_,vx,vy,g1,g3,ux,uy⟩,fun z H2 ⟨a,ha,e,q⟩=>?_⟩
      have:=q _ _ _ _ g1 g3 ux uy
      subst this e
      have s:=Same.new ha (.tup [vx,vy])
      have e:Ev (fun _=>False) H' (upd H' a (.tup [vx,vy])):=Ev.of s
      exact ⟨s,.tup (SqT.of upd_same) (.cons (zx.ev e fun _ _ h=>h) (.cons (zy.ev e fun _ _ h=>h) .nil))⟩
theorem Wk.zipLL {xs ys:List Dat} (h:A1 p K tas τ [.dat (.list xs),.dat (.list ys)]) (hl:ys.length=xs.length):Wk p K (iZipG true true K tas) τ (zipD xs ys):=Wk.zipG (b1:=true) (b2:=true) h hl
end
end
end D
section
namespace D
open PySem L2 K0 Num
open PySem.W (Dat)
section
variable {x y z:Rat}
end
section
variable {x y z:Rat}
end
end D
namespace D
open PySem L2 K0 Num
open PySem.W (Dat)
theorem qv_pr {x y z u v w:Rat} {X X' Y Y' Z Z' A A' B B' C C':Int} (h1:X' ≠ 0) (h2:Y' ≠ 0) (h3:Z' ≠ 0) (h4:A' ≠ 0) (h5:B' ≠ 0) (h6:C' ≠ 0) (e1:qv X X'=x) (e2:qv Y Y'=y) (e3:qv Z Z'=z) (e4:qv A A'=u) (e5:qv B B'=v) (e6:qv C C'=w) :
  qv (((0 * X' * A' + X * A * 1) * Y' * B' + Y * B * (1 * X' * A')) * Z' * C' + Z * C * (1 * X' * A' * Y' * B')) (1 * X' * A' * Y' * B' * Z' * C')=x * u + y * v + z * w:=by
 have h1:=cast_ne h1
 have h2:=cast_ne h2
 have h3:=cast_ne h3
 have h4:=cast_ne h4
 have h5:=cast_ne h5
 have h6:=cast_ne h6
 subst e1 e2 e3 e4 e5 e6
 have n:(X':Rat) * A' * Y' * B' * Z' * C' ≠ 0:=rmul_ne (rmul_ne (rmul_ne (rmul_ne (rmul_ne h1 h4) h2) h5) h3) h6
 unfold qv;push_cast
 generalize (X':Rat)=x1 at *
 generalize (Y':Rat)=x2 at *
 generalize (Z':Rat)=x3 at *
 generalize (A':Rat)=x4 at *
 generalize (B':Rat)=x5 at *
 generalize (C':Rat)=x6 at *
 grind
end D
end
namespace D
open PySem L2 K0 Num
open PySem.W (Dat)
section
def tbQ (a b d e:Int):Dat:=.tuple [ptQ (Q1 a b d e 1 0 0) (Q1 a b d e 0 1 0) (Q1 a b d e 0 0 1),ptQ (Q2 a b d e 1 0 0) (Q2 a b d e 0 1 0) (Q2 a b d e 0 0 1),ptQ (Q3 a b d e 1 0 0) (Q3 a b d e 0 1 0) (Q3 a b d e 0 0 1)]
theorem fr_ent {a b d e t:Int} {x:Rat} (nz:∃ n ∈ [a,b,d,e],n ≠ 0) (h:(t:Rat)=x):fr t (nrm [a,b,d,e])=qf (x / N4 a b d e):=by
 rw [fr_qf (nrm_pos rfl nz), <- h]
 congr 1
 unfold qv N4 nrm
 push_cast
 rfl
section
variable {p:Option Addr} {K:PySem.W.Frag} {W:Addr->Prop} {H:Hp} {τ:List Sl} {tas:TA} {te:TE} {E':XK}
theorem tb_dz {N:Addr->Prop} {f1 f2 f3 g1 g2 g3 h1 h2 h3:List Int} {r:Addr} (h:Tb H r f1 f2 f3 g1 g2 g3 h1 h2 h3):Dz N K H (.ref r) (tbD f1 f2 f3 g1 g2 g3 h1 h2 h3):=by
 obtain ⟨p1,p2,p3,e0,e1,e2,e3⟩:=h.ex
 exact .tup (SqT.of e0) (.cons (pt_dz e1) (.cons (pt_dz e2) (.cons (pt_dz e3) .nil)))
theorem tbOf_dz {N:Addr->Prop} {a b d e:Int} {r:Addr} (nz:∃ n ∈ [a,b,d,e],n ≠ 0) (h:TbOf H r a b d e):Dz N K H (.ref r) (tbQ a b d e):=by
 unfold TbOf at h
 rw [fr_ent (x:=K0.R1 a b d e 1 0 0) nz (by unfold K0.R1;push_cast;grind),fr_ent (x:=K0.R1 a b d e 0 1 0) nz (by unfold K0.R1;push_cast;grind),fr_ent (x:=K0.R1 a b d e 0 0 1) nz (by unfold K0.R1;push_cast;grind),
  fr_ent (x:=K0.R2 a b d e 1 0 0) nz (by unfold K0.R2;push_cast;grind),fr_ent (x:=K0.R2 a b d e 0 1 0) nz (by unfold K0.R2;push_cast;grind),fr_ent (x:=K0.R2 a b d e 0 0 1) nz (by unfold K0.R2;push_cast;grind),
  fr_ent (x:=K0.R3 a b d e 1 0 0) nz (by unfold K0.R3;push_cast;grind),fr_ent (x:=K0.R3 a b d e 0 1 0) nz (by unfold K0.R3;push_cast;grind),fr_ent (x:=K0.R3 a b d e 0 0 1) nz (by unfold K0.R3;push_cast;grind)] at h
 exact tb_dz h
theorem E1.cTable {a b d e:Int} (ha:A1 p K tas τ [.dat (tI [a,b,d,e])]) (nz:∃ n ∈ [a,b,d,e],n ≠ 0) (bd:Bd (2 ^ 1000) [a,b,d,e]):E1 p K (tCall (spTable K) [] E' tas) τ (.dat (tbQ a b d e)):=fun W L σ H Q rs o q=>ha W L σ H _ rs o fun vs H1 ss e0 e1 o1 rv=>by
  subst e0
  cases rv with
  | cons u t =>
    cases t
    obtain ⟨r,rfl,z1⟩:=tup_inv u
    exact ⟨r,a,b,d,e,rfl,z1,nz,bd,fun r3 H' s h=>q _ H' _ rfl (e1.trans (Ev.of s)) (o1.same s) (tbOf_dz nz h)⟩
theorem E1.bi {b:Bool} (h:E1 p K te τ (.dat (.bool b))):E1 p K (tCB (fun xs H Q=>(∃ i,xs=[.int i]/\Q (.int i) H)\/∃ k,xs=[.bl k]/\Q (.int (if k then 1 else 0)) H) (tCons te tNil)) τ (.dat (.int (if b then 1 else 0))):=fun W L σ H Q rs o q =>
 h W L σ H _ rs o fun v H1 s e e1 o1 rv=>by
  subst e
  cases rv.bl_inv
  exact .inr ⟨b,rfl,q _ H1 _ rfl e1 o1 (.int _)⟩
end
theorem qv_pr2 {x y u v:Rat} {X X' Y Y' A A' B B':Int} (h1:X' ≠ 0) (h2:Y' ≠ 0) (h4:A' ≠ 0) (h5:B' ≠ 0) (e1:qv X X'=x) (e2:qv Y Y'=y) (e4:qv A A'=u) (e5:qv B B'=v) :
  qv ((0 * X' * A' + X * A * 1) * Y' * B' + Y * B * (1 * X' * A')) (1 * X' * A' * Y' * B')=x * u + y * v:=by
 subst e1 e2 e4 e5
 have c1:=cast_ne h1
 have c2:=cast_ne h2
 have c4:=cast_ne h4
 have c5:=cast_ne h5
 unfold qv
 push_cast
 grind
structure Row3 where
 x:Rat
 y:Rat
 z:Rat
def Row3.d (r:Row3):Dat:=ptQ r.x r.y r.z
def Row3.dot (r s:Row3):Rat:=r.x * s.x + r.y * s.y + r.z * s.z
def Orth (a b c:Row3):Prop:=a.dot a=1/\a.dot b=0/\a.dot c=0/\b.dot a=0/\b.dot b=1/\b.dot c=0/\c.dot a=0/\c.dot b=0/\c.dot c=1
theorem _root_.K0.Lo.negq {k:Nat} {x:Rat} (h:Lo k x.num x.den x):Lo k (-x).num (-x).den (-x):=by
 refine lo_qf _ ?_ ?_
 ·rw [Rat.neg_num];exact Bt.neg' h.bt
 ·rw [Rat.neg_den];exact h.bb
theorem qf_neg' (x:Rat):tI (qf (-x))=tI [-x.num,(x.den:Int)]:=by
 unfold qf
 rw [Rat.neg_num,Rat.neg_den]
def tr1 (a b d e:Int):Row3:=⟨Q1 a b d e 1 0 0,Q1 a b d e 0 1 0,Q1 a b d e 0 0 1⟩
def tr2 (a b d e:Int):Row3:=⟨Q2 a b d e 1 0 0,Q2 a b d e 0 1 0,Q2 a b d e 0 0 1⟩
def tr3 (a b d e:Int):Row3:=⟨Q3 a b d e 1 0 0,Q3 a b d e 0 1 0,Q3 a b d e 0 0 1⟩
theorem tr_orth {a b d e:Int} (nz:∃ n ∈ [a,b,d,e],n ≠ 0):Orth (tr1 a b d e) (tr2 a b d e) (tr3 a b d e)/\(tr1 a b d e).y * (tr2 a b d e).z + (tr1 a b d e).z * -(tr2 a b d e).y=(tr3 a b d e).x/\(tr1 a b d e).z * (tr2 a b d e).x + (tr1 a b d e).x * -(tr2 a b d e).z=(tr3 a b d e).y/\(tr1 a b d e).x * (tr2 a b d e).y + (tr1 a b d e).y * -(tr2 a b d e).x=(tr3 a b d e).z:=by
 have hn:=N4_ne (rfl:[a,b,d,e]=[a,b,d,e]) nz
 unfold Orth Row3.dot tr1 tr2 tr3 Q1 Q2 Q3 K0.R1 K0.R2 K0.R3
 dsimp only
 generalize (a:Rat)=A at *
 generalize (b:Rat)=B at *
 generalize (d:Rat)=D at *
 generalize (e:Rat)=E at *
 unfold N4 at *
 generalize hN:A * A + B * B + D * D + E * E=N at *
 refine ⟨⟨?_,?_,?_,?_,?_,?_,?_,?_,?_⟩,?_,?_,?_⟩ <;> grind
end
section
section
variable {W:Addr->Prop}
end
def rb (ns ms:List Int):List Int:=fr (sop ns ms * sop ns ms) (nrm ns * nrm ms)
end
end D
section
namespace L2
open PySem PySem.Spec PyProof.Rows
def CellsAre (x:Str) (names:List (Str × NameKind)):Prop:=names.filter (fun y=>y.2 == .cell)=[(x,.cell)]
theorem cells_no:∀ (names:List (Str × NameKind)) (n:Nat) (acc:List (Str × Addr)) (h:Heap),names.filter (fun y=>y.2 == NameKind.cell)=[]->cellsFrom n names acc=acc/\pushCells h names=h
  | [],n,acc,h,_=>⟨rfl,rfl⟩
  | (y,k) :: r,n,acc,h,e=>by
    by_cases hk:(k == NameKind.cell)=true
    . rw [List.filter_cons_of_pos (by simpa using hk)] at e;cases e
    . rw [List.filter_cons_of_neg (by simpa using hk)] at e
      unfold cellsFrom pushCells
      rw [if_neg hk,if_neg hk]
      exact cells_no r n acc h e
theorem cells_one {x:Str}:∀ (names:List (Str × NameKind)) (n:Nat) (acc:List (Str × Addr)) (h:Heap),CellsAre x names->cellsFrom n names acc=(x,n) :: acc/\pushCells h names=h.push { cls:=.type "cell",data:=.cell none }
  | [],n,acc,h,e=>by cases e
  | (y,k) :: r,n,acc,h,e=>by
    unfold CellsAre at e
    by_cases hk:(k == NameKind.cell)=true
    . rw [List.filter_cons_of_pos (by simpa using hk)] at e
      injection e with e1 e2
      cases e1
      unfold cellsFrom pushCells
      rw [if_pos hk,if_pos hk]
      exact cells_no r _ _ _ e2
    . rw [List.filter_cons_of_neg (by simpa using hk)] at e
      unfold cellsFrom pushCells
      rw [if_neg hk,if_neg hk]
      exact cells_one r n acc h e
section
variable {M:Model} {A:Around} {E:Value->Shared->Prop} {s:Shared}
theorem wpAny_newEnvK {x:Str} {scope:Scope} {globals:Addr} {cl:List (Str × Addr)} {qual:Str} {around:Env} {builtins:Addr} {Q:Env->Shared->Prop} (hx:CellsAre x scope.names)
  (hQ:Q (newEnv scope s.heap.objs.size globals ((x,s.heap.objs.size + 1) :: cl) qual none .none (some around) builtins) { s with heap:=(s.heap.push { cls:=.type "dict",data:=.dict #[] }).push { cls:=.type "cell",data:=.cell none } }) :
  wpAny M A (newFunctionEnv scope globals cl [] qual none .none (some around) builtins) Q E s:=by
 simp only [newFunctionEnv,Option.isSome_some,if_true]
 refine wpAny_bind (wpAny_alloc ?_)
 refine wpAny_bind (wpAny_layCells _ (fun name kind cells=>by cases hkc:kind == NameKind.cell <;> simp [hkc]) _ _ _ _ ?_)
 obtain ⟨e1,e2⟩:=cells_one scope.names ({ s with heap:=s.heap.push { cls:=.type "dict",data:=.dict #[] } }:Shared).heap.objs.size cl (s.heap.push { cls:=.type "dict",data:=.dict #[] }) hx
 rw [e1,e2]
 rw [show ({ s with heap:=s.heap.push { cls:=.type "dict",data:=.dict #[] } }:Shared).heap.objs.size=s.heap.objs.size + 1 from Heap.size_push ..]
 refine wpAny_bind ?_
 rw [List.forIn_nil]
 exact wpAny_pure (wpAny_pure hQ)
end
def cxCompK (X:Cx) (x:Str) (scope:Scope) (C:Addr) (fp:List Addr) (s:Shared) (H:Hp):Cx :=
 { X with N:=maskN [x] X.N,s₀:=s,H₀:=H,env:=compEnvC scope ((x,C + 1) :: clOf X.env.cells scope.names []) C X.env,outer:=X.stack,stack:=X.stack,ex:=fp,fn:=fun y=>y == x,pn:=[],xe:=fun _ _=>False }
structure CompScopeK (x:Str) (N:List Str) (sc scope:Scope):Prop where
 nd:(maskN [x] N).Nodup
 kind:scope.kind = .function
 cells:CellsAre x scope.names
 loc:∀ y ∈ scope.names,y.2 = .local->scope.names.lookup y.1=some .local
 fr:∀ y ∈ scope.names,y.2 = .free->scope.names.lookup y.1=some .free
 up:∀ y ∈ scope.names,y.2 = .free->sc.names.lookup y.1=some .cell\/sc.names.lookup y.1=some .free
 ow:scope.names.lookup x=some .cell
 mask:scope.names.lookup (maskS x)=none
 only:∀ y ∈ scope.names,y.2 = .local->y.1 ∉ N
theorem CompScopeK.one {x:Str} {N:List Str} {sc scope:Scope} (S:CompScopeK x N sc scope) {y:Str} (h:scope.names.lookup y=some .cell):y=x:=by
 have m:(y,NameKind.cell) ∈ scope.names.filter (fun y=>y.2 == .cell):=List.mem_filter.mpr ⟨lookup_mem h,rfl⟩
 rw [S.cells] at m
 simp at m
 exact m
section
variable {X:Cx} {x:Str} {scope:Scope} {C:Addr} {fp:List Addr} {s:Shared} {H:Hp}
theorem CompScopeK.cf {env:Env} {N:List Str} {sc:Scope} (S:CompScopeK x N sc scope) {y:Str} (hy:y ≠ x):((relabel scope env).names.lookup y=some .cell\/(relabel scope env).names.lookup y=some .free)->scope.names.lookup y=some .free:=fun h=>by
 rcases h with h | h
 ·obtain ⟨k',e,q⟩:=relabel_lookup (env:=env) h
  rcases q with q | ⟨_,q⟩
  ·rw [<- q] at e;exact absurd (S.one e) hy
  ·rw [e,q]
 ·obtain ⟨k',e,q⟩:=relabel_lookup (env:=env) h
  rcases q with q | ⟨q,_⟩
  ·rw [e, <- q]
  ·cases q
theorem clK {c:Addr} {y:Str} (e:((x,C + 1) :: clOf X.env.cells scope.names []).lookup y=some c):(y=x/\c=C + 1)\/(y ≠ x/\X.env.cells.lookup y=some c/\(y,NameKind.free) ∈ scope.names):=by
 rw [List.lookup_cons] at e
 by_cases h:y=x
 ·subst h
  simp at e
  exact .inl ⟨rfl,e.symm⟩
 ·have:(y == x)=false:=by simpa using h
  rw [this] at e
  rcases clOf_spec _ _ _ _ e with q | q
  ·exact .inr ⟨h,q.1,q.2⟩
  ·simp at q
theorem cxCompK_ok {pins:List (Addr × Obj)} {σ:St} (S:CompScopeK x X.N X.env.scope scope) (I:Inv X pins σ H s) (hC:s.heap.objs.size<=C) (hf:∀ b ∈ fp,FpOk X pins H b) (ho:∀ b ∈ fp,∃ o,s.heap.get? b=some o):(cxCompK X x scope C fp s H).Ok:=by
 have old:∀ y c,X.env.cells.lookup y=some c->c < s.heap.objs.size:=fun y c e=>by
  obtain ⟨v,o,g1,g2⟩:=I.cell y c e
  exact Heap.lt_size g1
 refine ⟨I.ok.mod,S.kind,I.ok.glob,I.ok.blt,hC,fun y z c h1 h2=>?_,fun y hy=>?_,fun y c h1 h2=>?_,I.ok.hd,I.ok.frames,.inl rfl,fun b hb=>⟨?_,fun y c e=>?_⟩,I.bs,Nat.le_trans I.ok.bsz I.sz,fun b o e hb=>?_,fun b hb z=>?_,I.stack,I.stkFree⟩
 ·rcases clK h1 with ⟨rfl,rfl⟩ | ⟨n1,e1,_⟩ <;> rcases clK h2 with ⟨rfl,e⟩ | ⟨n2,e2,_⟩
  ·rfl
  ·exact absurd (Nat.lt_of_succ_lt (Nat.lt_of_lt_of_le (old _ _ e2) hC)) (Nat.lt_irrefl _)
  ·subst e;exact absurd (Nat.lt_of_succ_lt (Nat.lt_of_lt_of_le (old _ _ e1) hC)) (Nat.lt_irrefl _)
  ·exact I.ok.inj y z c e1 e2
 ·have hy':((relabel scope X.env).names.lookup y=some .cell\/(relabel scope X.env).names.lookup y=some .free):=hy
  by_cases h:y=x
  ·subst h
   exact ⟨C + 1,by show ((y,C + 1) :: _).lookup y=_;rw [List.lookup_cons];simp⟩
  ·have q:=S.cf h hy'
   have m:=lookup_mem q
   obtain ⟨c,e⟩:=I.ok.has y (by rcases S.up _ m rfl with z | z;exact .inl z;exact .inr z)
   obtain ⟨c',e'⟩:=Option.isSome_iff_exists.mp (clOf_has scope.names [] y c m e)
   refine ⟨c',?_⟩
   show ((x,C + 1) :: _).lookup y=_
   have hb:(y == x)=false:=by simpa using h
   rw [List.lookup_cons,hb];exact e'
 ·have h1':(y == x)=true:=h1
  have h1':y=x:=by simpa using h1'
  subst h1'
  rcases clK h2 with ⟨_,rfl⟩ | ⟨n,_⟩
  ·show s.heap.objs.size<=C + 1;omega
  ·exact absurd rfl n
 ·obtain ⟨o,e⟩:=ho b hb
  exact Nat.ne_of_lt (Nat.lt_of_lt_of_le (Heap.lt_size e) hC)
 ·rcases clK e with ⟨rfl,rfl⟩ | ⟨n,e1,_⟩
  ·obtain ⟨o,e⟩:=ho b hb
   exact Nat.ne_of_gt (Nat.lt_succ_of_lt (Nat.lt_of_lt_of_le (Heap.lt_size e) hC))
  ·exact (hf b hb).2.2.2.2.1 y c e1
 ·rcases (hf b hb).2.2.2.1 with z | z
  ·exact I.ok.noex b o e z
  ·exact absurd (Nat.lt_of_lt_of_le (Heap.lt_size e) (Nat.le_trans I.ok.bsz z)) (Nat.lt_irrefl _)
 ·have z':b ∈ frs X.stack:=z
  rcases List.mem_cons.mp (I.stkSub b z') with q | q
  ·exact (hf b hb).2.1 q
  ·exact (hf b hb).2.2.1 q
theorem cxCompK_inv {pins:List (Addr × Obj)} {σ:St} {h':Heap} {t':Nat} {m:Str->Option Value} {H':Hp} (S:CompScopeK x X.N X.env.scope scope) (I:Inv X pins σ H s) (hC:s.heap.objs.size<=C) (hf:∀ b ∈ fp,FpOk X pins H b) (ho:∀ b ∈ fp,∃ o,s.heap.get? b=some o)
    (hk:∀ b o,s.heap.get? b=some o->h'.get? b=some o) (hn:h'.Ns C m) (hU:Un (frs X.stack) fp H H' s.heap h') (hok:HOk X.prog X.w H' h') (hC0:H' C=none) (hle:∀ b,b < s.heap.objs.size->H' b=H b) (hc1:h'.IsCell (C + 1) none) (hC1:H' (C + 1)=none) :
    Inv (cxCompK X x scope C fp s H) [] ([none] ++ σ) H' { s with heap:=h',toks:=t' }:=by
  refine ⟨cxCompK_ok S I hC hf ho,rfl,I.bare,hU,⟨m,hn,fun i y v h1 h2 h3=>?_⟩,fun y c e=>?_,hC0,fun y c e=>?_,fun p hp=>?_,hok,?_⟩
  . have h1':(maskN [x] X.N)[i]?=some y:=h1
    cases i with
    | zero=>cases h2
    | succ i =>
      have h2':σ[i]?=some (some v):=h2
      have h1'':(X.N.map fun y=>if [x].contains y then maskS y else y)[i]?=some y:=h1'
      rw [List.getElem?_map] at h1''
      cases ey:X.N[i]? with
      | none=>rw [ey] at h1'';cases h1''
      | some y0 =>
        rw [ey] at h1''
        have ex:(if [x].contains y0 then maskS y0 else y0)=y:=by simpa using h1''
        have h3':(relabel scope X.env).names.lookup y=some .local\/(relabel scope X.env).names.lookup y=some .cell\/(relabel scope X.env).names.lookup y=some .free:=h3
        by_cases hyo:y0=x
        . subst hyo
          rw [if_pos (by simp)] at ex
          subst ex
          have none:=S.mask
          have nx:maskS y0 ≠ y0:=fun e=>by rw [e,S.ow] at none;cases none
          rcases h3' with z | z
          . rw [relabel_local z] at none;cases none
          . rw [S.cf nx z] at none;cases none
        . rw [if_neg (by simpa using hyo)] at ex
          subst ex
          rcases h3' with z | z
          . exact absurd (List.mem_of_getElem? ey) (S.only _ (lookup_mem (relabel_local z)) rfl)
          . have q:=S.cf hyo z
            have mm:=lookup_mem q
            have up:=S.up _ mm rfl
            obtain ⟨m0,_,hl⟩:=I.loc
            obtain ⟨u,r,l⟩:=hl _ y0 v ey h2' (.inr up)
            refine ⟨u,r,.inr ⟨z,?_⟩⟩
            rcases l with ⟨k,_⟩ | ⟨k,c,e,ic⟩
            . have k':X.env.scope.names.lookup y0=some .local:=k
              rcases up with u1 | u1 <;> (rw [u1] at k';cases k')
            . obtain ⟨c',e'⟩:=Option.isSome_iff_exists.mp (clOf_has scope.names [] y0 c mm e)
              have hb:(y0 == x)=false:=by simpa using hyo
              have e2:((x,C + 1) :: clOf X.env.cells scope.names []).lookup y0=some c':=by rw [List.lookup_cons,hb];exact e'
              rcases clK (X:=X) e2 with ⟨z1,_⟩ | ⟨_,z1,_⟩
              . exact absurd z1 hyo
              . rw [e] at z1;cases z1
                obtain ⟨o,g1,g2⟩:=ic
                exact ⟨c,e2,o,hk _ _ g1,g2⟩
  . rcases clK (X:=X) e with ⟨rfl,rfl⟩ | ⟨_,e1,_⟩
    . exact ⟨none,hc1⟩
    . obtain ⟨v,o,g1,g2⟩:=I.cell y c e1
      exact ⟨v,o,hk _ _ g1,g2⟩
  . rcases clK (X:=X) e with ⟨rfl,rfl⟩ | ⟨_,e1,_⟩
    . exact hC1
    . obtain ⟨v,o,g1,g2⟩:=I.cell y c e1
      rw [hle c (Heap.lt_size g1)]
      exact I.freeC y c e1
  . exact absurd (show p ∈ ([]:List (Addr × Obj)) from hp) (by simp)
  . show ([none] ++ σ).length=(maskN [x] X.N).length
    unfold maskN
    rw [List.length_append,List.length_append,List.length_map,I.len];rfl
theorem Inv.behindK {pins:List (Addr × Obj)} {σ σ':St} {pins':List (Addr × Obj)} {H':Hp} {s':Shared} (I:Inv X pins σ H s) (hf:∀ b ∈ fp,FpOk X pins H b) (J:Inv (cxCompK X x scope C fp s H) pins' σ' H' s'):Inv X pins σ H' s':=by
 refine I.call' J.os J.base J.hok J.bare fun b hb=>?_
 obtain ⟨h0,h1,h2,h3,h4,h5⟩:=hf b hb
 exact ⟨h3,h1,h4,h5⟩
end
section
variable {X:Cx} {xk:Str} {scope:Scope} {elt tg iter:Expr} {ifs:List Expr} {pos:Pos} {wi:TI} {g:TG} {tt:TT} {te:TE}
theorem comp_blockK {pins:List (Addr × Obj)} {σ:St} {H:Hp} {s:Shared} {it:Addr} {fp:List Addr} {tn:Nat->Heap->Prop} {J:It} {Q:VK} {RR:Value->Addr->Result->Shared->Prop} {E:Value->Shared->Prop}
    (hc:X.calm=true) (S:CompScopeK xk X.N X.env.scope scope)
    (hg:∀ C fp s H,PG (cxCompK X xk scope C fp s H) tg g) (ht:∀ C fp s H,PTs (cxCompK X xk scope C fp s H) ifs tt) (he:∀ C fp s H,PE (cxCompK X xk scope C fp s H) elt te)
    (I:Inv X pins σ H s) (T:Turn X.prog X.w X.K tg J fp it tn) (st:tn 0 s.heap) (hf:∀ b ∈ fp,FpOk X pins H b)
    (h:CompW 1 J g tt te σ H Q)
    (hRR:∀ D C s' H' m,Inv X pins σ H' s'->s'.heap.Ns C m->H' C=none->s.heap.objs.size<=C->Q (.ref D) H'->RR (.ref D) C (.ok .next) s') :
    wpAny (model X.prog X.w) X.A (newList []) (fun acc s₃=>wpAny (model X.prog X.w) X.A (newFunctionEnv scope X.env.globals (clOf X.env.cells scope.names []) [] X.env.qual none .none (some X.env)) (fun cenv s₄ =>
      codeAny (model X.prog X.w) X.A (.compStart (.ListComp elt [⟨tg,iter,ifs,0⟩] scope pos) 0 (.ref it) acc { cenv with scope:=relabel scope X.env }) (RR acc cenv.locals) s₄) E s₃) E s:=by
  refine wpAny_newObj_type (wpAny_newEnvK S.cells ?_)
  dsimp only
  generalize hH2:s.heap.push { cls:=.type "list",dict:=none,data:=.seq ([]:List Value).toArray }=H2
  have hC:H2.objs.size=s.heap.objs.size + 1:=by rw [<- hH2,Heap.size_push]
  have hDC:s.heap.objs.size ≠ H2.objs.size:=by rw [hC];exact Nat.ne_of_lt (Nat.lt_succ_self _)
  have hCle:s.heap.objs.size<=H2.objs.size:=by rw [hC];exact Nat.le_succ _
  have hk2:∀ b o,H2.get? b=some o->((H2.push { cls:=.type "dict",data:=.dict #[] }).push { cls:=.type "cell",data:=.cell none }).get? b=some o:=fun b o e=>Heap.get?_push_of_some _ (Heap.get?_push_of_some _ e)
  have hns₁:((H2.push { cls:=.type "dict",data:=.dict #[] }).push { cls:=.type "cell",data:=.cell none }).Ns H2.objs.size (fun _=>none):=(Heap.Ns.new H2 (.type "dict")).keeps fun b o e=>Heap.get?_push_of_some _ e
  have hcl1:((H2.push { cls:=.type "dict",data:=.dict #[] }).push { cls:=.type "cell",data:=.cell none }).IsCell (H2.objs.size + 1) none:=by
    rw [show H2.objs.size + 1=(H2.push { cls:=.type "dict",data:=.dict #[] }).objs.size from (Heap.size_push ..).symm]
    exact ⟨_,Heap.get?_push_size _ rfl,rfl⟩
  have old:∀ b o,s.heap.get? b=some o->((H2.push { cls:=.type "dict",data:=.dict #[] }).push { cls:=.type "cell",data:=.cell none }).get? b=some o:=fun b o e=>hk2 b o (hH2 ▸ Heap.get?_push_of_some _ e)
  have hacc:((H2.push { cls:=.type "dict",data:=.dict #[] }).push { cls:=.type "cell",data:=.cell none }).get? s.heap.objs.size=some { cls:=.type "list",dict:=none,data:=.seq ([]:List Value).toArray }:=hk2 _ _ (hH2 ▸ Heap.get?_push_size _ rfl)
  generalize (H2.push { cls:=.type "dict",data:=.dict #[] }).push { cls:=.type "cell",data:=.cell none }=h₁ at *
  have ho:∀ b ∈ fp,∃ o,s.heap.get? b=some o:=fun b hb=>let ⟨o,e,_⟩:=T.obj _ _ st b hb;⟨o,e⟩
  have fresh:∀ a,s.heap.objs.size<=a->H a=none:=fun a ha=>I.hok.fresh ha
  generalize hD:s.heap.objs.size=D at *
  generalize hCC:H2.objs.size=C at *
  have I1:Inv (cxCompK X xk scope C fp s H) [] ([none] ++ σ) (upd H D (.lst [])) { s with heap:=h₁,toks:=s.toks }:=by
    refine cxCompK_inv S I (by rw [hD];exact hCle) hf ho old hns₁ (Un.laid old (by rw [hD];exact Nat.le_refl _) (fresh D (Nat.le_refl _))) (I.hok.laid old (by rw [hD];exact Nat.le_refl _) ?_) ?_ (fun b hb=>?_) hcl1 ?_
    . exact ⟨Nat.zero_le _,[],0,.nil,hacc⟩
    . rw [upd_ne (Ne.symm hDC)];exact fresh C hCle
    . rw [hD] at hb;rw [upd_ne (Nat.ne_of_lt hb)]
    . rw [upd_ne (Nat.ne_of_gt (Nat.lt_succ_of_le hCle))];exact fresh _ (Nat.le_succ_of_le hCle)
  obtain ⟨W,⟨m0,w0⟩,turn⟩:=h D (fresh D (Nat.le_refl _))
  have fpY:∀ {H':Hp},(∀ b ∈ fp,H' b=none)->∀ b ∈ fp,FpOk (cxCompK X xk scope C fp s H) [] H' b:=fun hn b hb=>by
    obtain ⟨q0,q1,q2,q3,q4,q5⟩:=hf b hb
    refine ⟨hn b hb,I1.ok.exf b hb |>.1,I1.ok.exfs b hb,.inl hb,I1.ok.exf b hb |>.2,fun p hp=>absurd (show p ∈ ([]:List (Addr × Obj)) from hp) (by simp)⟩
  have loop:codeAny (model X.prog X.w) X.A (.compLoop (.ListComp elt [⟨tg,iter,ifs,0⟩] scope pos) 0 (.ref it) (.ref D) (compEnvC scope ((xk,C + 1) :: clOf X.env.cells scope.names []) C X.env)) (RR (.ref D) C) { s with heap:=h₁,toks:=s.toks }:=by
    refine compLoop_any (fun n s'=>∃ i σ' H',Inv (cxCompK X xk scope C fp s H) [] σ' H' s'/\tn i s'.heap/\(∀ b ∈ fp,H' b=none)/\W i n σ' H') ?_ m0
      ⟨0,_,_,I1,T.keep _ _ _ st fun b _ o e=>old b o e,fun b hb=>?_,w0⟩
    . rintro n s3 ⟨i,σ3,H3,I3,st3,fr3,w3⟩
      rcases turn i n σ3 H3 w3 with ⟨stop,qn⟩ | ⟨go,step⟩
      . refine thn (T.done (cxCompK X xk scope C fp s H) rfl rfl rfl hc i [] s3 σ3 H3 _ I3 (fpY fr3) st3 stop) fun r s4 ⟨hr,I4⟩=>?_
        subst hr
        obtain ⟨m,hm,_⟩:=I4.loc
        exact hRR D C s4 H3 m (I.behindK hf I4) hm I4.free hCle qn
      . refine thn (T.item (cxCompK X xk scope C fp s H) rfl rfl rfl hc i [] s3 σ3 H3 _ I3 (fpY fr3) st3 go) fun r s4 ⟨u,hr,h4⟩=>?_
        subst hr
        dsimp only
        refine thn h4 fun _ s5 ⟨x,H5,I5,r5,y5,st5,fr5⟩=>?_
        have I5':=I5.pinned (fpY fr5) (T.obj _ _ st5)
        refine thn (hg C fp s H _ s5 σ3 H5 x u _ I5' r5 (step x H5 y5)) fun _ s6 ⟨σ6,H6,I6,q6⟩=>?_
        refine thn (ht C fp s H _ s6 σ6 H6 _ I6 q6) fun b s7 ⟨H7,I7,q7⟩=>?_
        have again:∀ {s8:Shared} {σ7:St} {H7:Hp},Inv (cxCompK X xk scope C fp s H) ([] ++ pinsAt fp s5.heap) σ7 H7 s8->(∃ m',m' < n/\W (i + 1) m' σ7 H7)->∃ m,m < n/\∃ i σ' H',Inv (cxCompK X xk scope C fp s H) [] σ' H' s8/\tn i s8.heap/\(∀ b ∈ fp,H' b=none)/\W i m σ' H':=fun {s8 σ7 H7} I7 n7=>by
          obtain ⟨m',hm,w7⟩:=n7
          refine ⟨m',hm,i + 1,σ7,H7,I7.unpinned,T.keep _ _ _ st5 fun b hb o e=>(I7.pin (b,o) (List.mem_append_right _ (List.mem_append_right _ (mem_pinsAt hb e)))).1,fun b hb=>?_,w7⟩
          obtain ⟨o,e,d⟩:=T.obj _ _ st5 b hb
          exact (I7.pin (b,o) (List.mem_append_right _ (List.mem_append_right _ (mem_pinsAt hb e)))).2.1
        cases b with
        | false =>
          rw [if_neg (by simp)] at q7
          exact again I7 q7
        | true =>
          rw [if_pos rfl] at q7 ⊢
          refine thn (he C fp s H _ s7 σ6 H7 _ I7 q7) fun u8 s8 ⟨v,H8,I8,r8,xs,hx,hz,q8⟩=>?_
          refine thn (mt_append (X:=cxCompK X xk scope C fp s H) _ s8 σ6 H8 (.ref D) [v] (.ref D) [u8] (fun _ H9=>∃ m',m' < n/\W (i + 1) m' σ6 H9) I8 rfl (.cons r8 .nil) ⟨D,xs,v,rfl,rfl,hx,hz,q8⟩) fun _ s9 ⟨_,H9,I9,_,q9⟩=>?_
          exact again I9 q9
    . have lt:b < D:=by
        obtain ⟨o,e⟩:=ho b hb
        exact hD ▸ Heap.lt_size e
      rw [upd_ne (Nat.ne_of_lt lt)]
      exact (hf b hb).1
  exact codeAny_compStart_list loop (T.self _ 0 _ _ _ (T.keep _ _ _ st fun b _ o e=>old b o e) loop)
theorem comp_closK {pins:List (Addr × Obj)} {σ:St} {H:Hp} {s:Shared} (S:CompScopeK xk X.N X.env.scope scope) (I:Inv X pins σ H s):closureFor scope X.env=pure (clOf X.env.cells scope.names []) :=
 closureFor_eq fun y hy hk=>I.ok.has y.1 (by rcases S.up y hy hk with z | z;exact .inl z;exact .inr z)
theorem pe_compK {N0 P0:List Str} {sc:Scope} (S0:FnScope N0 P0 sc) (hc:X.calm=true) (S1:CompScopeK xk N0 sc scope) (hi:PI X tg iter wi)
  (hg:∀ C fp s H,(maskN [xk] N0).Nodup->PG (cxCompK X xk scope C fp s H) tg g) (ht:∀ C fp s H,PTs (cxCompK X xk scope C fp s H) ifs tt) (he:∀ C fp s H,PE (cxCompK X xk scope C fp s H) elt te)
  (hs:∀ x,foldedSetIterable iter X.env x=pure x:=by intro _;rfl) (hN0:X.N=N0:=by rfl) (hsc:X.env.scope=sc:=by rfl):PE X (.ListComp elt [⟨tg,iter,ifs,0⟩] scope pos) (tCompB 1 wi g tt te):=by
 intro pins s σ H Q I h
 subst hN0 hsc
 have S:=S1
 replace hg:=fun C fp s H=>hg C fp s H S1.nd
 rw [eval_ListComp]
 refine wpAny_comprehension_free (use:=none) rfl hs (comp_closK S I) S.kind S.loc (thn (hi pins s σ H _ I h) fun xv s₁ h₁=>thn h₁ fun itv s₂ h₂=>?_)
 obtain ⟨it,fp,tn,J,H2,rfl,I2,T,st2,f2,q2⟩:=h₂
 refine comp_blockK (Q:=Q) hc S hg ht he I2 T st2 f2 q2 ?_
 intro D C s' H' m I' hm hC hCle q
 refine ⟨m,hm,fun h' hs'=>⟨.ref D,H',?_,rfl,q⟩⟩
 exact I'.letgo hC I2.sz hCle I2.lt (fun x c e=>let ⟨v,z⟩:=I2.cell x c e;z.lt) (fun p hp=>Heap.lt_size (I2.pin p hp).1) hs'
end
section
variable {X:Cx} {x:Str} {scope:Scope} {elt tg iter:Expr} {ifs:List Expr} {pos:Pos} {wi:TI} {g:TG} {tt:TT} {te:TE} {e:Expr}
theorem ze_compK {sc:Scope} {N0 P0:List Str} (S0:FnScope N0 P0 sc) (hc:X.calm=true) (S1:CompScopeK x N0 sc scope) (hi:ZI X tg iter wi)
  (hg:∀ C fp s H,(maskN [x] N0).Nodup->ZG (cxCompK X x scope C fp s H) tg g) (ht:∀ C fp s H,ZTs (cxCompK X x scope C fp s H) ifs tt) (he:∀ C fp s H,ZE (cxCompK X x scope C fp s H) elt te)
  (hs:∀ x,foldedSetIterable iter X.env x=pure x:=by intro _;rfl) (hN0:X.N=N0:=by rfl) (hsc:X.env.scope=sc:=by rfl):ZE X (.ListComp elt [⟨tg,iter,ifs,0⟩] scope pos) (tCompB 1 wi g tt te) :=
 ⟨pe_compK S0 hc S1 hi.out (fun C fp s H n=>(hg C fp s H n).out) (fun C fp s H=>(ht C fp s H).out) (fun C fp s H=>(he C fp s H).out) hs hN0 hsc⟩
theorem ze_compNK {own2:List Str} {scope2 sc:Scope} {N P0:List Str} {C1:Addr} {fp1:List Addr} {s1:Shared} {H1:Hp} (S0:FnScope N P0 sc) (hc:X.calm=true) (S1:CompScope own2 (maskN [x] N) (relS scope sc) scope2) (hi:ZI (cxCompK X x scope C1 fp1 s1 H1) tg iter wi)
  (hg:∀ C fp s H,(maskN own2 (maskN [x] N)).Nodup->ZG (cxComp (cxCompK X x scope C1 fp1 s1 H1) own2 scope2 C fp s H) tg g) (ht:∀ C fp s H,ZTs (cxComp (cxCompK X x scope C1 fp1 s1 H1) own2 scope2 C fp s H) ifs tt) (he:∀ C fp s H,ZE (cxComp (cxCompK X x scope C1 fp1 s1 H1) own2 scope2 C fp s H) elt te)
  (hs:∀ x',foldedSetIterable iter (cxCompK X x scope C1 fp1 s1 H1).env x'=pure x':=by intro _;rfl) (hN0:X.N=N:=by rfl) (hsc:X.env.scope=sc:=by rfl):ZE (cxCompK X x scope C1 fp1 s1 H1) (.ListComp elt [⟨tg,iter,ifs,0⟩] scope2 pos) (tCompB own2.length wi g tt te) :=
 ⟨pe_compX (X:=cxCompK X x scope C1 fp1 s1 H1) hc S1 hi.out (fun C fp s H n=>(hg C fp s H n).out) (fun C fp s H=>(ht C fp s H).out) (fun C fp s H=>(he C fp s H).out) hs (by show maskN [x] X.N=_;rw [hN0]) (by subst hsc;rfl)⟩
variable {C:Addr} {fp:List Addr} {s:Shared} {H:Hp}
theorem call_tupleK:CallR (cxCompK X x scope C fp s H) (.type "tuple") (fun xs H Q=>∃ p ys,xs=[.ref p]/\((SqL X.K H p ys/\∀ l,H l=none->Q (.ref l) (upd H l (.tup ys)))\/(SqT X.K H p ys/\Q (.ref p) H))):=call_tuple_of
variable {own2:List Str} {scope2:Scope} {C2:Addr} {fp2:List Addr} {s2:Shared} {H2:Hp}
theorem ix_tupKC:IxR (cxComp (cxCompK X x scope C fp s H) own2 scope2 C2 fp2 s2 H2) (rIxT X.K):=ix_tup
theorem ix_tupCC {own:List Str}:IxR (cxComp (cxComp X own scope C fp s H) own2 scope2 C2 fp2 s2 H2) (rIxT X.K):=ix_tup
end
end L2
end
namespace D
open PySem L2 K0 Num
open PySem.W (Dat)
def nd (kind:Int):Nat:=if kind=0 then 1 else if kind=4 then 3 else 2
def pw (ns:List Int):Nat->List Int
 | 0=>ns
 | k + 1=>qm ns (pw ns k)
section
end
def tn (ns:List Int):Nat->List Int
 | 0=>[1,0,0,0]
 | k + 1=>pl (pw ns k)
section
section
variable {K:PySem.W.Frag} {τ:List Sl} {tas:TA} {tb:TE} {E':XK}
theorem ER.fresh4 {c mo:Int} (ha:A1 none K tas τ [.dat (.int c)]) (hb:E1 none K tb τ (.dat (.int mo))) (h0:0 < mo) (h1:mo < 100):ER none K (tCall (spFour2 K) [] E' (tCons (tCall spPurse2 [] E' tas) (tCons tb tNil))) τ (fun ns=>ns.length=4/\(∃ n ∈ ns,n ≠ 0)/\Bd (6 * 10 ^ 30) ns):=fun W L σ H Q rs o q=>by
  refine ha W L σ H _ rs o fun vs H1 ss e e1 o1 rv=>?_
  subst e
  cases rv with
  | cons a t =>
    cases t
    cases a.int_inv
    refine ⟨c,rfl,fun q0 H2 nq s pu=>?_⟩
    have rs1:=rs.ev e1 o.pw
    have es:Ev (Pp none) H1 H2:=Ev.of s
    refine hb W L σ H2 _ (rs1.ev es o1.pw) (o1.same s) fun v H3 s' e' e3 o3 rv'=>?_
    subst e'
    cases rv'.int_inv
    have pu3:Pu H3 q0:=by
      obtain ⟨x,y,e⟩:=pu
      exact ⟨x,y,e3.keep _ _ (fun z=>by cases z) e⟩
    refine ⟨q0,mo,rfl,pu3,h0,h1,fun r ns H' l nz bd sb pu' hz=>?_⟩
    have ev:=sb_ev sb pu3
    have e6:Ev (Pp none) H1 H':=⟨fun b o _ h=>sb b o (fun z=>by rw [z,nq] at h;cases h) (e3.keep _ _ (fun z=>by cases z) (s b o h)),fun a o t h=>ev.tm _ _ _ ((es.trans e3).tm _ _ _ h)⟩
    exact q _ H' _ ⟨ns,rfl,l,nz,bd⟩ (e1.trans e6) (o1.ev e6 fun q hq=>by cases hq) (.tup hz (Dzs.ints _))
end
end
end D
section
namespace L2
open PySem PySem.Spec PyProof.Rows
section
variable {X:Cx}
theorem zs_never {st:Stmt}:ZS X st tNever:=⟨ps_never⟩
end
end L2
end
section
namespace L2
open PySem PySem.Spec PyProof.Rows
section
abbrev zs (h:Heap) (sx:Str) (t:Tok):Heap:=h.push { cls:=.type "str_ascii_iterator",data:=.fields #[.str sx t,.int 0 0] }
end
section
end
end L2
end
section
namespace L2
open PySem PySem.Spec PyProof.Rows
section
end
end L2
namespace D
open PySem L2 K0 Num
open PySem.W (Dat)
section
end
def hg (i j k:Nat):Str:=⟨#[120 + i,120 + j,120 + k]⟩
def w1 (i:Nat):Int:=if i=0 then 1 else 0
def w2 (i:Nat):Int:=if i=1 then 1 else 0
def w3 (i:Nat):Int:=if i=2 then 1 else 0
def hu (f g h:List Int):List Int:=pl (qm f (qm g h))
section
variable {f g h:List Int}
end
end D
end
section
namespace L2
open PySem PySem.Spec PyProof.Rows
section
end
end L2
namespace D
open PySem L2 K0 Num
open PySem.W (Dat)
section
end
def hd (i j:Nat):Int:=if (i + 1) % 3=j then 1 else -1
def le3 (i j k:Nat):Int:=if i=k then 0 else hd i j
end D
end
namespace D
open PySem L2 K0 Num
open PySem.W (Dat)
def lea (i j k:Nat) (m n:Int):List Int:=ps (m * 1 + n * le3 i j k) (n * 1 - m * le3 i j k)
def fstS (p q r s m n:Int):Int × Int:=if p * m + r * n=0/\q * m + s * n=0 then (p * m * 0 + q * m * 1,q * m * 0 - p * m * 1) else (p * m + r * n,q * m + s * n)
def sby (i j k:Nat) (p q r s m n:Int):Dat:=.tuple [tI (ps (fstS p q r s m n).1 (fstS p q r s m n).2),tI (lea i j k m n),tI (ps (p * m * (fstS p q r s m n).2 + q * m * -(fstS p q r s m n).1) (q * m * (fstS p q r s m n).2 - p * m * -(fstS p q r s m n).1))]
def rowD (x:List (List Int)):Dat:=.tuple (x.map tI)
section
end
def sbyR (i j k:Nat) (p q r s m n:Int):List (List Int):=[ps (fstS p q r s m n).1 (fstS p q r s m n).2,lea i j k m n,ps (p * m * (fstS p q r s m n).2 + q * m * -(fstS p q r s m n).1) (q * m * (fstS p q r s m n).2 - p * m * -(fstS p q r s m n).1)]
theorem sby_row {i j k:Nat} {p q r s m n:Int}:sby i j k p q r s m n=rowD (sbyR i j k p q r s m n):=rfl
section
end
theorem atI_head {α:Type} {x:α} {r:List α}:atI (x :: r) 0=some x:=by
 unfold atI ixN
 rw [if_pos (by decide),if_pos (by rw [List.length_cons];omega)]
 rfl
section
def Pu3 (N:Nat) (H:Hp) (q:Addr):Prop:=∃ x c n:Int,H q=some (.lst [.int x,.int c,.int n])/\0<=n/\n<=N
structure P3 (q:Addr) (ip N:Nat) (W:Addr->Prop) (L:List Addr) (σ:St) (H:Hp):Prop where
 wq:W q
 lq:q ∉ L
 sq:σ[ip]?=some (some (.ref q))
 pu:Pu3 N H q
section
variable (q:Addr) (ip N M:Nat) (K:PySem.W.Frag)
def T2 (tt:TT) (τ:List Sl) (C:Bool->Prop):Prop:=∀ (W:Addr->Prop) (L:List Addr) (σ:St) (H:Hp) (Q:Bool->Hp->Prop),Rs none W K H L σ τ->Ok none W H->P3 q ip N W L σ H->(∀ b H',C b->Ev (fun a=>a=q) H H'->Ok none W H'->Pu3 M H' q->Q b H')->tt σ H Q
def S2 (ts:TS) (τ:List Sl) (nx:List Sl->Prop) (rt:Sl->Prop):Prop:=∀ (W:Addr->Prop) (L:List Addr) (σ:St) (H:Hp) (D:Ends),Rs none W K H L σ τ->Ok none W H->P3 q ip N W L σ H ->
 (∀ (W':Addr->Prop) (L':List Addr) σ' H' τ',nx τ'->Ev W H H'->Ok none W' H'->(∀ a,W a->∃ ys,H' a=some ys)->(∀ a,W' a->W a\/H a=none)->(∀ a,a ∈ L'->a ∈ L\/H a=none)->Rs none W' K H' L' σ' τ'->P3 q ip M W' L' σ' H'->D.nx σ' H') ->
 (∀ (W':Addr->Prop) H' v s,rt s->Ev W H H'->Ok none W' H'->(∀ a,W a->∃ ys,H' a=some ys)->(∀ a,W' a->W a\/H a=none)->Rr none W' K L H H' v s->Pu3 M H' q->D.rt v H')->ts D σ H
end
section
variable {q:Addr} {ip N M:Nat} {K:PySem.W.Frag} {W:Addr->Prop} {L:List Addr} {σ:St} {H H':Hp} {τ τ':List Sl} {v:V} {s:Sl} {nx:List Sl->Prop} {rt:Sl->Prop} {tt:TT}
end
end
end D
section
namespace L2
open PySem PySem.Spec PyProof.Rows
end L2
namespace D
open PySem L2 K0 Num
open PySem.W (Dat)
section
variable {q:Addr} {ip N M:Nat} {K:PySem.W.Frag} {W:Addr->Prop} {L:List Addr} {σ:St} {H H1:Hp} {τ:List Sl} {ds:List Dat} {wi:TI}
def W2 (q:Addr) (ip N M:Nat) (K:PySem.W.Frag) (wi:TI) (τ:List Sl) (P:List Dat->Prop):Prop:=∀ (W:Addr->Prop) (L:List Addr) (σ:St) (H:Hp) (R:It->Hp->Prop),Rs none W K H L σ τ->Ok none W H->P3 q ip N W L σ H->(∀ ds J H1,P ds->Ev (fun a=>a=q) H H1->Ok none W H1->Pu3 M H1 q->Jd W K J H1 ds->R J H1)->wi σ H R
end
end D
end
namespace D
open PySem L2 K0 Num
open PySem.W (Dat)
section
section
variable {p:Option Addr} {K:PySem.W.Frag} {τ:List Sl} {ta tb:TE} {E':XK}
theorem E.call2C {R:List Dat->Dat->Prop} {A0 C:Dat->Prop} {ds:Dat} (h0:E1 p K ta τ (.dat ds)) (ha:E p K tb τ (fun s=>∃ d,s = .dat d/\A0 d)) (hr:∀ d,A0 d->∃ d',R [ds,d] d'/\C d'):E p K (tCall (spP K R) [] E' (tCons ta (tCons tb tNil))) τ (fun s=>∃ d,s = .dat d/\C d):=fun W L σ H Q rs o k =>
 h0 W L σ H _ rs o fun v0 H0 s0 e0 ev0 o0 rv0=>ha W L σ H0 _ (rs.ev ev0 o.pw) o0 fun v H1 s ⟨d,es,ad⟩ e1 o1 rv=>by
  subst e0 es
  obtain ⟨d',r0,cd⟩:=hr d ad
  show spP K R ([v0,v] ++ []) H1 Q E'
  rw [List.append_nil]
  have z0:Dz (fun a=>¬ W a) K H1 v0 ds:=rv0.ev e1 o0 o
  have z:Dz (fun a=>¬ W a) K H1 v d:=rv
  exact ⟨[ds,d],d',.cons (z0.mono fun _ _=>trivial) (.cons (z.mono fun _ _=>trivial) .nil),r0,fun v H' s z=>k v H' _ ⟨d',rfl,cd⟩ ((ev0.trans e1).trans (Ev.of s)) (o1.same s) (z.mono fun a ha=>o1.fresh ha)⟩
end
end
end D
section
namespace L2
open PySem PySem.Spec PyProof.Rows
end L2
namespace D
open PySem L2 K0 Num
open PySem.W (Dat)
section
variable {p:Option Addr} {K:PySem.W.Frag} {τ:List Sl} {tb:TE}
theorem E1.catVO {i:Nat} {xs ys:List Dat} (h:τ[i]?=some (.own xs)) (hb:E1 p K tb τ (.own ys)) (hz:xs.length + ys.length<=sizeLine):E1 p K (tOp rCat (tVar i) tb) τ (.own (xs ++ ys)):=fun W L σ H Q rs o q=>by
 obtain ⟨a,vs,e,w,n,u,h1,z⟩:=rs.get_own h
 refine ⟨_,e,hb W L σ H _ rs o fun y H2 t e' e2 o2 rv2=>?_⟩
 subst e'
 obtain ⟨b,us,rfl,h3,h4,h5⟩:=rv2
 have z2:=z.ev (W:=Pp p) e2 o.nw
 refine ⟨a,b,vs,us,rfl,rfl,e2.keep a _ (fun y=>n y) h1,h4,by rw [z.len,h5.len];exact hz,fun l hl=>?_⟩
 have s:=Same.new hl (.lst (vs ++ us))
 exact q _ _ _ rfl (e2.trans (Ev.of s)) (o2.same s) ⟨l,_,rfl,o2.back e2 hl,upd_same,(z2.app h5).ev (W:=Pp p) (Ev.of s) o2.nw⟩
end
theorem deq_tI {x y:List Int}:deq (tI x) (tI y)=decide (x=y):=deq_tup
end D
end
namespace D
open PySem L2 K0 Num
open PySem.W (Dat)
def n4 (a b c e:Int):Int:=a * a + b * b + c * c + e * e
section
def gNs:List Nat->TGs
 | []=>gNil
 | i :: r=>gCons (gName i) (gNs r)
def sets:List Sl->List Nat->List Dat->List Sl
 | τ,i :: is,d :: ds=>sets (τ.set i (.dat d)) is ds
 | τ,_,_=>τ
section
variable {p:Option Addr} {K:PySem.W.Frag} {W:Addr->Prop} {L:List Addr} {σ:St} {H:Hp} {τ τ':List Sl} {q:Addr}
theorem gNs_run {Q:St->Hp->Prop}:∀ {is:List Nat} {ds:List Dat} {vs:List V} {τ:List Sl} {σ:St} {L:List Addr},is.length=ds.length->Rs p W K H L σ τ->Dzs (fun a=>¬ W a) K H vs ds->(∀ L' σ',(∀ a,a ∈ L'->a ∈ L)->Rs p W K H L' σ' (sets τ is ds)->Q σ' H)->gNs is vs σ H Q
  | [],[],vs,τ,σ,L,_,r,z,k=>by
    cases z
    exact ⟨rfl,k L σ (fun _ h=>h) r⟩
  | i :: is, d :: ds, vs, τ, σ, L, hl, r, z, k => by
    cases z with
    | cons a t =>
      obtain ⟨L1,l1,r1⟩:=r.set (s:=.dat d) (.inr (.inl ⟨d,rfl,a⟩)) i
      exact ⟨_,_,rfl,gNs_run (by simpa using hl) r1 t fun L' σ' l' r'=>k L' σ' (fun a ha=>l1 a (l' a ha)) r'⟩
  | [],_ :: _,_,_,_,_,hl,_,_,_=>by cases hl
  | _ :: _,[],_,_,_,_,hl,_,_,_=>by cases hl
theorem Gd.lst {is:List Nat} {ds:List Dat} {n:Nat} (hl:is.length=ds.length) (hn:ds.length=n:=by rfl) (e:sets τ is ds=τ':=by rfl):Gd p K (gLst K n (gNs is)) (.list ds) τ τ':=fun W L σ H v Q r z q=>by
 subst e
 cases z with
 | lst h1 h2=>exact ⟨_,_,rfl,h1.sq,by rw [h2.len,hn],gNs_run hl r h2 q⟩
end
end
section
def spQ (K:PySem.W.Frag) (R:List Dat->(Dat->Prop)->Prop):Sp:=fun vs H Q _=>∃ ds C,Dzs (fun _=>True) K H vs ds/\R ds C/\∀ v H' d,C d->Same H H'->Dz (fun a=>H a=none) K H' v d->Q v H'
section
variable {p:Option Addr} {K:PySem.W.Frag} {W:Addr->Prop} {L:List Addr} {σ:St} {H H1:Hp} {τ τ':List Sl} {tas:TA} {v:V} {s:Sl} {t:TS} {ds:List Dat} {E':XK}
theorem E.callQ {R:List Dat->(Dat->Prop)->Prop} {ss:List Sl} {ds:List Dat} {C:Dat->Prop} (ha:A1 p K tas τ ss) (hr:R ds C) (hd:datsOf ss=some ds:=by rfl):E p K (tCall (spQ K R) [] E' tas) τ (fun s=>∃ d,s = .dat d/\C d):=fun W L σ H Q rs o q=>ha W L σ H _ rs o fun vs H1 ss e e1 o1 rv=>by
 subst e
 rw [List.append_nil]
 exact ⟨ds,C,rv.dz hd,hr,fun v H' d c s z=>q v H' _ ⟨d,rfl,c⟩ (e1.trans (Ev.of s)) (o1.same s) (z.mono fun a ha=>o1.fresh ha)⟩
variable {P:Program} {w:World} {mg:Str->Option Value} {base:Heap}
theorem okQ {x qual:Str} {st:Stmt} {f:Addr} {fd:FuncData} {N ps:List Str} {k:Nat} {R:List Dat->(Dat->Prop)->Prop} (F:Fun K x qual st f fd) (S0:FnScope N ps (defScope st)) (len:∀ ds C,R ds C->ds.length=ps.length)
    (body:∀ (cdv:Value) (A:Around) (outer:List Env) (s:Shared) (H:Hp) (E:XK),Room k (A.deeper (PyProof.Rows.envOfC qual (defScope st) s.heap.objs.size f cdv)) ->
      ∃ t,ZSs (cxOf CX0 P w K mg base N qual (defScope st) f cdv A outer s H E).nox (defBody st) t/\∀ ds C,R ds C->S none K t (ds.map .dat ++ List.replicate (N.length - ps.length) .un) (fun _=>False) (fun s=>∃ d,C d/\Gives d s)):FnOk P w K mg base CX0 (k + 1) f fd ps (spQ K R):=by
  refine F.okZ S0 (fun vs H Q E h=>?_) (fun cdv A outer s H vs Q E hr h=>?_)
  . obtain ⟨ds,C,z,r,_⟩:=h;rw [z.len];exact len ds C r
  . obtain ⟨ds,C,z,r,q⟩:=h
    obtain ⟨t,hz,hs⟩:=body cdv A outer s H E hr
    refine ⟨t,hz,?_⟩
    have l:vs.length=ps.length:=by rw [z.len];exact len ds C r
    have r0:Rs none (fun _=>False) K H [] (L2.start N vs) (ds.map .dat ++ List.replicate (N.length - ps.length) .un):=by
      unfold L2.start
      rw [l]
      exact rs_start _ z fun a _ h=>h
    have same:∀ {H':Hp},Ev (fun _=>False) H H'->Same H H':=fun e b o h=>e.keep b o (fun z=>z) h
    refine hs ds C r (fun _=>False) [] _ H _ r0 ⟨fun q h=>(by cases h),fun a h=>False.elim h⟩ (fun W' L' σ' H' τ' e ev o' al n l r'=>e.elim) (fun W' H' v s e ev o' al n rv=>?_)
    obtain ⟨d,c,e⟩:=e
    cases s with
    | dat d' =>
      obtain ⟨rfl,nl⟩:=e
      exact q v H' _ c (same ev) (Dz.free rv nl)
    | own es =>
      obtain ⟨rfl,nl⟩:=e
      obtain ⟨a,vs,rfl,h1,h2,h3⟩:=rv
      have h0:H a=none:=h1.resolve_left (fun z=>by cases z)
      exact q _ H' _ c (same ev) (.lst (.inl ⟨h0,.inl h2⟩) (Dzs.free h3 nl))
    | _=>exact e.elim
end
def In (a b c d e f x y z:Int):Prop:=∃ m1 m2 m3:Int,x=m1 * a + m2 * b + m3 * d/\y=m2 * c + m3 * e/\z=m3 * f
structure Hnf (a b c d e f:Int):Prop where
 a0:0 < a
 c0:0 < c
 f0:0 < f
 b0:0<=b
 b1:b < a
 d0:0<=d
 d1:d < a
 e0:0<=e
 e1:e < c
end
end D
section
namespace L2
open PySem PySem.Spec PyProof.Rows
end L2
namespace D
open PySem L2 K0 Num
open PySem.W (Dat)
def units:List (List Int):=[[1,0,0],[0,1,0],[0,0,1]]
def Kpt (F:List Int) (x y z:Int):Prop:=∀ a b c e:Int,pl F=[a,b,c,e]->(sop (pl F) (pl F) ∣ sop (rw1 a b c e) [x,y,z])/\(sop (pl F) (pl F) ∣ sop (rw2 a b c e) [x,y,z])/\(sop (pl F) (pl F) ∣ sop (rw3 a b c e) [x,y,z])
def KptA (fs:List (List Int)) (x y z:Int):Prop:=∀ F ∈ fs,Kpt F x y z
def Rows (fs:List (List Int)) (a b c d e f:Int):Prop:=Hnf a b c d e f/\∀ x y z,In a b c d e f x y z ↔ KptA fs x y z
end D
end
namespace D
open PySem L2 K0 Num
open PySem.W (Dat)
theorem E1.cWT {p:Option Addr} {K:PySem.W.Frag} {τ:List Sl} {tas:TA} {E':XK} {a b c d:Int} (ha:A1 p K tas τ [.dat (tI [a,b,c,d])]) (bd:Bd (2 ^ 1000) [a,b,c,d]):E1 p K (tCall (spWT K) [] E' tas) τ (.dat (.tuple [tI (rw1 a b c d),tI (rw2 a b c d),tI (rw3 a b c d)])) :=
 E.c1 ha fun W H x Q z q=>⟨x,a,b,c,d,rfl,z,bd,fun r H' s h=>q _ H' _ rfl s fun W=>by
  obtain ⟨r1,r2,r3,h0,h1,h2,h3⟩:=h
  exact .tup (xs:=[.ref r1,.ref r2,.ref r3]) (.inl (.inl h0)) (.cons (told h1) (.cons (told h2) (.cons (told h3) .nil)))⟩
section
end
theorem at_0 {α:Type} {x:α} {l:List α}:atI (x :: l) 0=some x:=by
 unfold atI ixN
 rw [if_pos (by decide),if_pos (by rw [List.length_cons];omega)]
 rfl
end D
section
namespace L2
open PySem PySem.Spec PyProof.Rows
section
end
end L2
namespace D
open PySem L2 K0 Num
open PySem.W (Dat)
def spZ (K:PySem.W.Frag) (R:List Dat->(Dat->Prop)->Prop):Sp:=fun vs H Q _=>∃ q us ds C,vs=us ++ [.ref q]/\Dzs (fun a=>a ≠ q) K H us ds/\Pu H q/\R ds C/\∀ v H' d,C d->Ev (fun a=>a=q) H H'->Pu H' q->Dz (fun a=>H a=none) K H' v d->Q v H'
section
variable {p:Option Addr} {K:PySem.W.Frag} {W:Addr->Prop} {L:List Addr} {σ:St} {H H1:Hp} {τ τ':List Sl} {te:TE} {tas:TA} {v:V} {s:Sl} {t:TS} {ds:List Dat} {E':XK}
theorem rvs_last:∀ {ds:List Dat} {vs:List V},Rvs p W K H H1 vs (ds.map .dat ++ [.pu])->∃ us q,vs=us ++ [.ref q]/\p=some q/\Rvs p W K H H1 us (ds.map .dat)
  | [],_,h=>by
    cases h with
    | cons a t =>
      cases t
      obtain ⟨q,h1,h2⟩:=a
      exact ⟨[],q,by rw [h2];rfl,h1,.nil⟩
  | d :: ds, _, h => by
    cases h with
    | cons a t =>
      obtain ⟨us,q,rfl,h1,h2⟩:=rvs_last (ds:=ds) t
      exact ⟨_ :: us,q,rfl,h1,.cons a h2⟩
theorem E.callZ {R:List Dat->(Dat->Prop)->Prop} {CA:List Sl->Prop} {C:Dat->Prop} (ha:A p K tas τ CA) (hr:∀ ss,CA ss->∃ ds C0,ss=ds.map .dat ++ [.pu]/\R ds C0/\∀ d,C0 d->C d):E p K (tCall (spZ K R) [] E' tas) τ (fun s=>∃ d,s = .dat d/\C d):=fun W L σ H Q rs o q=>ha W L σ H _ rs o fun vs H1 ss c e1 o1 rv=>by
 obtain ⟨ds,C0,rfl,h0,hC⟩:=hr ss c
 rw [List.append_nil]
 obtain ⟨us,q0,rfl,rfl,rv⟩:=rvs_last rv
 have w:=o1.pw q0 rfl
 refine ⟨q0,us,ds,C0,rfl,Rvs.dzp rv w,(o1.pu q0 rfl).1,h0,fun v H' d c ev pu z=>?_⟩
 have e2:Ev (Pp (some q0)) H1 H':=ev.mono fun a h=>by rw [h];rfl
 exact q v H' _ ⟨d,rfl,hC d c⟩ (e1.trans e2) (o1.ev e2 fun q hq=>by cases hq;exact pu) (z.mono fun a ha=>o1.fresh ha)
theorem rs_startZ {N:Addr->Prop} {q:Addr} {n:Nat}:∀ {vs:List V} {ds:List Dat},Dzs N K H vs ds->(∀ a,N a->¬ W a)->Rs (some q) W K H [] ((vs ++ [V.ref q]).map some ++ List.replicate n none) (ds.map .dat ++ .pu :: List.replicate n .un)
 | _,_,.nil,h=>.pu rfl (rs_start (vs:=[]) (ds:=[]) n (Dzs.nil (N:=N) (K:=K) (H:=H)) h)
 | _,_,.cons a r,h=>.dat (a.mono h) (rs_startZ r h)
variable {P:Program} {w:World} {mg:Str->Option Value} {base:Heap}
theorem okZ {x qual:Str} {st:Stmt} {f:Addr} {fd:FuncData} {N ps:List Str} {k:Nat} {R:List Dat->(Dat->Prop)->Prop} (F:Fun K x qual st f fd) (S0:FnScope N ps (defScope st)) (len:∀ ds C,R ds C->ds.length + 1=ps.length)
    (body:∀ (cdv:Value) (A:Around) (outer:List Env) (s:Shared) (H:Hp) (E:XK),Room k (A.deeper (PyProof.Rows.envOfC qual (defScope st) s.heap.objs.size f cdv)) ->
      ∃ t,ZSs (cxOf CX0 P w K mg base N qual (defScope st) f cdv A outer s H E).nox (defBody st) t/\∀ (q:Addr) ds C,R ds C->S (some q) K t (ds.map .dat ++ .pu :: List.replicate (N.length - ps.length) .un) (fun _=>False) (fun s=>∃ d,C d/\Gives d s)):FnOk P w K mg base CX0 (k + 1) f fd ps (spZ K R):=by
  refine F.okZ S0 (fun vs H Q E h=>?_) (fun cdv A outer s H vs Q E hr h=>?_)
  . obtain ⟨q,us,ds,C,rfl,z,_,r,_⟩:=h
    rw [List.length_append,z.len];exact len ds C r
  . obtain ⟨q0,us,ds,C,rfl,z,pu,r,q⟩:=h
    obtain ⟨t,hz,hs⟩:=body cdv A outer s H E hr
    refine ⟨t,hz,?_⟩
    have l:(us ++ [V.ref q0]).length=ps.length:=by rw [List.length_append,z.len];exact len ds C r
    have r0:Rs (some q0) (fun a=>a=q0) K H [] (L2.start N (us ++ [.ref q0])) (ds.map .dat ++ .pu :: List.replicate (N.length - ps.length) .un):=by
      unfold L2.start
      rw [l]
      exact rs_startZ z fun a h=>h
    have o0:Ok (some q0) (fun a=>a=q0) H:=⟨fun q h=>(by cases h;exact ⟨pu,rfl⟩),fun a h=>by obtain ⟨x,y,e⟩:=pu;exact ⟨_,by rw [h];exact e⟩⟩
    refine hs q0 ds C r (fun a=>a=q0) [] _ H _ r0 o0 (fun W' L' σ' H' τ' e ev o' al n l r'=>e.elim) (fun W' H' v s e ev o' al n rv=>?_)
    obtain ⟨d,c,e⟩:=e
    cases s with
    | dat d' =>
      obtain ⟨rfl,nl⟩:=e
      exact q v H' _ c ev (o'.pu q0 rfl).1 (Dz.free rv nl)
    | own es =>
      obtain ⟨rfl,nl⟩:=e
      obtain ⟨a,vs,rfl,h1,h2,h3⟩:=rv
      exact q _ H' _ c ev (o'.pu q0 rfl).1 (.lst (.inl ⟨h1.resolve_left (fun z=>by cases z),.inl h2⟩) (h3.free nl))
    | dt es=>cases e
    | un=>cases e
    | pu=>cases e
    | vw ds=>cases e
theorem E.tableC {P:Int->Int->Int->Int->Prop} (ha:E p K te τ (fun s=>∃ a b d e:Int,s = .dat (tI [a,b,d,e])/\P a b d e)) (hP:∀ a b d e,P a b d e->(∃ n ∈ [a,b,d,e],n ≠ 0)/\Bd (2 ^ 1000) [a,b,d,e]):E p K (tCall (spTable K) [] E' (tCons te tNil)) τ (fun s=>∃ d,s = .dat d/\∃ a b c e:Int,d=tbQ a b c e/\P a b c e):=fun W L σ H Q rs o q =>
 ha W L σ H _ rs o fun v H1 s ⟨a,b,d,e,es,hp⟩ e1 o1 rv=>by
  subst es
  obtain ⟨nz,bd⟩:=hP a b d e hp
  obtain ⟨r,rfl,z1⟩:=tup_inv rv
  exact ⟨r,a,b,d,e,rfl,z1,nz,bd,fun r3 H' s h=>q _ H' _ ⟨_,rfl,a,b,d,e,rfl,hp⟩ (e1.trans (Ev.of s)) (o1.same s) (tbOf_dz nz h)⟩
end
end D
end
namespace D
open PySem L2 K0 Num
open PySem.W (Dat)
section
def FB (C:Int) (c:Nat) (x:Rat):Prop:=∃ t:Int,Bt t c/\qv t C=x
def RP (P:Rat->Prop) (r:Row3):Prop:=P r.x/\P r.y/\P r.z
def TabP (P:Rat->Prop) (a b d:Row3):Prop:=RP P a/\RP P b/\RP P d
def tbD (a b d:Row3):Dat:=.tuple [a.d,b.d,d.d]
def TB (c:Nat) (a b d:Row3):Prop:=∃ C:Int,0 < C/\Bt C c/\TabP (FB C c) a b d
abbrev Lv (x:Rat):Prop:=Lo 950 x.num x.den x
theorem RP.mono {P Q:Rat->Prop} {r:Row3} (h:RP P r) (m:∀ x,P x->Q x):RP Q r:=⟨m _ h.1,m _ h.2.1,m _ h.2.2⟩
theorem TabP.mono {P Q:Rat->Prop} {a b d:Row3} (h:TabP P a b d) (m:∀ x,P x->Q x):TabP Q a b d:=⟨h.1.mono m,h.2.1.mono m,h.2.2.mono m⟩
theorem FB.lv {C:Int} {c:Nat} {x:Rat} (h:FB C c x) (h0:0 < C) (hC:Bt C c) (hc:c<=950):Lv x:=by
 obtain ⟨t,ht,e⟩:=h
 exact lo_over h0 (hC.up hc) (ht.up hc) e
theorem FB.up {C:Int} {c c':Nat} {x:Rat} (h:FB C c x) (l:c<=c'):FB C c' x:=by
 obtain ⟨t,ht,e⟩:=h
 exact ⟨t,ht.up l,e⟩
theorem FB.scale {C k:Int} {c m:Nat} {x:Rat} (h:FB C c x) (hk:k ≠ 0) (hC:C ≠ 0) (bk:Bt k m):FB (C * k) (c + m) x:=by
 obtain ⟨t,ht,e⟩:=h
 refine ⟨t * k,ht.mul bk,?_⟩
 subst e
 have h1:=cast_ne hk
 have h2:=cast_ne hC
 unfold qv
 push_cast
 grind
theorem FB.neg {C:Int} {c:Nat} {x:Rat} (h:FB C c x):FB C c (-x):=by
 obtain ⟨t,ht,e⟩:=h
 refine ⟨-t,Bt.neg' ht,?_⟩
 subst e
 unfold qv
 push_cast
 grind
theorem FB.add {C:Int} {c:Nat} {x y:Rat} (h:FB C c x) (g:FB C c y):FB C (c + 1) (x + y):=by
 obtain ⟨t,ht,e⟩:=h
 obtain ⟨u,hu,f⟩:=g
 refine ⟨t + u,(ht.add hu).up (by omega),?_⟩
 subst e f
 unfold qv
 push_cast
 grind
theorem FB.mul {C D:Int} {c d:Nat} {x y:Rat} (h:FB C c x) (g:FB D d y) (hC:C ≠ 0) (hD:D ≠ 0):FB (C * D) (c + d) (x * y):=by
 obtain ⟨t,ht,e⟩:=h
 obtain ⟨u,hu,f⟩:=g
 refine ⟨t * u,ht.mul hu,?_⟩
 subst e f
 have h1:=cast_ne hC
 have h2:=cast_ne hD
 unfold qv
 push_cast
 grind
def NB (C:Int) (c:Nat) (x:Rat):Prop:=FB (C * (C * 5000000)) (2 * c + 30) x
theorem bt_lit {n:Int} {k:Nat} (h:n.natAbs<=2 ^ k):Bt n k:=h
section
variable {C:Int} {c:Nat} {x y u v:Rat}
theorem ne_c5 (h0:0 < C):C * 5000000 ≠ 0:=by omega
theorem FB.nb (h:FB C c x) (h0:0 < C) (hC:Bt C c):NB C c x :=
 (h.scale (k:=C * 5000000) (ne_c5 h0) (by omega) (hC.mul (bt_lit (k:=23) (by decide)))).up (by omega)
theorem FB.nbOne (h:FB C c x) (h0:0 < C) (hC:Bt C c):NB C c (x + 1):=by
 have h1:FB C c 1:=⟨C,hC,by have:=cast_ne (show C ≠ 0 by omega);unfold qv;grind⟩
 exact ((h.add h1).scale (k:=C * 5000000) (ne_c5 h0) (by omega) (hC.mul (bt_lit (k:=23) (by decide)))).up (by omega)
theorem FB.nbMil (h:FB C c x) (h0:0 < C) (hC:Bt C c):NB C c (x + 1 / 1000000):=by
 have c0:=cast_ne (show C ≠ 0 by omega)
 have h1:FB (C * 1000000) (c + 20) (1 / 1000000):=⟨C,hC.up (by omega),by unfold qv;push_cast;grind⟩
 have h2:=(h.scale (k:=1000000) (by decide) (by omega) (bt_lit (k:=20) (by decide))).add h1
 have h3:=h2.scale (k:=C * 5) (by omega) (by omega) (hC.mul (bt_lit (k:=3) (by decide)))
 have e:C * 1000000 * (C * 5)=C * (C * 5000000):=by grind
 rw [e] at h3
 exact h3.up (by omega)
theorem FB.sum5 (h:FB C c x) (g:FB C c y) (h0:0 < C) (hC:Bt C c):FB (C * 5) (c + 4) (x * (3 / 5) + y * (4 / 5)):=by
 have a:FB 5 2 (3 / 5):=⟨3,by unfold Bt;decide,by unfold qv;rfl⟩
 have b:FB 5 2 (4 / 5):=⟨4,by unfold Bt;decide,by unfold qv;rfl⟩
 exact ((h.mul a (by omega) (by decide)).add (g.mul b (by omega) (by decide))).up (by omega)
theorem FB.nb5 (h:FB (C * 5) (c + 4) x) (h0:0 < C) (hC:Bt C c):NB C c x:=by
 have h3:=h.scale (k:=C * 1000000) (by omega) (by omega) (hC.mul (bt_lit (k:=20) (by decide)))
 have e:C * 5 * (C * 1000000)=C * (C * 5000000):=by grind
 rw [e] at h3
 exact h3.up (by omega)
theorem FB.dbl (h:FB C c x) (g:FB C c y) (h0:0 < C) (hC:Bt C c):FB (C * 5) (c + 4) (x * 2 + y * 0):=by
 have a:FB C (c + 1) (x * 2 + y * 0):=by
  have:=h.add h
  rw [show x * 2 + y * 0=x + x by grind]
  exact this
 exact (a.scale (k:=5) (by decide) (by omega) (bt_lit (k:=3) (by decide))).up (by omega)
theorem FB.nbHalf (h:FB C c x) (g:FB C c y) (h0:0 < C) (hC:Bt C c):NB C c (x * (1 / 2) + y * 0):=by
 have a:FB 2 1 (1 / 2):=⟨1,by unfold Bt;decide,by unfold qv;rfl⟩
 have h1:=h.mul a (by omega) (by decide)
 have h3:=h1.scale (k:=C * 2500000) (by omega) (by omega) (hC.mul (bt_lit (k:=22) (by decide)))
 have e:C * 2 * (C * 2500000)=C * (C * 5000000):=by grind
 rw [e] at h3
 rw [show x * (1 / 2) + y * 0=x * (1 / 2) by grind]
 exact h3.up (by omega)
theorem FB.nbCr (h1:FB C c x) (h2:FB C c y) (g1:FB (C * 5) (c + 4) u) (g2:FB (C * 5) (c + 4) v) (h0:0 < C) (hC:Bt C c):NB C c (x * u + y * -v):=by
 have h:=(h1.mul g1 (by omega) (by omega)).add (h2.mul g2.neg (by omega) (by omega))
 have h3:=h.scale (k:=1000000) (by decide) (by have:=Int.mul_pos h0 (show 0 < C * 5 by omega);omega) (bt_lit (k:=20) (by decide))
 have e:C * (C * 5) * 1000000=C * (C * 5000000):=by grind
 rw [e] at h3
 exact h3.up (by omega)
theorem FB.to5 (h:FB C c x) (h0:0 < C):FB (C * 5) (c + 4) x:=(h.scale (k:=5) (by decide) (by omega) (bt_lit (k:=3) (by decide))).up (by omega)
theorem nb_tb (h0:0 < C) (hC:Bt C c) {a b d:Row3} (h:TabP (NB C c) a b d):TB (2 * c + 30) a b d :=
 ⟨C * (C * 5000000),Int.mul_pos h0 (by omega),(hC.mul (hC.mul (bt_lit (n:=5000000) (k:=23) (by decide)))).up (by omega),h⟩
end
theorem fb60 {t b:Int} (h0:0 < b) (h6:b<=6) (ht:t.natAbs<=6):FB 60 10 (qv t b):=by
 have key:∀ k:Int,b * k=60->k.natAbs<=60->FB 60 10 (qv t b):=fun k hk bk=>by
  refine ⟨t * k,?_,qv_of (by decide) (by omega) (by rw [<- hk];grind)⟩
  unfold Bt
  rw [Int.natAbs_mul]
  exact Nat.le_trans (Nat.mul_le_mul ht bk) (by decide)
 rcases (show b=1\/b=2\/b=3\/b=4\/b=5\/b=6 by omega) with rfl | rfl | rfl | rfl | rfl | rfl
 ·exact key 60 rfl (by decide)
 ·exact key 30 rfl (by decide)
 ·exact key 20 rfl (by decide)
 ·exact key 15 rfl (by decide)
 ·exact key 12 rfl (by decide)
 ·exact key 10 rfl (by decide)
theorem qf_one (x:Rat):qf (x + 1)=[x.num + x.den,(x.den:Int)]:=by
 have h:x + 1=qv (x.num + x.den) x.den:=by
  have hx:=qf_val x
  have:=cast_ne (show (x.den:Int) ≠ 0 by have:=x.den_pos;omega)
  unfold qv at hx ⊢
  push_cast at hx this ⊢
  grind
 have g:Nat.gcd (x.num + x.den).natAbs x.den=1:=by
  have:=x.reduced
  unfold Nat.Coprime at this
  have e:Int.gcd (x.num + x.den) x.den=Int.gcd x.num x.den:=by
   rw [Int.gcd_add_self_left]
  unfold Int.gcd at e
  rw [Int.natAbs_natCast] at e
  rw [e,this]
 have l:Lo ((x.num + x.den).natAbs + x.den) (x.num + x.den) x.den (x + 1):=⟨by have:=x.den_pos;omega,by rw [Int.natAbs_natCast];exact g,Nat.le_trans (Nat.le_of_lt Nat.lt_two_pow_self) (Nat.pow_le_pow_right (by decide) (Nat.le_add_right _ _)),by unfold Bt;rw [Int.natAbs_natCast];exact Nat.le_trans (Nat.le_of_lt Nat.lt_two_pow_self) (Nat.pow_le_pow_right (by decide) (Nat.le_add_left _ _)),h.symm⟩
 exact (lo_is l).symm
def SO (a b d:Row3):Prop:=Orth a b d/\a.y * b.z + a.z * -b.y=d.x/\a.z * b.x + a.x * -b.z=d.y/\a.x * b.y + a.y * -b.x=d.z
def TOf (a b d:Row3) (w x y z:Int):Prop:=a=tr1 w x y z/\b=tr2 w x y z/\d=tr3 w x y z
theorem so_of {a b d:Row3} {w x y z:Int} (nz:∃ n ∈ [w,x,y,z],n ≠ 0) (h:TOf a b d w x y z):SO a b d:=by
 obtain ⟨rfl,rfl,rfl⟩:=h
 exact tr_orth nz
theorem so_full {t0 t1 t2 t3 t4 t5 t6 t7 t8:Rat} (h1:t0 * t0 + t1 * t1 + t2 * t2=1) (h2:t0 * t3 + t1 * t4 + t2 * t5=0) (h3:t3 * t3 + t4 * t4 + t5 * t5=1) (c6:t6=t1 * t5 - t2 * t4) (c7:t7=t2 * t3 - t0 * t5) (c8:t8=t0 * t4 - t1 * t3) :
  (t0=t4 * t8 - t5 * t7/\t1=t5 * t6 - t3 * t8/\t2=t3 * t7 - t4 * t6)/\(t3=t7 * t2 - t8 * t1/\t4=t8 * t0 - t6 * t2/\t5=t6 * t1 - t7 * t0):=by
 refine ⟨⟨?_,?_,?_⟩,?_,?_,?_⟩ <;> grind
theorem so_cols {t0 t1 t2 t3 t4 t5 t6 t7 t8:Rat} (h1:t0 * t0 + t1 * t1 + t2 * t2=1) (h2:t0 * t3 + t1 * t4 + t2 * t5=0) (h3:t3 * t3 + t4 * t4 + t5 * t5=1) (c0:t0=t4 * t8 - t5 * t7) (c1:t1=t5 * t6 - t3 * t8) (c2:t2=t3 * t7 - t4 * t6) (c3:t3=t7 * t2 - t8 * t1) (c4:t4=t8 * t0 - t6 * t2) (c5:t5=t6 * t1 - t7 * t0) (c6:t6=t1 * t5 - t2 * t4) (c7:t7=t2 * t3 - t0 * t5) (c8:t8=t0 * t4 - t1 * t3) :
  t0 * t0 + t3 * t3 + t6 * t6=1/\t1 * t1 + t4 * t4 + t7 * t7=1/\t2 * t2 + t5 * t5 + t8 * t8=1/\t0 * t1 + t3 * t4 + t6 * t7=0/\t0 * t2 + t3 * t5 + t6 * t8=0/\t1 * t2 + t4 * t5 + t7 * t8=0/\t6 * t6 + t7 * t7 + t8 * t8=1/\t0 * t6 + t1 * t7 + t2 * t8=0/\t3 * t6 + t4 * t7 + t5 * t8=0:=by
 refine ⟨?_,?_,?_,?_,?_,?_,?_,?_,?_⟩ <;> grind
theorem so_min0 {t0 t1 t2 t3 t4 t5 t6 t7 t8:Rat} (h1:t0 * t0 + t1 * t1 + t2 * t2=1) (h2:t0 * t3 + t1 * t4 + t2 * t5=0) (h3:t3 * t3 + t4 * t4 + t5 * t5=1) (c6:t6=t1 * t5 - t2 * t4) (c7:t7=t2 * t3 - t0 * t5) (c8:t8=t0 * t4 - t1 * t3) :
  (t7 - t5) * (t7 - t5)=(1 + t0 + t4 + t8) * (1 + t0 - t4 - t8)/\(t7 - t5) * (t2 - t6)=(1 + t0 + t4 + t8) * (t1 + t3)/\(t7 - t5) * (t3 - t1)=(1 + t0 + t4 + t8) * (t2 + t6)/\(t2 - t6) * (t2 - t6)=(1 + t0 + t4 + t8) * (1 - t0 + t4 - t8)/\(t2 - t6) * (t3 - t1)=(1 + t0 + t4 + t8) * (t5 + t7)/\(t3 - t1) * (t3 - t1)=(1 + t0 + t4 + t8) * (1 - t0 - t4 + t8):=by
 obtain ⟨⟨c0,c1,c2⟩,c3,c4,c5⟩:=so_full h1 h2 h3 c6 c7 c8
 obtain ⟨k1,k2,k3,k4,k5,k6,h4,h5,h6⟩:=so_cols h1 h2 h3 c0 c1 c2 c3 c4 c5 c6 c7 c8
 refine ⟨?_,?_,?_,?_,?_,?_⟩ <;> grind
theorem so_min1 {t0 t1 t2 t3 t4 t5 t6 t7 t8:Rat} (h1:t0 * t0 + t1 * t1 + t2 * t2=1) (h2:t0 * t3 + t1 * t4 + t2 * t5=0) (h3:t3 * t3 + t4 * t4 + t5 * t5=1) (c6:t6=t1 * t5 - t2 * t4) (c7:t7=t2 * t3 - t0 * t5) (c8:t8=t0 * t4 - t1 * t3) :
  (t7 - t5) * (t7 - t5)=(1 + t0 - t4 - t8) * (1 + t0 + t4 + t8)/\(t7 - t5) * (t1 + t3)=(1 + t0 - t4 - t8) * (t2 - t6)/\(t7 - t5) * (t2 + t6)=(1 + t0 - t4 - t8) * (t3 - t1)/\(t1 + t3) * (t1 + t3)=(1 + t0 - t4 - t8) * (1 - t0 + t4 - t8)/\(t1 + t3) * (t2 + t6)=(1 + t0 - t4 - t8) * (t5 + t7)/\(t2 + t6) * (t2 + t6)=(1 + t0 - t4 - t8) * (1 - t0 - t4 + t8):=by
 obtain ⟨⟨c0,c1,c2⟩,c3,c4,c5⟩:=so_full h1 h2 h3 c6 c7 c8
 obtain ⟨k1,k2,k3,k4,k5,k6,h4,h5,h6⟩:=so_cols h1 h2 h3 c0 c1 c2 c3 c4 c5 c6 c7 c8
 refine ⟨?_,?_,?_,?_,?_,?_⟩ <;> grind
theorem so_min2 {t0 t1 t2 t3 t4 t5 t6 t7 t8:Rat} (h1:t0 * t0 + t1 * t1 + t2 * t2=1) (h2:t0 * t3 + t1 * t4 + t2 * t5=0) (h3:t3 * t3 + t4 * t4 + t5 * t5=1) (c6:t6=t1 * t5 - t2 * t4) (c7:t7=t2 * t3 - t0 * t5) (c8:t8=t0 * t4 - t1 * t3) :
  (t2 - t6) * (t2 - t6)=(1 - t0 + t4 - t8) * (1 + t0 + t4 + t8)/\(t2 - t6) * (t1 + t3)=(1 - t0 + t4 - t8) * (t7 - t5)/\(t2 - t6) * (t5 + t7)=(1 - t0 + t4 - t8) * (t3 - t1)/\(t1 + t3) * (t1 + t3)=(1 - t0 + t4 - t8) * (1 + t0 - t4 - t8)/\(t1 + t3) * (t5 + t7)=(1 - t0 + t4 - t8) * (t2 + t6)/\(t5 + t7) * (t5 + t7)=(1 - t0 + t4 - t8) * (1 - t0 - t4 + t8):=by
 obtain ⟨⟨c0,c1,c2⟩,c3,c4,c5⟩:=so_full h1 h2 h3 c6 c7 c8
 obtain ⟨k1,k2,k3,k4,k5,k6,h4,h5,h6⟩:=so_cols h1 h2 h3 c0 c1 c2 c3 c4 c5 c6 c7 c8
 refine ⟨?_,?_,?_,?_,?_,?_⟩ <;> grind
theorem so_min3 {t0 t1 t2 t3 t4 t5 t6 t7 t8:Rat} (h1:t0 * t0 + t1 * t1 + t2 * t2=1) (h2:t0 * t3 + t1 * t4 + t2 * t5=0) (h3:t3 * t3 + t4 * t4 + t5 * t5=1) (c6:t6=t1 * t5 - t2 * t4) (c7:t7=t2 * t3 - t0 * t5) (c8:t8=t0 * t4 - t1 * t3) :
  (t3 - t1) * (t3 - t1)=(1 - t0 - t4 + t8) * (1 + t0 + t4 + t8)/\(t3 - t1) * (t2 + t6)=(1 - t0 - t4 + t8) * (t7 - t5)/\(t3 - t1) * (t5 + t7)=(1 - t0 - t4 + t8) * (t2 - t6)/\(t2 + t6) * (t2 + t6)=(1 - t0 - t4 + t8) * (1 + t0 - t4 - t8)/\(t2 + t6) * (t5 + t7)=(1 - t0 - t4 + t8) * (t1 + t3)/\(t5 + t7) * (t5 + t7)=(1 - t0 - t4 + t8) * (1 - t0 + t4 - t8):=by
 obtain ⟨⟨c0,c1,c2⟩,c3,c4,c5⟩:=so_full h1 h2 h3 c6 c7 c8
 obtain ⟨k1,k2,k3,k4,k5,k6,h4,h5,h6⟩:=so_cols h1 h2 h3 c0 c1 c2 c3 c4 c5 c6 c7 c8
 refine ⟨?_,?_,?_,?_,?_,?_⟩ <;> grind
theorem eqdiv {t n N:Rat} (hN:N ≠ 0) (h:t * N=n):t=n / N:=by grind
theorem SO.eqs {a b d:Row3} (h:SO a b d):(a.x * a.x + a.y * a.y + a.z * a.z=1/\a.x * b.x + a.y * b.y + a.z * b.z=0/\b.x * b.x + b.y * b.y + b.z * b.z=1)/\d.x=a.y * b.z - a.z * b.y/\d.y=a.z * b.x - a.x * b.z/\d.z=a.x * b.y - a.y * b.x:=by
 obtain ⟨⟨o1,o2,o3,o4,o5,o6,o7,o8,o9⟩,c6,c7,c8⟩:=h
 unfold Row3.dot at o1 o2 o5
 exact ⟨⟨o1,o2,o5⟩,by grind,by grind,by grind⟩
theorem tof0 {a b d:Row3} (h:SO a b d) {L:Rat} {w x y z:Int} (hw:(w:Rat)=L * (1 + a.x + b.y + d.z)) (hx:(x:Rat)=L * (d.y - b.z)) (hy:(y:Rat)=L * (a.z - d.x)) (hz:(z:Rat)=L * (b.x - a.y)) (nz:∃ n ∈ [w,x,y,z],n ≠ 0):TOf a b d w x y z:=by
 obtain ⟨⟨h1,h2,h3⟩,c6,c7,c8⟩:=h.eqs
 obtain ⟨m1,m2,m3,m4,m5,m6⟩:=so_min0 h1 h2 h3 c6 c7 c8
 have hn:=N4_ne (rfl:[w,x,y,z]=[w,x,y,z]) nz
 obtain ⟨t0,t1,t2⟩:=a
 obtain ⟨t3,t4,t5⟩:=b
 obtain ⟨t6,t7,t8⟩:=d
 unfold TOf tr1 tr2 tr3 Q1 Q2 Q3 K0.R1 K0.R2 K0.R3
 dsimp only at *
 clear h nz h1 h2 h3 c6 c7 c8
 generalize (w:Rat)=A at *
 generalize (x:Rat)=B at *
 generalize (y:Rat)=D at *
 generalize (z:Rat)=E at *
 refine ⟨?_,?_,?_⟩
 ·rw [<- eqdiv (t:=t0) hn (by unfold N4;grind), <- eqdiv (t:=t1) hn (by unfold N4;grind), <- eqdiv (t:=t2) hn (by unfold N4;grind)]
 ·rw [<- eqdiv (t:=t3) hn (by unfold N4;grind), <- eqdiv (t:=t4) hn (by unfold N4;grind), <- eqdiv (t:=t5) hn (by unfold N4;grind)]
 ·rw [<- eqdiv (t:=t6) hn (by unfold N4;grind), <- eqdiv (t:=t7) hn (by unfold N4;grind), <- eqdiv (t:=t8) hn (by unfold N4;grind)]
theorem tof1 {a b d:Row3} (h:SO a b d) {L:Rat} {w x y z:Int} (hw:(w:Rat)=L * (d.y - b.z)) (hx:(x:Rat)=L * (1 + a.x - b.y - d.z)) (hy:(y:Rat)=L * (a.y + b.x)) (hz:(z:Rat)=L * (a.z + d.x)) (nz:∃ n ∈ [w,x,y,z],n ≠ 0):TOf a b d w x y z:=by
 obtain ⟨⟨h1,h2,h3⟩,c6,c7,c8⟩:=h.eqs
 obtain ⟨m1,m2,m3,m4,m5,m6⟩:=so_min1 h1 h2 h3 c6 c7 c8
 have hn:=N4_ne (rfl:[w,x,y,z]=[w,x,y,z]) nz
 obtain ⟨t0,t1,t2⟩:=a
 obtain ⟨t3,t4,t5⟩:=b
 obtain ⟨t6,t7,t8⟩:=d
 unfold TOf tr1 tr2 tr3 Q1 Q2 Q3 K0.R1 K0.R2 K0.R3
 dsimp only at *
 clear h nz h1 h2 h3 c6 c7 c8
 generalize (w:Rat)=A at *
 generalize (x:Rat)=B at *
 generalize (y:Rat)=D at *
 generalize (z:Rat)=E at *
 refine ⟨?_,?_,?_⟩
 ·rw [<- eqdiv (t:=t0) hn (by unfold N4;grind), <- eqdiv (t:=t1) hn (by unfold N4;grind), <- eqdiv (t:=t2) hn (by unfold N4;grind)]
 ·rw [<- eqdiv (t:=t3) hn (by unfold N4;grind), <- eqdiv (t:=t4) hn (by unfold N4;grind), <- eqdiv (t:=t5) hn (by unfold N4;grind)]
 ·rw [<- eqdiv (t:=t6) hn (by unfold N4;grind), <- eqdiv (t:=t7) hn (by unfold N4;grind), <- eqdiv (t:=t8) hn (by unfold N4;grind)]
theorem tof2 {a b d:Row3} (h:SO a b d) {L:Rat} {w x y z:Int} (hw:(w:Rat)=L * (a.z - d.x)) (hx:(x:Rat)=L * (a.y + b.x)) (hy:(y:Rat)=L * (1 - a.x + b.y - d.z)) (hz:(z:Rat)=L * (b.z + d.y)) (nz:∃ n ∈ [w,x,y,z],n ≠ 0):TOf a b d w x y z:=by
 obtain ⟨⟨h1,h2,h3⟩,c6,c7,c8⟩:=h.eqs
 obtain ⟨m1,m2,m3,m4,m5,m6⟩:=so_min2 h1 h2 h3 c6 c7 c8
 have hn:=N4_ne (rfl:[w,x,y,z]=[w,x,y,z]) nz
 obtain ⟨t0,t1,t2⟩:=a
 obtain ⟨t3,t4,t5⟩:=b
 obtain ⟨t6,t7,t8⟩:=d
 unfold TOf tr1 tr2 tr3 Q1 Q2 Q3 K0.R1 K0.R2 K0.R3
 dsimp only at *
 clear h nz h1 h2 h3 c6 c7 c8
 generalize (w:Rat)=A at *
 generalize (x:Rat)=B at *
 generalize (y:Rat)=D at *
 generalize (z:Rat)=E at *
 refine ⟨?_,?_,?_⟩
 ·rw [<- eqdiv (t:=t0) hn (by unfold N4;grind), <- eqdiv (t:=t1) hn (by unfold N4;grind), <- eqdiv (t:=t2) hn (by unfold N4;grind)]
 ·rw [<- eqdiv (t:=t3) hn (by unfold N4;grind), <- eqdiv (t:=t4) hn (by unfold N4;grind), <- eqdiv (t:=t5) hn (by unfold N4;grind)]
 ·rw [<- eqdiv (t:=t6) hn (by unfold N4;grind), <- eqdiv (t:=t7) hn (by unfold N4;grind), <- eqdiv (t:=t8) hn (by unfold N4;grind)]
theorem tof3 {a b d:Row3} (h:SO a b d) {L:Rat} {w x y z:Int} (hw:(w:Rat)=L * (b.x - a.y)) (hx:(x:Rat)=L * (a.z + d.x)) (hy:(y:Rat)=L * (b.z + d.y)) (hz:(z:Rat)=L * (1 - a.x - b.y + d.z)) (nz:∃ n ∈ [w,x,y,z],n ≠ 0):TOf a b d w x y z:=by
 obtain ⟨⟨h1,h2,h3⟩,c6,c7,c8⟩:=h.eqs
 obtain ⟨m1,m2,m3,m4,m5,m6⟩:=so_min3 h1 h2 h3 c6 c7 c8
 have hn:=N4_ne (rfl:[w,x,y,z]=[w,x,y,z]) nz
 obtain ⟨t0,t1,t2⟩:=a
 obtain ⟨t3,t4,t5⟩:=b
 obtain ⟨t6,t7,t8⟩:=d
 unfold TOf tr1 tr2 tr3 Q1 Q2 Q3 K0.R1 K0.R2 K0.R3
 dsimp only at *
 clear h nz h1 h2 h3 c6 c7 c8
 generalize (w:Rat)=A at *
 generalize (x:Rat)=B at *
 generalize (y:Rat)=D at *
 generalize (z:Rat)=E at *
 refine ⟨?_,?_,?_⟩
 ·rw [<- eqdiv (t:=t0) hn (by unfold N4;grind), <- eqdiv (t:=t1) hn (by unfold N4;grind), <- eqdiv (t:=t2) hn (by unfold N4;grind)]
 ·rw [<- eqdiv (t:=t3) hn (by unfold N4;grind), <- eqdiv (t:=t4) hn (by unfold N4;grind), <- eqdiv (t:=t5) hn (by unfold N4;grind)]
 ·rw [<- eqdiv (t:=t6) hn (by unfold N4;grind), <- eqdiv (t:=t7) hn (by unfold N4;grind), <- eqdiv (t:=t8) hn (by unfold N4;grind)]
end
def RDv:List Dat->Dat->Prop:=fun ds g=>(∃ x y z u v w:Rat,ds=[ptQ x y z,ptQ u v w]/\Lv x/\Lv y/\Lv z/\Lv u/\Lv v/\Lv w/\g=tI (qf (x * u + y * v + z * w))) \/
 ∃ x y u v:Rat,ds=[.list [tI (qf x),tI (qf y)],.list [tI (qf u),tI (qf v)]]/\Lv x/\Lv y/\Lv u/\Lv v/\g=tI (qf (x * u + y * v))
def RCv:List Dat->Dat->Prop:=fun ds g=>∃ x y z u v w:Rat,ds=[ptQ x y z,ptQ u v w]/\Lv x/\Lv y/\Lv z/\Lv u/\Lv v/\Lv w/\g=ptQ (y * w + z * -v) (z * u + x * -w) (x * v + y * -u)
def RSumsV:List Dat->Dat->Prop:=fun ds g=>∃ (x y z u v w s t:Rat),ds=[ptQ x y z,ptQ u v w,tI (qf s),tI (qf t)]/\Lv x/\Lv y/\Lv z/\Lv u/\Lv v/\Lv w/\Lv s/\Lv t/\g=ptQ (x * s + u * t) (y * s + v * t) (z * s + w * t)
def Row3.neg (r:Row3):Row3:=⟨-r.x, -r.y, -r.z⟩
def RSignsV:List Dat->Dat->Prop:=fun ds g=>∃ a b d:Row3,ds=[tbD a b d]/\g = .list [a.neg.d,b.neg.d,d.neg.d]
def RWithV:List Dat->(Dat->Prop)->Prop:=fun ds C=>∃ (a b d:Row3) (i j:Int) (y:Rat),ds=[tbD a b d,.int i,.int j,tI (qf y)]/\(0<=i/\i < 3)/\(0<=j/\j < 3)/\C=fun g=>∃ a' b' d':Row3,g=tbD a' b' d'/\∀ P:Rat->Prop,TabP P a b d->P y->TabP P a' b' d'
def RAnyV:List Dat->(Dat->Prop)->Prop:=fun ds C=>ds=[]/\C=fun g=>∃ a b d:Row3,g=tbD a b d/\TabP (FB 60 10) a b d
def Bent (c:Nat):Dat->Prop:=fun g=>∃ a b d:Row3,g=tbD a b d/\TB (2 * c + 30) a b d
def ROtherV:List Dat->(Dat->Prop)->Prop:=fun ds C=>∃ (a b d:Row3) (s i:Int) (c:Nat),ds=[tbD a b d,.int s,.int i]/\(0<=i/\i < 3)/\TB c a b d/\20<=c/\c<=460/\C=Bent c
def RBentV:List Dat->(Dat->Prop)->Prop:=fun ds C=>∃ (a b d:Row3) (c:Nat),ds=[tbD a b d]/\TB c a b d/\20<=c/\c<=460/\C=Bent c
def RAskedV:List Dat->(Dat->Prop)->Prop:=fun ds C=>∃ c:Int,ds=[.int c]/\C=fun g=>∃ a b d:Row3,g=tbD a b d/\TB 940 a b d
def ROnlyV:List Dat->(Dat->Prop)->Prop:=fun ds C=>∃ (a b d:Row3),ds=[tbD a b d]/\TB 940 a b d/\C=fun g=>∃ w x y z:Int,g=tI [w,x,y,z]/\(∃ n ∈ [w,x,y,z],n ≠ 0)/\Bd (2 ^ 950) [w,x,y,z]/\(SO a b d->TOf a b d w x y z)
def RIsTabV:List Dat->Dat->Prop:=fun ds g=>∃ (a b d:Row3) (w x y z:Int) (v:Bool),ds=[tbD a b d,tI [w,x,y,z]]/\TB 940 a b d/\(∃ n ∈ [w,x,y,z],n ≠ 0)/\Bd (2 ^ 950) [w,x,y,z]/\(v=true ↔ TOf a b d w x y z)/\g = .bool v
def RIsTurnV:List Dat->Dat->Prop:=fun ds g=>∃ (a b d:Row3) (v:Bool),ds=[tbD a b d]/\TB 940 a b d/\(v=true ↔ SO a b d)/\g = .bool v
theorem TB.lv {c:Nat} {a b d:Row3} (h:TB c a b d) (hc:c<=950):TabP Lv a b d:=by
 obtain ⟨C,h0,hC,t⟩:=h
 exact t.mono fun x hx=>hx.lv h0 hC hc
theorem TB.up {c c':Nat} {a b d:Row3} (h:TB c a b d) (hc:c<=c'):TB c' a b d:=by
 obtain ⟨C,h0,hC,t⟩:=h
 exact ⟨C,h0,hC.up hc,t.mono fun x hx=>hx.up hc⟩
theorem tr_qv {w x y z:Int}:tr1 w x y z=⟨qv (w * w + x * x - y * y - z * z) (nrm [w,x,y,z]),qv (2 * (x * y - w * z)) (nrm [w,x,y,z]),qv (2 * (x * z + w * y)) (nrm [w,x,y,z])⟩ /\
  tr2 w x y z=⟨qv (2 * (x * y + w * z)) (nrm [w,x,y,z]),qv (w * w - x * x + y * y - z * z) (nrm [w,x,y,z]),qv (2 * (y * z - w * x)) (nrm [w,x,y,z])⟩ /\
  tr3 w x y z=⟨qv (2 * (x * z - w * y)) (nrm [w,x,y,z]),qv (2 * (y * z + w * x)) (nrm [w,x,y,z]),qv (w * w - x * x - y * y + z * z) (nrm [w,x,y,z])⟩:=by
 have cN:((nrm [w,x,y,z]:Int):Rat)=N4 w x y z:=by unfold nrm N4;push_cast;rfl
 unfold tr1 tr2 tr3 Q1 Q2 Q3 K0.R1 K0.R2 K0.R3 qv
 rw [cN]
 push_cast
 refine ⟨?_,?_,?_⟩ <;> congr 2 <;> grind
theorem tb_tr {w x y z:Int} {m:Nat} (nz:∃ n ∈ [w,x,y,z],n ≠ 0) (bd:Bd (2 ^ m) [w,x,y,z]):TB (2 * m + 3) (tr1 w x y z) (tr2 w x y z) (tr3 w x y z):=by
 have np:=nrm_pos (ns:=[w,x,y,z]) rfl nz
 obtain ⟨W1,W2,W3⟩:=rows_btG bd
 obtain ⟨e1,e2,e3⟩:=tr_qv (w:=w) (x:=x) (y:=y) (z:=z)
 rw [e1,e2,e3]
 unfold rw1 at W1
 unfold rw2 at W2
 unfold rw3 at W3
 exact ⟨nrm [w,x,y,z],np,nrm_btG bd,⟨⟨_,W1 (w * w + x * x - y * y - z * z) (by simp),rfl⟩,⟨_,W1 (2 * (x * y - w * z)) (by simp),rfl⟩,⟨_,W1 (2 * (x * z + w * y)) (by simp),rfl⟩⟩,⟨⟨_,W2 (2 * (x * y + w * z)) (by simp),rfl⟩,⟨_,W2 (w * w - x * x + y * y - z * z) (by simp),rfl⟩,⟨_,W2 (2 * (y * z - w * x)) (by simp),rfl⟩⟩,⟨⟨_,W3 (2 * (x * z - w * y)) (by simp),rfl⟩,⟨_,W3 (2 * (y * z + w * x)) (by simp),rfl⟩,⟨_,W3 (w * w - x * x - y * y + z * z) (by simp),rfl⟩⟩⟩
theorem ent_eq {q:Rat} {t N:Int} (hN:N ≠ 0):q.num * N=q.den * t ↔ q=qv t N:=by
 have hd:(q.den:Int) ≠ 0:=by have:=q.den_pos;omega
 constructor
 ·intro h
  rw [<- qf_val q]
  exact qv_of hd hN (by rw [h];grind)
 ·intro h
  have e:=qf_val q
  have c1:=cast_ne hd
  have c2:=cast_ne hN
  have:(q.num:Rat) * N=q.den * t:=by
   unfold qv at e h
   push_cast at c1 e
   rw [h] at e
   rw [<- h] at e
   grind
  exact_mod_cast this
theorem row_eq {r:Row3} {t1 t2 t3 N:Int}:(r=⟨qv t1 N,qv t2 N,qv t3 N⟩) ↔ r.x=qv t1 N/\r.y=qv t2 N/\r.z=qv t3 N:=by
 constructor
 ·intro h;rw [h];exact ⟨rfl,rfl,rfl⟩
 ·intro ⟨h1,h2,h3⟩
  cases r
  dsimp only at h1 h2 h3
  rw [h1,h2,h3]
section
def Row3.sum (r s:Row3) (p q:Rat):Row3:=⟨r.x * p + s.x * q,r.y * p + s.y * q,r.z * p + s.z * q⟩
def Row3.cr (r s:Row3):Row3:=⟨r.y * s.z + r.z * -s.y,r.z * s.x + r.x * -s.z,r.x * s.y + r.y * -s.x⟩
section
variable {C:Int} {c:Nat} {r s a b d:Row3}
theorem bent_nb (h0:0 < C) (hC:Bt C c) (h:TabP (NB C c) a b d):∃ g,Bent c g/\Gives g (.dat (tbD a b d)):=⟨_,⟨a,b,d,rfl,nb_tb h0 hC h⟩,rfl,rfl⟩
theorem RP.nb (h:RP (FB C c) r) (h0:0 < C) (hC:Bt C c):RP (NB C c) r:=h.mono fun _ z=>z.nb h0 hC
theorem RP.neg (h:RP (FB C c) r) (h0:0 < C) (hC:Bt C c):RP (NB C c) r.neg:=⟨h.1.neg.nb h0 hC,h.2.1.neg.nb h0 hC,h.2.2.neg.nb h0 hC⟩
theorem RP.sum5 (h:RP (FB C c) r) (g:RP (FB C c) s) (h0:0 < C) (hC:Bt C c):RP (FB (C * 5) (c + 4)) (r.sum s (3 / 5) (4 / 5)):=⟨h.1.sum5 g.1 h0 hC,h.2.1.sum5 g.2.1 h0 hC,h.2.2.sum5 g.2.2 h0 hC⟩
theorem RP.dbl (h:RP (FB C c) r) (g:RP (FB C c) s) (h0:0 < C) (hC:Bt C c):RP (FB (C * 5) (c + 4)) (r.sum s 2 0):=⟨h.1.dbl g.1 h0 hC,h.2.1.dbl g.2.1 h0 hC,h.2.2.dbl g.2.2 h0 hC⟩
theorem RP.half (h:RP (FB C c) r) (g:RP (FB C c) s) (h0:0 < C) (hC:Bt C c):RP (NB C c) (r.sum s (1 / 2) 0):=⟨h.1.nbHalf g.1 h0 hC,h.2.1.nbHalf g.2.1 h0 hC,h.2.2.nbHalf g.2.2 h0 hC⟩
theorem RP.nb5 (h:RP (FB (C * 5) (c + 4)) r) (h0:0 < C) (hC:Bt C c):RP (NB C c) r:=h.mono fun _ z=>z.nb5 h0 hC
theorem RP.to5 (h:RP (FB C c) r) (h0:0 < C):RP (FB (C * 5) (c + 4)) r:=h.mono fun _ z=>z.to5 h0
theorem RP.cr (h:RP (FB C c) r) (g:RP (FB (C * 5) (c + 4)) s) (h0:0 < C) (hC:Bt C c):RP (NB C c) (r.cr s):=⟨h.2.1.nbCr h.2.2 g.2.2 g.2.1 h0 hC,h.2.2.nbCr h.1 g.1 g.2.2 h0 hC,h.1.nbCr h.2.1 g.2.1 g.1 h0 hC⟩
theorem RP.lv (h:RP (FB C c) r) (h0:0 < C) (hC:Bt C c) (hc:c<=460):RP Lv r:=h.mono fun _ z=>z.lv h0 hC (by omega)
theorem RP.lv5 (h:RP (FB (C * 5) (c + 4)) r) (h0:0 < C) (hC:Bt C c) (hc:c<=460):RP Lv r:=h.mono fun _ z=>z.lv (by omega) ((hC.mul (bt_lit (n:=5) (k:=3) (by decide))).up (by omega)) (by omega)
theorem any_bent (h:TabP (FB 60 10) a b d) (hc:20<=c):Bent c (tbD a b d):=⟨a,b,d,rfl,60,by decide,bt_lit (Nat.le_trans (show 60<=2 ^ 6 by decide) (Nat.pow_le_pow_right (by decide) (by omega))),h.mono fun _ z=>z.up (by omega)⟩
theorem tab_bent (h0:0 < C) (hC:Bt C c) (h:TabP (FB C c) a b d):TabP (NB C c) a b d:=h.mono fun _ z=>z.nb h0 hC
theorem row_at {i:Int} (h:0<=i/\i < 3):∃ r:Row3,atI [a.d,b.d,d.d] i=some r.d/\∀ P,TabP P a b d->RP P r:=by
 rcases (show i=0\/i=1\/i=2 by omega) with rfl | rfl | rfl
 ·exact ⟨a,rfl,fun P h=>h.1⟩
 ·exact ⟨b,rfl,fun P h=>h.2.1⟩
 ·exact ⟨d,rfl,fun P h=>h.2.2⟩
theorem ent_at {j:Int} (h:0<=j/\j < 3):∃ y:Rat,atI [tI (qf r.x),tI (qf r.y),tI (qf r.z)] j=some (tI (qf y))/\∀ P:Rat->Prop,RP P r->P y:=by
 rcases (show j=0\/j=1\/j=2 by omega) with rfl | rfl | rfl
 ·exact ⟨r.x,rfl,fun P h=>h.1⟩
 ·exact ⟨r.y,rfl,fun P h=>h.2.1⟩
 ·exact ⟨r.z,rfl,fun P h=>h.2.2⟩
end
theorem lvq {x:Rat} {t b:Int} (h:qf x=[t,b]) (ht:Bt t 950) (hb:Bt b 950):Lv x:=by
 unfold qf at h
 injection h with h1 h2
 injection h2 with h2 _
 exact lo_qf x (by rw [h1];exact ht) (by rw [h2];exact hb)
theorem qf35:qf (3 / 5)=[3,5]:=(lo_is (k:=8) (t:=3) (b:=5) ⟨by decide,by decide,by unfold Bt;decide,by unfold Bt;decide,by unfold qv;rfl⟩).symm
theorem qf45:qf (4 / 5)=[4,5]:=(lo_is (k:=8) (t:=4) (b:=5) ⟨by decide,by decide,by unfold Bt;decide,by unfold Bt;decide,by unfold qv;rfl⟩).symm
theorem qf12:qf (1 / 2)=[1,2]:=(lo_is (k:=8) (t:=1) (b:=2) ⟨by decide,by decide,by unfold Bt;decide,by unfold Bt;decide,by unfold qv;rfl⟩).symm
theorem qf21:qf 2=[2,1]:=rfl
theorem qf01:qf 0=[0,1]:=rfl
theorem bt950 {n:Int} (h:n.natAbs<=8):Bt n 950:=Nat.le_trans h (by decide)
theorem lv35:Lv (3 / 5):=lvq qf35 (bt950 (by decide)) (bt950 (by decide))
theorem lv45:Lv (4 / 5):=lvq qf45 (bt950 (by decide)) (bt950 (by decide))
theorem lv12:Lv (1 / 2):=lvq qf12 (bt950 (by decide)) (bt950 (by decide))
theorem lv21:Lv 2:=lvq qf21 (bt950 (by decide)) (bt950 (by decide))
theorem lv01:Lv 0:=lvq qf01 (bt950 (by decide)) (bt950 (by decide))
theorem qf_mil (y:Rat):qv (y.num * 10 ^ Int.toNat 6 + y.den) (y.den * 10 ^ Int.toNat 6)=y + 1 / 1000000:=by
 have e:(10:Int) ^ Int.toNat 6=1000000:=by decide
 rw [e]
 have h:=qf_val y
 have c1:=cast_ne (show (y.den:Int) ≠ 0 by have:=y.den_pos;omega)
 unfold qv at h ⊢
 push_cast at h c1 ⊢
 grind
theorem Lo.of_lv {x:Rat} (h:Lv x):Bt x.num 950/\Bt (x.den:Int) 950/\0 < (x.den:Int):=⟨h.bt,h.bb,h.pos⟩
theorem any_snoc {rs:List Row3} {x y z:Rat} (h:∀ r ∈ rs,RP (FB 60 10) r) (h1:FB 60 10 x) (h2:FB 60 10 y) (h3:FB 60 10 z):∀ r ∈ rs ++ [⟨x,y,z⟩],RP (FB 60 10) r:=fun r hr=>by
 rcases List.mem_append.mp hr with h' | h'
 ·exact h r h'
 ·rcases List.mem_singleton.mp h' with rfl;exact ⟨h1,h2,h3⟩
theorem E1.ofA {p:Option Addr} {K:PySem.W.Frag} {τ:List Sl} {tas:TA} {ss:List Sl} (h:A1 p K tas τ ss):A p K tas τ (fun x=>x=ss):=fun W L σ H Q r o q=>h W L σ H Q r o fun vs H' s e=>q vs H' s e.symm
end
theorem qf_inj {x y:Rat} (h:qf x=qf y):x=y:=by
 unfold qf at h
 injection h with h1 h2
 injection h2 with h2 _
 rw [<- qf_val x, <- qf_val y,h1,h2]
theorem deq_qf {x y:Rat}:deq (tI (qf x)) (tI (qf y))=decide (x=y):=by
 rw [deq_tI]
 exact decide_eq_decide.mpr ⟨qf_inj,fun h=>by rw [h]⟩
theorem row_inj {r s:Row3} (h:r.d=s.d):r=s:=by
 have h':Dat.tuple [tI (qf r.x),tI (qf r.y),tI (qf r.z)] = .tuple [tI (qf s.x),tI (qf s.y),tI (qf s.z)]:=h
 injection h' with h'
 injection h' with h1 h2
 injection h2 with h2 h3
 injection h3 with h3 _
 obtain ⟨x,y,z⟩:=r
 obtain ⟨u,v,w⟩:=s
 have e1:x=u:=qf_inj (tI_inj h1)
 have e2:y=v:=qf_inj (tI_inj h2)
 have e3:z=w:=qf_inj (tI_inj h3)
 rw [e1,e2,e3]
theorem deq_row {r s:Row3} {b:Bool} (h:b=true ↔ r=s):deq r.d s.d=b:=by
  cases b with
  | true=>rw [h.mp rfl];exact deq_self _
  | false =>
    refine deq_ne fun e=>?_
    exact absurd (h.mpr (row_inj e)) (by decide)
def tw (P1 P2 P3:Prop):Nat->Prop
 | 0=>True
 | 1=>P1
 | 2=>P1/\P2
 | _=>P1/\P2/\P3
def topL (L:Int) (q:Rat):Int:=q.num * (L / q.den)
def sndD:Dat->Dat
 | .tuple [_,e]=>e
 | d=>d
def topD (L:Int):Dat->Dat
 | .tuple [.int n,.int m]=>.int (n * (L / m))
 | d=>d
theorem snd_qf (q:Rat):sndD (tI (qf q)) = .int (q.den:Int):=rfl
theorem top_qf (L:Int) (q:Rat):topD L (tI (qf q)) = .int (topL L q):=rfl
def RLevN:List Dat->(Dat->Prop)->Prop:=fun ds C=>∃ (qs:List Rat) (B:Int) (c:Nat),ds=[.tuple (qs.map fun q=>tI (qf q))]/\qs.length<=100/\0 < B/\Bt B c/\c<=2900/\(∀ q ∈ qs,FB B c q)/\C=fun g=>∃ L:Int,g = .tuple [tI (qs.map (topL L)),.int L]/\0 < L/\L ∣ B/\∀ q ∈ qs,(q.den:Int) ∣ L
theorem FB.den {B:Int} {c:Nat} {q:Rat} (h:FB B c q) (h0:0 < B):(q.den:Int) ∣ B:=by
 obtain ⟨t,_,e⟩:=h
 have h1:q.num * B=q.den * t:=(ent_eq (by omega)).mpr e.symm
 have h2:(q.den:Int) ∣ q.num * B:=⟨t,h1⟩
 have h3:q.den ∣ (q.num * B).natAbs:=by
  have:=Int.natAbs_dvd_natAbs.mpr h2
  rw [Int.natAbs_natCast] at this;exact this
 rw [Int.natAbs_mul] at h3
 have h4:q.den ∣ B.natAbs:=(Nat.Coprime.symm q.reduced).dvd_of_dvd_mul_left h3
 obtain ⟨n,rfl⟩:=Int.eq_ofNat_of_zero_le (Int.le_of_lt h0)
 exact Int.natCast_dvd_natCast.mpr (by simpa using h4)
theorem topL_val {L:Int} {q:Rat} (h:(q.den:Int) ∣ L):(topL L q:Rat)=L * q:=by
 obtain ⟨k,rfl⟩:=h
 have hd:(q.den:Int) ≠ 0:=by have:=q.den_pos;omega
 unfold topL
 rw [Int.mul_ediv_cancel_left _ hd]
 have e:=qf_val q
 have c1:=cast_ne hd
 unfold qv at e
 push_cast at e c1 ⊢
 grind
theorem topL_bt {B L:Int} {c:Nat} {q:Rat} (h:FB B c q) (h0:0 < B) (L0:0 < L) (d1:L ∣ B) (d2:(q.den:Int) ∣ L):Bt (topL L q) c:=by
 obtain ⟨t,ht,e⟩:=h
 have h1:=topL_val d2
 obtain ⟨k,rfl⟩:=d1
 have k0:k ≠ 0:=fun z=>by subst z;omega
 have e2:topL L q * k=t:=by
  have c1:=cast_ne (show L ≠ 0 by omega)
  have c2:=cast_ne k0
  have:((topL L q:Int):Rat) * k=t:=by
   rw [h1, <- e]
   unfold qv
   push_cast
   grind
  exact_mod_cast this
 unfold Bt at ht ⊢
 rw [<- e2,Int.natAbs_mul] at ht
 exact Nat.le_trans (Nat.le_mul_of_pos_right _ (by omega)) ht
theorem filter_first {α:Type} {kp:α->Bool}:∀ {ds:List α},(∃ d ∈ ds,kp d=true)->∃ d r,ds.filter kp=d :: r/\d ∈ ds/\kp d=true
  | [],h=>by obtain ⟨d,hd,_⟩:=h;cases hd
  | x :: ds, h => by
    cases hx:kp x with
    | true=>exact ⟨x,ds.filter kp,by rw [List.filter_cons_of_pos hx],List.mem_cons_self,hx⟩
    | false =>
      obtain ⟨d,hd,h2⟩:=h
      rcases List.mem_cons.mp hd with rfl | hd
      . rw [hx] at h2;cases h2
      . obtain ⟨e,r,h3,h4,h5⟩:=filter_first ⟨d,hd,h2⟩
        exact ⟨e,r,by rw [List.filter_cons_of_neg (by rw [hx];decide),h3],List.mem_cons_of_mem _ h4,h5⟩
theorem nz4_of {w x y z:Int} (h:[w,x,y,z] ≠ [0,0,0,0]):∃ n ∈ [w,x,y,z],n ≠ 0:=by
 by_cases h1:w=0
 ·by_cases h2:x=0
  ·by_cases h3:y=0
   ·by_cases h4:z=0
    ·subst h1 h2 h3 h4;exact absurd rfl h
    ·exact ⟨z,by simp,h4⟩
   ·exact ⟨y,by simp,h3⟩
  ·exact ⟨x,by simp,h2⟩
 ·exact ⟨w,by simp,h1⟩
theorem bd4_of {w x y z:Int} {k:Nat} (h1:Bt w k) (h2:Bt x k) (h3:Bt y k) (h4:Bt z k):Bd (2 ^ k) [w,x,y,z]:=fun n hn=>by
 simp only [List.mem_cons,List.mem_nil_iff,or_false] at hn
 rcases hn with rfl | rfl | rfl | rfl
 ·exact h1
 ·exact h2
 ·exact h3
 ·exact h4
theorem only_row {a b d:Row3} {L t0 t1 t2 t3 t4 t5 t6 t7 t8:Int} (L0:0 < L) (bL:Bt L 940) (bt:∀ n ∈ [t0,t1,t2,t3,t4,t5,t6,t7,t8],Bt n 940)
  (e0:(t0:Rat)=L * a.x) (e1:(t1:Rat)=L * a.y) (e2:(t2:Rat)=L * a.z) (e3:(t3:Rat)=L * b.x) (e4:(t4:Rat)=L * b.y) (e5:(t5:Rat)=L * b.z) (e6:(t6:Rat)=L * d.x) (e7:(t7:Rat)=L * d.y) (e8:(t8:Rat)=L * d.z) :
  ∀ r ∈ [[L + t0 + t4 + t8,t7 - t5,t2 - t6,t3 - t1],[t7 - t5,L + t0 - t4 - t8,t1 + t3,t2 + t6],[t2 - t6,t1 + t3,L - t0 + t4 - t8,t5 + t7],[t3 - t1,t2 + t6,t5 + t7,L - t0 - t4 + t8]],r ≠ [0,0,0,0]->∃ w x y z:Int,r=[w,x,y,z]/\(∃ n ∈ [w,x,y,z],n ≠ 0)/\Bd (2 ^ 950) [w,x,y,z]/\(SO a b d->TOf a b d w x y z):=by
 intro r hr ne
 have b0:=bt t0 (by simp)
 have b1:=bt t1 (by simp)
 have b2:=bt t2 (by simp)
 have b3:=bt t3 (by simp)
 have b4:=bt t4 (by simp)
 have b5:=bt t5 (by simp)
 have b6:=bt t6 (by simp)
 have b7:=bt t7 (by simp)
 have b8:=bt t8 (by simp)
 have up:∀ {n:Int},Bt n 943->Bt n 950:=fun h=>h.up (by decide)
 have p2:∀ {x y:Int},Bt x 940->Bt y 940->Bt (x + y) 943:=fun h g=>(h.add g).up (by decide)
 have m2:∀ {x y:Int},Bt x 940->Bt y 940->Bt (x - y) 943:=fun h g=>by rw [Int.sub_eq_add_neg];exact p2 h (Bt.neg' g)
 have q4:∀ {x y z u:Int},Bt x 940->Bt y 940->Bt z 940->Bt u 940->Bt (x + y + z + u) 943:=fun h1 h2 h3 h4=>(((h1.add h2).add (h3.up (by decide))).add (h4.up (by decide))).up (by decide)
 have n0:=Bt.neg' b0
 have n4:=Bt.neg' b4
 have n8:=Bt.neg' b8
 simp only [List.mem_cons,List.mem_nil_iff,or_false] at hr
 rcases hr with rfl | rfl | rfl | rfl
 ·exact ⟨_,_,_,_,rfl,nz4_of ne,bd4_of (up (q4 bL b0 b4 b8)) (up (m2 b7 b5)) (up (m2 b2 b6)) (up (m2 b3 b1)),fun h=>tof0 h (L:=L) (by push_cast;grind) (by push_cast;grind) (by push_cast;grind) (by push_cast;grind) (nz4_of ne)⟩
 ·exact ⟨_,_,_,_,rfl,nz4_of ne,bd4_of (up (m2 b7 b5)) (up (by rw [Int.sub_eq_add_neg,Int.sub_eq_add_neg];exact q4 bL b0 n4 n8)) (up (p2 b1 b3)) (up (p2 b2 b6)),fun h=>tof1 h (L:=L) (by push_cast;grind) (by push_cast;grind) (by push_cast;grind) (by push_cast;grind) (nz4_of ne)⟩
 ·exact ⟨_,_,_,_,rfl,nz4_of ne,bd4_of (up (m2 b2 b6)) (up (p2 b1 b3)) (up (by rw [Int.sub_eq_add_neg,Int.sub_eq_add_neg];exact q4 bL n0 b4 n8)) (up (p2 b5 b7)),fun h=>tof2 h (L:=L) (by push_cast;grind) (by push_cast;grind) (by push_cast;grind) (by push_cast;grind) (nz4_of ne)⟩
 ·exact ⟨_,_,_,_,rfl,nz4_of ne,bd4_of (up (m2 b3 b1)) (up (p2 b2 b6)) (up (p2 b5 b7)) (up (by rw [Int.sub_eq_add_neg,Int.sub_eq_add_neg];exact q4 bL n0 n4 b8)),fun h=>tof3 h (L:=L) (by push_cast;grind) (by push_cast;grind) (by push_cast;grind) (by push_cast;grind) (nz4_of ne)⟩
theorem only_some {L t0 t1 t2 t3 t4 t5 t6 t7 t8:Int} (L0:0 < L):∃ r ∈ [[L + t0 + t4 + t8,t7 - t5,t2 - t6,t3 - t1],[t7 - t5,L + t0 - t4 - t8,t1 + t3,t2 + t6],[t2 - t6,t1 + t3,L - t0 + t4 - t8,t5 + t7],[t3 - t1,t2 + t6,t5 + t7,L - t0 - t4 + t8]],r ≠ [0,0,0,0]:=by
 by_cases h1:L + t0 + t4 + t8=0
 ·by_cases h2:L + t0 - t4 - t8=0
  ·by_cases h3:L - t0 + t4 - t8=0
   ·have h4:L - t0 - t4 + t8 ≠ 0:=by omega
    exact ⟨_,List.mem_cons_of_mem _ (List.mem_cons_of_mem _ (List.mem_cons_of_mem _ List.mem_cons_self)),fun h=>h4 (by injection h with _ h;injection h with _ h;injection h with _ h;injection h)⟩
   ·exact ⟨_,List.mem_cons_of_mem _ (List.mem_cons_of_mem _ List.mem_cons_self),fun h=>h3 (by injection h with _ h;injection h with _ h;injection h)⟩
  ·exact ⟨_,List.mem_cons_of_mem _ List.mem_cons_self,fun h=>h2 (by injection h with _ h;injection h)⟩
 ·exact ⟨_,List.mem_cons_self,fun h=>h1 (by injection h)⟩
theorem levn_nl {xs:List Int} {L:Int}:noL (.tuple [tI xs,.int L])=true:=by
 rw [noL,noLs,noLs,noLs,noL,noLs_ints]
 rfl
theorem tab_mem {P:Rat->Prop} {a b d:Row3} (h:TabP P a b d):∀ q ∈ [a.x,a.y,a.z,b.x,b.y,b.z,d.x,d.y,d.z],P q:=fun q hq=>by
 simp only [List.mem_cons,List.mem_nil_iff,or_false] at hq
 obtain ⟨⟨h1,h2,h3⟩,⟨h4,h5,h6⟩,h7,h8,h9⟩:=h
 rcases hq with rfl | rfl | rfl | rfl | rfl | rfl | rfl | rfl | rfl <;> assumption
theorem nine_mem {P:Int->Prop} {t0 t1 t2 t3 t4 t5 t6 t7 t8:Int} (h0:P t0) (h1:P t1) (h2:P t2) (h3:P t3) (h4:P t4) (h5:P t5) (h6:P t6) (h7:P t7) (h8:P t8):∀ n ∈ [t0,t1,t2,t3,t4,t5,t6,t7,t8],P n:=fun n hn=>by
 simp only [List.mem_cons,List.mem_nil_iff,or_false] at hn
 rcases hn with rfl | rfl | rfl | rfl | rfl | rfl | rfl | rfl | rfl <;> assumption
theorem kqd_mem {rs:List (List Int)} {d:Dat} (h:d ∈ rs.map tI):PySem.W.kqdOk 9 d=true:=by
 obtain ⟨r,_,rfl⟩:=List.mem_map.mp h
 exact kqd_tup
theorem so_cr {a b d:Row3} (h:(a.dot a=1/\a.dot b=0/\a.dot d=0)/\(b.dot a=0/\b.dot b=1/\b.dot d=0)/\d.dot a=0/\d.dot b=0/\d.dot d=1):SO a b d ↔ a.cr b=d:=by
 obtain ⟨⟨h1,h2,h3⟩,⟨h4,h5,h6⟩,h7,h8,h9⟩:=h
 constructor
 ·intro ⟨_,e1,e2,e3⟩
  unfold Row3.cr
  rw [e1,e2,e3]
 ·intro e
  refine ⟨⟨h1,h2,h3,h4,h5,h6,h7,h8,h9⟩,?_,?_,?_⟩
  ·rw [<- e];rfl
  ·rw [<- e];rfl
  ·rw [<- e];rfl
end D
section
namespace L2
open PySem PySem.Spec PyProof.Rows
end L2
namespace D
open PySem L2 K0 Num
open PySem.W (Dat)
def flatD:Sl->Bool
 | .un=>true
 | .dat _=>true
 | _=>false
def flatDs:List Sl->Bool
 | []=>true
 | s :: r=>flatD s && flatDs r
def GivesX (d:Dat):Sl->Prop
 | .dat e=>d=e
 | .own ds=>d = .list ds
 | _=>False
theorem Rs.reset {p:Option Addr} {W W':Addr->Prop} {K:PySem.W.Frag} {H:Hp} {L:List Addr} {σ:St} {τ:List Sl} (r:Rs p W K H L σ τ) (m:∀ a,W' a->W a):flatDs τ=true->Rs none W' K H [] σ τ:=by
 induction r with
 | nil=>intro _;exact .nil
 | un _ ih=>intro h;rw [flatDs,flatD,Bool.true_and] at h;exact .un (ih h)
 | dat z _ ih=>intro h;rw [flatDs,flatD,Bool.true_and] at h;exact .dat (z.mono fun a n y=>n (m a y)) (ih h)
 | pu _ _ _=>intro h;rw [flatDs] at h;exact absurd (Bool.and_eq_true_iff.mp h).1 (by decide)
 | own _ _ _ _ _ _ _=>intro h;rw [flatDs] at h;exact absurd (Bool.and_eq_true_iff.mp h).1 Bool.false_ne_true
 | dt _ _ _ _ _ _=>intro h;rw [flatDs] at h;exact absurd (Bool.and_eq_true_iff.mp h).1 Bool.false_ne_true
section
variable {p:Option Addr} {K:PySem.W.Frag} {W:Addr->Prop} {L:List Addr} {σ:St} {H:Hp} {τ:List Sl} {s:Sl} {ds:List Dat}
end
end D
end
namespace D
open PySem L2 K0 Num
open PySem.W (Dat)
section
def Row3.sub (r s:Row3):Row3:=⟨r.x - s.x,r.y - s.y,r.z - s.z⟩
def Row3.add (r s:Row3):Row3:=⟨r.x + s.x,r.y + s.y,r.z + s.z⟩
def Row3.sm (k:Rat) (r:Row3):Row3:=⟨k * r.x,k * r.y,k * r.z⟩
def nq (w:Rat) (v:Row3):Rat:=N4 w v.x v.y v.z
section
variable {w:Rat} {v r s:Row3} {k:Rat}
end
def r0:Row3:=⟨0,0,0⟩
section
variable {w:Rat} {v r s:Row3} {k:Rat}
end
end
end D
section
namespace L2
open PySem PySem.Spec PyProof.Rows
end L2
namespace D
open PySem L2 K0 Num
open PySem.W (Dat)
def spX (K:PySem.W.Frag) (R:List Dat->(Dat->Prop)->Prop):Sp:=fun vs H Q _=>∃ ds C,Dzs (fun _=>True) K H vs ds/\R ds C/\∀ v H' d,C d->Same H H'->Dz (fun _=>True) K H' v d->Q v H'
section
variable {K:PySem.W.Frag} {W:Addr->Prop} {H:Hp} {τ':List Sl} {v:V} {s:Sl} {t:TS} {ds:List Dat}
variable {P:Program} {w:World} {mg:Str->Option Value} {base:Heap}
theorem okX {x qual:Str} {st:Stmt} {f:Addr} {fd:FuncData} {N ps:List Str} {k:Nat} {R:List Dat->(Dat->Prop)->Prop} (F:Fun K x qual st f fd) (S0:FnScope N ps (defScope st)) (len:∀ ds C,R ds C->ds.length=ps.length)
    (body:∀ (cdv:Value) (A:Around) (outer:List Env) (s:Shared) (H:Hp) (E:XK),Room k (A.deeper (PyProof.Rows.envOfC qual (defScope st) s.heap.objs.size f cdv)) ->
      ∃ t,ZSs (cxOf CX0 P w K mg base N qual (defScope st) f cdv A outer s H E).nox (defBody st) t/\∀ ds C,R ds C->S none K t (ds.map .dat ++ List.replicate (N.length - ps.length) .un) (fun _=>False) (fun s=>∃ d,C d/\GivesX d s)):FnOk P w K mg base CX0 (k + 1) f fd ps (spX K R):=by
  refine F.okZ S0 (fun vs H Q E h=>?_) (fun cdv A outer s H vs Q E hr h=>?_)
  . obtain ⟨ds,C,z,r,_⟩:=h;rw [z.len];exact len ds C r
  . obtain ⟨ds,C,z,r,q⟩:=h
    obtain ⟨t,hz,hs⟩:=body cdv A outer s H E hr
    refine ⟨t,hz,?_⟩
    have l:vs.length=ps.length:=by rw [z.len];exact len ds C r
    have r0:Rs none (fun _=>False) K H [] (L2.start N vs) (ds.map .dat ++ List.replicate (N.length - ps.length) .un):=by
      unfold L2.start
      rw [l]
      exact rs_start _ z fun a _ h=>h
    have same:∀ {H':Hp},Ev (fun _=>False) H H'->Same H H':=fun e b o h=>e.keep b o (fun z=>z) h
    refine hs ds C r (fun _=>False) [] _ H _ r0 ⟨fun q h=>(by cases h),fun a h=>False.elim h⟩ (fun W' L' σ' H' τ' e ev o' al n l r'=>e.elim) (fun W' H' v s e ev o' al n rv=>?_)
    obtain ⟨d,c,e⟩:=e
    cases s with
    | dat d' =>
      obtain rfl:d=d':=e
      exact q v H' _ c (same ev) (Dz.mono (fun _ _=>trivial) rv)
    | own es =>
      obtain rfl:d = .list es:=e
      obtain ⟨a,vs,rfl,h1,h2,h3⟩:=rv
      exact q _ H' _ c (same ev) (.lst (.inl ⟨trivial,.inl h2⟩) (h3.mono fun _ _=>trivial))
    | dt es=>cases e
    | un=>cases e
    | pu=>cases e
    | vw ds=>cases e
end
end D
end
namespace D
open PySem L2 K0 Num
open PySem.W (Dat)
def TnQ (w x y z:Int) (r s:Row3):Prop:=Q1 w x y z r.x r.y r.z=s.x/\Q2 w x y z r.x r.y r.z=s.y/\Q3 w x y z r.x r.y r.z=s.z
def Tb (r1 r2 s1 s2:Row3):Dat->Prop:=fun g=>∃ w x y z:Int,g=tI [w,x,y,z]/\(∃ n ∈ [w,x,y,z],n ≠ 0)/\pl [w,x,y,z]=[w,x,y,z]/\Bd (2 ^ 1000) [w,x,y,z]/\TnQ w x y z r1 s1/\TnQ w x y z r2 s2
def d2 (a b:Row3):Rat:=(b.sub a).dot (b.sub a)
structure Only (p0 p1 p2 o0 o1 o2:Row3) (w x y z:Int) (u v t:Rat):Prop where
 nz:∃ n ∈ [w,x,y,z],n ≠ 0
 p:pl [w,x,y,z]=[w,x,y,z]
 b:Bd (2 ^ 1000) [w,x,y,z]
 h1:TnQ w x y z (p1.sub p0) (o1.sub o0)
 h2:TnQ w x y z (p2.sub p0) (o2.sub o0)
 su:u=o0.x + -Q1 w x y z p0.x p0.y p0.z
 sv:v=o0.y + -Q2 w x y z p0.x p0.y p0.z
 st:t=o0.z + -Q3 w x y z p0.x p0.y p0.z
def rq (f g:List Int):Rat:=qv (sop f g * sop f g) (nrm f * nrm g)
def rho (fs:List (List Int)) (i j:Nat):Rat:=rq (fs.getD i []) (fs.getD j [])
end D
section
namespace D
open PySem L2 K0 Num
open PySem.W (Dat)
section
variable {p:Option Addr} {K:PySem.W.Frag} {W:Addr->Prop} {τ:List Sl} {te:TE} {tas:TA}
end
end D
namespace D
open PySem L2 K0 Num
open PySem.W (Dat)
section
variable {p:Option Addr} {K:PySem.W.Frag} {τ:List Sl} {te:TE} {tas:TA} {s:Sl}
theorem A.consE {C:List Sl->Prop} (ha:E1 p K te τ s) (hr:A p K tas τ C):A p K (tCons te tas) τ (fun ss=>∃ r,ss=s :: r/\C r):=A.cons (C2:=fun _=>C) ha (fun _ _=>hr) fun x ss h1 h2=>⟨ss,by rw [h1],h2⟩
theorem A.lastE {C:Sl->Prop} (h:E p K te τ C):A p K (tCons te tNil) τ (fun ss=>∃ s,ss=[s]/\C s):=A.cons (C2:=fun _ x=>[]=x) h (fun _ _=>A1.nil) fun x ss h1 h2=>⟨x,by rw [<- h2],h1⟩
end
end D
end
namespace D
open PySem L2 K0 Num
open PySem.W (Dat)
section
def Own.Reads (o:Own) (d:Dat):Prop:=∀ (N:Addr->Prop) (K:PySem.W.Frag) (H:Hp) (a:Addr) (l:List Addr),o.R N K H a l->Dz (fun _=>True) K H (.ref a) d
section
variable {K:PySem.W.Frag} {W:Addr->Prop} {H:Hp} {o:Own}
end
end
section
section
variable {W:Addr->Prop}
end
inductive Con (A:Nat->Nat->Prop):Nat->Nat->Prop
 | refl (i:Nat):Con A i i
 | step {i j k:Nat}:Con A i j->A j k->Con A i k
section
variable {A:Nat->Nat->Prop}
noncomputable def conB (A:Nat->Nat->Prop) (i j:Nat):Bool:=@decide (Con A i j) (Classical.propDecidable _)
noncomputable def cls (A:Nat->Nat->Prop) (n i:Nat):List Nat:=(List.range n).filter (conB A i)
end
end
section
section
variable {p:Option Addr} {W:Addr->Prop}
end
def mn (fs:List (List Int)) (ps:List Nat) (r:Rat) (p:Nat):Rat:=if rho fs (ps.getLastD 0) p < r then rho fs (ps.getLastD 0) p else r
section
variable {fs:List (List Int)} {ps:List Nat} {r:Rat}
end
end
section
section
variable {W:Addr->Prop}
end
def SFour (f:List Int):Prop:=f.length=4/\(∃ n ∈ f,n ≠ 0)/\Bd (2 ^ 3) f
instance (f:List Int):Decidable (SFour f):=by unfold SFour Bd;infer_instance
section
end
end
end D
section
namespace L2
open PySem PySem.Spec PyProof.Rows
section
end
end L2
namespace D
open PySem L2 K0 Num
open PySem.W (Dat)
section
variable {W:Addr->Prop}
end
theorem noL_tI {ns:List Int}:noL (tI ns)=true:=noLs_ints ns
end D
end
namespace D
open PySem L2 K0 Num
open PySem.W (Dat)
structure Fw where
 t:Int
 b:Int
def Fw.q (f:Fw):Rat:=qv f.t f.b
def Fw.d (f:Fw):Dat:=tI [f.t,f.b]
def pQ (v:Rat × Rat × Rat):Dat:=ptQ v.1 v.2.1 v.2.2
section
end
end D
section
namespace L2
open PySem PySem.Spec PyProof.Rows
namespace RvT
section
variable {t:Addr}
def Is (h:Heap) (a t:Addr) (i:Int):Prop:=∃ o,h.get? a=some o/\o.cls = .type "reversed" /\ o.data = .fields #[.ref t,rawInt i]
end
end RvT
section
end
end L2
end
namespace D
open PySem L2 K0 Num
open PySem.W (Dat)
section
end
abbrev V3:=Rat × Rat × Rat
structure Jt where
 x:Int
 y:Int
 z:Int
 a:V3
 k:Int
 l:Int
def Jt.d (j:Jt):Dat:=.tuple [tI [j.x,j.y,j.z],pQ j.a,tI [j.k,j.l]]
def Jt.t (j:Jt):List Int:=pl [j.l,j.k * j.x,j.k * j.y,j.k * j.z]
def Jt.w (j:Jt):V3:=(j.x,j.y,j.z)
def low (c:Nat):Prop:=97<=c/\c<=122
section
end
end D
section
namespace L2
open PySem PySem.Spec PyProof.Rows
def Fx (C:Value) (e:Addr) (tb:Option Addr) (h:Heap):Prop :=
 ∃ oe vs,h.get? e=some oe/\(oe.cls=C/\oe.dict=none)/\oe.data = .fields vs/\1 < vs.size/\(match tb with
  | none=>vs[1]?=some .none
  | some T=>vs[1]?=some (.ref T)/\T ≠ e/\∃ oT ts,h.get? T=some oT/\oT.data = .fields ts/\ts[3]?=some .none)
def Kp (fs:List Addr) (X:Addr->Prop) (h h':Heap):Prop :=
 ∀ b o,¬ X b->h.get? b=some o->(b ∉ fs->h'.get? b=some o)/\∃ sl,h'.get? b=some { o with slots:=sl }
section
variable {M:Model} {A:Around} {E:Value->Shared->Prop} {s:Shared} {env:Env} {outer:List Env} {L e:Addr} {C:Value} {base:Heap} {Q:Unit->Shared->Prop}
theorem entry_new {ob:Obj} {fs:Array Value} {hd0:Value} {nx:Bool} (f0:A.frames=some (env :: outer)) (f1:s.heap.FunFrames base (env :: outer)) (f2:env.frame=some L)
  (x0:s.heap.get? e=some ob) (x1:ob.data = .fields fs) (x2:1 < fs.size) (x3:ob.cls=C/\ob.dict=none)
  (k:∀ h' T,s.heap.objs.size<=T->Fx C e (some T) h'->Kp (frs (env :: outer)) (fun b=>b=e) s.heap h'->Q () { s with heap:=h' }) :
  wpAny M A (do
   let fo <- frameOf env
   let pl <- entryPlaceOf L nx
   let en <- EntryCells.newEntry hd0 fo .none (rawInt L) .none pl
   setField (.ref e) 1 en) (fun _ s'=>wpAny M A (setFlight (.ref e) none) Q E s') E s:=by
 have out:e ∉ frs (env :: outer):=fun z=>by
  obtain ⟨_,o2,q1,q2⟩:=f1.mem z
  rw [x0] at q1
  cases q1
  exact q2 fs x1
 refine wpAny_bind (wpAny_frameOf_fun f0 f1 f2 fun g so=>wpAny_bind (wpAny_entryPlaceOf fun pl pok=>?_))
 unfold EntryCells.newEntry newFields
 refine wpAny_bind (wpAny_newObj_type ?_ (pok.sizeOk5 _ _ _ _ _))
 have sz:g.objs.size=s.heap.objs.size:=so.1
 have y0:g.get? e=some ob:=by rw [so.2.1 e out];exact x0
 have ne:g.objs.size ≠ e:=Nat.ne_of_gt (Heap.lt_size y0)
 generalize hob:({ cls:=.type "traceback",dict:=none,data:=.fields ([hd0,.ref L,.none,rawInt L,.none] ++ (if pl.isEmpty then List.replicate 6 Value.none else pl)).toArray }:Obj)=nob
 have nd:nob.data = .fields ([hd0,.ref L,.none,rawInt L,.none] ++ (if pl.isEmpty then List.replicate 6 Value.none else pl)).toArray:=by rw [<- hob]
 have nfr:nob.isFreed=false:=Obj.isFreed_of_fields nd
 have y1:(g.push nob).get? e=some ob:=Heap.get?_push_of_some nob y0
 refine wpAny_setField y1 x1 x2 ?_
 generalize hf1:Obj.mapFields (·.setIfInBounds 1 (Value.ref g.objs.size))=m1
 have d1:(m1 ob).data = .fields (fs.setIfInBounds 1 (.ref g.objs.size)):=by rw [<- hf1];exact Obj.data_mapFields x1 _
 have c1:(m1 ob).cls=C/\(m1 ob).dict=none:=⟨by rw [<- hf1,Obj.cls_mapFields];exact x3.1,by rw [<- hf1];obtain ⟨c,d,dt,sl⟩:=ob;cases dt <;> exact x3.2⟩
 have z1:((g.push nob).update e m1).get? e=some (m1 ob):=Heap.get?_update_self m1 y1 (Obj.isFreed_of_fields d1)
 have z2:((g.push nob).update e m1).get? g.objs.size=some nob:=by
  rw [Heap.get?_update_other _ _ (Ne.symm ne)]
  exact Heap.get?_push_size g nfr
 unfold setFlight
 refine wpAny_bind (wpAny_field z1 d1 (x:=.ref g.objs.size) (by simp [x2]) ?_)
 rw [if_pos (by simp)]
 have s3:3 < (([hd0,.ref L,.none,rawInt L,.none] ++ (if pl.isEmpty then List.replicate 6 Value.none else pl)).toArray).size:=by
  simp only [List.size_toArray,List.length_append,List.length_cons,List.length_nil];omega
 refine wpAny_setField z2 nd s3 (k _ g.objs.size (by rw [sz];exact Nat.le_refl _) ?_ ?_)
 ·refine ⟨m1 ob,_,?_,c1,d1,by simpa using x2,by simp [x2],ne,_,_,Heap.get?_update_self _ z2 (Obj.isFreed_of_fields (Obj.data_mapFields nd _)),Obj.data_mapFields nd _,?_⟩
  ·rw [Heap.get?_update_other _ _ ne];exact z1
  ·rw [Array.getElem?_setIfInBounds_self_of_lt s3];rfl
 ·intro b o n q
  have lt:=Heap.lt_size q
  have nb:g.objs.size ≠ b:=by rw [sz];exact Nat.ne_of_gt lt
  have up:∀ o',g.get? b=some o'->(((g.push nob).update e m1).update g.objs.size (Obj.mapFields (·.setIfInBounds 3 ((none:Option Addr).elim Value.none fun f=>rawInt f)))).get? b=some o':=fun o' r=>by
   rw [Heap.get?_update_other _ _ nb,Heap.get?_update_other _ _ (Ne.symm n)]
   exact Heap.get?_push_of_some nob r
  obtain ⟨sl,r⟩:=so.2.2 b o q
  exact ⟨fun nf=>up o (by rw [so.2.1 b nf];exact q),sl,up _ r⟩
theorem note_land {tb:Option Addr} (f0:A.frames=some (env :: outer)) (f1:s.heap.FunFrames base (env :: outer)) (f2:env.frame=some L) (hx:Fx C e tb s.heap)
    (k:∀ h' T,s.heap.objs.size<=T->Fx C e (some T) h'->Kp (frs (env :: outer)) (fun b=>b=e\/some b=tb) s.heap h'->Q () { s with heap:=h' }) :
    wpAny M A (noteFrame (.ref e) env) (fun _ s'=>wpAny M A (setFlight (.ref e) none) Q E s') E s:=by
  obtain ⟨ob,fs,x0,x3,x1,x2,x4⟩:=hx
  unfold noteFrame
  simp only [f2]
  cases tb with
  | none =>
    refine wpAny_bind (wpAny_field x0 x1 x4 ?_)
    rw [if_neg (by decide)]
    exact entry_new f0 f1 f2 x0 x1 x2 x3 fun h' T l f q=>k h' T l f fun b o n r=>q b o (fun z=>n (.inl z)) r
  | some T =>
    obtain ⟨x4,ne,oT,ts,y0,y1,y3⟩:=x4
    refine wpAny_bind (wpAny_field x0 x1 x4 ?_)
    rw [if_pos (by simp)]
    refine wpAny_bind (wpAny_field y0 y1 y3 ?_)
    rw [if_neg (by simp [rawInt])]
    refine wpAny_bind (wpAny_setField y0 y1 (Array.getElem?_eq_some_iff.mp y3).1 ?_)
    have ot:∀ b,b ≠ T->(s.heap.update T (Obj.mapFields (·.setIfInBounds 3 Value.none))).get? b=s.heap.get? b:=fun b hb=>Heap.get?_update_other _ _ (Ne.symm hb)
    refine entry_new (s:={ s with heap:=_ }) f0 (f1.of_keeps fun b o q nf=>⟨o,?_,rfl⟩) f2 (ob:=ob) (by rw [ot e (Ne.symm ne)];exact x0) x1 x2 x3 fun h' T' l f q=>k h' T' ?_ f fun b o n r=>?_
    . rw [ot b (fun z=>by rw [z,y0] at q;cases q;exact nf ts y1)];exact q
    . exact Nat.le_trans (Nat.le_of_eq (Heap.size_after_update ..).symm) l
    . exact q b o (fun z=>n (.inl z)) (by rw [ot b (fun z=>n (.inr (by rw [z])))];exact r)
theorem land_again {T:Addr} (hx:Fx C e (some T) s.heap)
  (k:∀ h',Fx C e (some T) h'->Kp [] (fun b=>b=T) s.heap h'->Q () { s with heap:=h' }):wpAny M A (setFlight (.ref e) none) Q E s:=by
 obtain ⟨ob,fs,x0,x3,x1,x2,x4,ne,oT,ts,y0,y1,y3⟩:=hx
 have l3:=(Array.getElem?_eq_some_iff.mp y3).1
 unfold setFlight
 refine wpAny_bind (wpAny_field x0 x1 x4 ?_)
 rw [if_pos (by simp)]
 refine wpAny_setField y0 y1 l3 (k _ ⟨ob,fs,?_,x3,x1,x2,x4,ne,_,_,Heap.get?_update_self _ y0 (Obj.isFreed_of_fields (Obj.data_mapFields y1 _)),Obj.data_mapFields y1 _,by rw [Array.getElem?_setIfInBounds_self_of_lt l3];rfl⟩ fun b o n r=>?_)
 ·rw [Heap.get?_update_other _ _ ne];exact x0
 ·have q:=(Heap.get?_update_other s.heap (Obj.mapFields (·.setIfInBounds 3 ((none:Option Addr).elim Value.none fun f=>rawInt f))) (Ne.symm n)).trans r
  exact ⟨fun _=>q,o.slots,q⟩
end
def Fresh (X:Cx) (pins:List (Addr × Obj)) (H:Hp) (e:Addr) (tb:Option Addr):Prop:=∀ a,(a=e\/some a=tb)->X.s₀.heap.get? a=none/\H a=none/\∀ p ∈ X.pn ++ pins,p.1 ≠ a
section
variable {X:Cx} {pins:List (Addr × Obj)} {σ:St} {H H':Hp} {s s':Shared} {C:Value} {e:Addr} {tb:Option Addr} {ch:Addr->Prop}
theorem Fx.fld {h:Heap} (hx:Fx C e tb h) {a:Addr} (ha:a=e\/some a=tb):∃ o fs,h.get? a=some o/\o.data = .fields fs:=by
 obtain ⟨ob,fs,x0,x3,x1,x2,x4⟩:=hx
 rcases ha with rfl | ha
 ·exact ⟨_,_,x0,x1⟩
 ·subst ha
  obtain ⟨_,_,oT,ts,y0,y1,_⟩:=x4
  exact ⟨_,_,y0,y1⟩
theorem Inv.kp (I:Inv X pins σ H s) (hch:∀ b,ch b->X.s₀.heap.get? b=none/\b ≠ X.env.locals/\(∀ x c,X.env.cells.lookup x=some c->c ≠ b)/\∀ p ∈ X.pn ++ pins,p.1 ≠ b)
  (kp:Kp (frs X.stack) ch s.heap s'.heap) (free:∀ b o,¬ ch b->s.heap.get? b=some o->H b=none->H' b=none) (tups:∀ b xs,H b=some (.tup xs)->H' b=some (.tup xs))
  (frzs:∀ b o u,H b=some (.frz o u)->H' b=some (.frz o u)) (tbls:∀ b ps,H b=some (.tbl ps)->∃ more,H' b=some (.tbl (ps ++ more))) (hok:HOk X.prog X.w H' s'.heap) (ho:s'.os=s.os) (hg:AllBare s'.gens):Inv X pins σ H' s':=by
 have n0:∀ b o,X.s₀.heap.get? b=some o->¬ ch b:=fun b o q z=>by rw [(hch b z).1] at q;cases q
 have nl:¬ ch X.env.locals:=fun z=>(hch _ z).2.1 rfl
 have out:∀ b,b ≠ X.env.locals->b ∉ X.fs->b ∉ frs X.stack:=fun b n1 n2 z=>(List.mem_cons.mp (I.stkSub b z)).elim n1 n2
 have neL:∀ b o,X.s₀.heap.get? b=some o->b ≠ X.env.locals:=fun b o q z=>absurd (Nat.lt_of_lt_of_le (Heap.lt_size q) I.ok.above) (by rw [z];exact Nat.lt_irrefl _)
 have ce:∀ x c,X.env.cells.lookup x=some c->∀ v,s.heap.IsCell c v->s'.heap.IsCell c v:=fun x c q v ⟨o,q1,q2⟩=>by
  obtain ⟨sl,q3⟩:=(kp c o (fun z=>(hch c z).2.2.1 x c q rfl) q1).2
  exact ⟨_,q3,q2⟩
 constructor
 ·exact I.ok
 ·exact ho.trans I.os
 ·exact hg
 ·constructor
  ·intro b o q n f x
   exact (kp b o (n0 b o q) (I.base.keep b o q n f x)).1 (out b (neL b o q) f)
  ·intro b o q n f x
   obtain ⟨sl,q1⟩:=I.base.slot b o q n f x
   obtain ⟨sl2,q2⟩:=(kp b _ (n0 b o q) q1).2
   exact ⟨sl2,q2⟩
  ·intro b o q n x
   obtain ⟨o2,q1⟩:=I.base.there b o q x
   exact free b o2 (n0 b o q) q1 (I.base.free b o q n x)
  ·intro b o q x
   obtain ⟨o2,q1⟩:=I.base.there b o q x
   obtain ⟨sl,q2⟩:=(kp b o2 (n0 b o q) q1).2
   exact ⟨_,q2⟩
  ·exact fun b xs q=>tups b xs (I.base.tups b xs q)
  ·exact fun b o u q=>frzs b o u (I.base.frzs b o u q)
  ·intro b ps q
   obtain ⟨m1,q1⟩:=I.base.tbls b ps q
   obtain ⟨m2,q2⟩:=tbls b _ q1
   exact ⟨m1 ++ m2,by rw [q2,Array.append_assoc]⟩
 ·obtain ⟨m,⟨o,es,ep,q,r⟩,hl⟩:=I.loc
  obtain ⟨sl,q2⟩:=(kp _ o nl q).2
  refine ⟨m,⟨_,es,ep,q2,r⟩,fun i x v e1 e2 e3=>?_⟩
  obtain ⟨u,r2,l⟩:=hl i x v e1 e2 e3
  exact ⟨u,r2,l.imp id fun ⟨k,c,e4,z⟩=>⟨k,c,e4,ce x c e4 _ z⟩⟩
 ·intro x c q
  obtain ⟨v,z⟩:=I.cell x c q
  exact ⟨v,ce x c q v z⟩
 ·obtain ⟨m,⟨o,es,ep,q,r⟩,hl⟩:=I.loc
  exact free _ o nl q I.free
 ·intro x c q
  obtain ⟨v,o,q1,_⟩:=I.cell x c q
  exact free c o (fun z=>(hch c z).2.2.1 x c q rfl) q1 (I.freeC x c q)
 ·intro p hp
  obtain ⟨q,n,ne,nf,d⟩:=I.pin p hp
  have nc:¬ ch p.1:=fun z=>(hch p.1 z).2.2.2 p hp rfl
  exact ⟨(kp p.1 p.2 nc q).1 (out _ ne nf),free p.1 p.2 nc q n,ne,nf,d⟩
 ·exact hok
 ·exact I.len
theorem Fresh.off (fr:Fresh X pins H e tb) (I:Inv X pins σ H s) (hx:Fx C e tb s.heap) (b:Addr) (hb:b=e\/some b=tb):X.s₀.heap.get? b=none/\b ≠ X.env.locals/\(∀ x c,X.env.cells.lookup x=some c->c ≠ b)/\∀ p ∈ X.pn ++ pins,p.1 ≠ b:=by
 obtain ⟨f1,f2,f3⟩:=fr b hb
 obtain ⟨o,fs,q,d⟩:=hx.fld hb
 refine ⟨f1,fun z=>?_,fun x c hc z=>?_,f3⟩
 ·obtain ⟨m,⟨o2,es,ep,q2,d2,_⟩,_⟩:=I.loc
  rw [<- z,q] at q2;cases q2
  rw [d] at d2;cases d2
 ·obtain ⟨v,o2,q2,d2⟩:=I.cell x c hc
  subst z
  rw [q] at q2;cases q2
  rw [d] at d2;cases d2
theorem Inv.fly (I:Inv X pins σ H s) (hx:Fx C e tb s.heap) (fr:Fresh X pins H e tb) (kp:Kp (frs X.stack) (fun b=>b=e\/some b=tb) s.heap s'.heap) (ho:s'.os=s.os) (hg:s'.gens=s.gens):Inv X pins σ H s':=by
 refine I.kp (fr.off I hx) kp (fun _ _ _ _ n=>n) (fun _ _ q=>q) (fun _ _ _ q=>q) (fun b ps q=>⟨#[],by rw [q];simp⟩) (fun a o z=>?_) ho (by rw [hg];exact I.bare)
 have nt:∀ b u,H b=some u->¬ (b=e\/some b=tb)/\b ∉ frs X.stack:=fun b u q=>⟨fun z=>(nomatch (fr b z).2.1.symm.trans q),fun z=>(nomatch (I.stkFree b z).symm.trans q)⟩
 refine (I.hok a o z).stay (fun b u hb q=>?_) (fun _ q=>q) fun _ _ q=>q
 rcases hb with rfl | hb
 ·exact (kp b u (nt b _ z).1 q).1 (nt b _ z).2
 ·exact (kp b u (nt b _ hb).1 q).1 (nt b _ hb).2
theorem Inv.rest {T:Addr} {ob:Obj} {φ:Heap->Prop} (I:Inv X pins σ H s) (hx:Fx C e (some T) s.heap) (fr:Fresh X pins H e (some T)) (q:s.heap.get? e=some ob) (hφ:φ s.heap) (st:∀ h1 h2:Heap,φ h1->(∀ o,h1.get? e=some o->h2.get? e=some o)->φ h2):Inv X pins σ (upd H e (.frz ob (.ext φ))) s:=by
 have he:=(fr e (.inl rfl)).2.1
 have k0:Kp (frs X.stack) (fun b=>b=e\/some b=some T) s.heap s.heap:=fun b o _ q=>⟨fun _=>q,o.slots,q⟩
 have ne:∀ b u,H b=some u->b ≠ e:=fun b u q z=>by rw [z,he] at q;cases q
 refine I.kp (fr.off I hx) k0 (fun b o n q nb=>?_) (fun b xs q=>?_) (fun b o u q=>?_) (fun b ps q=>⟨#[],?_⟩) (fun a o z=>?_) rfl I.bare
 ·rw [upd_ne (fun z=>n (.inl z))];exact nb
 ·rw [upd_ne (ne b _ q)];exact q
 ·rw [upd_ne (ne b _ q)];exact q
 ·rw [upd_ne (ne b _ q),q];simp
 ·by_cases hb:a=e
  ·subst hb;rw [upd_same] at z;cases z;exact ⟨q,hφ,⟨_,q⟩,st⟩
  ·rw [upd_ne hb] at z
   exact (I.hok a o z).stay (fun _ _ _ q=>q) (fun b q=>by rw [upd_ne (ne b _ q)];exact q) fun b xs q=>by rw [upd_ne (ne b _ q)];exact q
end
end L2
end
section
namespace L2
open PySem PySem.Spec PyProof.Rows
abbrev TX:=St->Hp->(St->Hp->Prop)->Prop
def XP (X:Cx) (pins:List (Addr × Obj)) (C:Value) (G:St->Hp->Prop) (v:Value) (s':Shared):Prop :=
 ∃ e tb σ' H',v = .ref e/\Inv X pins σ' H' s'/\G σ' H'/\Fx C e tb s'.heap/\Fresh X pins H' e tb
structure RE (X:Cx) (C:Value) (e:Expr) (t:TX):Prop where
 out:∀ (pins:List (Addr × Obj)) (s:Shared) (σ:St) (H:Hp) (G:St->Hp->Prop),Inv X pins σ H s->t σ H G->wpAny (model X.prog X.w) X.A (eval e X.env) (fun _ _=>False) (XP X pins C G) s
structure RS (X:Cx) (C:Value) (st:Stmt) (t:TX):Prop where
 out:∀ (pins:List (Addr × Obj)) (s:Shared) (σ:St) (H:Hp) (G:St->Hp->Prop),Inv X pins σ H s->t σ H G->wpAny (model X.prog X.w) X.A (exec st X.env) (fun _ _=>False) (XP X pins C G) s
structure RSs (X:Cx) (C:Value) (st:List Stmt) (t:TX):Prop where
 out:∀ (pins:List (Addr × Obj)) (s:Shared) (σ:St) (H:Hp) (G:St->Hp->Prop),Inv X pins σ H s->t σ H G->wpAny (model X.prog X.w) X.A (execs st X.env) (fun _ _=>False) (XP X pins C G) s
def xNever:TX:=fun _ _ _=>False
def xThen (t:TS) (u:TX):TX:=fun σ H G=>t { nx:=fun σ' H'=>u σ' H' G,rt:=fun _ _=>False } σ H
def xIf (c:TT) (t u:TX):TX:=fun σ H G=>c σ H fun b H1=>if b=true then t σ H1 G else u σ H1 G
section
variable {X:Cx} {C:Value} {st:Stmt} {rest a b:List Stmt} {t u:TX} {ts:TS} {e c tg:Expr} {tc:TT} {pos:Pos}
theorem noE {α:Type} {m:Sem α} {M:Model} {A:Around} {Q:α->Shared->Prop} {E:Value->Shared->Prop} {s:Shared} (h:wpAny M A m Q (fun _ _=>False) s):wpAny M A m Q E s:=wpAny_mono h (fun _ _ x=>x) fun _ _ z=>z.elim
theorem rss_never:RSs X C rest xNever:=⟨fun _ _ _ _ _ _ h=>h.elim⟩
theorem rss_here (h:RS X C st t):RSs X C (st :: rest) t:=⟨fun pins s σ H G I q=>wpAny_execs_cons (wpAny_mono (h.out pins s σ H G I q) (fun _ _ z=>z.elim) fun _ _ z=>z)⟩
theorem rss_then (h1:ZS X.nox st ts) (h2:RSs X C rest u):RSs X C (st :: rest) (xThen ts u):=⟨fun pins s σ H G I q=>wpAny_execs_cons (thn (noE (h1.out pins s σ H _ (I.wish _) q)) fun f s1 z=>by
  cases f with
  | next =>
    obtain ⟨σ',H',I',q⟩:=z
    exact h2.out pins s1 σ' H' G I'.unwish q
  | ret v=>obtain ⟨_,_,_,_,_,q⟩:=z;exact q.elim
  | brk=>obtain ⟨_,_,_,q⟩:=z;exact q.elim
  | cont=>obtain ⟨_,_,_,q⟩:=z;exact q.elim)⟩
theorem rs_if (hc:ZT X.nox c tc) (ha:RSs X C a t) (hb:RSs X C b u):RS X C (.If c a b pos) (xIf tc t u):=⟨fun pins s σ H G I q=>wpAny_If (thn (noE (hc.out pins s σ H _ (I.wish _) q)) fun d s1 z=>by
 obtain ⟨H1,I1,q1⟩:=z
 cases d with
 | true=>exact ha.out pins s1 σ H1 G I1.unwish q1
 | false=>exact hb.out pins s1 σ H1 G I1.unwish q1)⟩
theorem rs_asg (he:RE X C e t) (hs:swapsWithSole [tg] e pos.line X.env=pure false:=by rfl) (hw:swappedStores [tg] e X.env=pure none:=by rfl):RS X C (.Assign [tg] e pos) t:=⟨fun pins s σ H G I q=>by
 refine wpAny_Assign_stores (wpAny_mono (he.out pins s σ H G I q) (fun _ _ z=>z.elim) fun _ _ z=>z) hs hw⟩
end
def CXx (P:Program) (w:World) (C:Value):CXT:=fun outer H s _ v s'=>∃ e T H',v = .ref e/\s'.os=s.os/\AllBare s'.gens/\Same H H'/\Un (frs outer) [] H H' s.heap s'.heap/\HOk P w H' s'.heap/\Fx C e (some T) s'.heap /\
 ∀ a,(a=e\/some a=some T)->s.heap.get? a=none/\H' a=none
section
variable {X:Cx} {C:Value} {k:Nat} {f:Addr} {fd:FuncData} {ps:List Str} {sp:Sp} {x:Str} {p pos:Pos} {e:Expr} {es:List Expr} {t:TA}
def xCall (sp:Sp) (t:TA):TX:=fun σ H G=>t σ H fun vs H1=>sp vs H1 (fun _ _=>False) E0/\∀ H',Same H1 H'->G σ H'
theorem run_raise {pins:List (Addr × Obj)} {σ:St} {H:Hp} {s:Shared} {G:St->Hp->Prop} {us:List Value} {vs:List V} (F:FnOk X.prog X.w X.K X.mg X.base (CXx X.prog X.w C) k f fd ps sp) (hr:Room k X.A) (hb:Binds X.K fd ps [])
    (I:Inv X pins σ H s) (r:Vals vs us) (h:sp vs H (fun _ _=>False) E0) (hG:∀ H',Same H H'->G σ H') (hX:X.ex=[]):wpAny (model X.prog X.w) X.A (call (.ref f) us) (fun _ _=>False) (XP X pins C G) s:=by
  have hl:us.length=ps.length:=by rw [<- r.length];exact F.len _ _ _ _ h
  have bs:=hb s us I.kIn (by rw [List.append_nil];exact hl)
  rw [List.append_nil] at bs
  refine wpAny_call (codeAny_mono (F.run X.A X.stack s H ⟨us,[]⟩ us vs _ E0 hr I.env0 bs r h) fun r s' hq=>?_)
  cases r with
  | ok fl =>
    cases fl with
    | ret u=>obtain ⟨_,_,_,_,_,_,_,z⟩:=hq;exact z.elim
    | next=>exact hq.elim
    | brk=>exact hq.elim
    | cont=>exact hq.elim
  | error v =>
    obtain ⟨e,T,H',rfl,o1,o2,sm,un,hok,fx,fr⟩:=hq
    refine ⟨e,some T,σ,H',rfl,I.call' (ch:=[]) o1 un hok o2 (fun b z=>absurd z (by simp)),hG H' sm,fx,fun a ha=>?_⟩
    obtain ⟨f1,f2⟩:=fr a ha
    refine ⟨?_,f2,fun p hp z=>?_⟩
    . cases q:X.s₀.heap.get? a with
      | none=>rfl
      | some o =>
        obtain ⟨o2,q2⟩:=I.base.there a o q (by rw [hX];simp)
        rw [f1] at q2;cases q2
    . have q:=(I.pin p hp).1
      rw [z,f1] at q;cases q
theorem re_call (F:FnOk X.prog X.w X.K X.mg X.base (CXx X.prog X.w C) k f fd ps sp) (hr:Room k X.A) (hg:Gl X x) (hm:X.mg x=some (.ref f)) (hk:PySem.W.keepIn X.K (.ref f)=true) (hb:Binds X.K fd ps []) (ha:ZA X.nox (e :: es) t) (hX:X.ex=[]:=by rfl)
  (hdb:(x == ("__debug__" : Str))=false:=by decide) (he:starEach (e :: es) X.env=(false,eval e X.env) :: starEach es X.env:=by rfl) (hpl:(backTo pos (starEach es X.env)).any (·.1)=false:=by rfl) :
  RE X C (.Call (.Name x p) (e :: es) [] pos) (xCall sp t):=⟨fun pins s σ H G I h=>by
 refine wpAny_Call_Name_kw (ld_glob I hg hm ?_ hdb)
 refine PySem.W.callWith_K (h₀:=X.base) I.ok.mod.kin hk (thn (noE (ha.out pos pins s σ H _ (I.wish _) h)) fun us s1 ⟨vs,H1,I1,r,q⟩=>⟨I1.kIn,?_⟩) he hpl
 exact run_raise F hr hb I1.unwish r q.1 q.2 hX⟩
end
theorem ObjOk.here {P:Program} {w:World} {H:Hp} {h:Heap} {a:Addr} {o:HO} (x:ObjOk P w H h a o):∃ u,h.get? a=some u:=by
 cases o with
 | lst xs=>obtain ⟨_,_,_,_,q⟩:=x;exact ⟨_,q⟩
 | tup xs=>obtain ⟨_,_,_,u,q,_⟩:=x;exact ⟨u,q⟩
 | dK kvs=>obtain ⟨_,_,_,_,u,_,_,q,_⟩:=x;exact ⟨u,q⟩
 | dT kvs=>obtain ⟨_,_,_,_,u,_,_,q,_⟩:=x;exact ⟨u,q⟩
 | set S n=>obtain ⟨u,_,_,_,q,_⟩:=x;exact ⟨u,q⟩
 | ins C dx fs=>obtain ⟨_,_,_,q,_⟩:=x;exact ⟨_,q⟩
 | own y=>exact x
 | xd fs=>obtain ⟨_,⟨u,_,_,q,_⟩,_⟩:=x;exact ⟨u,q⟩
 | rng lo hi=>obtain ⟨_,_,_,q⟩:=x;exact ⟨_,q⟩
 | frz ob u=>obtain ⟨q,_⟩:=x;exact ⟨_,q⟩
 | tbl ps=>exact ⟨_,x⟩
 | met f y=>exact ⟨_,x⟩
 | ext φ=>exact x.2.1
structure Xc (K:PySem.W.Frag) (x:Str) (C:Addr):Prop where
 ex:PySem.W.excIn K C [.type "ValueError",.type "Exception",.type "BaseException",.type "object"] "ValueError.__new__" = true
 nm:PySem.W.nsIn K mainGlobals x=some (some (.ref C))
theorem exc_obj {K:PySem.W.Frag} {C:Addr} {bmB:List Value} {newId:String} {h:Heap} (X:K.In h) (z:PySem.W.excIn K C bmB newId=true) :
  ∃ bm N nm q bs hdct sn sub ab col dd k0 k1 k2 k3 k5 mN,h.get? C=some (excClassObj nm q C N bs bm hdct sn sub ab col dd k0 k1 k2 k3 k5 newId)/\h.Ns N mN/\mN "__init__" = none/\OwnTail h bmB bm:=by
 unfold PySem.W.excIn at z
 split at z
 ·rename_i d1 c1 sl1 lk
  split at z
  ·rename_i C2 tl y0 y1 y2 y3 y4 y5 m1 m2
   simp only [Bool.and_eq_true,beq_iff_eq,Bool.not_eq_true'] at z
   obtain ⟨⟨⟨⟨⟨za,zb⟩,zc⟩,zd⟩,ze⟩,zf⟩:=z
   subst za
   subst zb
   obtain ⟨a1,a2,a3,a4,a5,a6,a7,a8,a9,a10,a11⟩:=c1
   dsimp only at m1 zc ze zf
   subst m1
   subst zc
   have e1:sl1 = #[y0,y1,y2,y3,some (.builtin y4),y5]:=by
    cases sl1
    exact congrArg Array.mk m2
   subst e1
   exact ⟨tl,a4,a1,a5,a2,a6,a7,a8,a9,a10,d1,y0,y1,y2,y3,y5,_,X _ _ lk,.of_isNs (PySem.W.isNs_of_in X ze),PySem.W.nsMap_none_of_in X ze zf,PySem.W.tail_of_in X zd⟩
  ·cases z
 ·cases z
section
variable {X:Cx} {C:Addr} {x txt:Str} {np cpos pos apos:Pos}
def xRaise:TX:=fun σ H G=>G σ H
theorem rs_raise (c : Xc X.K x C) (hg : Gl X x) (hm : X.mg x = some (.ref C)) (hX : X.ex = [] := by rfl) (hc : X.calm = true := by rfl) (hdb : (x == ("__debug__" : Str)) = false := by decide)
    (he:∀ y,starEach [.Constant (.str txt) y apos] X.env=[(false,eval (.Constant (.str txt) y apos) X.env)]:=by intro _;rfl) {jj}:RS X (.ref C) (.Raise (some (.Call (.Name x np) [.Constant (.str txt) jj apos] [] cpos)) none pos) xRaise:=⟨fun pins s σ H G I h=>by
  obtain ⟨bm,N,nm,q,bs,hdct,sn,sub,ab,col,dd,k0,k1,k2,k3,k5,mN,o1,o2,o3,o4⟩:=exc_obj I.kIn c.ex
  have FB:=PySem.F.excBase_ValueError
  refine wpAny_Raise_call_subT (C:=C) (nm:=nm) (q:=q) (N:=N) (bs:=bs) (bm:=bm) (hdct:=hdct) (sn:=sn) (sub:=sub) (ab:=ab) (col:=col) (dd:=dd) (k0:=k0) (k1:=k1) (k2:=k2) (k3:=k3) (k5:=k5) FB (mN:=mN) (o4.hasType FB.hasBase) (I.ok.hd hc) (by rw [he];rfl) o3 (ld_glob I hg hm ⟨rfl,?_⟩ hdb)
  rw [he]
  refine Calls.evalArgs_plain (Calls.spliced_cons ?_)
  refine @Calls.Constant_str _ _ _ _ _ txt jj apos _ (Calls.spliced_nil ⟨rfl,by show 1<=sizeLine;decide,o1,o2,o4,fun h' e mk=>?_⟩)
  have I':=I.kept (t':=s.toks + 1) mk.keeps
  obtain ⟨t,t1,_,_⟩:=mk.there
  refine ⟨e,none,σ,H,rfl,I',h,⟨_,_,t1,⟨rfl,rfl⟩,rfl,(by show 1 < 6;decide),rfl⟩,fun a ha=>?_⟩
  rcases ha with rfl | ha
  . have hn:s.heap.get? a=none:=mk.new
    refine ⟨?_,?_,fun p hp z=>?_⟩
    . cases q:X.s₀.heap.get? a with
      | none=>rfl
      | some o =>
        obtain ⟨o2,q2⟩:=I.base.there a o q (by rw [hX];simp)
        rw [hn] at q2;cases q2
    . cases q:H a with
      | none=>rfl
      | some u =>
        obtain ⟨o2,q2⟩:=(I.hok a u q).here
        rw [hn] at q2;cases q2
    . have q:=(I.pin p hp).1
      rw [z,hn] at q;cases q
  . cases ha⟩
end
section
variable {P:Program} {w:World} {K:PySem.W.Frag} {mg:Str->Option Value} {base:Heap}
theorem Fun.raises {x qual:Str} {st:Stmt} {f:Addr} {fd:FuncData} {N ps:List Str} {k:Nat} {sp:Sp} {C:Value} (F:Fun K x qual st f fd) (S:FnScope N ps (defScope st)) (len:∀ vs H Q E,sp vs H Q E->vs.length=ps.length)
  (hbody:∀ (cdv:Value) (A:Around) (outer:List Env) (s:Shared) (H:Hp) (vs:List V) (Q:VK) (E:XK),Room k (A.deeper (envOfC qual (defScope st) s.heap.objs.size f cdv))->sp vs H Q E ->
   ∃ t,RSs (cxOf CX0 P w K mg base N qual (defScope st) f cdv A outer s H E).nox C (defBody st) t/\t (start N vs) H fun _ H'=>Same H H'):FnOk P w K mg base (CXx P w C) (k + 1) f fd ps sp:=by
 obtain ⟨oc,od,kV,doc,pm,an,cdv,ct,osl,rfl,lk,hcd⟩:=F.ex
 refine fn_of lk hcd S len fun A outer s H vs Q E hr hsp=>?_
 obtain ⟨t,h,q⟩:=hbody cdv A outer s H vs Q E hr hsp
 refine ⟨fun _ σ H1=>t σ H1 fun _ H'=>Same H H',?_,q⟩
 intro pins s1 σ H1 D I z
 have I0:Inv (cxOf CX0 P w K mg base N qual (defScope st) f cdv A outer s H E).nox pins σ H1 s1:=⟨⟨I.ok.mod,I.ok.kind,I.ok.glob,I.ok.blt,I.ok.above,I.ok.inj,I.ok.has,I.ok.cab,I.ok.hd,I.ok.frames,I.ok.stk,I.ok.exf,I.ok.bs,I.ok.bsz,I.ok.noex,I.ok.exfs,I.ok.funs,I.ok.frf⟩,I.os,I.bare,I.base,I.loc,I.cell,I.free,I.freeC,I.pin,I.hok,I.len⟩
 refine wpAny_mono (h.out pins s1 σ H1 _ I0 z) (fun _ _ z=>z.elim) fun v s2 xp=>?_
 obtain ⟨e,tb,σ',H',rfl,J,sm,fx,fr⟩:=xp
 show wpAny _ _ (leaving _ _) _ _ _
 unfold leaving
 refine wpAny_bind (note_land (base:=base) (outer:=outer) J.ok.frames J.stack rfl fx fun h' T lt fx' kp=>?_)
 have J2:=J.fly (s':={ s2 with heap:=h' }) fx fr kp rfl rfl
 refine ⟨e,T,H',rfl,J2.os,J2.bare,sm,J2.base,J2.hok,fx',fun a ha=>?_⟩
 rcases ha with rfl | ha
 ·exact ⟨(fr a (.inl rfl)).1,(fr a (.inl rfl)).2.1⟩
 ·obtain rfl:a=T:=by injection ha
  refine ⟨?_,J.hok.fresh lt⟩
  cases q:s.heap.get? a with
  | none=>rfl
  | some o=>exact absurd (Nat.lt_of_lt_of_le (Heap.lt_size q) (Nat.le_trans J.sz lt)) (Nat.lt_irrefl _)
end
end L2
end
section
namespace L2
open PySem PySem.Spec PyProof.Rows
abbrev Cx.caught (X:Cx) (e:Addr):Cx:={ X with A:=X.A.mark (some (.ref e)),calm:=false,xe:=fun _ _=>False }
section
variable {X:Cx} {pins:List (Addr × Obj)} {σ:St} {H:Hp} {s:Shared} {e:Addr}
theorem Inv.caught (I:Inv X pins σ H s) (e:Addr):Inv (X.caught e) pins σ H s :=
 ⟨⟨I.ok.mod,I.ok.kind,I.ok.glob,I.ok.blt,I.ok.above,I.ok.inj,I.ok.has,I.ok.cab,fun z=>(nomatch z),I.ok.frames,I.ok.stk,I.ok.exf,I.ok.bs,I.ok.bsz,I.ok.noex,I.ok.exfs,I.ok.funs,I.ok.frf⟩,I.os,I.bare,I.base,I.loc,I.cell,I.free,I.freeC,I.pin,I.hok,I.len⟩
theorem Inv.uncaught (I:Inv (X.caught e) pins σ H s) (hd:X.calm=true->X.A.handled=none):Inv X pins σ H s :=
 ⟨⟨I.ok.mod,I.ok.kind,I.ok.glob,I.ok.blt,I.ok.above,I.ok.inj,I.ok.has,I.ok.cab,hd,I.ok.frames,I.ok.stk,I.ok.exf,I.ok.bs,I.ok.bsz,I.ok.noex,I.ok.exfs,I.ok.funs,I.ok.frf⟩,I.os,I.bare,I.base,I.loc,I.cell,I.free,I.freeC,I.pin,I.hok,I.len⟩
theorem Inv.goes {M:Model} {A:Around} {E:Value->Shared->Prop} {i:Nat} {n:Str} {pos:Pos} {Q:Unit->Shared->Prop} (I:Inv X pins σ H s) (hN:X.N.Nodup) (hi:X.N[i]?=some n) (hl:X.env.scope.names.lookup n=some .local)
  (h:∀ s',Inv X pins (σ.set i none) H s'->Q () s'):wpAny M A (do bindName X.env n .none;unbindBehindTheSuite X.env n pos) Q E s:=by
 obtain ⟨m,ns,lk⟩:=id I.loc
 refine wpAny_nameGoes_keeps hl ns (by rw [I.ok.kind];rfl) fun h' v ns' sb=>h _ ?_
 have k:∀ b o,b ≠ X.env.locals->s.heap.get? b=some o->h'.get? b=some o:=fun b o nb q=>(sb.2 b nb).trans q
 have neL:∀ b o,X.s₀.heap.get? b=some o->b ≠ X.env.locals:=fun b o q z=>absurd (Nat.lt_of_lt_of_le (Heap.lt_size q) I.ok.above) (by rw [z];exact Nat.lt_irrefl _)
 have ce:∀ x c,X.env.cells.lookup x=some c->∀ v,s.heap.IsCell c v->h'.IsCell c v:=fun x c q v ⟨o,q1,q2⟩=>⟨o,k c o (I.cne x c q) q1,q2⟩
 have th:∀ b o,s.heap.get? b=some o->∃ o',h'.get? b=some o':=fun b o q=>by
  by_cases z:b=X.env.locals
  ·obtain ⟨o2,_,_,q2,_⟩:=ns'
   exact ⟨o2,by rw [z];exact q2⟩
  ·exact ⟨o,k b o z q⟩
 constructor
 ·exact I.ok
 ·exact I.os
 ·exact I.bare
 ·constructor
  ·exact fun b o q n f x=>k b o (neL b o q) (I.base.keep b o q n f x)
  ·intro b o q n f x
   obtain ⟨sl,q1⟩:=I.base.slot b o q n f x
   exact ⟨sl,k b _ (neL b o q) q1⟩
  ·exact I.base.free
  ·intro b o q x
   obtain ⟨o2,q1⟩:=I.base.there b o q x
   exact ⟨o2,k b o2 (neL b o q) q1⟩
  ·exact I.base.tups
  ·exact I.base.frzs
  ·exact I.base.tbls
 ·refine ⟨_,ns',fun j x v2 e1 e2 e3=>?_⟩
  by_cases z:i=j
  ·subst z
   by_cases lt:i < σ.length
   ·rw [List.getElem?_set_self lt] at e2;cases e2
   ·rw [List.getElem?_eq_none (by rw [List.length_set];omega)] at e2;cases e2
  ·rw [List.getElem?_set_ne z] at e2
   obtain ⟨u,r,l⟩:=lk j x v2 e1 e2 e3
   have nx:x ≠ n:=fun q=>z (nodup_ix hN hi (by rw [<- q];exact e1))
   refine ⟨u,r,?_⟩
   rcases l with ⟨l1,l2⟩ | ⟨l1,c,l2,l3⟩
   ·exact .inl ⟨l1,(if_neg nx).trans l2⟩
   ·exact .inr ⟨l1,c,l2,ce x c l2 _ l3⟩
 ·intro x c q
  obtain ⟨v,z⟩:=I.cell x c q
  exact ⟨v,ce x c q v z⟩
 ·exact I.free
 ·exact I.freeC
 ·intro p hp
  obtain ⟨q,n,ne,nf,d⟩:=I.pin p hp
  exact ⟨k _ _ ne q,n,ne,nf,d⟩
 ·intro a o z
  have nl:∀ b u,H b=some u->b ≠ X.env.locals:=fun b u q z=>by rw [z,I.free] at q;cases q
  refine (I.hok a o z).stay (fun b u hb q=>?_) (fun _ q=>q) fun _ _ q=>q
  rcases hb with rfl | hb
  ·exact k b u (nl b _ z) q
  ·exact k b u (nl b _ hb) q
 ·rw [List.length_set];exact I.len
end
section
variable {X:Cx} {C:Value} {cT:Addr} {x n:Str} {body suite:List Stmt} {b0:Stmt} {t:TX} {th:TS} {i:Nat} {pos np hp:Pos}
def tTryAs (C:Value) (i:Nat) (t:TX) (th:TS):TS:=fun D σ H=>t σ H fun σ1 H1=>∀ e ob,H1 e=none->th { nx:=fun σ2 H2=>D.nx (σ2.set i none) H2,rt:=fun _ _=>False } (σ1.set i (some (.ref e))) (upd H1 e (.frz ob (.ext (IsX C e))))
theorem ps_tryAs (hN:X.N.Nodup) (hi:X.N[i]?=some n) (hl:X.env.scope.names.lookup n=some .local) (hg:Gl X x) (hm:X.mg x=some (.ref cT)) (hx:PySem.W.exmOne X.K C (.ref cT)=some true) (hb:RSs X C body t) (hs:∀ e,ZSs (X.caught e) (b0 :: suite) th)
    (hst:X.stack=X.env :: X.outer:=by rfl) (hfr:X.env.frame=some X.env.locals:=by rfl) (hd:(x == ("__debug__" : Str))=false:=by decide) :
    PS X (.Try body [.ExceptHandler (some (.Name x np)) (some n) (b0 :: suite) hp] [] [] pos) (tTryAs C i t th):=by
  intro pins s σ H D I h
  refine wpAny_Try_except (wpAny_mono (hb.out pins s σ H _ I h) (fun _ _ z=>z.elim) fun v s1 xp=>?_)
  obtain ⟨e,tb,σ1,H1,rfl,J,g,fx,fr⟩:=xp
  refine note_land (base:=X.base) (outer:=X.outer) (by rw [<- hst];exact J.ok.frames) (by rw [<- hst];exact J.stack) hfr fx fun h' T lt fx' kp=>?_
  rw [<- hst] at kp
  have J2:=J.fly (s':={ s1 with heap:=h' }) fx fr kp rfl rfl
  have fr2:Fresh X pins H1 e (some T):=fun a ha=>by
    rcases ha with rfl | ha
    . exact fr a (.inl rfl)
    . obtain rfl:a=T:=by injection ha
      refine ⟨?_,J.hok.fresh lt,fun p hp z=>?_⟩
      . cases q:X.s₀.heap.get? a with
        | none=>rfl
        | some o=>exact absurd (Nat.lt_of_lt_of_le (Heap.lt_size q) (Nat.le_trans J.sz lt)) (Nat.lt_irrefl _)
      . have q:=Heap.lt_size (J.pin p hp).1
        rw [z] at q;exact absurd (Nat.lt_of_lt_of_le q lt) (Nat.lt_irrefl _)
  have J3:=J2.caught e
  refine wpAny_handleBy_cons (codeAny_handlers_test (ld_glob J3 hg hm ?_ hd)) (by intro q;cases q)
  have ty:PySem.W.Looks (model X.prog X.w) h' (typeOf (.ref e)) C:=by
    obtain ⟨oe,fs,q,⟨rfl,_⟩,_⟩:=fx'
    exact (PySem.W.Looks.ld q).andThen .now
  refine (PySem.W.exm_one (M:=model X.prog X.w) (J2.kIn:X.K.In h') ty hx).here ?_
  show codeAny _ _ _ _ _
  refine codeAny_handlers_suite_as (land_again fx' fun h2 fx2 kp2=>?_)
  have J4:=J2.fly (s':={ s1 with heap:=h2 }) fx' fr2 (fun b o n q=>⟨fun _=>(kp2 b o (fun z=>n (.inr (by rw [z]))) q).1 (by simp),(kp2 b o (fun z=>n (.inr (by rw [z]))) q).2⟩) rfl rfl
  obtain ⟨ob,fs,q,c1,d1,_⟩:=id fx2
  have J5:=J4.rest (φ:=IsX C e) fx2 fr2 q ⟨ob,q,c1.1,c1.2,fs,d1⟩ IsX.st
  refine store_ok J5 hN hi (.inl hl) (v:=.ref e) rfl (fun s4 J6=>?_) (.inr hl)
  refine wpAny_mono ((hs e).out pins s4 _ _ _ (J6.caught e) (g e ob (fr2 e (.inl rfl)).2.1)) (fun f s5 z=>?_) fun _ _ z=>z.elim
  cases f with
  | next =>
    obtain ⟨σ2,H2,J7,q2⟩:=z
    exact (J7.uncaught J.ok.hd).goes hN hi hl fun s6 J8=>⟨_,H2,J8,q2⟩
  | ret v=>obtain ⟨_,_,_,_,_,z⟩:=z;exact z.elim
  | brk=>obtain ⟨_,_,_,z⟩:=z;exact z.elim
  | cont=>obtain ⟨_,_,_,z⟩:=z;exact z.elim
end
section
variable {X:Cx} {body:List Stmt} {hs:List ExceptHandler} {h0:ExceptHandler} {t:TS} {pos:Pos}
theorem ps_tryOk (hb:ZSs X.nox body t):PS X (.Try body (h0 :: hs) [] [] pos) t:=fun pins s σ H D I h =>
 wpAny_Try_except (wpAny_mono (hb.out pins s σ H D (I.wish _) h) (fun f s1 q=>by
  have q':=q.unwish
  cases f with
  | next=>exact wpAny_execs_nil q'
  | ret v=>exact q'
  | brk=>exact q'
  | cont=>exact q') fun _ _ z=>z.elim)
end
end L2
end
section
namespace L2
open PySem PySem.W PySem.Spec PyProof.Rows
section
variable {prog:Program} {w:World} {A:Around} {E:Value->Shared->Prop} {s:Shared} {K:Frag} {x D:Addr} {ox:Obj}
theorem findObj_none {a g:Value} {name:Str} (hc:(clsIn K D).isSome=true) (ha:findIn K (.ref D) name=some (some a)) (hg:specialIn K a "__get__" = some (some g)) (ht:takesIn K a=some true):findObj K D none name=some (.bind g a):=by
 obtain ⟨cd,hc⟩:=Option.isSome_iff_exists.mp hc
 unfold findObj
 rw [hc,Option.bind_some,ha,Option.bind_some]
 simp [hg,ht]
structure XcL (K:Frag) (D:Addr):Prop where
 is:(clsIn K D).isSome=true
 ga:findIn K (.ref D) "__getattribute__" = some (some (.builtin "BaseException.__getattribute__"))
 gt:findIn K (.ref D) "__getattr__" = some none
 cl:findIn K (.ref D) "__class__" = some (some (.builtin "object.__class__"))
 gs:specialIn K (.builtin "object.__class__") "__get__" = some (some (.builtin "getset_descriptor.__get__"))
 tk:takesIn K (.builtin "object.__class__")=some true
 ob:mroIn K D (.type "object")=some true
 be:mroIn K D (.type "BaseException")=some true
theorem exc_class {Q:Option Value->Shared->Prop} (c:XcL K D) (X:K.In s.heap) (I:InstAt s.heap x ox D none) (h:Q (some (.ref D)) { s with toks:=s.toks + 1 }):wpAny (model prog w) A (getAttr? (.ref x) "__class__") Q E s:=by
 obtain ⟨hh,g,d,t,os⟩:=s
 have L0:=I.type (M:=model prog w)
 have L1:=looks_findIn (M:=model prog w) X c.ga
 have L2:=looks_findIn (M:=model prog w) X c.gt
 have L3:=looks_find (M:=model prog w) X I (findObj_none c.is c.cl c.gs c.tk)
 have L4:=looks_mroIn (M:=model prog w) X c.be
 have FB:=PySem.F.attrBase_ValueError
 unfold getAttr? getAttrBy? getAttrBy
 refine wpAny_bind (wpAny_mkText (wpAny_bind (wpAny_attempt (wpAny_holding (wpAny_bind (L0.at (wpAny_bind (L1.at ?_))))))))
 show wpAny _ _ (getAttrByItsOwn _ _ _ _ _ _) _ _ _
 unfold getAttrByItsOwn hookBefore
 rw [if_pos (show onTheHeap (.ref D)=true from rfl)]
 refine wpAny_bind (L2.at (wpAny_bind (wpAny_attempt (wpAny_holding ?_))))
 unfold callGetattribute
 rw [Bool.false_and,if_neg Bool.false_ne_true]
 unfold boundAndCalled
 refine wpAny_bind (wpAny_of_eq (FB.ga.bind (.ref x)) ?_)
 refine wpAny_call (codeAny_call_builtin FB.ga.plain F.entry_bexc_ga ?_)
 have hk:builtinKind "BaseException.__getattribute__" = some .slot:=by decide +kernel
 have hsplit:splitId "BaseException.__getattribute__" = some ("BaseException","__getattribute__"):=by decide +kernel
 have ha:=F.args_bexc_ga (.ref x) (.str "__class__" t)
 simp only [checkBuiltinCall,hk,hsplit]
 refine wpAny_bind ?_
 unfold isInstance
 refine wpAny_bind (L0.at (L4.at ?_))
 simp only [Bool.not_true,Bool.false_eq_true,if_false]
 refine wpAny_mono (Q:=fun _ s'=>s'=⟨hh,g,d,t + 1,os⟩) ?_ ?_ fun _ _ z=>z
 ·(repeat (any_goals (first | assumption | wp_step)))
  rfl
 ·rintro _ _ rfl
  repeat (any_goals (first | assumption | exact L0.at (by assumption) | (with_reducible refine wpAny_bind (L0.at ?_)) | (with_reducible refine wpAny_bind (L3.at ?_)) | wp_step))
  refine class_get (s:=⟨hh,g,d,t + 1,os⟩) (ox:=ox) (od:=none) X I c.ob ?_
  exact wpAny_pure (handed_on rfl (wpAny_pure h))
theorem kitx_exc (c:XcL K D):KitX K (.ref x) (.ref D) (fun h=>∃ ox,InstAt h x ox D none) where
 ty:=fun _ _ _ ⟨_,I⟩=>I.type
 it:=fun _ _ X _=>by
  have z:=c.is
  unfold clsIn at z
  split at z
  ·rename_i lk
   intro A' Q' E' s' k q
   unfold isType loadHead
   exact wpAny_bind (wpAny_loadPart (k _ _ (X _ _ lk)) (wpAny_pure q))
  ·cases z
 ne:=fun h tp dd its n sl X htp=>by
  have z:=c.is
  refine Bool.eq_false_iff.mpr fun q=>?_
  obtain rfl:D=tp:=Value.ref.inj (beq_iff_eq.mp q)
  unfold clsIn at z
  split at z
  ·rename_i lk
   cases (X _ _ lk).symm.trans htp
  ·cases z
 ca:=fun X ⟨_,I⟩ k=>exc_class c X I k
end
section
variable {X:Cx} {pins:List (Addr × Obj)} {σ:St} {H:Hp} {s:Shared}
theorem Inv.xAt (I:Inv X pins σ H s) {a:Addr} {c:Array UInt8} (h:XAt X.K H a c):∃ C,XN X.K c C/\IsX C a s.heap:=by
 obtain ⟨ob,C,q,z⟩:=h
 exact ⟨C,z,(I.hok a _ q).2.1⟩
theorem IsX.inst {D a:Addr} {h:Heap} (x:IsX (.ref D) a h):∃ ox,InstAt h a ox D none:=by
 obtain ⟨o,q,c,d,fs,f⟩:=x
 refine ⟨o,q,c,?_,?_⟩
 ·obtain ⟨c1,d1,dt,sl⟩:=o
  cases (show dt=_ from f)
  rfl
 ·rw [d];trivial
def rIsX (K:Frag):List V->Hp->VK->Prop:=fun xs H Q=>∃ a c D y u b,xs=[.ref a,y]/\XAt K H a c/\XN K c (.ref D)/\XcL K D/\((∃ C,y = .ref C/\u = .ref C)\/∃ T,y = .ty T/\u = .type T)/\kitOne K (.ref D) u=some b/\Q (.bl b) H
theorem XN.one {K:Frag} {c:Array UInt8} {C C':Value} (a:XN K c C) (b:XN K c C'):C=C':=by
 unfold XN at a b
 rw [a] at b
 exact Option.some.inj (Option.some.inj b)
theorem call_isX:CallR X (.builtin "isinstance") (rIsX X.K):=by
  intro pins s σ H xs us Q I r h
  obtain ⟨a,c,D,y,u,b,rfl,x0,x1,x2,ry,e,q⟩:=h
  obtain ⟨C,z,ix⟩:=I.xAt x0
  obtain rfl:=z.one x1
  cases r with
  | cons r1 r2 =>
    cases r2 with
    | cons r3 r4 =>
      cases r4
      cases (show _=Value.ref a from r1)
      have fin:∀ tk,EP X pins σ Q (.bool b) { s with toks:=tk }:=fun tk=>⟨.bl b,H,I.tok tk,rfl,q⟩
      rcases ry with ⟨C,rfl,rfl⟩ | ⟨T,rfl,rfl⟩
      . cases (show _=Value.ref C from r3)
        exact kia_one (kitx_exc x2) I.kIn ix.inst e (fun z=>nomatch z) fin
      . cases (show _=Value.type T from r3)
        exact kia_one (kitx_exc x2) I.kIn ix.inst e (fun z=>nomatch z) fin
end
end L2
end
namespace D
open PySem L2 K0 Num
open PySem.W (Dat)
section
section
variable {p:Option Addr} {K:PySem.W.Frag} {W:Addr->Prop} {L:List Addr} {σ:St} {H:Hp} {τ:List Sl}
theorem Rs.forgetN (r:Rs p W K H L σ τ):∀ i:Nat,∃ L',(∀ a,a ∈ L'->a ∈ L)/\Rs p W K H L' (σ.set i none) (τ.set i .un):=by
  induction r with
  | nil=>intro i;exact ⟨[],fun _ h=>h,.nil⟩
  | un r ih =>
    intro i
    match i with
    | 0=>exact ⟨_,fun _ h=>h,.un r⟩
    | i + 1=>obtain ⟨L',h1,h2⟩:=ih i;exact ⟨L',h1,.un h2⟩
  | dat y r ih =>
    intro i
    match i with
    | 0=>exact ⟨_,fun _ h=>h,.un r⟩
    | i + 1=>obtain ⟨L',h1,h2⟩:=ih i;exact ⟨L',h1,.dat y h2⟩
  | pu y r ih =>
    intro i
    match i with
    | 0=>exact ⟨_,fun _ h=>h,.un r⟩
    | i + 1=>obtain ⟨L',h1,h2⟩:=ih i;exact ⟨L',h1,.pu y h2⟩
  | own h1 h2 h3 h4 h5 r ih =>
    intro i
    match i with
    | 0=>exact ⟨_,fun _ h=>List.mem_cons_of_mem _ h,.un r⟩
    | i + 1 =>
      obtain ⟨L',g1,g2⟩:=ih i
      refine ⟨_ :: L',fun b hb=>?_,.own h1 h2 (fun z=>h3 (g1 _ z)) h4 h5 g2⟩
      rcases List.mem_cons.mp hb with rfl | hb
      . exact List.mem_cons_self
      . exact List.mem_cons_of_mem _ (g1 b hb)
  | dt h1 h2 h3 h4 r ih =>
    intro i
    match i with
    | 0=>exact ⟨_,fun _ h=>List.mem_append_right _ h,.un r⟩
    | i + 1 =>
      obtain ⟨L',g1,g2⟩:=ih i
      exact ⟨_ ++ L',fun b hb=>(List.mem_append.mp hb).elim (List.mem_append_left _) (fun z=>List.mem_append_right _ (g1 b z)),.dt h1 h2 (fun b hb z=>h3 b hb (g1 _ z)) h4 g2⟩
end
theorem Rs.len {p:Option Addr} {K:PySem.W.Frag} {W:Addr->Prop} {L:List Addr} {σ:St} {H:Hp} {τ:List Sl} (r:Rs p W K H L σ τ):σ.length=τ.length:=by
 induction r with
 | nil=>rfl
 | un _ ih=>exact congrArg (· + 1) ih
 | dat _ _ ih=>exact congrArg (· + 1) ih
 | pu _ _ ih=>exact congrArg (· + 1) ih
 | own _ _ _ _ _ _ ih=>exact congrArg (· + 1) ih
 | dt _ _ _ _ _ ih=>exact congrArg (· + 1) ih
section
variable (p:Option Addr) (K:PySem.W.Frag)
def SX (tx:TX) (τ:List Sl) (nx:List Sl->Prop):Prop:=∀ (W:Addr->Prop) (L:List Addr) (σ:St) (H:Hp) (G:St->Hp->Prop),Rs p W K H L σ τ->Ok p W H ->
 (∀ (W':Addr->Prop) (L':List Addr) σ' H' τ',nx τ'->Ev W H H'->Ok p W' H'->(∀ a,W a->∃ ys,H' a=some ys)->(∀ a,W' a->W a\/H a=none)->(∀ a,a ∈ L'->a ∈ L\/H a=none)->Rs p W' K H' L' σ' τ'->G σ' H')->tx σ H G
end
def spB (K:PySem.W.Frag) (B:List Dat->Prop):Sp:=fun vs H _ _=>∃ ds,Dzs (fun _=>True) K H vs ds/\B ds
section
variable {p:Option Addr} {K:PySem.W.Frag} {τ:List Sl} {tc:TT} {t u:TX} {ts:TS} {tas:TA} {nx:List Sl->Prop} {ds:List Dat}
theorem SX.raise:SX p K xRaise τ (fun τ'=>τ'=τ):=fun W L σ H G r o q=>q W L σ H τ rfl Ev.refl o o.al (fun _ h=>.inl h) (fun _ h=>.inl h) r
theorem SX.iff {b:Bool} (h:T1 p K tc τ b) (ht:b=true->SX p K t τ nx) (hf:b=false->SX p K u τ nx):SX p K (xIf tc t u) τ nx:=fun W L σ H G r o q=>h W L σ H _ r o fun b' H1 e ev o1=>by
 subst e
 have e1:Ev W H H1:=ev.ofP o
 have hn:∀ a,H1 a=none->H a=none:=fun a ha=>e1.none o1.al ha
 have fin:∀ {t:TX},SX p K t τ nx->t σ H1 G:=fun hs=>hs W L σ H1 G (r.ev ev o.pw) o1 fun W' L' σ' H' τ' m e2 o2 w2 n2 l2 r2=>q W' L' σ' H' τ' m (e1.trans e2) o2 w2 (fun a ha=>(n2 a ha).imp id (hn a)) (fun a ha=>(l2 a ha).imp id (hn a)) r2
 cases b with
 | true=>rw [if_pos rfl];exact fin (ht rfl)
 | false=>rw [if_neg Bool.false_ne_true];exact fin (hf rfl)
theorem SX.ifT (h:T1 p K tc τ true) (hs:SX p K t τ nx):SX p K (xIf tc t u) τ nx:=SX.iff h (fun _=>hs) (fun z=>by cases z)
theorem SX.thn {M:List Sl->Prop} (h1:S p K ts τ M (fun _=>False)) (h2:∀ τ',M τ'->SX p K u τ' nx):SX p K (xThen ts u) τ nx:=fun W L σ H G r o q =>
 h1 W L σ H _ r o (fun W1 L1 σ1 H1 τ1 m e1 o1 w1 n1 l1 r1=>by
  have hn:∀ a,H1 a=none->H a=none:=fun a ha=>e1.none w1 ha
  exact h2 τ1 m W1 L1 σ1 H1 G r1 o1 fun W2 L2 σ2 H2 τ2 c e2 o2 w2 n2 l2 r2=>q W2 L2 σ2 H2 τ2 c (e1.chain e2 n1) o2 (al_chain w1 w2 e2)
    (fun a ha=>(n2 a ha).elim (n1 a) fun z=>.inr (hn a z)) (fun a ha=>(l2 a ha).elim (l1 a) fun z=>.inr (hn a z)) r2)
  fun W' H' v s c _ _ _ _ _=>c.elim
theorem SX.call {B:List Dat->Prop} {ss:List Sl} (ha:A1 p K tas τ ss) (hr:B ds) (hd:datsOf ss=some ds:=by rfl):SX p K (xCall (spB K B) tas) τ (fun τ'=>τ'=τ):=fun W L σ H G r o q=>ha W L σ H _ r o fun vs H1 ss e e1 o1 rv=>by
 subst e
 refine ⟨⟨ds,rv.dz hd,hr⟩,fun H' sm=>?_⟩
 exact q W L σ H' τ rfl ((e1.ofP o).trans (Ev.of sm)) (o1.same sm) (o1.same sm).al (fun _ h=>.inl h) (fun _ h=>.inl h) ((r.ev e1 o.pw).ev (Ev.of sm) o.pw)
section
variable {P:Program} {w:World} {mg:Str->Option Value} {base:Heap}
theorem okB {x qual:Str} {st:Stmt} {f:Addr} {fd:FuncData} {N ps:List Str} {k:Nat} {B:List Dat->Prop} {C:Value} (F:Fun K x qual st f fd) (S0:FnScope N ps (defScope st)) (len:∀ ds,B ds->ds.length=ps.length)
  (body:∀ (cdv:Value) (A:Around) (outer:List Env) (s:Shared) (H:Hp) (E:XK),Room k (A.deeper (PyProof.Rows.envOfC qual (defScope st) s.heap.objs.size f cdv)) ->
   ∃ t,RSs (cxOf CX0 P w K mg base N qual (defScope st) f cdv A outer s H E).nox C (defBody st) t/\∀ ds,B ds->SX none K t (ds.map .dat ++ List.replicate (N.length - ps.length) .un) (fun _=>True)):FnOk P w K mg base (CXx P w C) (k + 1) f fd ps (spB K B):=by
 refine F.raises S0 (fun vs H Q E h=>?_) (fun cdv A outer s H vs Q E hr h=>?_)
 ·obtain ⟨ds,z,b⟩:=h;rw [z.len];exact len ds b
 ·obtain ⟨ds,z,b⟩:=h
  obtain ⟨t,hz,hs⟩:=body cdv A outer s H E hr
  have l:vs.length=ps.length:=by rw [z.len];exact len ds b
  have r0:Rs none (fun _=>False) K H [] (L2.start N vs) (ds.map .dat ++ List.replicate (N.length - ps.length) .un):=by
   unfold L2.start
   rw [l]
   exact rs_start _ z fun a _ h=>h
  exact ⟨t,hz,hs ds b (fun _=>False) [] _ H _ r0 ⟨fun q h=>(by cases h),fun a h=>False.elim h⟩ fun W' L' σ' H' τ' _ ev _ _ _ _ _=>fun b o h=>ev.keep b o (fun z=>z) h⟩
end
end
end
section
theorem SX.mono {p:Option Addr} {K:PySem.W.Frag} {t:TX} {τ:List Sl} {n1 n2:List Sl->Prop} (h:SX p K t τ n1) (m:∀ τ',n1 τ'->n2 τ'):SX p K t τ n2:=fun W L σ H G r o q=>h W L σ H G r o fun W' L' σ' H' τ' c=>q W' L' σ' H' τ' (m τ' c)
section
variable {p:Option Addr} {K:PySem.W.Frag} {τ:List Sl}
end
end
end D
section
namespace L2
open PySem PySem.Spec PyProof.Rows
section
variable {X:Cx} {C:Value} {cT:Addr} {x n:Str} {body suite:List Stmt} {b0:Stmt} {t:TX} {ts th:TS} {i:Nat} {pos np hp:Pos} {h0:ExceptHandler} {hs:List ExceptHandler}
theorem zs_tryOk (hb:ZSs X.nox body ts):ZS X (.Try body (h0 :: hs) [] [] pos) ts:=⟨ps_tryOk hb⟩
theorem zs_tryAs (hN:X.N.Nodup) (hi:X.N[i]?=some n) (hl:X.env.scope.names.lookup n=some .local) (hg:Gl X x) (hm:X.mg x=some (.ref cT)) (hx:PySem.W.exmOne X.K C (.ref cT)=some true) (hb:RSs X C body t) (hs:∀ e,ZSs (X.caught e) (b0 :: suite) th)
  (hst:X.stack=X.env :: X.outer:=by rfl) (hfr:X.env.frame=some X.env.locals:=by rfl) (hd:(x == ("__debug__" : Str))=false:=by decide) :
  ZS X (.Try body [.ExceptHandler (some (.Name x np)) (some n) (b0 :: suite) hp] [] [] pos) (tTryAs C i t th):=⟨ps_tryAs hN hi hl hg hm hx hb hs hst hfr hd⟩
end
end L2
namespace D
open PySem L2 K0 Num
open PySem.W (Dat)
section
variable {p:Option Addr} {K:PySem.W.Frag} {τ:List Sl} {te:TE} {c:Array UInt8} {D C':Addr} {b:Bool} {T:String}
theorem E1.isX (xn:XN K c (.ref D)) (xl:XcL K D) (hk:PySem.W.kitOne K (.ref D) (.ref C')=some b) (ha:E1 p K te τ (.dat (.bytes c))):E1 p K (tCB (rIsX K) (tCons te (tCons (tC (.ref C')) tNil))) τ (.dat (.bool b)):=fun W L σ H Q rs o q=>ha W L σ H _ rs o fun v H1 s e e1 o1 rv=>by
 subst e
 cases rv with
 | exc n x=>exact ⟨_,c,D,.ref C',.ref C',b,rfl,x,xn,xl,.inl ⟨C',rfl,rfl⟩,hk,q _ H1 _ rfl e1 o1 (.bool b)⟩
theorem E1.isXty (xn:XN K c (.ref D)) (xl:XcL K D) (hk:PySem.W.kitOne K (.ref D) (.type T)=some b) (ha:E1 p K te τ (.dat (.bytes c))):E1 p K (tCB (rIsX K) (tCons te (tCons (tC (.ty T)) tNil))) τ (.dat (.bool b)):=fun W L σ H Q rs o q=>ha W L σ H _ rs o fun v H1 s e e1 o1 rv=>by
 subst e
 cases rv with
 | exc n x=>exact ⟨_,c,D,.ty T,.type T,b,rfl,x,xn,xl,.inr ⟨T,rfl,rfl⟩,hk,q _ H1 _ rfl e1 o1 (.bool b)⟩
end
end D
end
namespace D
open PySem L2 K0 Num
open PySem.W (Dat)
section
theorem R1_lin (a b c d x y z N:Rat):R1 a b c d x y z / N=x * (R1 a b c d 1 0 0 / N) + y * (R1 a b c d 0 1 0 / N) + z * (R1 a b c d 0 0 1 / N):=by
 unfold R1
 rw [Rat.div_def,Rat.div_def,Rat.div_def,Rat.div_def]
 grind
theorem R2_lin (a b c d x y z N:Rat):K0.R2 a b c d x y z / N=x * (K0.R2 a b c d 1 0 0 / N) + y * (K0.R2 a b c d 0 1 0 / N) + z * (K0.R2 a b c d 0 0 1 / N):=by
 unfold K0.R2
 rw [Rat.div_def,Rat.div_def,Rat.div_def,Rat.div_def]
 grind
theorem R3_lin (a b c d x y z N:Rat):R3 a b c d x y z / N=x * (R3 a b c d 1 0 0 / N) + y * (R3 a b c d 0 1 0 / N) + z * (R3 a b c d 0 0 1 / N):=by
 unfold R3
 rw [Rat.div_def,Rat.div_def,Rat.div_def,Rat.div_def]
 grind
theorem tof_pl {a b d:Row3} {w x y z w' x' y' z':Int} (n1:∃ n ∈ [w,x,y,z],n ≠ 0) (n2:∃ n ∈ [w',x',y',z'],n ≠ 0) (h:TOf a b d w x y z) (g:TOf a b d w' x' y' z'):pl [w,x,y,z]=pl [w',x',y',z']:=by
 obtain ⟨h1,h2,h3⟩:=h
 obtain ⟨g1,g2,g3⟩:=g
 have e1:=h1.symm.trans g1
 have e2:=h2.symm.trans g2
 have e3:=h3.symm.trans g3
 unfold tr1 at e1
 unfold tr2 at e2
 unfold tr3 at e3
 injection e1 with e11 e12 e13
 injection e2 with e21 e22 e23
 injection e3 with e31 e32 e33
 have N:=N4_ne rfl n1
 have M:=N4_ne rfl n2
 refine alike_pl n1 n2 ?_ ?_ ?_
 all_goals
  refine ⟨?_,?_,?_⟩
  ·rw [R1_lin,R1_lin (w':Rat)];exact congr (congrArg HAdd.hAdd (congr (congrArg HAdd.hAdd (congrArg _ e11)) (congrArg _ e12))) (congrArg _ e13)
  ·rw [R2_lin,R2_lin (w':Rat)];exact congr (congrArg HAdd.hAdd (congr (congrArg HAdd.hAdd (congrArg _ e21)) (congrArg _ e22))) (congrArg _ e23)
  ·rw [R3_lin,R3_lin (w':Rat)];exact congr (congrArg HAdd.hAdd (congr (congrArg HAdd.hAdd (congrArg _ e31)) (congrArg _ e32))) (congrArg _ e33)
def RFourOf:List Dat->(Dat->Prop)->Prop:=fun ds C=>∃ a b d:Row3,ds=[tbD a b d]/\TB 940 a b d/\SO a b d/\C=fun g=>∃ w x y z:Int,(∃ n ∈ [w,x,y,z],n ≠ 0)/\Bd (2 ^ 950) [w,x,y,z]/\TOf a b d w x y z/\g=tI (pl [w,x,y,z])
def BTurn:List Dat->Prop:=fun ds=>∃ a b d:Row3,ds=[tbD a b d]/\TB 940 a b d/\¬ SO a b d
def cNT:Array UInt8 := #[78,111,84,117,114,110]
theorem xn_NT {K:PySem.W.Frag} {C:Addr} (h:Xc K "NoTurn" C):XN K cNT (.ref C):=by
 have e:(⟨cNT.map (·.toNat)⟩:Str) = "NoTurn" := by decide +kernel
 unfold XN
 rw [e]
 exact h.nm
section
variable {p:Option Addr} {K:PySem.W.Frag} {τ:List Sl} {t:TX} {nx:List Sl->Prop} {rt:Sl->Prop}
theorem S.tryAsD {C:Value} {c:Array UInt8} {i j:Nat} {n1:List Sl->Prop} (hx:SX p K t τ n1) (xn:XN K c C) (ij:i ≠ j) (li:∀ τ',n1 τ'->i < τ'.length) (m:∀ τ',n1 τ'->nx ((τ'.set i .un).set j (.dat (.bytes c)))):S p K (tTryAs C i t (tAsg (tVar i) (gName j))) τ nx rt:=fun W L σ H D r o q1 q2 =>
 hx W L σ H _ r o fun W1 L1 σ1 H1 τ1 c1 e1 o1 w1 n1 l1 r1=>fun e ob he=>by
  have sm:Same H1 (upd H1 e (.frz ob (.ext (IsX C e)))):=Same.new he _
  have r3:=r1.ev (Ev.of sm) o1.pw
  obtain ⟨L3,l3,r4⟩:=r3.forgetN i
  have nw:¬ W1 e:=fun z=>by
   obtain ⟨y,q⟩:=o1.al e z
   rw [he] at q;cases q
  obtain ⟨L5,l5,r5⟩:=r4.set (v:=.ref e) (s:=.dat (.bytes c)) (.inr (.inl ⟨_,rfl,.exc nw ⟨ob,C,upd_same,xn⟩⟩)) j
  have lt:i < σ1.length:=by rw [r1.len];exact li τ1 c1
  refine ⟨.ref e,by rw [List.getElem?_set_self lt],?_⟩
  show D.nx ((((σ1.set i (some (.ref e))).set j (some (.ref e)))).set i none) _
  rw [List.set_comm _ _ (Ne.symm ij),List.set_set]
  exact q1 W1 L5 _ _ _ (m τ1 c1) (e1.trans (Ev.of sm)) (o1.same sm) (fun a ha=>let ⟨y,q⟩:=w1 a ha;⟨y,sm _ _ q⟩) n1 (fun a ha=>l1 a (l3 a (l5 a ha))) r5
end
def RTold14:List Dat->(Dat->Prop)->Prop:=fun ds C=>∃ a b d:Row3,ds=[tbD a b d]/\TB 940 a b d/\C=fun g=>(SO a b d/\∃ w x y z:Int,(∃ n ∈ [w,x,y,z],n ≠ 0)/\Bd (2 ^ 950) [w,x,y,z]/\TOf a b d w x y z/\g = .list [tI (pl [w,x,y,z]),.none])\/(¬ SO a b d/\g = .list [.none,.bytes cNT])
def RWhich:List Dat->Dat->Prop:=fun ds g=>ds=[.bytes cNT]/\g = .list [.int 0]
section
variable {K:PySem.W.Frag} {P:Program} {w:World} {mg:Str->Option Value} {base:Heap}
theorem okXd {x qual:Str} {st:Stmt} {f:Addr} {fd:FuncData} {N ps:List Str} {k:Nat} {R:List Dat->(Dat->Prop)->Prop} (F:Fun K x qual st f fd) (S0:FnScope N ps (defScope st)) (len:∀ ds C,R ds C->ds.length=ps.length)
  (body:∀ ds C,R ds C->∀ (cdv:Value) (A:Around) (outer:List Env) (s:Shared) (H:Hp) (E:XK),Room k (A.deeper (PyProof.Rows.envOfC qual (defScope st) s.heap.objs.size f cdv)) ->
   ∃ t,ZSs (cxOf CX0 P w K mg base N qual (defScope st) f cdv A outer s H E).nox (defBody st) t/\S none K t (ds.map .dat ++ List.replicate (N.length - ps.length) .un) (fun _=>False) (fun s=>∃ d,C d/\GivesX d s)):FnOk P w K mg base CX0 (k + 1) f fd ps (spX K R) where
 len:=fun vs H Q E h=>by
  obtain ⟨ds,C,z,r,_⟩:=h
  rw [z.len];exact len ds C r
 run:=fun A outer s H args us vs Q E hr he hb hv hs=>by
  obtain ⟨ds,C,z,r,q⟩:=hs
  refine (okX (R:=fun ds' C'=>ds'=ds/\C'=C) F S0 (fun ds' C' h=>by rw [h.1];exact len ds C r) (fun cdv A outer s H E hr=>?_)).run A outer s H args us vs Q E hr he hb hv ⟨ds,C,z,⟨rfl,rfl⟩,q⟩
  obtain ⟨t,h1,h2⟩:=body ds C r cdv A outer s H E hr
  exact ⟨t,h1,fun ds' C' h=>by obtain ⟨rfl,rfl⟩:=h;exact h2⟩
end
end
section
theorem gcdN_two14 (m n:Int):gcdN [m,n]=Nat.gcd m.natAbs n.natAbs:=by
 unfold gcdN
 simp
def l3 (x y z:Int):Dat:=.list [.int x,.int y,.int z]
def whD (B:Int) (a b d:Row3):Dat:=.list [l3 (topL B a.x) (topL B a.y) (topL B a.z),l3 (topL B b.x) (topL B b.y) (topL B b.z),l3 (topL B d.x) (topL B d.y) (topL B d.z)]
def RWhR:List Dat->(Dat->Prop)->Prop:=fun ds C=>∃ a b d:Row3,ds=[tbD a b d]/\TB 940 a b d/\C=fun g=>∃ B:Int,0 < B/\Bt B 940/\(∀ q ∈ [a.x,a.y,a.z,b.x,b.y,b.z,d.x,d.y,d.z],(q.den:Int) ∣ B/\Bt (topL B q) 940)/\g = .list [.int B,whD B a b d]
theorem lcm_step {m n C:Int} (hm:0 < m) (hn:0 < n) (hC:0 < C) (dm:m ∣ C) (dn:n ∣ C) (bC:Bt C 940) :
  CDivB m ((Nat.gcd m.natAbs n.natAbs:Nat):Int)/\IntMulOk (m.fdiv (Nat.gcd m.natAbs n.natAbs:Nat)) n/\0 < m.fdiv (Nat.gcd m.natAbs n.natAbs:Nat) * n/\m ∣ m.fdiv (Nat.gcd m.natAbs n.natAbs:Nat) * n/\n ∣ m.fdiv (Nat.gcd m.natAbs n.natAbs:Nat) * n/\m.fdiv (Nat.gcd m.natAbs n.natAbs:Nat) * n ∣ C:=by
 have h:=cm_step hm hn hC dm dn (bC.up (by decide))
 rw [gcdN_two14] at h
 obtain ⟨g0,gl,gb,p0,pm,pn,pC⟩:=h
 exact ⟨⟨g0,gl⟩,gb.mulOk (bt_dvd dn hC bC),p0,pm,pn,pC⟩
theorem topL_f {B:Int} {q:Rat}:q.num * B.fdiv (q.den:Int)=topL B q:=by
 unfold topL
 rw [Int.fdiv_eq_ediv_of_nonneg _ (Int.natCast_nonneg _)]
theorem mem_tk {α:Type} {pre l:List α} {j:Nat} {q:α} (h:q ∈ pre ++ l.take (j + 1)):q ∈ pre ++ l.take j\/l[j]?=some q:=by
  rw [List.take_add_one, <- List.append_assoc] at h
  rcases List.mem_append.mp h with h | h
  . exact .inl h
  . cases e:l[j]? with
    | none=>rw [e] at h;simp at h
    | some x => rw [e] at h; right; have : q = x := by simpa using h
                rw [this]
theorem _root_.Int.fdiv_dvd_of_dvd' {B m:Int} (h:m ∣ B):B.fdiv m ∣ B:=by
 obtain ⟨k,rfl⟩:=h
 by_cases z:m=0
 ·subst z;simp
 ·rw [Int.mul_fdiv_cancel_left _ z];exact Int.dvd_mul_left _ _
section
variable {K:PySem.W.Frag} {τ:List Sl} {tas:TA} {nx:List Sl->Prop} {rt:Sl->Prop} {u:TS} {ds:List Dat} {E':XK}
theorem S.letGX {R:List Dat->(Dat->Prop)->Prop} {C:Dat->Prop} {ss:List Sl} {g:TG} (hf:flatDs τ=true) (ha:A1 none K tas τ ss) (hr:R ds C) (m:∀ d,C d->∃ τ',Gd none K g d τ τ'/\S none K u τ' nx rt) (hd:datsOf ss=some ds:=by rfl):S none K (tSeq (tAsg (tCall (spX K R) [] E' tas) g) u) τ nx rt:=fun W L σ H D r o q1 q2=>by
 have r':Rs none (fun _=>False) K H [] σ τ:=r.reset (fun a z=>z.elim) hf
 have o':Ok none (fun _=>False) H:=⟨fun a ha=>(by cases ha),fun a ha=>ha.elim⟩
 refine ha _ [] σ H _ r' o' fun vs H1 ss' es e1 o1 rv=>?_
 subst es
 show spX K R (vs ++ []) H1 _ E'
 rw [List.append_nil]
 refine ⟨ds,C,rv.dz hd,hr,fun v H' d c sm z=>?_⟩
 have e2:Ev (Pp none) H H':=e1.trans (Ev.of sm)
 have same:∀ b o,H b=some o->H' b=some o:=fun b o h=>e2.keep b o (fun z=>by cases z) h
 have r2:Rs none (fun _=>False) K H' [] σ τ:=r'.ev e2 fun q hq=>by cases hq
 obtain ⟨τ',hg,ms⟩:=m d c
 refine hg (fun _=>False) [] σ H' v _ r2 (z.mono fun _ _ h=>h) fun L' σ' l r3=>?_
 have al:∀ a,W a->∃ ys,H' a=some ys:=fun a ha=>by obtain ⟨ys,h⟩:=o.al a ha;exact ⟨ys,same _ _ h⟩
 have hn:∀ a,H' a=none->H a=none:=fun a ha=>by
  cases h:H a with
  | none=>rfl
  | some x=>rw [same _ _ h] at ha;cases ha
 refine ms (fun _=>False) L' _ H' D r3 ⟨fun a ha=>(by cases ha),fun a ha=>ha.elim⟩ (fun W2 L2 σ2 H2 τ2 c2 ev o2 al2 n2 l2 rs2=>?_) (fun W2 H2 v2 s2 c2 ev o2 al2 n2 rv2=>?_)
 ·exact q1 W2 L2 σ2 H2 τ2 c2 ((Ev.mono e2 fun a z=>by cases z).trans (ev.mono fun a z=>z.elim)) o2 (fun a ha=>by obtain ⟨ys,h⟩:=al a ha;exact ⟨ys,ev.keep _ _ (fun z=>z) h⟩) (fun a ha=>(n2 a ha).elim (fun z=>z.elim) fun z=>.inr (hn a z)) (fun a ha=>(l2 a ha).elim (fun z=>by have:=l a z;cases this) fun z=>.inr (hn a z)) rs2
 ·exact q2 W2 H2 v2 s2 c2 ((Ev.mono e2 fun a z=>by cases z).trans (ev.mono fun a z=>z.elim)) o2 (fun a ha=>by obtain ⟨ys,h⟩:=al a ha;exact ⟨ys,ev.keep _ _ (fun z=>z) h⟩) (fun a ha=>(n2 a ha).elim (fun z=>z.elim) fun z=>.inr (hn a z)) (rv2.base hn fun a ha=>by have:=l a ha;cases this)
end
def rows14 (B t0 t1 t2 t3 t4 t5 t6 t7 t8:Int):List (List Int):=[[B + t0 + t4 + t8,t7 - t5,t2 - t6,t3 - t1],[t7 - t5,B + t0 - t4 - t8,t1 + t3,t2 + t6],[t2 - t6,t1 + t3,B - t0 + t4 - t8,t5 + t7],[t3 - t1,t2 + t6,t5 + t7,B - t0 - t4 + t8]]
def RDue14:List Dat->(Dat->Prop)->Prop:=fun ds C=>∃ a b d:Row3,ds=[tbD a b d]/\TB 940 a b d/\SO a b d/\C=fun g=>∃ w x y z:Int,(∃ n ∈ [w,x,y,z],n ≠ 0)/\TOf a b d w x y z/\g=tI (pl [w,x,y,z])
def kp14 (B t0 t1 t2 t3 t4 t5 t6 t7 t8:Int):Dat->Bool
 | .int 0 => !decide (B + t0 + t4 + t8=0)
 | .int 1 => !decide (B + t0 - t4 - t8=0)
 | .int 2 => !decide (B - t0 + t4 - t8=0)
 | .int 3 => !decide (B - t0 - t4 + t8=0)
 | _=>false
def rw14 (B t0 t1 t2 t3 t4 t5 t6 t7 t8:Int):Dat->Dat
 | .int 0=>tI [B + t0 + t4 + t8,t7 - t5,t2 - t6,t3 - t1]
 | .int 1=>tI [t7 - t5,B + t0 - t4 - t8,t1 + t3,t2 + t6]
 | .int 2=>tI [t2 - t6,t1 + t3,B - t0 + t4 - t8,t5 + t7]
 | _=>tI [t3 - t1,t2 + t6,t5 + t7,B - t0 - t4 + t8]
theorem diag14 {B t0 t1 t2 t3 t4 t5 t6 t7 t8:Int} (B0:0 < B):∃ (i:Nat) (r:List Int),i < 4/\(rows14 B t0 t1 t2 t3 t4 t5 t6 t7 t8)[i]?=some r/\atI (((([0,1,2,3]:List Int).map Dat.int).filter (kp14 B t0 t1 t2 t3 t4 t5 t6 t7 t8)).map (rw14 B t0 t1 t2 t3 t4 t5 t6 t7 t8)) 0=some (tI r)/\r ≠ [0,0,0,0]:=by
 have go:∀ ds:List Dat,(∃ e l,ds.filter (kp14 B t0 t1 t2 t3 t4 t5 t6 t7 t8)=e :: l)->∃ e,(ds.filter (kp14 B t0 t1 t2 t3 t4 t5 t6 t7 t8)).head?=some e:=fun ds ⟨e,l,h⟩=>⟨e,by rw [h];rfl⟩
 by_cases h0:B + t0 + t4 + t8=0
 ·by_cases h1:B + t0 - t4 - t8=0
  ·by_cases h2:B - t0 + t4 - t8=0
   ·have h3:B - t0 - t4 + t8 ≠ 0:=by omega
    refine ⟨3,_,by decide,rfl,?_,fun h=>h3 (by injection h with _ h;injection h with _ h;injection h with _ h;injection h)⟩
    simp [List.filter,kp14,h0,h1,h2,h3,rw14]
    exact atI_head
   ·refine ⟨2,_,by decide,rfl,?_,fun h=>h2 (by injection h with _ h;injection h with _ h;injection h)⟩
    simp [List.filter,kp14,h0,h1,h2,rw14]
    exact atI_head
  ·refine ⟨1,_,by decide,rfl,?_,fun h=>h1 (by injection h with _ h;injection h)⟩
   simp [List.filter,kp14,h0,h1,rw14]
   exact atI_head
 ·refine ⟨0,_,by decide,rfl,?_,fun h=>h0 (by injection h)⟩
  simp [List.filter,kp14,h0,rw14]
  exact atI_head
end
theorem tof_p {a b d:Row3} {w x y z p q r s:Int} (nz:∃ n ∈ [w,x,y,z],n ≠ 0) (hp:pl [w,x,y,z]=[p,q,r,s]) (h:TOf a b d w x y z):TOf a b d p q r s:=by
 obtain ⟨h1,h2,h3⟩:=h
 refine ⟨h1.trans ?_,h2.trans ?_,h3.trans ?_⟩
 ·show Row3.mk _ _ _=Row3.mk _ _ _
  exact congr (congr (congrArg Row3.mk (R1_pl hp nz)) (R1_pl hp nz)) (R1_pl hp nz)
 ·show Row3.mk _ _ _=Row3.mk _ _ _
  exact congr (congr (congrArg Row3.mk (R2_pl hp nz)) (R2_pl hp nz)) (R2_pl hp nz)
 ·show Row3.mk _ _ _=Row3.mk _ _ _
  exact congr (congr (congrArg Row3.mk (R3_pl hp nz)) (R3_pl hp nz)) (R3_pl hp nz)
theorem tof_tb {a b d:Row3} {p q r s:Int} (h:TOf a b d p q r s):tbQ p q r s=tbD a b d:=by
 obtain ⟨rfl,rfl,rfl⟩:=h
 rfl
theorem kqd_tbD (a b d:Row3):PySem.W.kqdOk 9 (tbD a b d)=true:=rfl
theorem flat14 {x y z u v w:Sl} (h3:flatD u=true) (h4:flatD v=true) (h5:flatD w=true) (h0:flatD x=true) (h1:flatD y=true) (h2:flatD z=true):flatDs [x,y,z,u,v,w]=true:=by
 simp only [flatDs,h0,h1,h2,h3,h4,h5,Bool.and_true]
end D
section
namespace K14
open PySem L2 Num K0 D
open PySem.W (Dat)
def top (i:Nat):Stmt:=PySem.Challenge.pw_hangrings_k14_whole_fours_of_tables.main.body.getD i (.Pass ⟨0,0,0,0⟩)
abbrev sCD:Stmt:=top 14
abbrev sRed:Stmt:=top 15
abbrev sNeg:Stmt:=top 16
abbrev sCM:Stmt:=top 18
abbrev sLevN:Stmt:=top 19
abbrev sPlain:Stmt:=top 22
abbrev sSize:Stmt:=top 23
abbrev sWT:Stmt:=top 24
abbrev sTableOf:Stmt:=top 26
abbrev sOnlyV:Stmt:=top 27
abbrev sIsTabV:Stmt:=top 28
abbrev sIsTurnV:Stmt:=top 29
abbrev sFourOfB:Stmt:=top 30
abbrev sPurse2:Stmt:=top 32
abbrev sTake:Stmt:=top 33
abbrev sNumber2:Stmt:=top 34
abbrev sNamed:Stmt:=top 35
abbrev sFour2:Stmt:=top 36
abbrev sDiv2:Stmt:=top 37
abbrev sLowest:Stmt:=top 38
abbrev sLPlain2:Stmt:=top 39
abbrev sWhole:Stmt:=top 40
abbrev sDSame2:Stmt:=top 41
abbrev sLTable:Stmt:=top 42
abbrev sDotv:Stmt:=top 43
abbrev sCrossv:Stmt:=top 44
abbrev sIsOfV:Stmt:=top 45
abbrev sSumsV:Stmt:=top 46
abbrev sWithV:Stmt:=top 47
abbrev sAnyV:Stmt:=top 48
abbrev sSignsV:Stmt:=top 49
abbrev sOtherV:Stmt:=top 50
abbrev sBentV:Stmt:=top 51
abbrev sLWhich14:Stmt:=top 52
abbrev sAskedV:Stmt:=top 53
abbrev sLWhR:Stmt:=top 54
abbrev sLDue14:Stmt:=top 55
abbrev sLTold14:Stmt:=top 56
abbrev sLaw:Stmt:=top 57
abbrev sSop:Stmt:=top 17
abbrev sLow:Stmt:=top 20
abbrev sFourOf:Stmt:=top 30
local macro_rules | `(tactic| walk_at "bt") => `(tactic| (repeat' (first | assumption | exact bt2 | apply Bt.mul | apply Bt.add' | apply Bt.sub' | apply Bt.neg' | exact bd_lit (k := 64) (by decide))))
local macro_rules | `(tactic| walk_at "au3") => `(tactic| (repeat' (first | exact E1.var rfl | exact E1.varP rfl | exact E1.int | exact E1.bl | exact E1.non | exact E1.str | exact A1.nil | exact O1.none | exact E1.ty | exact T1.all | exact E1.varO rfl | exact E1.varL rfl | apply A1.cons | apply E1.add | apply E1.sub | apply E1.mul | apply E1.neg | apply E1.pow | apply E1.ixT | apply E1.tu | apply E1.li | apply E1.sl1 | apply O1.some | apply T1.test | apply T1.val | apply T1.not | apply T1.and1 | apply T1.or1 | apply E1.eq | apply E1.ne | apply E1.lt | apply E1.le | apply E1.gt | apply E1.ge | apply E1.cSop | apply E1.tupleL | apply E1.su | apply E1.vwo | apply E1.comp3 | apply Wk.r3 | apply Wk.tup | rfl | exact lsz (n := 2) rfl z2 | exact lsz (n := 3) rfl z3 | exact lsz (n := 4) rfl z4 | exact lsz (n := 1) rfl z1 | exact lsz (n := 0) rfl z0 | exact cpow10 (by decide) (by decide) | exact Bt.mulOk (x := _) (y := _) (by walk_at "bt") (by walk_at "bt") (by decide) (by decide))))
section
variable {P:Program} {w:World} {K:PySem.W.Frag} {mg:Str->Option Value} {base:Heap} {C cTurnError cNoTurn cNoHanger cTooMany cNoJoint cNoReach cNoDeed cNoName cNoMark cNoText cNoLine cNoKept j1 j2:Addr} {f g g2 g3 g4 g5 g6 g7 g8 g9 g10 g11 g12 g13 g14:Addr} {fd gd gd2 gd3 gd4 gd5 gd6 gd7 gd8 gd9 gd10 gd11 gd12:FuncData}
theorem scCD:FnScope ["numbers","divisor","number","other","left"] ["numbers"] (defScope sCD):=⟨rfl,rfl,rfl,by decide +kernel,rfl,by decide +kernel,by decide +kernel⟩
theorem ok_cd (F:Fun K "common_divisor" "common_divisor" sCD f fd) (ma:mg "abs" = none):FnOk P w K mg base CX0 1 f fd ["numbers"] (spCD K):=by
  refine F.okZ scCD (fun vs H Q E h=>?_) (fun cdv A outer s H vs Q E hr h=>?_)
  . obtain ⟨a,ns,rfl,_⟩:=h;rfl
  obtain ⟨a,ns,rfl,hS,q⟩:=h
  refine ⟨_,zss_cons (zs_set (i:=1) scCD.nd rfl (Or.inl rfl) ze_int) (zss_cons (zs_for PassesOwn.never rfl (zi_tup (zv 0)) (zg_name (i:=2) scCD.nd rfl (Or.inl rfl))
      (zss_cons (zs_set (i:=3) scCD.nd rfl (Or.inl rfl) (ze_callB call_abs rfl ma (by rfl) (za_cons (zv 2) za_nil)))
        (zss_one (zs_while PassesOwn.never (zt_cmpR op_ne (zv 3) ze_int (nomark _)) (zss_cons (zs_set (i:=4) scCD.nd rfl (Or.inl rfl) (ze_op op_mod (zv 1) (zv 3)))
          (zss_cons (zs_set (i:=1) scCD.nd rfl (Or.inl rfl) (zv 3)) (zss_one (zs_set (i:=3) scCD.nd rfl (Or.inl rfl) (zv 4)))))))))
      (zss_one (zs_ret (zv 1)))),?_⟩
  refine ⟨_,rfl,a,rfl,⟨_,hS⟩,for_tup (xs:=ns.map V.int) (fun i σ H'=>H=H'/\∃ nn o l,σ=[some (.ref a),some (.int (gcdN (ns.take i))),nn,o,l])
    ⟨rfl,_,_,_,rfl⟩ (fun i σ H' _ h=>h.1 ▸ hS) (fun i x σ H' hx h=>?_) (fun σ H' h=>?_)⟩
  . obtain ⟨rfl,nn,o,l,rfl⟩:=h
    rw [List.getElem?_map] at hx
    cases hn:ns[i]? with
    | none=>rw [hn] at hx;cases hx
    | some n =>
      rw [hn] at hx
      cases hx
      refine ⟨_,rfl,n,rfl,?_⟩
      have tk:ns.take (i + 1)=ns.take i ++ [n]:=by rw [List.take_add_one,hn];rfl
      refine while_by (fun σ H'=>H=H'/\∃ (d o:Int) (l:Option V),0<=d/\0<=o/\Nat.gcd d.toNat o.toNat=gcdN (ns.take (i + 1))/\σ=[some (.ref a),some (.int d),some (.int n),some (.int o),l])
        (fun σ _=>match σ with | [_,_,_,some (.int o),_]=>o.toNat | _=>0) ⟨rfl,_,_,_,by omega,by split <;> omega,?_,rfl⟩ (fun σ H' h=>?_) (fun σ H Q Q' hq h=>?_)
      . rw [tk,gcdN_snoc]
        congr 1
        split <;> omega
      . obtain ⟨rfl,d,o,l,hd,ho,hg,rfl⟩:=h
        refine ⟨_,rfl,rfl,_,rfl,?_⟩
        refine ite2 (fun c=>?_) (fun c=>?_)
        . have hne:o ≠ 0:=by
            intro z;subst z;exact absurd c (by decide)
          refine ⟨_,rfl,_,rfl,_,_,rfl,rfl,by omega,_,rfl,_,rfl,⟨rfl,_,_,_,ho,Int.emod_nonneg _ hne,?_,rfl⟩,?_⟩
          . rw [<- hg];exact gcd_step hd (by omega)
          . show (d % o).toNat < o.toNat
            have:=Int.emod_lt_of_pos d (show 0 < o by omega)
            have:=Int.emod_nonneg d hne
            omega
        . have h0:o=0:=by
            by_cases z:o=0
            . exact z
            . exact absurd (by show (!decide (V.int o=V.int 0))=true;rw [decide_eq_false (fun e=>z (by injection e))];rfl) c
          subst h0
          refine ⟨rfl,some (.int n),some (.int 0),l,?_⟩
          have e:(d.toNat:Int)=d:=by omega
          rw [<- hg]
          simp only [Int.toNat_zero,Nat.gcd_zero_right,e]
      . obtain ⟨v,e1,e2,b,e3,q⟩:=h
        exact ⟨v,e1,e2,b,e3,hq _ _ q⟩
  . obtain ⟨rfl,nn,o,l,rfl⟩:=h
    rw [List.length_map,List.take_length]
    exact ⟨_,rfl,q⟩
theorem scRed:FnScope ["numbers","divisor"] ["numbers"] (defScope sRed):=⟨rfl,rfl,rfl,by decide +kernel,rfl,by decide +kernel,by decide +kernel⟩
theorem ok_red (F:Fun K "reduced" "reduced" sRed f fd) (G:FnOk P w K mg base CX0 1 g gd ["numbers"] (spCD K)) (bG:Binds K gd ["numbers"] []) (kG:PySem.W.keepIn K (.ref g)=true) (mG:mg "common_divisor" = some (.ref g)) (mt:mg "tuple" = none) :
    FnOk P w K mg base CX0 2 f fd ["numbers"] (spT K (fun ns=>(∃ n ∈ ns,n ≠ 0)/\Sm ns) red):=by
  refine F.okZ scRed (fun vs H Q E h=>?_) (fun cdv A outer s H vs Q E hr h=>?_)
  . obtain ⟨a,ns,rfl,_⟩:=h;rfl
  obtain ⟨a,ns,rfl,hS,hl,⟨hnz,hsm⟩,q⟩:=h
  refine ⟨_,zss_cons (zs_set (i:=1) scRed.nd rfl (Or.inr rfl) (ze_call G hr rfl mG kG bG .nil pass0 (za_cons (zv 0) za_nil)))
    (zss_one (zs_ret (ze_callTy call_tuple_of rfl mt (by rfl) (za_cons (ze_comp (own:=["number"]) scRed rfl ⟨by decide +kernel,rfl,by decide +kernel,by decide +kernel,by decide +kernel,by decide +kernel,by decide +kernel,by decide +kernel,by decide +kernel⟩ (zi_tup (zv 0))
      (fun C fp s H nd=>zg_name (i:=0) nd rfl (Or.inl rfl)) (fun C fp s H=>zts_nil) (fun C fp s H=>ze_op op_fdivB (zv 0) (zv 2))) za_nil)))),?_⟩
  refine ⟨_,rfl,a,ns,rfl,hS,?_⟩
  refine ⟨_,rfl,a,rfl,⟨_,hS⟩,?_⟩
  have gp:=gcdN_pos hnz
  refine comp_tup (K:=K) (((red ns).map PySem.W.Dat.int)) hS (by simp [red]) (by rw [List.length_map];exact Nat.le_of_lt (small1000 hl)) (fun i x H' d hx hd hs=>?_) (fun σ' H2 Q1 Q2 hq h=>?_) (fun D H' ys hs hy hD hf=>?_)
  . rw [List.getElem?_map] at hx hd
    unfold red at hd
    rw [List.getElem?_map] at hd
    cases e:ns[i]? with
    | none=>rw [e] at hx;cases hx
    | some n =>
      rw [e] at hx hd
      cases hx;cases hd
      refine ⟨_,rfl,_,rfl,n,_,rfl,rfl,⟨by omega,gcd_small hnz hsm⟩,Same.refl _,?_⟩
      dsimp only
      rw [Int.fdiv_eq_ediv_of_nonneg _ (by omega)]
      exact .int _
  . obtain ⟨v1,e1,v2,e2,i,j,e3,e4,e5,q⟩:=h
    exact ⟨v1,e1,v2,e2,i,j,e3,e4,e5,hq _ _ q⟩
  . refine ⟨D,ys,rfl,.inl ⟨SqL.of hy,fun l hl'=>?_⟩⟩
    refine q l _ (hs.trans (Same.new hl' _)) ?_
    rw [Fzs.ints_inv hf]
    exact upd_same
theorem scNeg:FnScope ["numbers"] ["numbers"] (defScope sNeg):=⟨rfl,rfl,rfl,by decide +kernel,rfl,by decide +kernel,by decide +kernel⟩
theorem ok_neg (F:Fun K "negated" "negated" sNeg f fd) (mt:mg "tuple" = none):FnOk P w K mg base CX0 1 f fd ["numbers"] (spT K (fun _=>True) (fun ns=>ns.map fun n => -n)):=by
  refine F.okZ scNeg (fun vs H Q E h=>?_) (fun cdv A outer s H vs Q E hr h=>?_)
  . obtain ⟨a,ns,rfl,_⟩:=h;rfl
  obtain ⟨a,ns,rfl,hS,hl,_,q⟩:=h
  refine ⟨_,zss_one (zs_ret (ze_callTy call_tuple_of rfl mt (by rfl) (za_cons (ze_comp (own:=["number"]) scNeg rfl ⟨by decide +kernel,rfl,by decide +kernel,by decide +kernel,by decide +kernel,by decide +kernel,by decide +kernel,by decide +kernel,by decide +kernel⟩ (zi_tup (zv 0))
      (fun C fp s H nd=>zg_name (i:=0) nd rfl (Or.inl rfl)) (fun C fp s H=>zts_nil) (fun C fp s H=>ze_un un_neg (zv 0))) za_nil))),?_⟩
  refine ⟨_,rfl,a,rfl,⟨_,hS⟩,?_⟩
  refine comp_tup (K:=K) ((ns.map fun n => -n).map PySem.W.Dat.int) hS (by simp) (by rw [List.length_map];exact Nat.le_of_lt (small1000 hl)) (fun i x H' d hx hd hs=>?_) (fun σ' H2 Q1 Q2 hq h=>?_) (fun D H' ys hs hy hD hf=>?_)
  . rw [List.getElem?_map] at hx hd
    rw [List.getElem?_map] at hd
    cases e:ns[i]? with
    | none=>rw [e] at hx;cases hx
    | some n =>
      rw [e] at hx hd
      cases hx;cases hd
      exact ⟨_,rfl,n,rfl,Same.refl _,.int _⟩
  . obtain ⟨v1,e1,i,e3,q⟩:=h
    exact ⟨v1,e1,i,e3,hq _ _ q⟩
  . refine ⟨D,ys,rfl,.inl ⟨SqL.of hy,fun l hl'=>?_⟩⟩
    refine q l _ (hs.trans (Same.new hl' _)) ?_
    rw [Fzs.ints_inv hf]
    exact upd_same
theorem scCM:FnScope ["numbers","multiple","number"] ["numbers"] (defScope sCM):=⟨rfl,rfl,rfl,by decide +kernel,rfl,by decide +kernel,by decide +kernel⟩
theorem ok_cm (F:Fun K "common_multiple" "common_multiple" sCM f fd)
    (G:FnOk P w K mg base CX0 1 g gd ["numbers"] (spCD K)) (bG:Binds K gd ["numbers"] []) (kG:PySem.W.keepIn K (.ref g)=true) (mG:mg "common_divisor" = some (.ref g)) :
    FnOk P w K mg base CX0 2 f fd ["numbers"] (spCM K):=by
  refine F.okZ scCM (fun vs H Q E h=>?_) (fun cdv A outer s H vs Q E hr h=>?_)
  . obtain ⟨a,bs,C,rfl,_⟩:=h;rfl
  obtain ⟨a,bs,C,rfl,hS,hb,C0,bC,q⟩:=h
  have r:=hr.mono (show 1<=1 by decide)
  refine ⟨_,(zss_cons (zs_set (i:=1) scCM.nd rfl (Or.inl rfl) ze_int)
    (zss_cons (zs_for PassesOwn.never rfl (zi_list (zv 0)) (zg_name (i:=2) scCM.nd rfl (Or.inl rfl)) (zss_one (zs_set (i:=1) scCM.nd rfl (Or.inl rfl) (ze_op op_mulB (ze_op op_fdivB (zv 1) (ze_call G r rfl mG kG bG .nil pass0 (za_t (ze_tup (za_n (zv 1) (za_n (zv 2) za_nil))) za_nil))) (zv 2)))))
    (zss_one (zs_ret (zv 1))))),?_⟩
  refine ⟨_,rfl,a,rfl,⟨_,hS⟩,for_list (xs:=bs.map V.int) (fun i σ H'=>Same H H'/\∃ (m:Int) (nn:Option V),σ=[some (.ref a),some (.int m),nn]/\0 < m/\(∀ b ∈ bs.take i,b ∣ m)/\m ∣ C)
    ⟨Same.refl _,1,_,rfl,by decide,by simp,Int.one_dvd _⟩ (fun i σ H' _ h=>h.1.seq hS) (fun i x σ H' hx h=>?_) (fun σ H' h=>?_)⟩
  . obtain ⟨s1,m,nn,rfl,m0,md,mC⟩:=h
    rw [List.getElem?_map] at hx
    cases hn:bs[i]? with
    | none=>rw [hn] at hx;cases hx
    | some n =>
      rw [hn] at hx
      cases hx
      obtain ⟨n0,nC⟩:=hb n (List.mem_of_getElem? hn)
      obtain ⟨g0,gl,gb,p0,pm,pn,pC⟩:=cm_step m0 n0 C0 mC nC bC
      refine ⟨_,rfl,_,rfl,_,rfl,(by show 2<=sizeLine;decide),fun t ht=>?_⟩
      have s2:=Same.new ht (.tup ([m,n].map V.int))
      refine ⟨t,[m,n],rfl,SqT.of upd_same,_,_,rfl,rfl,⟨g0,gl⟩,?_⟩
      refine ⟨_,rfl,_,_,rfl,rfl,gb.mulOk (bt_dvd nC C0 bC),s1.trans s2,_,_,rfl,p0,fun b hb'=>?_,pC⟩
      have tk:bs.take (i + 1)=bs.take i ++ [n]:=by rw [List.take_add_one,hn];rfl
      rw [tk] at hb'
      rcases List.mem_append.mp hb' with z | z
      . exact Int.dvd_trans (md b z) pm
      . have:b=n:=by simpa using z
        rw [this];exact pn
  . obtain ⟨s1,m,nn,rfl,m0,md,mC⟩:=h
    rw [List.length_map,List.take_length] at md
    exact ⟨_,rfl,q m _ s1 m0 md mC⟩
theorem scLevN:FnScope ["fractions","bottom"] ["fractions"] (defScope sLevN):=⟨rfl,rfl,rfl,by decide +kernel,rfl,by decide +kernel,by decide +kernel⟩
theorem ok_levn (F:Fun K "levelled" "levelled" sLevN f fd)
  (G:FnOk P w K mg base CX0 2 g gd ["numbers"] (spCM K)) (bG:Binds K gd ["numbers"] []) (kG:PySem.W.keepIn K (.ref g)=true) (mG:mg "common_multiple" = some (.ref g)) (m_tuple:mg "tuple" = none) :
  FnOk P w K mg base CX0 3 f fd ["fractions"] (spQ K RLevN):=by
 refine okQ F scLevN (fun ds d h=>?_) (fun cdv A0 outer s0 H0 E0 hr=>?_)
 ·obtain ⟨qs,B,c,rfl,_⟩:=h;rfl
 have r:=hr.mono (show 2<=2 by decide)
 refine ⟨_,(zss_cons (zs_set (i:=1) scLevN.nd rfl (Or.inr rfl) (ze_call G r rfl mG kG bG .nil pass0 (za_cons (ze_comp (own:=["fraction"]) scLevN rfl ⟨by decide +kernel,rfl,by decide +kernel,by decide +kernel,by decide +kernel,by decide +kernel,by decide +kernel,by decide +kernel,by decide +kernel⟩ (zi_tup (zv 0)) (fun C fp s H nd=>zg_name (i:=0) nd rfl (Or.inl rfl)) (fun C fp s H=>zts_nil) (fun C fp s H=>(ze_ix ix_tupC (zv 0) ze_int (fun _ _=>rfl)))) za_nil)))
  (zss_one (zs_ret (ze_tup (za_c (ze_callTy call_tuple_of rfl m_tuple (by rfl) (za_cons (ze_comp (own:=["fraction"]) scLevN rfl ⟨by decide +kernel,rfl,by decide +kernel,by decide +kernel,by decide +kernel,by decide +kernel,by decide +kernel,by decide +kernel,by decide +kernel⟩ (zi_tup (zv 0)) (fun C fp s H nd=>zg_name (i:=0) nd rfl (Or.inl rfl)) (fun C fp s H=>zts_nil) (fun C fp s H=>(ze_op op_mulB (ze_ix ix_tupC (zv 0) ze_int (fun _ _=>rfl)) (ze_op op_fdivB (zv 2) (ze_ix ix_tupC (zv 0) ze_int (fun _ _=>rfl)))))) za_nil)) (za_n (zv 1) za_nil)))))),fun ds C h=>?_⟩
 obtain ⟨qs,B,c,rfl,hl,B0,bB,hc,hq,rfl⟩:=h
 have hz:(qs.map fun q=>tI (qf q)).length<=sizeLine:=by rw [List.length_map];exact Nat.le_trans hl (by decide)
 refine S.letC (EI.cCM (bs:=qs.map fun q=>(q.den:Int)) (C:=B) (A1.cons (E1.vwo (E1.to (s':=.own ((qs.map fun q=>(q.den:Int)).map .int)) (E1.compM (f:=sndD) (Wk.tup (E1.var rfl)) (fun dd hd=>?_) hz) (by rw [List.map_map,List.map_map];rfl))) A1.nil) ?_ B0 (bB.up (by omega))) (fun s ⟨_,e,_⟩=>by rw [e];rfl) fun s ⟨L,e,L0,Ld,LC⟩=>?_
 ·obtain ⟨q,hm,rfl⟩:=List.mem_map.mp hd
  rw [snd_qf]
  exact (E1.ixT (E1.var rfl) E1.int rfl)
 ·intro b hb
  obtain ⟨q,hm,rfl⟩:=List.mem_map.mp hb
  exact ⟨by have:=q.den_pos;omega,(hq q hm).den B0⟩
 subst e
 have bL:Bt L 2900:=(bt_dvd LC B0 bB).up hc
 refine S.ret1 (s:=.dat (.tuple [tI (qs.map (topL L)),.int L])) (E1.tu (A1.cons (E1.tupleL (A1.cons (E1.vwo (E1.to (s':=.own ((qs.map (topL L)).map .int)) (E1.compM (f:=topD L) (Wk.tup (E1.var rfl)) (fun dd hd=>?_) hz) (by rw [List.map_map,List.map_map];rfl))) A1.nil)) (A1.cons (E1.var rfl) A1.nil)) rfl (lsz (n:=2) rfl z2)) ⟨_,⟨L,rfl,L0,LC,fun q hm=>Ld _ (List.mem_map.mpr ⟨q,hm,rfl⟩)⟩,rfl,levn_nl⟩
 obtain ⟨q,hm,rfl⟩:=List.mem_map.mp hd
 rw [top_qf]
 have dq:(q.den:Int) ∣ L:=Ld _ (List.mem_map.mpr ⟨q,hm,rfl⟩)
 have q0:0 < (q.den:Int):=by have:=q.den_pos;omega
 have lp:=lev_part q0 L0 dq (bL.up (by decide))
 rw [Int.fdiv_eq_ediv_of_dvd dq] at lp
 have lq:=(hq q hm)
 have nq:Bt q.num 2900:=((lo_over B0 (bB.up hc) (lq.choose_spec.1.up hc) lq.choose_spec.2)).bt
 exact E1.mul (E1.ixT (E1.var rfl) E1.int rfl) (E1.to (E1.fdiv (i:=L) (j:=(q.den:Int)) (E1.var rfl) (E1.ixT (E1.var rfl) E1.int rfl) ⟨by omega,(bt_dvd dq L0 bL).log (by omega)⟩) (by rw [Int.fdiv_eq_ediv_of_dvd dq])) (nq.mulOk lp.2)
theorem scPlain:FnScope ["four","lowest"] ["four"] (defScope sPlain):=⟨rfl,rfl,rfl,by decide +kernel,rfl,by decide +kernel,by decide +kernel⟩
theorem ok_plain (F:Fun K "plain" "plain" sPlain f fd) (G:FnOk P w K mg base CX0 2 g gd ["numbers"] (spT K (fun ns=>(∃ n ∈ ns,n ≠ 0)/\Sm ns) red)) (bG:Binds K gd ["numbers"] []) (kG:PySem.W.keepIn K (.ref g)=true) (mG:mg "reduced" = some (.ref g))
  (G2:FnOk P w K mg base CX0 1 g2 gd2 ["numbers"] (spT K (fun _=>True) (fun ns=>ns.map fun n => -n))) (bG2:Binds K gd2 ["numbers"] []) (kG2:PySem.W.keepIn K (.ref g2)=true) (mG2:mg "negated" = some (.ref g2)) :
  FnOk P w K mg base CX0 3 f fd ["four"] (spT K PlainPre pl):=by
 refine F.okZ scPlain (fun vs H Q E h=>?_) (fun cdv A outer s H vs Q E hr h=>?_)
 ·obtain ⟨a,ns,rfl,_⟩:=h;rfl
 obtain ⟨a,ns,rfl,hS,hl,⟨h4,hnz,hsm⟩,q⟩:=h
 refine ⟨_,zss_cons (zs_set (i:=1) scPlain.nd rfl (Or.inl rfl) (ze_call G hr rfl mG kG bG .nil pass0 (za_cons (zv 0) za_nil)))
  (zss_cons (zs_if (zt_cmpR (op_ltT hr.units0) (zv 1) (ze_tup (za_cons ze_int (za_cons ze_int (za_cons ze_int (za_cons ze_int za_nil))))) (nomark _)) (zss_one (zs_ret (ze_call G2 (hr.mono (by decide)) rfl mG2 kG2 bG2 .nil pass0 (za_cons (zv 1) za_nil)))) zss_nil)
  (zss_one (zs_ret (zv 1)))),?_⟩
 refine ⟨_,rfl,a,ns,rfl,hS,hl,⟨hnz,hsm⟩,fun r H1 s1 h1=>?_⟩
 refine ⟨_,rfl,(by show 4<=sizeLine;decide),fun p hp=>?_⟩
 have s2:Same H1 (upd H1 p (.tup [.int 0,.int 0,.int 0,.int 0])):=Same.new hp _
 refine ⟨r,p,red ns,[0,0,0,0],rfl,rfl,SqT.of (s2 _ _ h1),SqT.of upd_same,_,rfl,?_⟩
 have hl4:(red ns).length=4:=by unfold red;rw [List.length_map];exact h4
 have lx:HT.lexLt (red ns) [0,0,0,0]=decide (fst0 (red ns) < 0):=lex_fst0 (n:=4) hl4
 rw [lx]
 have pe:=plain_eq hnz
 refine ite2 (fun c=>?_) (fun c=>?_)
 ·rw [if_pos (of_decide_eq_true c)] at pe
  refine ⟨_,rfl,r,red ns,rfl,SqT.of (s2 _ _ h1),by omega,trivial,fun r2 H2 s3 h2=>?_⟩
  exact q r2 H2 (s1.trans (s2.trans s3)) (by rw [<- pe];exact h2)
 ·rw [if_neg (fun z=>c (decide_eq_true z))] at pe
  exact ⟨_,rfl,q r _ (s1.trans s2) (by rw [<- pe];exact s2 _ _ h1)⟩
theorem scSize:FnScope ["four"] ["four"] (defScope sSize):=⟨rfl,rfl,rfl,by decide +kernel,rfl,by decide +kernel,by decide +kernel⟩
theorem ok_size (F:Fun K "size" "size" sSize f fd) (G:FnOk P w K mg base CX0 1 g gd ["one","other"] (spSop K)) (bG:Binds K gd ["one","other"] []) (kG:PySem.W.keepIn K (.ref g)=true) (mG:mg "sum_of_products" = some (.ref g)):FnOk P w K mg base CX0 2 f fd ["four"] (spSize K):=by
 refine F.okZ scSize (fun vs H Q E h=>?_) (fun cdv A outer s H vs Q E hr h=>?_)
 ·obtain ⟨a,ns,rfl,_⟩:=h;rfl
 obtain ⟨a,ns,rfl,hS,hl,sm,q⟩:=h
 refine ⟨_,zss_one (zs_ret (ze_call G hr rfl mG kG bG .nil pass0 (za_cons (zv 0) (za_cons (zv 0) za_nil)))),?_⟩
 exact ⟨_,rfl,_,rfl,a,a,ns,ns,rfl,hS,hS,hl,rfl,sm,sm,q⟩
theorem scWT:FnScope ["four","w","x","y","z"] ["four"] (defScope sWT):=⟨rfl,rfl,rfl,by decide +kernel,rfl,by decide +kernel,by decide +kernel⟩
theorem ok_wt (F:Fun K "whole_table" "whole_table" sWT f fd) :
  FnOk P w K mg base CX0 1 f fd ["four"] (spWT K):=by
 refine F.okZ scWT (fun vs H Q E h=>?_) (fun cdv A outer s H vs Q E hr h=>?_)
 ·obtain ⟨x,a,b,c,d,rfl,_⟩:=h;rfl
 obtain ⟨x,a,b,c,d,rfl,hS,hB,q⟩:=h
 refine ⟨_,(zss_cons (zs_set (i:=1) scWT.nd rfl (Or.inl rfl) (ze_ix ix_tup (zv 0) ze_int (fun _ _=>rfl)) sw_sub)
  (zss_cons (zs_set (i:=2) scWT.nd rfl (Or.inl rfl) (ze_ix ix_tup (zv 0) ze_int (fun _ _=>rfl)) sw_sub)
  (zss_cons (zs_set (i:=3) scWT.nd rfl (Or.inl rfl) (ze_ix ix_tup (zv 0) ze_int (fun _ _=>rfl)) sw_sub)
  (zss_cons (zs_set (i:=4) scWT.nd rfl (Or.inl rfl) (ze_ix ix_tup (zv 0) ze_int (fun _ _=>rfl)) sw_sub)
  (zss_one (zs_ret (ze_tup (za_t (ze_tup (za_b (ze_op op_sub (ze_op op_sub (ze_op op_add (ze_op op_mulB (zv 1) (zv 1)) (ze_op op_mulB (zv 2) (zv 2))) (ze_op op_mulB (zv 3) (zv 3))) (ze_op op_mulB (zv 4) (zv 4))) (za_b (ze_op op_mulB ze_int (ze_op op_sub (ze_op op_mulB (zv 2) (zv 3)) (ze_op op_mulB (zv 1) (zv 4)))) (za_b (ze_op op_mulB ze_int (ze_op op_add (ze_op op_mulB (zv 2) (zv 4)) (ze_op op_mulB (zv 1) (zv 3)))) za_nil)))) (za_t (ze_tup (za_b (ze_op op_mulB ze_int (ze_op op_add (ze_op op_mulB (zv 2) (zv 3)) (ze_op op_mulB (zv 1) (zv 4)))) (za_b (ze_op op_sub (ze_op op_add (ze_op op_sub (ze_op op_mulB (zv 1) (zv 1)) (ze_op op_mulB (zv 2) (zv 2))) (ze_op op_mulB (zv 3) (zv 3))) (ze_op op_mulB (zv 4) (zv 4))) (za_b (ze_op op_mulB ze_int (ze_op op_sub (ze_op op_mulB (zv 3) (zv 4)) (ze_op op_mulB (zv 1) (zv 2)))) za_nil)))) (za_t (ze_tup (za_b (ze_op op_mulB ze_int (ze_op op_sub (ze_op op_mulB (zv 2) (zv 4)) (ze_op op_mulB (zv 1) (zv 3)))) (za_b (ze_op op_mulB ze_int (ze_op op_add (ze_op op_mulB (zv 3) (zv 4)) (ze_op op_mulB (zv 1) (zv 2)))) (za_b (ze_op op_add (ze_op op_sub (ze_op op_sub (ze_op op_mulB (zv 1) (zv 1)) (ze_op op_mulB (zv 2) (zv 2))) (ze_op op_mulB (zv 3) (zv 3))) (ze_op op_mulB (zv 4) (zv 4))) za_nil)))) za_nil)))))))))),?_⟩
 have ha:Bt a 1000:=hB a (by simp)
 have hb:Bt b 1000:=hB b (by simp)
 have hc:Bt c 1000:=hB c (by simp)
 have hd:Bt d 1000:=hB d (by simp)
 refine ⟨_,rfl,x,_,_,_,rfl,rfl,hS,at40,?_⟩
 refine ⟨_,rfl,x,_,_,_,rfl,rfl,hS,at41,?_⟩
 refine ⟨_,rfl,x,_,_,_,rfl,rfl,hS,at42,?_⟩
 refine ⟨_,rfl,x,_,_,_,rfl,rfl,hS,at43,?_⟩
 dsimp only [gName]
 show tRet _ _ [some (.ref x),some (.int a),some (.int b),some (.int c),some (.int d)] _
 refine ⟨_,rfl,_,rfl,_,_,rfl,rfl,ha.mulOk ha,_,rfl,_,rfl,_,_,rfl,rfl,hb.mulOk hb,_,_,rfl,rfl,_,rfl,_,rfl,_,_,rfl,rfl,hc.mulOk hc,_,_,rfl,rfl,_,rfl,_,rfl,_,_,rfl,rfl,hd.mulOk hd,_,_,rfl,rfl,_,rfl,_,rfl,_,_,rfl,rfl,hb.mulOk hc,_,rfl,_,rfl,_,_,rfl,rfl,ha.mulOk hd,_,_,rfl,rfl,_,_,rfl,rfl,two1.mulOk ((hb.mul hc).sub (ha.mul hd)),_,rfl,_,rfl,_,_,rfl,rfl,hb.mulOk hd,_,rfl,_,rfl,_,_,rfl,rfl,ha.mulOk hc,_,_,rfl,rfl,_,_,rfl,rfl,two1.mulOk ((hb.mul hd).add (ha.mul hc)),(by show 3<=sizeLine;decide),fun p1 e1=>?_⟩
 refine ⟨_,rfl,_,rfl,_,_,rfl,rfl,hb.mulOk hc,_,rfl,_,rfl,_,_,rfl,rfl,ha.mulOk hd,_,_,rfl,rfl,_,_,rfl,rfl,two1.mulOk ((hb.mul hc).add (ha.mul hd)),_,rfl,_,rfl,_,_,rfl,rfl,ha.mulOk ha,_,rfl,_,rfl,_,_,rfl,rfl,hb.mulOk hb,_,_,rfl,rfl,_,rfl,_,rfl,_,_,rfl,rfl,hc.mulOk hc,_,_,rfl,rfl,_,rfl,_,rfl,_,_,rfl,rfl,hd.mulOk hd,_,_,rfl,rfl,_,rfl,_,rfl,_,_,rfl,rfl,hc.mulOk hd,_,rfl,_,rfl,_,_,rfl,rfl,ha.mulOk hb,_,_,rfl,rfl,_,_,rfl,rfl,two1.mulOk ((hc.mul hd).sub (ha.mul hb)),(by show 3<=sizeLine;decide),fun p2 e2=>?_⟩
 refine ⟨_,rfl,_,rfl,_,_,rfl,rfl,hb.mulOk hd,_,rfl,_,rfl,_,_,rfl,rfl,ha.mulOk hc,_,_,rfl,rfl,_,_,rfl,rfl,two1.mulOk ((hb.mul hd).sub (ha.mul hc)),_,rfl,_,rfl,_,_,rfl,rfl,hc.mulOk hd,_,rfl,_,rfl,_,_,rfl,rfl,ha.mulOk hb,_,_,rfl,rfl,_,_,rfl,rfl,two1.mulOk ((hc.mul hd).add (ha.mul hb)),_,rfl,_,rfl,_,_,rfl,rfl,ha.mulOk ha,_,rfl,_,rfl,_,_,rfl,rfl,hb.mulOk hb,_,_,rfl,rfl,_,rfl,_,rfl,_,_,rfl,rfl,hc.mulOk hc,_,_,rfl,rfl,_,rfl,_,rfl,_,_,rfl,rfl,hd.mulOk hd,_,_,rfl,rfl,(by show 3<=sizeLine;decide),fun p3 e3=>?_⟩
 refine ⟨(by show 3<=sizeLine;decide),fun r e4=>?_⟩
 have s1:=Same.new e1 (.tup ((rw1 a b c d).map V.int))
 have s2:=Same.new e2 (.tup ((rw2 a b c d).map V.int))
 have s3:=Same.new e3 (.tup ((rw3 a b c d).map V.int))
 have s4:=Same.new e4 (.tup [.ref p1,.ref p2,.ref p3])
 exact q r _ (s1.trans (s2.trans (s3.trans s4))) ⟨p1,p2,p3,upd_same,s4 _ _ (s3 _ _ (s2 _ _ upd_same)),s4 _ _ (s3 _ _ upd_same),s4 _ _ upd_same⟩
theorem scTableOf:FnScope ["four","bottom"] ["four"] (defScope sTableOf):=⟨rfl,rfl,rfl,by decide +kernel,rfl,by decide +kernel,by decide +kernel⟩
theorem ok_tableof (F:Fun K "table_of" "table_of" sTableOf f fd)
  (G:FnOk P w K mg base CX0 2 g gd ["four"] (spSize K)) (bG:Binds K gd ["four"] []) (kG:PySem.W.keepIn K (.ref g)=true) (mG:mg "size" = some (.ref g))
  (G2:FnOk P w K mg base CX0 1 g2 gd2 ["four"] (spWT K)) (bG2:Binds K gd2 ["four"] []) (kG2:PySem.W.keepIn K (.ref g2)=true) (mG2:mg "whole_table" = some (.ref g2))
  (G3:FnOk P w K mg base CX0 3 g3 gd3 ["level"] (spLow K)) (bG3:Binds K gd3 ["level"] []) (kG3:PySem.W.keepIn K (.ref g3)=true) (mG3:mg "lowered" = some (.ref g3)) (m_tuple:mg "tuple" = none) :
  FnOk P w K mg base CX0 4 f fd ["four"] (spTable K):=by
 refine F.okZ scTableOf (fun vs H Q E h=>?_) (fun cdv A outer s H vs Q E hr h=>?_)
 ·obtain ⟨x,a,b,c,d,rfl,_⟩:=h;rfl
 obtain ⟨x,a,b,c,d,rfl,hS,hz,hB,q⟩:=h
 have r:=hr.mono (show 2<=3 by decide)
 have r2:=hr.mono (show 1<=3 by decide)
 have r3:=hr.mono (show 3<=3 by decide)
 refine ⟨_,(zss_cons (zs_set (i:=1) scTableOf.nd rfl (Or.inr rfl) (ze_call G r rfl mG kG bG .nil pass0 (za_n (zv 0) za_nil)))
  (zss_one (zs_ret (ze_callTy call_tuple_of rfl m_tuple (by rfl) (za_cons (ze_comp (own:=["row"]) scTableOf rfl ⟨by decide +kernel,rfl,by decide +kernel,by decide +kernel,by decide +kernel,by decide +kernel,by decide +kernel,by decide +kernel,by decide +kernel⟩ (zi_tup (ze_call G2 r2 rfl mG2 kG2 bG2 .nil pass0 (za_n (zv 0) za_nil))) (fun C fp s H nd=>zg_name (i:=0) nd rfl (Or.inl rfl)) (fun C fp s H=>zts_nil) (fun C fp s H=>(ze_call G3 r3 rfl mG3 kG3 bG3 .nil pass0 (za_t (ze_tup (za_n (zv 0) (za_n (zv 2) za_nil))) za_nil)))) za_nil))))),?_⟩
 obtain ⟨R1,R2,R3⟩:=rows_bt hB
 have np:=nrm_pos (ns:=[a,b,c,d]) rfl hz
 refine ⟨_,rfl,x,[a,b,c,d],rfl,hS,(by show 4<=1000;decide),bts (k:=1000) (fun n hn=>hB n hn),fun H1 s1=>?_⟩
 refine ⟨_,rfl,x,a,b,c,d,rfl,s1.tup hS,hB,fun w H2 s2 hw=>?_⟩
 obtain ⟨w1,w2,w3,hw0,hw1,hw2,hw3⟩:=hw.ex
 refine ⟨w,rfl,⟨_,SqT.of hw0⟩,?_⟩
 refine comp_pos (src_tup (SqT.of (K:=K) hw0)) (show 3<=sizeLine by decide) (fun i v H'=>∃ p,v = .ref p/\match i with | 0=>Pt H' p (fr (a * a + b * b - c * c - d * d) (nrm [a,b,c,d])) (fr (2 * (b * c - a * d)) (nrm [a,b,c,d])) (fr (2 * (b * d + a * c)) (nrm [a,b,c,d])) | 1=>Pt H' p (fr (2 * (b * c + a * d)) (nrm [a,b,c,d])) (fr (a * a - b * b + c * c - d * d) (nrm [a,b,c,d])) (fr (2 * (c * d - a * b)) (nrm [a,b,c,d])) | _=>Pt H' p (fr (2 * (b * d - a * c)) (nrm [a,b,c,d])) (fr (2 * (c * d + a * b)) (nrm [a,b,c,d])) (fr (a * a - b * b - c * c + d * d) (nrm [a,b,c,d]))) (fun i v H H' nl h=>?_) (fun i x hx H' s R k=>?_) fun D H3 ys s3 hD _ hl hp=>?_
 ·obtain ⟨p,e,h⟩:=h
  refine ⟨p,e,?_⟩
  match i,h with
  | 0,h=>exact h.nl nl
  | 1,h=>exact h.nl nl
  | _ + 2,h=>exact h.nl nl
 ·rcases get3 hx with ⟨rfl,rfl⟩ | ⟨rfl,rfl⟩ | ⟨rfl,rfl⟩
  ·refine ⟨_,rfl,_,rfl,(by show 2<=sizeLine;decide),fun t ht=>?_⟩
   have s5:=Same.new ht (.tup [.ref w1,.int (sop [a,b,c,d] [a,b,c,d])])
   refine ⟨t,w1,a * a + b * b - c * c - d * d,2 * (b * c - a * d),2 * (b * d + a * c),sop [a,b,c,d] [a,b,c,d],rfl,upd_same,s5 _ _ (s _ _ hw1),by rw [sop4];exact np,(R1 _ (by simp [rw1])).up (by decide),(R1 _ (by simp [rw1])).up (by decide),(R1 _ (by simp [rw1])).up (by decide),by rw [sop4];exact (nrm_bt hB).up (by decide),fun u H6 s6 h6=>?_⟩
   rw [sop4] at h6
   exact k _ _ (s5.trans s6) ⟨u,rfl,h6⟩
  ·refine ⟨_,rfl,_,rfl,(by show 2<=sizeLine;decide),fun t ht=>?_⟩
   have s5:=Same.new ht (.tup [.ref w2,.int (sop [a,b,c,d] [a,b,c,d])])
   refine ⟨t,w2,2 * (b * c + a * d),a * a - b * b + c * c - d * d,2 * (c * d - a * b),sop [a,b,c,d] [a,b,c,d],rfl,upd_same,s5 _ _ (s _ _ hw2),by rw [sop4];exact np,(R2 _ (by simp [rw2])).up (by decide),(R2 _ (by simp [rw2])).up (by decide),(R2 _ (by simp [rw2])).up (by decide),by rw [sop4];exact (nrm_bt hB).up (by decide),fun u H6 s6 h6=>?_⟩
   rw [sop4] at h6
   exact k _ _ (s5.trans s6) ⟨u,rfl,h6⟩
  ·refine ⟨_,rfl,_,rfl,(by show 2<=sizeLine;decide),fun t ht=>?_⟩
   have s5:=Same.new ht (.tup [.ref w3,.int (sop [a,b,c,d] [a,b,c,d])])
   refine ⟨t,w3,2 * (b * d - a * c),2 * (c * d + a * b),a * a - b * b - c * c + d * d,sop [a,b,c,d] [a,b,c,d],rfl,upd_same,s5 _ _ (s _ _ hw3),by rw [sop4];exact np,(R3 _ (by simp [rw3])).up (by decide),(R3 _ (by simp [rw3])).up (by decide),(R3 _ (by simp [rw3])).up (by decide),by rw [sop4];exact (nrm_bt hB).up (by decide),fun u H6 s6 h6=>?_⟩
   rw [sop4] at h6
   exact k _ _ (s5.trans s6) ⟨u,rfl,h6⟩
 ·obtain ⟨y1,y2,y3,rfl⟩:=three_of hl
  obtain ⟨p1,rfl,h1⟩:=hp 0 y1 rfl
  obtain ⟨p2,rfl,h2⟩:=hp 1 y2 rfl
  obtain ⟨p3,rfl,h3⟩:=hp 2 y3 rfl
  refine ⟨D,_,rfl,.inl ⟨SqL.of hD,fun u hu=>?_⟩⟩
  have s4:=Same.new hu (.tup [.ref p1,.ref p2,.ref p3])
  exact q u _ (s1.trans (s2.trans (s3.trans s4))) ⟨p1,p2,p3,upd_same,Pt.same h1 s4,Pt.same h2 s4,Pt.same h3 s4⟩
theorem scOnlyV:FnScope ["table","level","tops","bottom","wx","wy","wz","xy","xz","yz","rows"] ["table"] (defScope sOnlyV):=⟨rfl,rfl,rfl,by decide +kernel,rfl,by decide +kernel,by decide +kernel⟩
theorem ok_onlyv (F:Fun K "only_four" "only_four" sOnlyV f fd)
  (G:FnOk P w K mg base CX0 3 g gd ["fractions"] (spQ K RLevN)) (bG:Binds K gd ["fractions"] []) (kG:PySem.W.keepIn K (.ref g)=true) (mG:mg "levelled" = some (.ref g)) :
  FnOk P w K mg base CX0 4 f fd ["table"] (spQ K ROnlyV):=by
 refine okQ F scOnlyV (fun ds d h=>?_) (fun cdv A0 outer s0 H0 E0 hr=>?_)
 ·obtain ⟨a,b,d,rfl,_⟩:=h;rfl
 have r:=hr.mono (show 3<=3 by decide)
 refine ⟨_,(zss_cons (zs_set (i:=1) scOnlyV.nd rfl (Or.inl rfl) (ze_call G r rfl mG kG bG .nil pass0 (za_b (ze_op op_catW (ze_op op_catW (ze_ix ix_tup (zv 0) ze_int (fun _ _=>rfl)) (ze_ix ix_tup (zv 0) ze_int (fun _ _=>rfl))) (ze_ix ix_tup (zv 0) ze_int (fun _ _=>rfl))) za_nil)))
  (zss_cons (zs_set (i:=2) scOnlyV.nd rfl (Or.inl rfl) (ze_ix ix_tup (zv 1) ze_int (fun _ _=>rfl)) sw_sub)
  (zss_cons (zs_set (i:=3) scOnlyV.nd rfl (Or.inl rfl) (ze_ix ix_tup (zv 1) ze_int (fun _ _=>rfl)) sw_sub)
  (zss_cons (zs_set (i:=4) scOnlyV.nd rfl (Or.inl rfl) (ze_op op_sub (ze_ix ix_tup (zv 2) ze_int (fun _ _=>rfl)) (ze_ix ix_tup (zv 2) ze_int (fun _ _=>rfl))))
  (zss_cons (zs_set (i:=5) scOnlyV.nd rfl (Or.inl rfl) (ze_op op_sub (ze_ix ix_tup (zv 2) ze_int (fun _ _=>rfl)) (ze_ix ix_tup (zv 2) ze_int (fun _ _=>rfl))))
  (zss_cons (zs_set (i:=6) scOnlyV.nd rfl (Or.inl rfl) (ze_op op_sub (ze_ix ix_tup (zv 2) ze_int (fun _ _=>rfl)) (ze_ix ix_tup (zv 2) ze_int (fun _ _=>rfl))))
  (zss_cons (zs_set (i:=7) scOnlyV.nd rfl (Or.inl rfl) (ze_op op_add (ze_ix ix_tup (zv 2) ze_int (fun _ _=>rfl)) (ze_ix ix_tup (zv 2) ze_int (fun _ _=>rfl))))
  (zss_cons (zs_set (i:=8) scOnlyV.nd rfl (Or.inl rfl) (ze_op op_add (ze_ix ix_tup (zv 2) ze_int (fun _ _=>rfl)) (ze_ix ix_tup (zv 2) ze_int (fun _ _=>rfl))))
  (zss_cons (zs_set (i:=9) scOnlyV.nd rfl (Or.inl rfl) (ze_op op_add (ze_ix ix_tup (zv 2) ze_int (fun _ _=>rfl)) (ze_ix ix_tup (zv 2) ze_int (fun _ _=>rfl))))
  (zss_cons (zs_set (i:=10) scOnlyV.nd rfl (Or.inl rfl) (ze_tup (za_t (ze_tup (za_b (ze_op op_add (ze_op op_add (ze_op op_add (zv 3) (ze_ix ix_tup (zv 2) ze_int (fun _ _=>rfl))) (ze_ix ix_tup (zv 2) ze_int (fun _ _=>rfl))) (ze_ix ix_tup (zv 2) ze_int (fun _ _=>rfl))) (za_n (zv 4) (za_n (zv 5) (za_n (zv 6) za_nil))))) (za_t (ze_tup (za_n (zv 4) (za_b (ze_op op_sub (ze_op op_sub (ze_op op_add (zv 3) (ze_ix ix_tup (zv 2) ze_int (fun _ _=>rfl))) (ze_ix ix_tup (zv 2) ze_int (fun _ _=>rfl))) (ze_ix ix_tup (zv 2) ze_int (fun _ _=>rfl))) (za_n (zv 7) (za_n (zv 8) za_nil))))) (za_t (ze_tup (za_n (zv 5) (za_n (zv 7) (za_b (ze_op op_sub (ze_op op_add (ze_op op_sub (zv 3) (ze_ix ix_tup (zv 2) ze_int (fun _ _=>rfl))) (ze_ix ix_tup (zv 2) ze_int (fun _ _=>rfl))) (ze_ix ix_tup (zv 2) ze_int (fun _ _=>rfl))) (za_n (zv 9) za_nil))))) (za_t (ze_tup (za_n (zv 6) (za_n (zv 8) (za_n (zv 9) (za_b (ze_op op_add (ze_op op_sub (ze_op op_sub (zv 3) (ze_ix ix_tup (zv 2) ze_int (fun _ _=>rfl))) (ze_ix ix_tup (zv 2) ze_int (fun _ _=>rfl))) (ze_ix ix_tup (zv 2) ze_int (fun _ _=>rfl))) za_nil))))) za_nil))))))
  (zss_one (zs_ret (ze_ix ix_list (ze_comp (own:=["row"]) scOnlyV rfl ⟨by decide +kernel,rfl,by decide +kernel,by decide +kernel,by decide +kernel,by decide +kernel,by decide +kernel,by decide +kernel,by decide +kernel⟩ (zi_tup (zv 10)) (fun C fp s H nd=>zg_name (i:=0) nd rfl (Or.inl rfl)) (fun C fp s H=>zts_one (zt_cmpR (op_neDC hr.units) (zv 0) (ze_tup (za_i (za_i (za_i (za_i za_nil))))) (nomark _))) (fun C fp s H=>(zv 0))) ze_int (fun _ _=>rfl)))))))))))))),fun ds C h=>?_⟩
 obtain ⟨a,b,d,rfl,ht,rfl⟩:=h
 obtain ⟨B,B0,bB,fa,fb,fd⟩:=ht
 have hq:∀ q ∈ [a.x,a.y,a.z,b.x,b.y,b.z,d.x,d.y,d.z],FB B 940 q:=tab_mem ⟨fa,fb,fd⟩
 refine S.letC (E.callQ (R:=RLevN) (ds:=[.tuple ([a.x,a.y,a.z,b.x,b.y,b.z,d.x,d.y,d.z].map fun q=>tI (qf q))]) (A1.cons (E1.catT (xs:=[tI (qf a.x),tI (qf a.y),tI (qf a.z),tI (qf b.x),tI (qf b.y),tI (qf b.z)]) (ys:=[tI (qf d.x),tI (qf d.y),tI (qf d.z)]) (E1.catT (xs:=[tI (qf a.x),tI (qf a.y),tI (qf a.z)]) (ys:=[tI (qf b.x),tI (qf b.y),tI (qf b.z)]) (E1.ixT (d:=a.d) (E1.var rfl) E1.int rfl) (E1.ixT (d:=b.d) (E1.var rfl) E1.int rfl) (show 6<=sizeLine by decide)) (E1.ixT (d:=d.d) (E1.var rfl) E1.int rfl) (show 9<=sizeLine by decide)) A1.nil) ⟨_,B,940,rfl,(show 9<=100 by decide),B0,bB,by decide,hq,rfl⟩) (fun s ⟨_,e,_⟩=>by rw [e];rfl) fun s ⟨g,es,L,eg,L0,LB,Ld⟩=>?_
 subst es eg
 obtain ⟨t0,g0⟩:∃ t,t=topL L a.x:=⟨_,rfl⟩
 obtain ⟨t1,g1⟩:∃ t,t=topL L a.y:=⟨_,rfl⟩
 obtain ⟨t2,g2⟩:∃ t,t=topL L a.z:=⟨_,rfl⟩
 obtain ⟨t3,g3⟩:∃ t,t=topL L b.x:=⟨_,rfl⟩
 obtain ⟨t4,g4⟩:∃ t,t=topL L b.y:=⟨_,rfl⟩
 obtain ⟨t5,g5⟩:∃ t,t=topL L b.z:=⟨_,rfl⟩
 obtain ⟨t6,g6⟩:∃ t,t=topL L d.x:=⟨_,rfl⟩
 obtain ⟨t7,g7⟩:∃ t,t=topL L d.y:=⟨_,rfl⟩
 obtain ⟨t8,g8⟩:∃ t,t=topL L d.z:=⟨_,rfl⟩
 have e0:(t0:Rat)=L * a.x:=by rw [g0];exact topL_val (Ld a.x (by simp))
 have k0:Bt t0 940:=by rw [g0];exact topL_bt (hq a.x (by simp)) B0 L0 LB (Ld a.x (by simp))
 have e1:(t1:Rat)=L * a.y:=by rw [g1];exact topL_val (Ld a.y (by simp))
 have k1:Bt t1 940:=by rw [g1];exact topL_bt (hq a.y (by simp)) B0 L0 LB (Ld a.y (by simp))
 have e2:(t2:Rat)=L * a.z:=by rw [g2];exact topL_val (Ld a.z (by simp))
 have k2:Bt t2 940:=by rw [g2];exact topL_bt (hq a.z (by simp)) B0 L0 LB (Ld a.z (by simp))
 have e3:(t3:Rat)=L * b.x:=by rw [g3];exact topL_val (Ld b.x (by simp))
 have k3:Bt t3 940:=by rw [g3];exact topL_bt (hq b.x (by simp)) B0 L0 LB (Ld b.x (by simp))
 have e4:(t4:Rat)=L * b.y:=by rw [g4];exact topL_val (Ld b.y (by simp))
 have k4:Bt t4 940:=by rw [g4];exact topL_bt (hq b.y (by simp)) B0 L0 LB (Ld b.y (by simp))
 have e5:(t5:Rat)=L * b.z:=by rw [g5];exact topL_val (Ld b.z (by simp))
 have k5:Bt t5 940:=by rw [g5];exact topL_bt (hq b.z (by simp)) B0 L0 LB (Ld b.z (by simp))
 have e6:(t6:Rat)=L * d.x:=by rw [g6];exact topL_val (Ld d.x (by simp))
 have k6:Bt t6 940:=by rw [g6];exact topL_bt (hq d.x (by simp)) B0 L0 LB (Ld d.x (by simp))
 have e7:(t7:Rat)=L * d.y:=by rw [g7];exact topL_val (Ld d.y (by simp))
 have k7:Bt t7 940:=by rw [g7];exact topL_bt (hq d.y (by simp)) B0 L0 LB (Ld d.y (by simp))
 have e8:(t8:Rat)=L * d.z:=by rw [g8];exact topL_val (Ld d.z (by simp))
 have k8:Bt t8 940:=by rw [g8];exact topL_bt (hq d.z (by simp)) B0 L0 LB (Ld d.z (by simp))
 have bL:Bt L 940:=bt_dvd LB B0 bB
 have hb:∀ n ∈ [t0,t1,t2,t3,t4,t5,t6,t7,t8],Bt n 940:=nine_mem k0 k1 k2 k3 k4 k5 k6 k7 k8
 have hrow:=only_row L0 bL hb e0 e1 e2 e3 e4 e5 e6 e7 e8
 have hsome:=only_some (L:=L) (t0:=t0) (t1:=t1) (t2:=t2) (t3:=t3) (t4:=t4) (t5:=t5) (t6:=t6) (t7:=t7) (t8:=t8) L0
 refine S.let1 (s:=.dat (tI [t0,t1,t2,t3,t4,t5,t6,t7,t8])) (E1.to (E1.ixT (d:=tI ([a.x,a.y,a.z,b.x,b.y,b.z,d.x,d.y,d.z].map (topL L))) (E1.var rfl) E1.int rfl) (by rw [g0,g1,g2,g3,g4,g5,g6,g7,g8];rfl)) ?_
 refine S.let1 (s:=.dat (.int L)) (E1.ixT (E1.var rfl) E1.int rfl) ?_
 refine S.let1 (s:=.dat (.int (t7 - t5))) (E1.sub (E1.ixT (d:=.int t7) (E1.var rfl) E1.int rfl) (E1.ixT (d:=.int t5) (E1.var rfl) E1.int rfl)) ?_
 refine S.let1 (s:=.dat (.int (t2 - t6))) (E1.sub (E1.ixT (d:=.int t2) (E1.var rfl) E1.int rfl) (E1.ixT (d:=.int t6) (E1.var rfl) E1.int rfl)) ?_
 refine S.let1 (s:=.dat (.int (t3 - t1))) (E1.sub (E1.ixT (d:=.int t3) (E1.var rfl) E1.int rfl) (E1.ixT (d:=.int t1) (E1.var rfl) E1.int rfl)) ?_
 refine S.let1 (s:=.dat (.int (t1 + t3))) (E1.add (E1.ixT (d:=.int t1) (E1.var rfl) E1.int rfl) (E1.ixT (d:=.int t3) (E1.var rfl) E1.int rfl)) ?_
 refine S.let1 (s:=.dat (.int (t2 + t6))) (E1.add (E1.ixT (d:=.int t2) (E1.var rfl) E1.int rfl) (E1.ixT (d:=.int t6) (E1.var rfl) E1.int rfl)) ?_
 refine S.let1 (s:=.dat (.int (t5 + t7))) (E1.add (E1.ixT (d:=.int t5) (E1.var rfl) E1.int rfl) (E1.ixT (d:=.int t7) (E1.var rfl) E1.int rfl)) ?_
 refine S.let1 (s:=.dat (.tuple ([[L + t0 + t4 + t8,t7 - t5,t2 - t6,t3 - t1],[t7 - t5,L + t0 - t4 - t8,t1 + t3,t2 + t6],[t2 - t6,t1 + t3,L - t0 + t4 - t8,t5 + t7],[t3 - t1,t2 + t6,t5 + t7,L - t0 - t4 + t8]].map tI))) (E1.tu (A1.cons (E1.tu (A1.cons (E1.add (E1.add (E1.add (E1.var rfl) (E1.ixT (d:=.int t0) (E1.var rfl) E1.int rfl)) (E1.ixT (d:=.int t4) (E1.var rfl) E1.int rfl)) (E1.ixT (d:=.int t8) (E1.var rfl) E1.int rfl)) (A1.cons (E1.var rfl) (A1.cons (E1.var rfl) (A1.cons (E1.var rfl) A1.nil)))) rfl (lsz (n:=4) rfl z4)) (A1.cons (E1.tu (A1.cons (E1.var rfl) (A1.cons (E1.sub (E1.sub (E1.add (E1.var rfl) (E1.ixT (d:=.int t0) (E1.var rfl) E1.int rfl)) (E1.ixT (d:=.int t4) (E1.var rfl) E1.int rfl)) (E1.ixT (d:=.int t8) (E1.var rfl) E1.int rfl)) (A1.cons (E1.var rfl) (A1.cons (E1.var rfl) A1.nil)))) rfl (lsz (n:=4) rfl z4)) (A1.cons (E1.tu (A1.cons (E1.var rfl) (A1.cons (E1.var rfl) (A1.cons (E1.sub (E1.add (E1.sub (E1.var rfl) (E1.ixT (d:=.int t0) (E1.var rfl) E1.int rfl)) (E1.ixT (d:=.int t4) (E1.var rfl) E1.int rfl)) (E1.ixT (d:=.int t8) (E1.var rfl) E1.int rfl)) (A1.cons (E1.var rfl) A1.nil)))) rfl (lsz (n:=4) rfl z4)) (A1.cons (E1.tu (A1.cons (E1.var rfl) (A1.cons (E1.var rfl) (A1.cons (E1.var rfl) (A1.cons (E1.add (E1.sub (E1.sub (E1.var rfl) (E1.ixT (d:=.int t0) (E1.var rfl) E1.int rfl)) (E1.ixT (d:=.int t4) (E1.var rfl) E1.int rfl)) (E1.ixT (d:=.int t8) (E1.var rfl) E1.int rfl)) A1.nil)))) rfl (lsz (n:=4) rfl z4)) A1.nil)))) rfl (lsz (n:=4) rfl z4)) ?_
 generalize hRS:[[L + t0 + t4 + t8,t7 - t5,t2 - t6,t3 - t1],[t7 - t5,L + t0 - t4 - t8,t1 + t3,t2 + t6],[t2 - t6,t1 + t3,L - t0 + t4 - t8,t5 + t7],[t3 - t1,t2 + t6,t5 + t7,L - t0 - t4 + t8]]=rs at *
 have lrs:rs.length=4:=by rw [<- hRS];rfl
 obtain ⟨r0,hr0,ne0⟩:=hsome
 have hff:=filter_first (kp:=fun d => !deq d (tI [0,0,0,0])) (ds:=rs.map tI) ⟨tI r0,List.mem_map.mpr ⟨r0,hr0,rfl⟩,by rw [deq_tI,decide_eq_false ne0];rfl⟩
 obtain ⟨dd,rr,hf1,hf2,hf3⟩:=hff
 obtain ⟨r1,hr1,rfl⟩:=List.mem_map.mp hf2
 have ne1:r1 ≠ [0,0,0,0]:=fun z=>by rw [z,deq_self] at hf3;cases hf3
 have hw:=hrow r1 hr1 ne1
 obtain ⟨w,x,y,z,rfl,nz,bd,hso⟩:=hw
 exact S.ret1 (s:=.dat (tI [w,x,y,z])) (E1.ixL (ds:=((rs.map tI).filter (fun d => !deq d (tI [0,0,0,0]))).map (fun d=>d)) (E1.vwo (E1.compF (ds:=rs.map tI) (f:=fun d=>d) (kp:=fun d => !deq d (tI [0,0,0,0])) (Wk.tup (E1.var rfl)) (fun d hd=>T1.test (E1.neD (E1.var rfl) (E1.tu (ds:=[.int 0,.int 0,.int 0,.int 0]) (A1.cons E1.int (A1.cons E1.int (A1.cons E1.int (A1.cons E1.int A1.nil)))) rfl (lsz (n:=4) rfl z4)) rfl rfl (kqd_mem hd) kqd_tup)) (fun d hd _=>(E1.var rfl)) (by rw [List.length_map,lrs];exact z4))) E1.int (by rw [hf1];exact at_0)) ⟨_,⟨w,x,y,z,rfl,nz,bd,hso⟩,rfl,noLs_ints _⟩
theorem scIsTabV:FnScope ["table","four","bottom","row","whole_row","fraction","top"] ["table","four"] (defScope sIsTabV):=⟨rfl,rfl,rfl,by decide +kernel,rfl,by decide +kernel,by decide +kernel⟩
theorem ok_istabv (F:Fun K "is_table_of" "is_table_of" sIsTabV f fd)
  (G:FnOk P w K mg base CX0 2 g gd ["four"] (spSize K)) (bG:Binds K gd ["four"] []) (kG:PySem.W.keepIn K (.ref g)=true) (mG:mg "size" = some (.ref g))
  (G2:FnOk P w K mg base CX0 1 g2 gd2 ["four"] (spWT K)) (bG2:Binds K gd2 ["four"] []) (kG2:PySem.W.keepIn K (.ref g2)=true) (mG2:mg "whole_table" = some (.ref g2)) (m_zip:mg "zip" = none) :
  FnOk P w K mg base CX0 3 f fd ["table","four"] (spP K RIsTabV):=by
 refine okP F scIsTabV (fun ds d h=>?_) (fun cdv A0 outer s0 H0 E0 hr=>?_)
 ·obtain ⟨a,b,d,w,x,y,z,v,rfl,_⟩:=h;rfl
 have r:=hr.mono (show 2<=2 by decide)
 have r2:=hr.mono (show 1<=2 by decide)
 refine ⟨_,(zss_cons (zs_set (i:=2) scIsTabV.nd rfl (Or.inl rfl) (ze_call G r rfl mG kG bG .nil pass0 (za_n (zv 1) za_nil)))
  (zss_cons (zs_for PassesOwn.never rfl (zi_zip rfl m_zip (za_n (zv 0) (za_c (ze_call G2 r2 rfl mG2 kG2 bG2 .nil pass0 (za_n (zv 1) za_nil)) za_nil))) (zg_tup rfl (zgs_cons (zg_name (i:=3) scIsTabV.nd rfl (Or.inl rfl)) (zgs_cons (zg_name (i:=4) scIsTabV.nd rfl (Or.inl rfl)) zgs_nil))) (zss_one (zs_for PassesOwn.never rfl (zi_zip rfl m_zip (za_n (zv 3) (za_n (zv 4) za_nil))) (zg_tup rfl (zgs_cons (zg_name (i:=5) scIsTabV.nd rfl (Or.inl rfl)) (zgs_cons (zg_name (i:=6) scIsTabV.nd rfl (Or.inl rfl)) zgs_nil))) (zss_one (zs_if (zt_cmpR op_ne (ze_op op_mulB (ze_ix ix_tup (zv 5) ze_int (fun _ _=>rfl)) (zv 2)) (ze_op op_mulB (ze_ix ix_tup (zv 5) ze_int (fun _ _=>rfl)) (zv 6)) (nomark _)) (zss_one (zs_ret ze_bl)) zss_nil)))))
  (zss_one (zs_ret ze_bl)))),fun ds d h=>?_⟩
 obtain ⟨a,b,d,w,x,y,z,v,rfl,ht,nz,bd,hv,rfl⟩:=h
 obtain ⟨la,lb,ld⟩:=ht.lv (by decide)
 have np:=nrm_pos (ns:=[w,x,y,z]) rfl nz
 have hrows:=rows_btG bd
 have bN:Bt (nrm [w,x,y,z]) 1903:=nrm_btG bd
 obtain ⟨q1,q2,q3⟩:=tr_qv (w:=w) (x:=x) (y:=y) (z:=z)
 have tw0:TOf a b d w x y z ↔ (a.x=qv (w * w + x * x - y * y - z * z) (nrm [w,x,y,z])/\a.y=qv (2 * (x * y - w * z)) (nrm [w,x,y,z])/\a.z=qv (2 * (x * z + w * y)) (nrm [w,x,y,z]))/\(b.x=qv (2 * (x * y + w * z)) (nrm [w,x,y,z])/\b.y=qv (w * w - x * x + y * y - z * z) (nrm [w,x,y,z])/\b.z=qv (2 * (y * z - w * x)) (nrm [w,x,y,z]))/\(d.x=qv (2 * (x * z - w * y)) (nrm [w,x,y,z])/\d.y=qv (2 * (y * z + w * x)) (nrm [w,x,y,z])/\d.z=qv (w * w - x * x - y * y + z * z) (nrm [w,x,y,z])):=by
  unfold TOf
  rw [q1,q2,q3,row_eq,row_eq,row_eq]
 have eS:sop [w,x,y,z] [w,x,y,z]=nrm [w,x,y,z]:=sop4 ..
 have eW:(Dat.tuple [tI (rw1 w x y z),tI (rw2 w x y z),tI (rw3 w x y z)]) = .tuple [tI [w * w + x * x - y * y - z * z,2 * (x * y - w * z),2 * (x * z + w * y)],tI [2 * (x * y + w * z),w * w - x * x + y * y - z * z,2 * (y * z - w * x)],tI [2 * (x * z - w * y),2 * (y * z + w * x),w * w - x * x - y * y + z * z]]:=rfl
 unfold rw1 rw2 rw3 at hrows
 obtain ⟨p00,ep00⟩:∃ t:Int,t=w * w + x * x - y * y - z * z:=⟨_,rfl⟩
 obtain ⟨p01,ep01⟩:∃ t:Int,t=2 * (x * y - w * z):=⟨_,rfl⟩
 obtain ⟨p02,ep02⟩:∃ t:Int,t=2 * (x * z + w * y):=⟨_,rfl⟩
 obtain ⟨p10,ep10⟩:∃ t:Int,t=2 * (x * y + w * z):=⟨_,rfl⟩
 obtain ⟨p11,ep11⟩:∃ t:Int,t=w * w - x * x + y * y - z * z:=⟨_,rfl⟩
 obtain ⟨p12,ep12⟩:∃ t:Int,t=2 * (y * z - w * x):=⟨_,rfl⟩
 obtain ⟨p20,ep20⟩:∃ t:Int,t=2 * (x * z - w * y):=⟨_,rfl⟩
 obtain ⟨p21,ep21⟩:∃ t:Int,t=2 * (y * z + w * x):=⟨_,rfl⟩
 obtain ⟨p22,ep22⟩:∃ t:Int,t=w * w - x * x - y * y + z * z:=⟨_,rfl⟩
 rw [<- ep00, <- ep01, <- ep02, <- ep10, <- ep11, <- ep12, <- ep20, <- ep21, <- ep22] at hrows tw0 eW
 obtain ⟨W1,W2,W3⟩:=hrows
 rw [tw0] at hv
 clear q1 q2 q3 tw0 ep00 ep01 ep02 ep10 ep11 ep12 ep20 ep21 ep22 ht
 generalize hNN:nrm [w,x,y,z]=N at *
 have hN:N ≠ 0:=by omega
 have u00:Bt p00 1903:=W1 _ (by simp)
 have u01:Bt p01 1903:=W1 _ (by simp)
 have u02:Bt p02 1903:=W1 _ (by simp)
 have u10:Bt p10 1903:=W2 _ (by simp)
 have u11:Bt p11 1903:=W2 _ (by simp)
 have u12:Bt p12 1903:=W2 _ (by simp)
 have u20:Bt p20 1903:=W3 _ (by simp)
 have u21:Bt p21 1903:=W3 _ (by simp)
 have u22:Bt p22 1903:=W3 _ (by simp)
 have fal:¬ ((a.x=qv p00 N/\a.y=qv p01 N/\a.z=qv p02 N)/\(b.x=qv p10 N/\b.y=qv p11 N/\b.z=qv p12 N)/\(d.x=qv p20 N/\d.y=qv p21 N/\d.z=qv p22 N))->v=false:=fun h=>by
  cases v with
  | false=>rfl
  | true=>exact absurd (hv.mp rfl) h
 refine S.let1 (s:=.dat (.int N)) (E1.to (E1.cSize (ns:=[w,x,y,z]) (A1.cons (E1.var rfl) A1.nil) (show 4<=1000 by decide) (sm_bd' bd)) (by rw [eS])) ?_
 refine S.seq (M:=fun τ'=>((a.x=qv p00 N/\a.y=qv p01 N/\a.z=qv p02 N)/\(b.x=qv p10 N/\b.y=qv p11 N/\b.z=qv p12 N)/\(d.x=qv p20 N/\d.y=qv p21 N/\d.z=qv p22 N))/\∃ o1 o2 o3 o4:Sl,τ'=[.dat (tbD a b d),.dat (tI [w,x,y,z]),.dat (.int N),o1,o2,o3,o4]) ?_ fun τ' ⟨hF,o1,o2,o3,o4,eτ⟩=>?_
 ·refine S.for (ds:=zipD [a.d,b.d,d.d] [tI [p00,p01,p02],tI [p10,p11,p12],tI [p20,p21,p22]]) (Wk.zip (A1.cons (E1.var rfl) (A1.cons (E1.to (E1.cWT (a:=w) (b:=x) (c:=y) (d:=z) (A1.cons (E1.var rfl) A1.nil) (bd_mono bd (Nat.pow_le_pow_right (by decide) (by decide)))) (by rw [eW])) A1.nil)) rfl) (fun k τ'=>tw (a.x=qv p00 N/\a.y=qv p01 N/\a.z=qv p02 N) (b.x=qv p10 N/\b.y=qv p11 N/\b.z=qv p12 N) (d.x=qv p20 N/\d.y=qv p21 N/\d.z=qv p22 N) k/\∃ o1 o2 o3 o4:Sl,τ'=[.dat (tbD a b d),.dat (tI [w,x,y,z]),.dat (.int N),o1,o2,o3,o4]) ⟨trivial,_,_,_,_,rfl⟩ (fun k dd τ1 hd ⟨hI,o1,o2,o3,o4,e1⟩=>?_) (fun τ1 h=>h)
  subst e1
  rcases get3 hd with ⟨rfl,rfl⟩ | ⟨rfl,rfl⟩ | ⟨rfl,rfl⟩
  ·refine ⟨_,Gd.pair (x:=a.d) (y:=tI [p00,p01,p02]),?_⟩
   refine S.for (ds:=zipD [tI (qf a.x),tI (qf a.y),tI (qf a.z)] [.int p00,.int p01,.int p02]) (Wk.zip (A1.cons (E1.var rfl) (A1.cons (E1.var rfl) A1.nil)) rfl) (fun j τ'=>tw (a.x=qv p00 N) (a.y=qv p01 N) (a.z=qv p02 N) j/\∃ o3 o4:Sl,τ'=[.dat (tbD a b d),.dat (tI [w,x,y,z]),.dat (.int N),.dat a.d,.dat (tI [p00,p01,p02]),o3,o4]) ⟨trivial,_,_,rfl⟩ (fun j dd τ1 hd ⟨hJ,o3,o4,e1⟩=>?_) (fun τ1 ⟨hJ,o3,o4,e1⟩=>⟨hJ,_,_,o3,o4,e1⟩)
   subst e1
   rcases get3 hd with ⟨rfl,rfl⟩ | ⟨rfl,rfl⟩ | ⟨rfl,rfl⟩
   ·refine ⟨_,Gd.pair (x:=tI (qf a.x)) (y:=.int p00),?_⟩
    refine S.if1 (b := !decide (a.x.num * N=a.x.den * p00)) (T1.test (E1.ne (E1.mul (E1.ixT (E1.var rfl) E1.int rfl) (E1.var rfl) (la.1.bt.mulOk bN)) (E1.mul (E1.ixT (E1.var rfl) E1.int rfl) (E1.var rfl) (la.1.bb.mulOk u00)))) (fun h=>?_) (fun h=>?_)
    ·have hh:¬ a.x.num * N=a.x.den * p00:=by simpa using h
     rw [fal fun ht=>hh ((ent_eq hN).mpr ht.1.1)]
     exact S.ret1 (s:=.dat (.bool false)) E1.bl ⟨rfl,rfl⟩
    ·have hh:a.x=qv p00 N:=(ent_eq hN).mp (by simpa using h)
     exact S.next ⟨hh,_,_,rfl⟩
   ·refine ⟨_,Gd.pair (x:=tI (qf a.y)) (y:=.int p01),?_⟩
    refine S.if1 (b := !decide (a.y.num * N=a.y.den * p01)) (T1.test (E1.ne (E1.mul (E1.ixT (E1.var rfl) E1.int rfl) (E1.var rfl) (la.2.1.bt.mulOk bN)) (E1.mul (E1.ixT (E1.var rfl) E1.int rfl) (E1.var rfl) (la.2.1.bb.mulOk u01)))) (fun h=>?_) (fun h=>?_)
    ·have hh:¬ a.y.num * N=a.y.den * p01:=by simpa using h
     rw [fal fun ht=>hh ((ent_eq hN).mpr ht.1.2.1)]
     exact S.ret1 (s:=.dat (.bool false)) E1.bl ⟨rfl,rfl⟩
    ·have hh:a.y=qv p01 N:=(ent_eq hN).mp (by simpa using h)
     exact S.next ⟨⟨hJ,hh⟩,_,_,rfl⟩
   ·refine ⟨_,Gd.pair (x:=tI (qf a.z)) (y:=.int p02),?_⟩
    refine S.if1 (b := !decide (a.z.num * N=a.z.den * p02)) (T1.test (E1.ne (E1.mul (E1.ixT (E1.var rfl) E1.int rfl) (E1.var rfl) (la.2.2.bt.mulOk bN)) (E1.mul (E1.ixT (E1.var rfl) E1.int rfl) (E1.var rfl) (la.2.2.bb.mulOk u02)))) (fun h=>?_) (fun h=>?_)
    ·have hh:¬ a.z.num * N=a.z.den * p02:=by simpa using h
     rw [fal fun ht=>hh ((ent_eq hN).mpr ht.1.2.2)]
     exact S.ret1 (s:=.dat (.bool false)) E1.bl ⟨rfl,rfl⟩
    ·have hh:a.z=qv p02 N:=(ent_eq hN).mp (by simpa using h)
     exact S.next ⟨⟨hJ.1,hJ.2,hh⟩,_,_,rfl⟩
  ·refine ⟨_,Gd.pair (x:=b.d) (y:=tI [p10,p11,p12]),?_⟩
   refine S.for (ds:=zipD [tI (qf b.x),tI (qf b.y),tI (qf b.z)] [.int p10,.int p11,.int p12]) (Wk.zip (A1.cons (E1.var rfl) (A1.cons (E1.var rfl) A1.nil)) rfl) (fun j τ'=>tw (b.x=qv p10 N) (b.y=qv p11 N) (b.z=qv p12 N) j/\∃ o3 o4:Sl,τ'=[.dat (tbD a b d),.dat (tI [w,x,y,z]),.dat (.int N),.dat b.d,.dat (tI [p10,p11,p12]),o3,o4]) ⟨trivial,_,_,rfl⟩ (fun j dd τ1 hd ⟨hJ,o3,o4,e1⟩=>?_) (fun τ1 ⟨hJ,o3,o4,e1⟩=>⟨⟨hI,hJ⟩,_,_,o3,o4,e1⟩)
   subst e1
   rcases get3 hd with ⟨rfl,rfl⟩ | ⟨rfl,rfl⟩ | ⟨rfl,rfl⟩
   ·refine ⟨_,Gd.pair (x:=tI (qf b.x)) (y:=.int p10),?_⟩
    refine S.if1 (b := !decide (b.x.num * N=b.x.den * p10)) (T1.test (E1.ne (E1.mul (E1.ixT (E1.var rfl) E1.int rfl) (E1.var rfl) (lb.1.bt.mulOk bN)) (E1.mul (E1.ixT (E1.var rfl) E1.int rfl) (E1.var rfl) (lb.1.bb.mulOk u10)))) (fun h=>?_) (fun h=>?_)
    ·have hh:¬ b.x.num * N=b.x.den * p10:=by simpa using h
     rw [fal fun ht=>hh ((ent_eq hN).mpr ht.2.1.1)]
     exact S.ret1 (s:=.dat (.bool false)) E1.bl ⟨rfl,rfl⟩
    ·have hh:b.x=qv p10 N:=(ent_eq hN).mp (by simpa using h)
     exact S.next ⟨hh,_,_,rfl⟩
   ·refine ⟨_,Gd.pair (x:=tI (qf b.y)) (y:=.int p11),?_⟩
    refine S.if1 (b := !decide (b.y.num * N=b.y.den * p11)) (T1.test (E1.ne (E1.mul (E1.ixT (E1.var rfl) E1.int rfl) (E1.var rfl) (lb.2.1.bt.mulOk bN)) (E1.mul (E1.ixT (E1.var rfl) E1.int rfl) (E1.var rfl) (lb.2.1.bb.mulOk u11)))) (fun h=>?_) (fun h=>?_)
    ·have hh:¬ b.y.num * N=b.y.den * p11:=by simpa using h
     rw [fal fun ht=>hh ((ent_eq hN).mpr ht.2.1.2.1)]
     exact S.ret1 (s:=.dat (.bool false)) E1.bl ⟨rfl,rfl⟩
    ·have hh:b.y=qv p11 N:=(ent_eq hN).mp (by simpa using h)
     exact S.next ⟨⟨hJ,hh⟩,_,_,rfl⟩
   ·refine ⟨_,Gd.pair (x:=tI (qf b.z)) (y:=.int p12),?_⟩
    refine S.if1 (b := !decide (b.z.num * N=b.z.den * p12)) (T1.test (E1.ne (E1.mul (E1.ixT (E1.var rfl) E1.int rfl) (E1.var rfl) (lb.2.2.bt.mulOk bN)) (E1.mul (E1.ixT (E1.var rfl) E1.int rfl) (E1.var rfl) (lb.2.2.bb.mulOk u12)))) (fun h=>?_) (fun h=>?_)
    ·have hh:¬ b.z.num * N=b.z.den * p12:=by simpa using h
     rw [fal fun ht=>hh ((ent_eq hN).mpr ht.2.1.2.2)]
     exact S.ret1 (s:=.dat (.bool false)) E1.bl ⟨rfl,rfl⟩
    ·have hh:b.z=qv p12 N:=(ent_eq hN).mp (by simpa using h)
     exact S.next ⟨⟨hJ.1,hJ.2,hh⟩,_,_,rfl⟩
  ·refine ⟨_,Gd.pair (x:=d.d) (y:=tI [p20,p21,p22]),?_⟩
   refine S.for (ds:=zipD [tI (qf d.x),tI (qf d.y),tI (qf d.z)] [.int p20,.int p21,.int p22]) (Wk.zip (A1.cons (E1.var rfl) (A1.cons (E1.var rfl) A1.nil)) rfl) (fun j τ'=>tw (d.x=qv p20 N) (d.y=qv p21 N) (d.z=qv p22 N) j/\∃ o3 o4:Sl,τ'=[.dat (tbD a b d),.dat (tI [w,x,y,z]),.dat (.int N),.dat d.d,.dat (tI [p20,p21,p22]),o3,o4]) ⟨trivial,_,_,rfl⟩ (fun j dd τ1 hd ⟨hJ,o3,o4,e1⟩=>?_) (fun τ1 ⟨hJ,o3,o4,e1⟩=>⟨⟨hI.1,hI.2,hJ⟩,_,_,o3,o4,e1⟩)
   subst e1
   rcases get3 hd with ⟨rfl,rfl⟩ | ⟨rfl,rfl⟩ | ⟨rfl,rfl⟩
   ·refine ⟨_,Gd.pair (x:=tI (qf d.x)) (y:=.int p20),?_⟩
    refine S.if1 (b := !decide (d.x.num * N=d.x.den * p20)) (T1.test (E1.ne (E1.mul (E1.ixT (E1.var rfl) E1.int rfl) (E1.var rfl) (ld.1.bt.mulOk bN)) (E1.mul (E1.ixT (E1.var rfl) E1.int rfl) (E1.var rfl) (ld.1.bb.mulOk u20)))) (fun h=>?_) (fun h=>?_)
    ·have hh:¬ d.x.num * N=d.x.den * p20:=by simpa using h
     rw [fal fun ht=>hh ((ent_eq hN).mpr ht.2.2.1)]
     exact S.ret1 (s:=.dat (.bool false)) E1.bl ⟨rfl,rfl⟩
    ·have hh:d.x=qv p20 N:=(ent_eq hN).mp (by simpa using h)
     exact S.next ⟨hh,_,_,rfl⟩
   ·refine ⟨_,Gd.pair (x:=tI (qf d.y)) (y:=.int p21),?_⟩
    refine S.if1 (b := !decide (d.y.num * N=d.y.den * p21)) (T1.test (E1.ne (E1.mul (E1.ixT (E1.var rfl) E1.int rfl) (E1.var rfl) (ld.2.1.bt.mulOk bN)) (E1.mul (E1.ixT (E1.var rfl) E1.int rfl) (E1.var rfl) (ld.2.1.bb.mulOk u21)))) (fun h=>?_) (fun h=>?_)
    ·have hh:¬ d.y.num * N=d.y.den * p21:=by simpa using h
     rw [fal fun ht=>hh ((ent_eq hN).mpr ht.2.2.2.1)]
     exact S.ret1 (s:=.dat (.bool false)) E1.bl ⟨rfl,rfl⟩
    ·have hh:d.y=qv p21 N:=(ent_eq hN).mp (by simpa using h)
     exact S.next ⟨⟨hJ,hh⟩,_,_,rfl⟩
   ·refine ⟨_,Gd.pair (x:=tI (qf d.z)) (y:=.int p22),?_⟩
    refine S.if1 (b := !decide (d.z.num * N=d.z.den * p22)) (T1.test (E1.ne (E1.mul (E1.ixT (E1.var rfl) E1.int rfl) (E1.var rfl) (ld.2.2.bt.mulOk bN)) (E1.mul (E1.ixT (E1.var rfl) E1.int rfl) (E1.var rfl) (ld.2.2.bb.mulOk u22)))) (fun h=>?_) (fun h=>?_)
    ·have hh:¬ d.z.num * N=d.z.den * p22:=by simpa using h
     rw [fal fun ht=>hh ((ent_eq hN).mpr ht.2.2.2.2)]
     exact S.ret1 (s:=.dat (.bool false)) E1.bl ⟨rfl,rfl⟩
    ·have hh:d.z=qv p22 N:=(ent_eq hN).mp (by simpa using h)
     exact S.next ⟨⟨hJ.1,hJ.2,hh⟩,_,_,rfl⟩
 subst eτ
 rw [hv.mpr hF]
 exact S.ret1 (s:=.dat (.bool true)) E1.bl ⟨rfl,rfl⟩
theorem scIsTurnV:FnScope ["table"] ["table"] (defScope sIsTurnV):=⟨rfl,rfl,rfl,by decide +kernel,rfl,by decide +kernel,by decide +kernel⟩
theorem ok_isturnv (F:Fun K "is_turn" "is_turn" sIsTurnV f fd)
  (G:FnOk P w K mg base CX0 3 g gd ["table","four"] (spP K RIsTabV)) (bG:Binds K gd ["table","four"] []) (kG:PySem.W.keepIn K (.ref g)=true) (mG:mg "is_table_of" = some (.ref g))
  (G2:FnOk P w K mg base CX0 4 g2 gd2 ["table"] (spQ K ROnlyV)) (bG2:Binds K gd2 ["table"] []) (kG2:PySem.W.keepIn K (.ref g2)=true) (mG2:mg "only_four" = some (.ref g2)) :
  FnOk P w K mg base CX0 5 f fd ["table"] (spP K RIsTurnV):=by
 refine okP F scIsTurnV (fun ds d h=>?_) (fun cdv A0 outer s0 H0 E0 hr=>?_)
 ·obtain ⟨a,b,d,v,rfl,_⟩:=h;rfl
 have r:=hr.mono (show 3<=4 by decide)
 have r2:=hr.mono (show 4<=4 by decide)
 refine ⟨_,(zss_one (zs_ret (ze_call G r rfl mG kG bG .nil pass0 (za_n (zv 0) (za_c (ze_call G2 r2 rfl mG2 kG2 bG2 .nil pass0 (za_n (zv 0) za_nil)) za_nil))))),fun ds d h=>?_⟩
 obtain ⟨a,b,d,v,rfl,ht,hv,rfl⟩:=h
 exact S.ret (E.call2C (R:=RIsTabV) (ds:=tbD a b d) (C:=fun g=>g = .bool v) (E1.var rfl) (E.callQ (R:=ROnlyV) (ds:=[tbD a b d]) (A1.cons (E1.var rfl) A1.nil) ⟨a,b,d,rfl,ht,rfl⟩) (fun g ⟨w,x,y,z,eg,nz,bd,hso⟩=>⟨.bool v,⟨a,b,d,w,x,y,z,v,by rw [eg],ht,nz,bd,hv.trans ⟨hso,so_of nz⟩,rfl⟩,rfl⟩)) (fun s ⟨g,es,eg⟩=>by subst es eg;exact ⟨rfl,rfl⟩)
theorem scFourOfB:FnScope ["table","four"] ["table"] (defScope sFourOfB):=⟨rfl,rfl,rfl,by decide +kernel,rfl,by decide +kernel,by decide +kernel⟩
theorem ok_fourofb (F:Fun K "four_of" "four_of" sFourOfB f fd) (m_NoTurn:mg "NoTurn" = some (.ref cNoTurn)) (x_NoTurn:Xc K "NoTurn" cNoTurn)
  (G:FnOk P w K mg base CX0 4 g gd ["table"] (spQ K ROnlyV)) (bG:Binds K gd ["table"] []) (kG:PySem.W.keepIn K (.ref g)=true) (mG:mg "only_four" = some (.ref g))
  (G2:FnOk P w K mg base CX0 3 g2 gd2 ["table","four"] (spP K RIsTabV)) (bG2:Binds K gd2 ["table","four"] []) (kG2:PySem.W.keepIn K (.ref g2)=true) (mG2:mg "is_table_of" = some (.ref g2)) :
  FnOk P w K mg base (CXx P w (.ref cNoTurn)) 5 f fd ["table"] (spB K BTurn):=by
 refine okB F scFourOfB (fun ds h=>?_) (fun cdv A0 outer s0 H0 E0 hr=>?_)
 ·obtain ⟨a,b,d,rfl,_⟩:=h;rfl
 have r:=hr.mono (show 4<=4 by decide)
 have r2:=hr.mono (show 3<=4 by decide)
 refine ⟨_,rss_then (zs_set (i:=1) scFourOfB.nd rfl (Or.inl rfl) (ze_call G r rfl mG kG bG .nil pass0 (za_n (zv 0) za_nil))) (rss_here (rs_if (zt_not (zt_val (ze_call G2 r2 rfl mG2 kG2 bG2 .nil pass0 (za_n (zv 0) (za_n (zv 1) za_nil))))) (rss_here (rs_raise x_NoTurn (by rfl) m_NoTurn)) rss_never)),fun ds h=>?_⟩
 obtain ⟨a,b,d,rfl,ht,ns⟩:=h
 refine SX.thn (M:=fun τ'=>∃ w x y z:Int,τ'=[.dat (tbD a b d),.dat (tI [w,x,y,z])]/\(∃ n ∈ [w,x,y,z],n ≠ 0)/\Bd (2 ^ 950) [w,x,y,z]) (S.asg (E.callQ (R:=ROnlyV) (ds:=[tbD a b d]) (A1.cons (E1.var rfl) A1.nil) ⟨a,b,d,rfl,ht,rfl⟩) (fun s ⟨_,e,_⟩=>by rw [e];rfl) fun s ⟨g,es,w,x,y,z,eg,nz,bd,_⟩=>⟨w,x,y,z,by subst es eg;rfl,nz,bd⟩) fun τ' ⟨w,x,y,z,e,nz,bd⟩=>?_
 subst e
 exact SX.mono (SX.ifT (T1.notF (T1.val (E1.call (R:=RIsTabV) (A1.cons (E1.var rfl) (A1.cons (E1.var rfl) A1.nil)) ⟨a,b,d,w,x,y,z,false,rfl,ht,nz,bd,⟨fun z=>(nomatch z),fun z=>absurd (so_of nz z) ns⟩,rfl⟩))) SX.raise) fun _ _=>trivial
theorem scPurse2:FnScope ["_law_cell","_law_number_here","_law_found","_law_k"] ["_law_cell"] (defScope sPurse2):=⟨rfl,rfl,rfl,by decide +kernel,rfl,by decide +kernel,by decide +kernel⟩
theorem ok_purse2 (F:Fun K "_law_purse" "_law_purse" sPurse2 f fd) (m_range:mg "range" = none) :
  FnOk P w K mg base CX0 1 f fd ["_law_cell"] spPurse2:=by
 refine F.okZ scPurse2 (fun vs H Q E h=>?_) (fun cdv A outer s H vs Q E hr h=>?_)
 ·obtain ⟨c,rfl,_⟩:=h;rfl
 obtain ⟨c,rfl,q⟩:=h
 refine ⟨_,(zss_cons (zs_set (i:=1) scPurse2.nd rfl (Or.inl rfl) (ze_op op_mod (zv 0) ze_int))
  (zss_cons (zs_set (i:=2) scPurse2.nd rfl (Or.inl rfl) ze_int)
  (zss_cons (zs_for PassesOwn.never rfl (zi_range1 rfl m_range (za_i za_nil)) (zg_name (i:=3) scPurse2.nd rfl (Or.inl rfl)) (zss_cons (zs_set (i:=1) scPurse2.nd rfl (Or.inl rfl) (ze_op op_mod (ze_op op_add (ze_op op_add (ze_op op_add (ze_op op_mulB (zv 1) (zv 1)) (ze_op op_mulB (ze_op op_mulB ze_int (zv 3)) (zv 3))) (zv 3)) ze_int) ze_int))
  (zss_one (zs_set (i:=2) scPurse2.nd rfl (Or.inl rfl) (ze_op op_add (ze_op op_mulB (zv 2) ze_int) (ze_op op_mod (ze_op op_mulB (zv 1) (zv 1)) ze_int))))))
  (zss_cons (zs_if (zt_cmpR op_ge (zv 0) (ze_op op_pow ze_int ze_int) (nomark _)) (zss_one (zs_ret (ze_lst (za_b (ze_op op_sub (zv 0) (ze_op op_pow ze_int ze_int)) (za_n (zv 2) za_nil))))) zss_nil)
  (zss_one (zs_ret (ze_lst (za_i (za_n (zv 2) za_nil))))))))),?_⟩
 refine ⟨_,rfl,_,_,rfl,rfl,(show (0:Int) < 2147483647 by decide),?_⟩
 have x0:(0:Int)<=c % 2147483647:=Int.emod_nonneg _ (by decide)
 have x1:c % 2147483647 < (2147483647:Int):=Int.emod_lt_of_pos _ (by decide)
 refine ⟨40,rfl,by decide,by decide,for_range (n:=40) (fun i σ H'=>H=H'/\∃ (x y:Int) (k:Option V),σ=[some (.int c),some (.int x),some (.int y),k]/\0<=x/\x < 2147483647) ⟨rfl,_,1,_,rfl,x0,x1⟩ (fun i σ H' hi h=>?_) (fun σ H' h=>?_)⟩
 ·obtain ⟨rfl,x,y,k,rfl,h0,h1⟩:=h
  refine ⟨_,rfl,_,rfl,_,_,rfl,rfl,okL (by omega) (by omega),_,rfl,_,_,rfl,rfl,okL (by decide) (by decide),_,rfl,_,_,rfl,rfl,okR (by omega) (by omega),_,_,rfl,rfl,_,rfl,_,_,rfl,rfl,_,_,rfl,rfl,_,_,rfl,rfl,(show (0:Int) < 2147483629 by decide),?_⟩
  have z0:∀ e:Int,0<=e % 2147483629:=fun e=>Int.emod_nonneg _ (by decide)
  have z1:∀ e:Int,e % 2147483629 < 2147483629:=fun e=>Int.emod_lt_of_pos _ (by decide)
  have y0:=z0 (x * x + 48271 * (0 + (i:Int)) * (0 + (i:Int)) + (0 + (i:Int)) + 3)
  have y1:=z1 (x * x + 48271 * (0 + (i:Int)) * (0 + (i:Int)) + (0 + (i:Int)) + 3)
  dsimp only [gName]
  refine ⟨_,rfl,_,_,rfl,rfl,okR (by decide) (by decide),_,rfl,_,rfl,_,_,rfl,rfl,okL (Int.lt_of_lt_of_le (by decide) y0) (Int.lt_trans y1 (by decide)),_,_,rfl,rfl,(show (0:Int) < 2147483587 by decide),_,_,rfl,rfl,rfl,_,_,_,rfl,y0,Int.lt_trans y1 (by decide)⟩
 ·obtain ⟨rfl,x,y,k,rfl,h0,h1⟩:=h
  refine ⟨_,rfl,_,_,rfl,rfl,⟨by decide,by decide,by decide⟩,_,_,rfl,rfl,_,rfl,?_⟩
  refine ite2 (fun z=>?_) (fun z=>?_)
  ·refine ⟨_,rfl,_,_,rfl,rfl,⟨by decide,by decide,by decide⟩,_,_,rfl,rfl,_,rfl,(by show 2<=sizeLine;decide),fun p hp=>?_⟩
   exact q p _ hp (Same.new hp _) ⟨_,_,upd_same⟩
  ·refine ⟨_,rfl,(by show 2<=sizeLine;decide),fun p hp=>?_⟩
   exact q p _ hp (Same.new hp _) ⟨_,_,upd_same⟩
theorem scTake:FnScope ["_law_purse_here","_law_many","_law_at","_law_found"] ["_law_purse_here","_law_many"] (defScope sTake):=⟨rfl,rfl,rfl,by decide +kernel,rfl,by decide +kernel,by decide +kernel⟩
theorem ok_take (F:Fun K "_law_take" "_law_take" sTake f fd) (m_int:mg "int" = none) :
  FnOk P w K mg base CX0 1 f fd ["_law_purse_here","_law_many"] spDraw:=by
 refine F.okZ scTake (fun vs H Q E h=>?_) (fun cdv A outer s H vs Q E hr h=>?_)
 ·obtain ⟨p,m,rfl,_⟩:=h;rfl
 obtain ⟨p,m,rfl,⟨a,b,hp⟩,m0,m1,q⟩:=h
 refine ⟨_,(zss_cons (zs_set (i:=2) scTake.nd rfl (Or.inl rfl) (ze_callTy call_int1 rfl m_int (by rfl) (za_cons (ze_cmpR op_eq (ze_ix ix_list (zv 0) ze_int (fun _ _=>rfl)) ze_int (nomark _)) za_nil)))
  (zss_cons (zs_set (i:=3) scTake.nd rfl (Or.inl rfl) (ze_op op_mod (ze_ix ix_list (zv 0) (zv 2) (fun _ _=>rfl)) (zv 1)))
  (zss_cons (zs_asg (ze_op op_fdivB (ze_ix ix_list (zv 0) (zv 2) (fun _ _=>rfl)) (zv 1)) (zg_sub (zv 0) (zv 2) set_list (fun _=>rfl)))
  (zss_one (zs_ret (zv 3)))))),?_⟩
 refine ⟨_,rfl,p,_,_,_,rfl,rfl,SqL.of hp,atA,rfl,.inr ⟨_,rfl,?_⟩⟩
 have lg:m.natAbs.log2 < 9000:=by
  have:m.natAbs < 2 ^ 9000:=Nat.lt_of_lt_of_le (show m.natAbs < 2 ^ 200 by omega) (Nat.pow_le_pow_right (by decide) (by decide))
  exact (Nat.log2_lt (by omega)).mpr this
 by_cases h0:a=0
 ·rw [decide_eq_true (by rw [h0])]
  show tSeq _ _ _ [some (.ref p),some (.int m),some (.int 1),none] H
  refine ⟨_,rfl,_,rfl,p,_,_,_,rfl,rfl,SqL.of hp,atB,_,rfl,_,_,rfl,rfl,m0,?_⟩
  dsimp only [gName]
  refine ⟨_,rfl,_,rfl,p,_,_,_,rfl,rfl,SqL.of hp,atB,_,rfl,_,_,rfl,rfl,⟨by omega,lg⟩,_,rfl,_,rfl,p,_,_,1,rfl,rfl,hp,rfl,_,rfl,?_⟩
  exact q _ _ (Int.emod_nonneg _ (by omega)) (Int.emod_lt_of_pos _ m0) SB.upd ⟨_,_,upd_same⟩
 ·rw [decide_eq_false (fun e=>h0 (by injection e))]
  show tSeq _ _ _ [some (.ref p),some (.int m),some (.int 0),none] H
  refine ⟨_,rfl,_,rfl,p,_,_,_,rfl,rfl,SqL.of hp,atA,_,rfl,_,_,rfl,rfl,m0,?_⟩
  dsimp only [gName]
  refine ⟨_,rfl,_,rfl,p,_,_,_,rfl,rfl,SqL.of hp,atA,_,rfl,_,_,rfl,rfl,⟨by omega,lg⟩,_,rfl,_,rfl,p,_,_,0,rfl,rfl,hp,rfl,_,rfl,?_⟩
  exact q _ _ (Int.emod_nonneg _ (by omega)) (Int.emod_lt_of_pos _ m0) SB.upd ⟨_,_,upd_same⟩
theorem scNumber2:FnScope ["_law_purse_here","_law_kind"] ["_law_purse_here","_law_kind"] (defScope sNumber2):=⟨rfl,rfl,rfl,by decide +kernel,rfl,by decide +kernel,by decide +kernel⟩
theorem ok_number2 (F:Fun K "_law_number" "_law_number" sNumber2 f fd)
  (G:FnOk P w K mg base CX0 1 g gd ["_law_purse_here","_law_many"] spDraw) (bG:Binds K gd ["_law_purse_here","_law_many"] []) (kG:PySem.W.keepIn K (.ref g)=true) (mG:mg "_law_take" = some (.ref g)) :
  FnOk P w K mg base CX0 2 f fd ["_law_purse_here","_law_kind"] spNumber2:=by
 refine F.okZ scNumber2 (fun vs H Q E h=>?_) (fun cdv A outer s H vs Q E hr h=>?_)
 ·obtain ⟨p,k,rfl,_⟩:=h;rfl
 obtain ⟨p,k,rfl,hp,q⟩:=h
 have r:=hr.mono (show 1<=1 by decide)
 refine ⟨_,(zss_cons (zs_if (zt_cmpR op_lt (zv 1) ze_int (nomark _)) (zss_one (zs_ret (ze_op op_sub (ze_call G r rfl mG kG bG .nil pass0 (za_n (zv 0) (za_i za_nil))) ze_int))) zss_nil)
  (zss_cons (zs_if (zt_cmpR op_eq (zv 1) ze_int (nomark _)) (zss_one (zs_ret (ze_op op_sub (ze_call G r rfl mG kG bG .nil pass0 (za_n (zv 0) (za_i za_nil))) ze_int))) zss_nil)
  (zss_cons (zs_if (zt_cmpR op_eq (zv 1) ze_int (nomark _)) (zss_one (zs_ret (ze_op op_sub (ze_call G r rfl mG kG bG .nil pass0 (za_n (zv 0) (za_b (ze_op op_add (ze_op op_mulB ze_int (ze_op op_pow ze_int ze_int)) ze_int) za_nil))) (ze_op op_pow ze_int ze_int)))) zss_nil)
  (zss_one (zs_ret (ze_op op_sub (ze_call G r rfl mG kG bG .nil pass0 (za_n (zv 0) (za_b (ze_op op_sub (ze_op op_mulB ze_int (ze_op op_pow ze_int ze_int)) ze_int) za_nil))) (ze_op op_sub (ze_op op_pow ze_int ze_int) ze_int))))))),?_⟩
 refine ⟨_,rfl,_,_,rfl,rfl,_,rfl,?_⟩
 refine ite2 (fun z=>?_) (fun z=>?_)
 ·refine ⟨_,rfl,p,7,rfl,hp,by decide,by decide,fun d H1 d0 d1 sb pu=>?_⟩
  exact ⟨_,_,rfl,rfl,q _ _ (by omega) sb pu⟩
 refine ⟨_,rfl,rfl,_,rfl,?_⟩
 refine ite2 (fun z=>?_) (fun z=>?_)
 ·refine ⟨_,rfl,p,201,rfl,hp,by decide,by decide,fun d H1 d0 d1 sb pu=>?_⟩
  exact ⟨_,_,rfl,rfl,q _ _ (by omega) sb pu⟩
 refine ⟨_,rfl,rfl,_,rfl,?_⟩
 refine ite2 (fun z=>?_) (fun z=>?_)
 ·refine ⟨_,rfl,_,_,rfl,rfl,⟨by decide,by decide,by decide⟩,_,_,rfl,rfl,okL (by decide) (by decide),_,_,rfl,rfl,p,_,rfl,hp,by decide,by decide,fun d H1 d0 d1 sb pu=>?_⟩
  have e:(2:Int) * 10 ^ (6:Int).toNat + 1=2000001:=by decide
  have e2:(10:Int) ^ (6:Int).toNat=1000000:=by decide
  refine ⟨_,_,rfl,rfl,⟨by decide,by decide,by decide⟩,_,_,rfl,rfl,?_⟩
  refine q _ _ ?_ sb pu
  show (d - (10:Int) ^ (6:Int).toNat).natAbs<=_
  rw [e] at d1
  rw [e2]
  omega
 ·refine ⟨_,rfl,_,_,rfl,rfl,⟨by decide,by decide,by decide⟩,_,_,rfl,rfl,okL (by decide) (by decide),_,_,rfl,rfl,p,_,rfl,hp,by decide,by decide,fun d H1 d0 d1 sb pu=>?_⟩
  have e:(2:Int) * 10 ^ (30:Int).toNat - 1=1999999999999999999999999999999:=by decide
  have e2:(10:Int) ^ (30:Int).toNat - 1=999999999999999999999999999999:=by decide
  refine ⟨_,_,rfl,rfl,⟨by decide,by decide,by decide⟩,_,_,rfl,rfl,_,_,rfl,rfl,?_⟩
  refine q _ _ ?_ sb pu
  show (d - ((10:Int) ^ (30:Int).toNat - 1)).natAbs<=_
  rw [e] at d1
  rw [e2]
  omega
theorem scNamed:FnScope ["_law_number_here","_law_some"] ["_law_number_here"] (defScope sNamed):=⟨rfl,rfl,rfl,by decide +kernel,rfl,by decide +kernel,by decide +kernel⟩
theorem ok_named (F:Fun K "_law_named" "_law_named" sNamed f fd) :
  FnOk P w K mg base CX0 1 f fd ["_law_number_here"] (spNamed K):=by
 refine F.okZ scNamed (fun vs H Q E h=>?_) (fun cdv A outer s H vs Q E hr h=>?_)
 ·obtain ⟨n,rfl,_⟩:=h;rfl
 obtain ⟨n,rfl,q⟩:=h
 refine ⟨_,(zss_cons (zs_set (i:=1) scNamed.nd rfl (Or.inl rfl) (ze_lst (za_t (ze_tup (za_i (za_i (za_i (za_i za_nil))))) (za_t (ze_tup (za_i (za_i (za_i (za_i za_nil))))) (za_t (ze_tup (za_i (za_u (ze_un un_neg ze_int) (za_i (za_i za_nil))))) (za_t (ze_tup (za_i (za_i (za_i (za_i za_nil))))) (za_t (ze_tup (za_i (za_i (za_i (za_i za_nil))))) (za_t (ze_tup (za_i (za_i (za_u (ze_un un_neg ze_int) (za_i za_nil))))) (za_t (ze_tup (za_i (za_i (za_i (za_i za_nil))))) za_nil)))))))))
  (zss_cons (zs_set (i:=1) scNamed.nd rfl (Or.inl rfl) (ze_op op_cat (zv 1) (ze_lst (za_t (ze_tup (za_i (za_i (za_u (ze_un un_neg ze_int) (za_i za_nil))))) (za_t (ze_tup (za_i (za_i (za_u (ze_un un_neg ze_int) (za_i za_nil))))) (za_t (ze_tup (za_i (za_i (za_i (za_i za_nil))))) (za_t (ze_tup (za_i (za_i (za_i (za_i za_nil))))) (za_t (ze_tup (za_i (za_i (za_i (za_i za_nil))))) (za_t (ze_tup (za_i (za_i (za_i (za_i za_nil))))) (za_t (ze_tup (za_i (za_i (za_i (za_i za_nil))))) za_nil))))))))))
  (zss_one (zs_ret (ze_ix ix_list (zv 1) (ze_op op_mod (zv 0) ze_int) (fun _ _=>rfl)))))),?_⟩
 refine ⟨(by show 4<=sizeLine;decide),fun a1 e1=>?_⟩
 have s1:Same H (upd H a1 (.tup [V.int 1,V.int 0,V.int 0,V.int 0])):=Same.new e1 _
 have g1:upd H a1 (.tup [V.int 1,V.int 0,V.int 0,V.int 0]) a1=some (.tup ([1,0,0,0].map V.int)):=upd_same
 generalize upd H a1 (.tup [V.int 1,V.int 0,V.int 0,V.int 0])=G1 at s1 g1 ⊢
 refine ⟨(by show 4<=sizeLine;decide),fun a2 e2=>?_⟩
 have s2:Same G1 (upd G1 a2 (.tup [V.int 1,V.int 1,V.int 1,V.int 1])):=Same.new e2 _
 have g2:upd G1 a2 (.tup [V.int 1,V.int 1,V.int 1,V.int 1]) a2=some (.tup ([1,1,1,1].map V.int)):=upd_same
 generalize upd G1 a2 (.tup [V.int 1,V.int 1,V.int 1,V.int 1])=G2 at s2 g2 ⊢
 refine ⟨_,rfl,(by show 4<=sizeLine;decide),fun a3 e3=>?_⟩
 have s3:Same G2 (upd G2 a3 (.tup [V.int 1,(fun (i:Int)=>V.int (-i)) 1,V.int 1,V.int 1])):=Same.new e3 _
 have g3:upd G2 a3 (.tup [V.int 1,(fun (i:Int)=>V.int (-i)) 1,V.int 1,V.int 1]) a3=some (.tup ([1, -1,1,1].map V.int)):=upd_same
 generalize upd G2 a3 (.tup [V.int 1,(fun (i:Int)=>V.int (-i)) 1,V.int 1,V.int 1])=G3 at s3 g3 ⊢
 refine ⟨(by show 4<=sizeLine;decide),fun a4 e4=>?_⟩
 have s4:Same G3 (upd G3 a4 (.tup [V.int 1,V.int 1,V.int 0,V.int 0])):=Same.new e4 _
 have g4:upd G3 a4 (.tup [V.int 1,V.int 1,V.int 0,V.int 0]) a4=some (.tup ([1,1,0,0].map V.int)):=upd_same
 generalize upd G3 a4 (.tup [V.int 1,V.int 1,V.int 0,V.int 0])=G4 at s4 g4 ⊢
 refine ⟨(by show 4<=sizeLine;decide),fun a5 e5=>?_⟩
 have s5:Same G4 (upd G4 a5 (.tup [V.int 0,V.int 1,V.int 0,V.int 0])):=Same.new e5 _
 have g5:upd G4 a5 (.tup [V.int 0,V.int 1,V.int 0,V.int 0]) a5=some (.tup ([0,1,0,0].map V.int)):=upd_same
 generalize upd G4 a5 (.tup [V.int 0,V.int 1,V.int 0,V.int 0])=G5 at s5 g5 ⊢
 refine ⟨_,rfl,(by show 4<=sizeLine;decide),fun a6 e6=>?_⟩
 have s6:Same G5 (upd G5 a6 (.tup [V.int 0,V.int 0,(fun (i:Int)=>V.int (-i)) 1,V.int 1])):=Same.new e6 _
 have g6:upd G5 a6 (.tup [V.int 0,V.int 0,(fun (i:Int)=>V.int (-i)) 1,V.int 1]) a6=some (.tup ([0,0, -1,1].map V.int)):=upd_same
 generalize upd G5 a6 (.tup [V.int 0,V.int 0,(fun (i:Int)=>V.int (-i)) 1,V.int 1])=G6 at s6 g6 ⊢
 refine ⟨(by show 4<=sizeLine;decide),fun a7 e7=>?_⟩
 have s7:Same G6 (upd G6 a7 (.tup [V.int 3,V.int 1,V.int 1,V.int 1])):=Same.new e7 _
 have g7:upd G6 a7 (.tup [V.int 3,V.int 1,V.int 1,V.int 1]) a7=some (.tup ([3,1,1,1].map V.int)):=upd_same
 generalize upd G6 a7 (.tup [V.int 3,V.int 1,V.int 1,V.int 1])=G7 at s7 g7 ⊢
 refine ⟨(by show 7<=sizeLine;decide),fun l1 f1=>?_⟩
 have t1:Same G7 (upd G7 l1 (.lst [V.ref a1,V.ref a2,V.ref a3,V.ref a4,V.ref a5,V.ref a6,V.ref a7])):=Same.new f1 _
 have w1:upd G7 l1 (.lst [V.ref a1,V.ref a2,V.ref a3,V.ref a4,V.ref a5,V.ref a6,V.ref a7]) l1=some (.lst [V.ref a1,V.ref a2,V.ref a3,V.ref a4,V.ref a5,V.ref a6,V.ref a7]):=upd_same
 show tSeq _ _ _ [some (.int n),some (.ref l1)] (upd G7 l1 (.lst [V.ref a1,V.ref a2,V.ref a3,V.ref a4,V.ref a5,V.ref a6,V.ref a7]))
 generalize upd G7 l1 (.lst [V.ref a1,V.ref a2,V.ref a3,V.ref a4,V.ref a5,V.ref a6,V.ref a7])=M1 at t1 w1 ⊢
 refine ⟨_,rfl,?_⟩
 refine ⟨_,rfl,(by show 4<=sizeLine;decide),fun a8 e8=>?_⟩
 have s8:Same M1 (upd M1 a8 (.tup [V.int 3,V.int 5,(fun (i:Int)=>V.int (-i)) 1,V.int 1])):=Same.new e8 _
 have g8:upd M1 a8 (.tup [V.int 3,V.int 5,(fun (i:Int)=>V.int (-i)) 1,V.int 1]) a8=some (.tup ([3,5, -1,1].map V.int)):=upd_same
 generalize upd M1 a8 (.tup [V.int 3,V.int 5,(fun (i:Int)=>V.int (-i)) 1,V.int 1])=G8 at s8 g8 ⊢
 refine ⟨_,rfl,(by show 4<=sizeLine;decide),fun a9 e9=>?_⟩
 have s9:Same G8 (upd G8 a9 (.tup [V.int 9,V.int 1,(fun (i:Int)=>V.int (-i)) 5,V.int 1])):=Same.new e9 _
 have g9:upd G8 a9 (.tup [V.int 9,V.int 1,(fun (i:Int)=>V.int (-i)) 5,V.int 1]) a9=some (.tup ([9,1, -5,1].map V.int)):=upd_same
 generalize upd G8 a9 (.tup [V.int 9,V.int 1,(fun (i:Int)=>V.int (-i)) 5,V.int 1])=G9 at s9 g9 ⊢
 refine ⟨(by show 4<=sizeLine;decide),fun a10 e10=>?_⟩
 have s10:Same G9 (upd G9 a10 (.tup [V.int 3,V.int 1,V.int 2,V.int 2])):=Same.new e10 _
 have g10:upd G9 a10 (.tup [V.int 3,V.int 1,V.int 2,V.int 2]) a10=some (.tup ([3,1,2,2].map V.int)):=upd_same
 generalize upd G9 a10 (.tup [V.int 3,V.int 1,V.int 2,V.int 2])=G10 at s10 g10 ⊢
 refine ⟨(by show 4<=sizeLine;decide),fun a11 e11=>?_⟩
 have s11:Same G10 (upd G10 a11 (.tup [V.int 2,V.int 1,V.int 1,V.int 1])):=Same.new e11 _
 have g11:upd G10 a11 (.tup [V.int 2,V.int 1,V.int 1,V.int 1]) a11=some (.tup ([2,1,1,1].map V.int)):=upd_same
 generalize upd G10 a11 (.tup [V.int 2,V.int 1,V.int 1,V.int 1])=G11 at s11 g11 ⊢
 refine ⟨(by show 4<=sizeLine;decide),fun a12 e12=>?_⟩
 have s12:Same G11 (upd G11 a12 (.tup [V.int 1,V.int 2,V.int 0,V.int 0])):=Same.new e12 _
 have g12:upd G11 a12 (.tup [V.int 1,V.int 2,V.int 0,V.int 0]) a12=some (.tup ([1,2,0,0].map V.int)):=upd_same
 generalize upd G11 a12 (.tup [V.int 1,V.int 2,V.int 0,V.int 0])=G12 at s12 g12 ⊢
 refine ⟨(by show 4<=sizeLine;decide),fun a13 e13=>?_⟩
 have s13:Same G12 (upd G12 a13 (.tup [V.int 4,V.int 1,V.int 1,V.int 1])):=Same.new e13 _
 have g13:upd G12 a13 (.tup [V.int 4,V.int 1,V.int 1,V.int 1]) a13=some (.tup ([4,1,1,1].map V.int)):=upd_same
 generalize upd G12 a13 (.tup [V.int 4,V.int 1,V.int 1,V.int 1])=G13 at s13 g13 ⊢
 refine ⟨(by show 4<=sizeLine;decide),fun a14 e14=>?_⟩
 have s14:Same G13 (upd G13 a14 (.tup [V.int 0,V.int 0,V.int 0,V.int 7])):=Same.new e14 _
 have g14:upd G13 a14 (.tup [V.int 0,V.int 0,V.int 0,V.int 7]) a14=some (.tup ([0,0,0,7].map V.int)):=upd_same
 generalize upd G13 a14 (.tup [V.int 0,V.int 0,V.int 0,V.int 7])=G14 at s14 g14 ⊢
 refine ⟨(by show 7<=sizeLine;decide),fun l2 f2=>?_⟩
 have t2:Same G14 (upd G14 l2 (.lst [V.ref a8,V.ref a9,V.ref a10,V.ref a11,V.ref a12,V.ref a13,V.ref a14])):=Same.new f2 _
 have w2:upd G14 l2 (.lst [V.ref a8,V.ref a9,V.ref a10,V.ref a11,V.ref a12,V.ref a13,V.ref a14]) l2=some (.lst [V.ref a8,V.ref a9,V.ref a10,V.ref a11,V.ref a12,V.ref a13,V.ref a14]):=upd_same
 have h1:=(s8.trans (s9.trans (s10.trans (s11.trans (s12.trans (s13.trans (s14.trans t2))))))) _ _ w1
 refine ⟨l1,l2,_,_,rfl,rfl,h1,w2,(by show 14<=sizeLine;decide),fun l3 f3=>?_⟩
 have t3:=Same.new f3 (.lst ([(a1,[1,0,0,0]),(a2,[1,1,1,1]),(a3,[1, -1,1,1]),(a4,[1,1,0,0]),(a5,[0,1,0,0]),(a6,[0,0, -1,1]),(a7,[3,1,1,1]),(a8,[3,5, -1,1]),(a9,[9,1, -5,1]),(a10,[3,1,2,2]),(a11,[2,1,1,1]),(a12,[1,2,0,0]),(a13,[4,1,1,1]),(a14,[0,0,0,7])].map fun x=>V.ref x.1))
 have n0:0<=n % 14:=Int.emod_nonneg _ (by decide)
 have n1:n % 14 < 14:=Int.emod_lt_of_pos _ (by decide)
 obtain ⟨j,hj⟩:=Int.eq_ofNat_of_zero_le n0
 have hj14:j < 14:=by omega
 have ok:∀ x ∈ [(a1,[1,0,0,0]),(a2,[1,1,1,1]),(a3,[1, -1,1,1]),(a4,[1,1,0,0]),(a5,[0,1,0,0]),(a6,[0,0, -1,1]),(a7,[3,1,1,1]),(a8,[3,5, -1,1]),(a9,[9,1, -5,1]),(a10,[3,1,2,2]),(a11,[2,1,1,1]),(a12,[1,2,0,0]),(a13,[4,1,1,1]),(a14,[0,0,0,7])],(upd (upd G14 l2 (.lst [V.ref a8,V.ref a9,V.ref a10,V.ref a11,V.ref a12,V.ref a13,V.ref a14])) l3 (.lst ([(a1,[1,0,0,0]),(a2,[1,1,1,1]),(a3,[1, -1,1,1]),(a4,[1,1,0,0]),(a5,[0,1,0,0]),(a6,[0,0, -1,1]),(a7,[3,1,1,1]),(a8,[3,5, -1,1]),(a9,[9,1, -5,1]),(a10,[3,1,2,2]),(a11,[2,1,1,1]),(a12,[1,2,0,0]),(a13,[4,1,1,1]),(a14,[0,0,0,7])].map fun x=>V.ref x.1))) x.1=some (.tup (x.2.map V.int)):=by
  intro x hx
  simp only [List.mem_cons,List.mem_nil_iff,or_false] at hx
  rcases hx with rfl | rfl | rfl | rfl | rfl | rfl | rfl | rfl | rfl | rfl | rfl | rfl | rfl | rfl
  ·exact (s2.trans (s3.trans (s4.trans (s5.trans (s6.trans (s7.trans (t1.trans (s8.trans (s9.trans (s10.trans (s11.trans (s12.trans (s13.trans (s14.trans (t2.trans t3))))))))))))))) _ _ g1
  ·exact (s3.trans (s4.trans (s5.trans (s6.trans (s7.trans (t1.trans (s8.trans (s9.trans (s10.trans (s11.trans (s12.trans (s13.trans (s14.trans (t2.trans t3)))))))))))))) _ _ g2
  ·exact (s4.trans (s5.trans (s6.trans (s7.trans (t1.trans (s8.trans (s9.trans (s10.trans (s11.trans (s12.trans (s13.trans (s14.trans (t2.trans t3))))))))))))) _ _ g3
  ·exact (s5.trans (s6.trans (s7.trans (t1.trans (s8.trans (s9.trans (s10.trans (s11.trans (s12.trans (s13.trans (s14.trans (t2.trans t3)))))))))))) _ _ g4
  ·exact (s6.trans (s7.trans (t1.trans (s8.trans (s9.trans (s10.trans (s11.trans (s12.trans (s13.trans (s14.trans (t2.trans t3))))))))))) _ _ g5
  ·exact (s7.trans (t1.trans (s8.trans (s9.trans (s10.trans (s11.trans (s12.trans (s13.trans (s14.trans (t2.trans t3)))))))))) _ _ g6
  ·exact (t1.trans (s8.trans (s9.trans (s10.trans (s11.trans (s12.trans (s13.trans (s14.trans (t2.trans t3))))))))) _ _ g7
  ·exact (s9.trans (s10.trans (s11.trans (s12.trans (s13.trans (s14.trans (t2.trans t3))))))) _ _ g8
  ·exact (s10.trans (s11.trans (s12.trans (s13.trans (s14.trans (t2.trans t3)))))) _ _ g9
  ·exact (s11.trans (s12.trans (s13.trans (s14.trans (t2.trans t3))))) _ _ g10
  ·exact (s12.trans (s13.trans (s14.trans (t2.trans t3)))) _ _ g11
  ·exact (s13.trans (s14.trans (t2.trans t3))) _ _ g12
  ·exact (s14.trans (t2.trans t3)) _ _ g13
  ·exact (t2.trans t3) _ _ g14
 have good:∀ x ∈ [[1,0,0,0],[1,1,1,1],[1, -1,1,1],[1,1,0,0],[0,1,0,0],[0,0, -1,1],[3,1,1,1],[3,5, -1,1],[9,1, -5,1],[3,1,2,2],[2,1,1,1],[1,2,0,0],[4,1,1,1],[0,0,0,7]],x.length=4/\(∃ m ∈ x,m ≠ 0)/\Bd 9 x:=by unfold Bd;decide
 obtain ⟨x,hx⟩:∃ x,[(a1,[1,0,0,0]),(a2,[1,1,1,1]),(a3,[1, -1,1,1]),(a4,[1,1,0,0]),(a5,[0,1,0,0]),(a6,[0,0, -1,1]),(a7,[3,1,1,1]),(a8,[3,5, -1,1]),(a9,[9,1, -5,1]),(a10,[3,1,2,2]),(a11,[2,1,1,1]),(a12,[1,2,0,0]),(a13,[4,1,1,1]),(a14,[0,0,0,7])][j]?=some x:=⟨[(a1,[1,0,0,0]),(a2,[1,1,1,1]),(a3,[1, -1,1,1]),(a4,[1,1,0,0]),(a5,[0,1,0,0]),(a6,[0,0, -1,1]),(a7,[3,1,1,1]),(a8,[3,5, -1,1]),(a9,[9,1, -5,1]),(a10,[3,1,2,2]),(a11,[2,1,1,1]),(a12,[1,2,0,0]),(a13,[4,1,1,1]),(a14,[0,0,0,7])][j],by simp [hj14]⟩
 have xm:=List.mem_of_getElem? hx
 have xg:=good x.2 (List.mem_map_of_mem (f:=fun x=>x.2) xm)
 refine ⟨_,rfl,_,rfl,_,_,rfl,rfl,(show (0:Int) < 14 by decide),?_⟩
 refine ⟨l3,_,_,.ref x.1,rfl,rfl,SqL.of (xs:=[(a1,[1,0,0,0]),(a2,[1,1,1,1]),(a3,[1, -1,1,1]),(a4,[1,1,0,0]),(a5,[0,1,0,0]),(a6,[0,0, -1,1]),(a7,[3,1,1,1]),(a8,[3,5, -1,1]),(a9,[9,1, -5,1]),(a10,[3,1,2,2]),(a11,[2,1,1,1]),(a12,[1,2,0,0]),(a13,[4,1,1,1]),(a14,[0,0,0,7])].map fun x=>V.ref x.1) upd_same,?_,?_⟩
 ·rw [hj];exact atI_nat (by rw [List.getElem?_map,hx];rfl)
 ·exact q x.1 x.2 _ (s1.trans (s2.trans (s3.trans (s4.trans (s5.trans (s6.trans (s7.trans (t1.trans (s8.trans (s9.trans (s10.trans (s11.trans (s12.trans (s13.trans (s14.trans (t2.trans t3)))))))))))))))) (ok x xm) xg.1 xg.2.1 xg.2.2
theorem scFour2:FnScope ["_law_purse_here","_law_most","_law_sort","_law_by","_law_kind","_law_found","_law_at"] ["_law_purse_here","_law_most"] (defScope sFour2):=⟨rfl,rfl,rfl,by decide +kernel,rfl,by decide +kernel,by decide +kernel⟩
theorem ok_four2 (F:Fun K "_law_four" "_law_four" sFour2 f fd)
    (G:FnOk P w K mg base CX0 1 g gd ["_law_purse_here","_law_many"] spDraw) (bG:Binds K gd ["_law_purse_here","_law_many"] []) (kG:PySem.W.keepIn K (.ref g)=true) (mG:mg "_law_take" = some (.ref g))
    (G2:FnOk P w K mg base CX0 1 g2 gd2 ["_law_number_here"] (spNamed K)) (bG2:Binds K gd2 ["_law_number_here"] []) (kG2:PySem.W.keepIn K (.ref g2)=true) (mG2:mg "_law_named" = some (.ref g2))
    (G3:FnOk P w K mg base CX0 2 g3 gd3 ["_law_purse_here","_law_kind"] spNumber2) (bG3:Binds K gd3 ["_law_purse_here","_law_kind"] []) (kG3:PySem.W.keepIn K (.ref g3)=true) (mG3:mg "_law_number" = some (.ref g3)) (m_tuple:mg "tuple" = none) (m_range:mg "range" = none) (m_int:mg "int" = none) :
    FnOk P w K mg base CX0 3 f fd ["_law_purse_here","_law_most"] (spFour2 K):=by
  refine F.okZ scFour2 (fun vs H Q E h=>?_) (fun cdv A outer s H vs Q E hr h=>?_)
  . obtain ⟨p,mo,rfl,_⟩:=h;rfl
  obtain ⟨p,mo,rfl,hp,mo0,mo1,q⟩:=h
  have r:=hr.mono (show 1<=2 by decide)
  have r2:=hr.mono (show 1<=2 by decide)
  have r3:=hr.mono (show 2<=2 by decide)
  refine ⟨_,(zss_cons (zs_set (i:=2) scFour2.nd rfl (Or.inl rfl) (ze_call G r rfl mG kG bG .nil pass0 (za_n (zv 0) (za_i za_nil))))
    (zss_cons (zs_set (i:=3) scFour2.nd rfl (Or.inr rfl) (ze_ix ix_list (ze_lst (za_i (za_i (za_i (za_u (ze_un un_neg ze_int) (za_i (za_u (ze_un un_neg ze_int) za_nil))))))) (ze_call G r rfl mG kG bG .nil pass0 (za_n (zv 0) (za_i za_nil))) pix_call) sw_sub)
    (zss_cons (zs_if (zt_cmpR op_eq (zv 2) ze_int (nomark _)) (zss_one (zs_ret (ze_callTy call_tuple_of rfl m_tuple (by rfl) (za_cons (ze_comp (own:=["_law_one"]) scFour2 rfl ⟨by decide +kernel,rfl,by decide +kernel,by decide +kernel,by decide +kernel,by decide +kernel,by decide +kernel,by decide +kernel,by decide +kernel⟩ (zi_tup (ze_call G2 r2 rfl mG2 kG2 bG2 .nil pass0 (za_c (ze_call G r rfl mG kG bG .nil pass0 (za_n (zv 0) (za_i za_nil))) za_nil))) (fun C fp s H nd=>zg_name (i:=0) nd rfl (Or.inl rfl)) (fun C fp s H=>zts_nil) (fun C fp s H=>(ze_op op_mulB (zv 4) (zv 0)))) za_nil)))) zss_nil)
    (zss_cons (zs_set (i:=4) scFour2.nd rfl (Or.inr rfl) (ze_call G r rfl mG kG bG .nil pass0 (za_n (zv 0) (za_n (zv 1) za_nil))))
    (zss_cons (zs_set (i:=5) scFour2.nd rfl (Or.inr rfl) (ze_comp (own:=["_law_k"]) scFour2 rfl ⟨by decide +kernel,rfl,by decide +kernel,by decide +kernel,by decide +kernel,by decide +kernel,by decide +kernel,by decide +kernel,by decide +kernel⟩ (zi_range1 rfl m_range (za_i za_nil)) (fun C fp s H nd=>zg_name (i:=0) nd rfl (Or.inl rfl)) (fun C fp s H=>zts_nil) (fun C fp s H=>(ze_call G3 r3 rfl mG3 kG3 bG3 .nil pass0 (za_n (zv 1) (za_n (zv 5) za_nil))))))
    (zss_cons (zs_set (i:=6) scFour2.nd rfl (Or.inr rfl) (ze_call G r rfl mG kG bG .nil pass0 (za_n (zv 0) (za_i za_nil))))
    (zss_cons (zs_if (zt_cmpR op_eq (zv 2) ze_int (nomark _)) (zss_one (zs_asg ze_int (zg_sub (zv 5) ze_int set_list (fun _=>rfl)))) zss_nil)
    (zss_cons (zs_if (zt_cmpR op_eq (zv 2) ze_int (nomark _)) (zss_one (zs_set (i:=5) scFour2.nd rfl (Or.inr rfl) (ze_op op_cat (ze_lst (za_s (ze_ix ix_list (zv 5) ze_int (fun _ _=>rfl)) za_nil)) (ze_comp (own:=["_law_k"]) scFour2 rfl ⟨by decide +kernel,rfl,by decide +kernel,by decide +kernel,by decide +kernel,by decide +kernel,by decide +kernel,by decide +kernel,by decide +kernel⟩ (zi_range2 rfl m_range (za_i (za_i za_nil))) (fun C fp s H nd=>zg_name (i:=0) nd rfl (Or.inl rfl)) (fun C fp s H=>zts_nil) (fun C fp s H=>(ze_op op_mulB (ze_ix ix_listC (zv 6) (zv 0) (fun _ _=>rfl)) (ze_callTy call_int1 rfl m_int (by rfl) (za_cons (ze_cmpR op_eq (zv 0) (zv 7) (nomark _)) za_nil)))))))) zss_nil)
    (zss_cons (zs_if (zt_cmpR (op_eqD hr.units) (zv 5) (ze_lst (za_i (za_i (za_i (za_i za_nil))))) (nomark _)) (zss_one (zs_asg ze_int (zg_sub (zv 5) (zv 6) set_list (fun _=>rfl)))) zss_nil)
    (zss_cons (zs_if (zt_cmpR op_eq (zv 4) ze_int (nomark _)) (zss_one (zs_ret (ze_callTy call_tuple_of rfl m_tuple (by rfl) (za_n (zv 5) za_nil)))) zss_nil)
    (zss_one (zs_ret (ze_callTy call_tuple_of rfl m_tuple (by rfl) (za_cons (ze_comp (own:=["_law_one"]) scFour2 rfl ⟨by decide +kernel,rfl,by decide +kernel,by decide +kernel,by decide +kernel,by decide +kernel,by decide +kernel,by decide +kernel,by decide +kernel⟩ (zi_list (zv 5)) (fun C fp s H nd=>zg_name (i:=0) nd rfl (Or.inl rfl)) (fun C fp s H=>zts_nil) (fun C fp s H=>(ze_op op_mulB (zv 4) (zv 0)))) za_nil)))))))))))))),?_⟩
  refine ⟨_,rfl,p,8,rfl,hp,by decide,by decide,fun so H1 so0 so1 sb1 pu1=>?_⟩
  refine ⟨_,rfl,_,rfl,(by show 6<=sizeLine;decide),fun l hl=>?_⟩
  have s2:=Same.new hl (.lst ([1,1,2, -1,3, -6].map V.int))
  refine ⟨_,rfl,p,6,rfl,pu1.same s2,by decide,by decide,fun d H2 d0 d1 sb2 pu2=>?_⟩
  obtain ⟨m,hm,hat⟩:=at_draw (ms:=[1,1,2, -1,3, -6]) d0 d1
  have hl2:H2 l=some (.lst ([1,1,2, -1,3, -6].map V.int)):=sb2 _ _ (pu1.ne hl) upd_same
  have mb:m ≠ 0 /\ -6<=m/\m<=6:=by
    simp only [List.mem_cons,List.mem_nil_iff,or_false] at hm
    rcases hm with rfl | rfl | rfl | rfl | rfl | rfl <;> decide
  refine ⟨l,_,d,_,rfl,rfl,SqL.of hl2,hat,?_⟩
  have SB2:SB p H H2:=sb1.trans ((s2.sb (p:=p)).trans sb2)
  dsimp only [gName]
  show tSeq (tIfS _ _ _) _ _ [some (.ref p),some (.int mo),some (.int so),some (.int m),none,none,none] H2
  refine tSeq_cut (t:=tIfS _ _ _) (fun σ H'=>H2=H'/\σ=[some (.ref p),some (.int mo),some (.int so),some (.int m),none,none,none]) (fun N hN=>?_) (fun σ H' h=>?_)
  . refine ⟨_,rfl,rfl,_,rfl,?_⟩
    refine ite2 (fun z=>?_) (fun z=>hN _ _ ⟨rfl,rfl⟩)
    refine ⟨_,rfl,p,14,rfl,pu2,by decide,by decide,fun n H3 n0 n1 sb3 pu3=>?_⟩
    refine ⟨n,rfl,fun r ms H4 s4 h4 l4 nz4 bd4=>?_⟩
    refine ⟨r,rfl,⟨_,SqT.of h4⟩,?_⟩
    refine comp_ints (src_tup (SqT.of (K:=K) h4)) (fun n=>m * n) (by rw [l4];decide) (fun n hn H' s R k=>?_) fun D H5 s5 h5 _=>?_
    . exact ⟨_,rfl,_,rfl,_,_,rfl,rfl,okL (by omega) (by omega),k _ (Same.refl _)⟩
    . refine ⟨D,_,rfl,.inl ⟨SqL.of h5,fun u hu=>?_⟩⟩
      have s6:=s4.trans (s5.trans (Same.new hu (.tup ((ms.map fun n=>m * n).map V.int))))
      refine q u (ms.map fun n=>m * n) _ (by rw [List.length_map];exact l4) (nz_mul mb.1 nz4) (fun n hn=>?_) (SB2.trans (sb3.trans s6.sb)) (pu3.same s6) (SqT.of upd_same)
      obtain ⟨y,hy,rfl⟩:=List.mem_map.mp hn
      rw [Int.natAbs_mul]
      exact Nat.le_trans (Nat.mul_le_mul (show m.natAbs<=6 by omega) (bd4 y hy)) (by decide)
  obtain ⟨rfl,rfl⟩:=h
  refine ⟨_,rfl,_,rfl,p,mo,rfl,pu2,mo0,by omega,fun ki H3 ki0 ki1 sb3 pu3=>?_⟩
  have SB3:=SB2.trans sb3
  show tSeq _ _ _ [some (.ref p),some (.int mo),some (.int so),some (.int m),some (.int ki),none,none] H3
  have nD3:∀ {D:Addr},H3 D=none->D ≠ p:=fun h=>pu3.ne h
  refine ⟨4,rfl,by decide,by decide,comp_inv (n:=4) (by show 4<=sizeLine;decide) (fun D i H' ys=>SB p H3 H'/\Pu H' p/\∃ ns:List Int,ys=ns.map V.int/\∀ n ∈ ns,n.natAbs<=10 ^ 30) (fun D hD=>⟨(Same.new hD _).sb,pu3.same (Same.new hD _),[],rfl,by simp⟩) (fun D i H' ys hi hD hy hl h R k=>?_) (fun D H4 ys hD hy hl4 h=>?_)⟩
  . obtain ⟨sb,pu,ns,rfl,hb⟩:=h
    refine ⟨_,rfl,_,rfl,p,ki,rfl,pu,fun d H2 d1 sb2 pu2=>k _ _ (sb2 _ _ (nD3 hD) hy) ⟨(sb.trans sb2).snoc hD,pu2.off (nD3 hD),ns ++ [d],by rw [List.map_append];rfl,fun n hn=>?_⟩⟩
    rcases List.mem_append.mp hn with h | h
    . exact hb n h
    . have:n=d:=by simpa using h
      rw [this];exact d1
  obtain ⟨sb4,pu4,ns,rfl,hb⟩:=h
  rw [List.length_map] at hl4
  have SB4:=SB3.trans sb4
  have free:∀ {D:Addr},H3 D=none->H D=none:=fun {D} h=>by
    cases e:H D with
    | none=>rfl
    | some o=>exact absurd (SB3 D o (nD3 h) e) (by rw [h];exact fun z=>by cases z)
  show tSeq _ _ _ [some (.ref p),some (.int mo),some (.int so),some (.int m),some (.int ki),some (.ref D),none] H4
  refine ⟨_,rfl,p,4,rfl,pu4,by decide,by decide,fun at' H5 at'0 at'1 sb5 pu5=>?_⟩
  have hy5:=sb5 _ _ (nD3 hD) hy
  obtain ⟨j,rfl⟩:=Int.eq_ofNat_of_zero_le at'0
  have hj:j < 4:=by omega
  have HD:=free hD
  have SB5:=SB4.trans sb5
  have neP:∀ {D:Addr},H D=none->D ≠ p:=fun h=>hp.ne h
  dsimp only [gName]
  show tSeq (tIfS _ _ _) _ _ [some (.ref p),some (.int mo),some (.int so),some (.int m),some (.int ki),some (.ref D),some (.int j)] H5
  refine tSeq_cut (t:=tIfS _ _ _) (fun σ H'=>∃ (D:Addr) (ns:List Int),σ=[some (.ref p),some (.int mo),some (.int so),some (.int m),some (.int ki),some (.ref D),some (.int j)]/\SB p H H'/\Pu H' p/\H D=none/\H' D=some (.lst (ns.map V.int))/\ns.length=4/\Bd (10 ^ 30) ns) (fun N hN=>?_) (fun σ H6 h=>?_)
  . refine ⟨_,rfl,rfl,_,rfl,?_⟩
    refine ite2 (fun z=>?_) (fun z=>hN _ _ ⟨D,ns,rfl,SB5,pu5,HD,hy5,hl4,hb⟩)
    refine ⟨_,rfl,D,_,0,0,rfl,rfl,hy5,ixN_of (by decide) (by rw [List.length_map];omega),hN _ _ ⟨D,ns.set 0 0,rfl,SB5.snoc HD,pu5.off (neP HD),HD,by rw [upd_same,List.map_set],by rw [List.length_set];exact hl4,fun n hn=>?_⟩⟩
    rcases List.mem_or_eq_of_mem_set hn with h | h
    . exact hb n h
    . rw [h];decide
  clear hb hl4 hy hy5 SB5 SB4 pu5 sb5 sb4 pu4 HD hD ns D H4 H5
  refine tSeq_cut (t:=tIfS _ _ _) (fun σ H'=>∃ (D:Addr) (ns:List Int),σ=[some (.ref p),some (.int mo),some (.int so),some (.int m),some (.int ki),some (.ref D),some (.int j)]/\SB p H H'/\Pu H' p/\H D=none/\H' D=some (.lst (ns.map V.int))/\ns.length=4/\Bd (10 ^ 30) ns) (fun N hN=>?_) (fun σ H7 h=>?_)
  . obtain ⟨D,ns,rfl,sb,pu,hD,hy,hl,hb⟩:=h
    obtain ⟨n0,n1,n2,n3,rfl⟩:=four_of hl
    refine ⟨_,rfl,rfl,_,rfl,?_⟩
    refine ite2 (fun z=>?_) (fun z=>hN _ _ ⟨D,_,rfl,sb,pu,hD,hy,hl,hb⟩)
    refine ⟨_,rfl,D,_,_,_,rfl,rfl,SqL.of hy,at40,(by show 1<=sizeLine;decide),fun l1 k1=>?_⟩
    have v1:=Same.new k1 (.lst [V.int n0])
    have hy2:=v1 _ _ hy
    have hl1:upd H6 l1 (.lst [V.int n0]) l1=some (.lst [V.int n0]):=upd_same
    generalize upd H6 l1 (.lst [V.int n0])=H7 at v1 hy2 hl1 ⊢
    refine ⟨1,4,rfl,⟨by decide,by decide,by decide,by decide⟩,?_⟩
    refine comp3 (n1:=n1 * (if decide (V.int 1=V.int j) then 1 else 0)) (n2:=n2 * (if decide (V.int 2=V.int j) then 1 else 0)) (n3:=n3 * (if decide (V.int 3=V.int j) then 1 else 0)) (src_rng (lo:=1) (n:=3)) (fun H' s R k=>?_) (fun H' s R k=>?_) (fun H' s R k=>?_) fun D2 H8 s8 h8 k8=>?_
    . refine ⟨_,rfl,_,rfl,D,_,_,_,rfl,rfl,SqL.of (s _ _ hy2),at41,_,rfl,_,rfl,rfl,.inr ⟨_,rfl,_,_,rfl,rfl,okR ?_ ?_,k _ (Same.refl _)⟩⟩ <;> split <;> decide
    . refine ⟨_,rfl,_,rfl,D,_,_,_,rfl,rfl,SqL.of (s _ _ hy2),at42,_,rfl,_,rfl,rfl,.inr ⟨_,rfl,_,_,rfl,rfl,okR ?_ ?_,k _ (Same.refl _)⟩⟩ <;> split <;> decide
    . refine ⟨_,rfl,_,rfl,D,_,_,_,rfl,rfl,SqL.of (s _ _ hy2),at43,_,rfl,_,rfl,rfl,.inr ⟨_,rfl,_,_,rfl,rfl,okR ?_ ?_,k _ (Same.refl _)⟩⟩ <;> split <;> decide
    refine ⟨l1,D2,_,_,rfl,rfl,s8 _ _ hl1,h8,(by show 4<=sizeLine;decide),fun l3 k3=>?_⟩
    have v3:=Same.new k3 (.lst ([n0,n1 * (if decide (V.int 1=V.int j) then 1 else 0),n2 * (if decide (V.int 2=V.int j) then 1 else 0),n3 * (if decide (V.int 3=V.int j) then 1 else 0)].map V.int))
    have SV:=v1.trans (s8.trans v3)
    have k3H:H l3=none:=by
      have a1:=(v1.trans s8).free k3
      cases e:H l3 with
      | none=>rfl
      | some o =>
        by_cases y:l3=p
        . subst y
          obtain ⟨u,v,w⟩:=pu
          rw [a1] at w;cases w
        . exact absurd (sb l3 o y e) (by rw [a1];exact fun z=>by cases z)
    refine hN _ _ ⟨l3,[n0,n1 * (if decide (V.int 1=V.int j) then 1 else 0),n2 * (if decide (V.int 2=V.int j) then 1 else 0),n3 * (if decide (V.int 3=V.int j) then 1 else 0)],rfl,sb.trans SV.sb,pu.same SV,k3H,upd_same,rfl,fun n hn=>?_⟩
    simp only [List.mem_cons,List.mem_nil_iff,or_false] at hn
    have c0:=hb n0 (by simp)
    have c1:=hb n1 (by simp)
    have c2:=hb n2 (by simp)
    have c3:=hb n3 (by simp)
    rcases hn with rfl | rfl | rfl | rfl
    . exact c0
    . split <;> omega
    . split <;> omega
    . split <;> omega
  refine tSeq_cut (t:=tIfS _ _ _) (fun σ H'=>∃ (D:Addr) (ns:List Int),σ=[some (.ref p),some (.int mo),some (.int so),some (.int m),some (.int ki),some (.ref D),some (.int j)]/\SB p H H'/\Pu H' p/\H D=none/\H' D=some (.lst (ns.map V.int))/\ns.length=4/\Bd (10 ^ 30) ns/\∃ n ∈ ns,n ≠ 0) (fun N hN=>?_) (fun σ H9 h=>?_)
  . obtain ⟨D,ns,rfl,sb,pu,hD,hy,hl,hb⟩:=h
    refine ⟨_,rfl,(by show 4<=sizeLine;decide),fun z hz=>?_⟩
    have v3:=Same.new hz (.lst ([0,0,0,0].map V.int))
    have hy3:=v3 _ _ hy
    refine ⟨.list (ns.map .int),.list ([0,0,0,0].map .int),.lst (SqL.of hy3) (Iss.ints ns),.lst (SqL.of upd_same) (Iss.ints [0,0,0,0]),kqd_lst,kqd_lst,_,rfl,?_⟩
    show if deq _ _=true then _ else _
    rw [deq_lst]
    refine ite2 (fun c=>?_) (fun c=>?_)
    . refine ⟨_,rfl,_,rfl,D,_,_,j,rfl,rfl,hy3,?_,?_⟩
      . rw [ixN_of (by omega) (by rw [List.length_map];omega)];rfl
      refine hN _ _ ⟨D,ns.set j 1,rfl,(sb.trans v3.sb).snoc hD,(pu.same v3).off (neP hD),hD,by rw [upd_same,List.map_set],by rw [List.length_set];exact hl,fun n hn=>?_,1,List.mem_set (l:=ns) (by omega) 1,by decide⟩
      rcases List.mem_or_eq_of_mem_set hn with h | h
      . exact hb n h
      . rw [h];decide
    . have ne:ns ≠ [0,0,0,0]:=fun e=>c (decide_eq_true e)
      refine hN _ _ ⟨D,ns,rfl,sb.trans v3.sb,pu.same v3,hD,hy3,hl,hb,?_⟩
      obtain ⟨x1,x2,x3,x4,rfl⟩:=four_of hl
      by_cases h1:x1=0
      . by_cases h2:x2=0
        . by_cases h3:x3=0
          . by_cases h4:x4=0
            . subst h1 h2 h3 h4;exact absurd rfl ne
            . exact ⟨x4,by simp,h4⟩
          . exact ⟨x3,by simp,h3⟩
        . exact ⟨x2,by simp,h2⟩
      . exact ⟨x1,by simp,h1⟩
  obtain ⟨D,ns,rfl,sb,pu,hD,hy,hl,hb,hnz⟩:=h
  refine ⟨_,rfl,rfl,_,rfl,?_⟩
  refine ite2 (fun z=>?_) (fun z=>?_)
  . refine ⟨_,rfl,D,_,rfl,.inl ⟨SqL.of hy,fun u hu=>?_⟩⟩
    have s6:=Same.new hu (.tup (ns.map V.int))
    exact q u ns _ hl hnz (bd_mono hb (by decide)) (sb.trans s6.sb) (pu.same s6) (SqT.of upd_same)
  . refine ⟨_,rfl,D,rfl,⟨_,SqL.of hy⟩,?_⟩
    refine comp_ints (src_lst (SqL.of (K:=K) hy)) (fun n=>m * n) (by rw [hl];decide) (fun n hn H' s R k=>?_) fun D2 H5 s5 h5 _=>?_
    . exact ⟨_,rfl,_,rfl,_,_,rfl,rfl,okL (by omega) (by omega),k _ (Same.refl _)⟩
    . refine ⟨D2,_,rfl,.inl ⟨SqL.of h5,fun u hu=>?_⟩⟩
      have s6:=s5.trans (Same.new hu (.tup ((ns.map fun n=>m * n).map V.int)))
      refine q u (ns.map fun n=>m * n) _ (by rw [List.length_map];exact hl) (nz_mul mb.1 hnz) (fun n hn=>?_) (sb.trans s6.sb) (pu.same s6) (SqT.of upd_same)
      obtain ⟨y,hy,rfl⟩:=List.mem_map.mp hn
      rw [Int.natAbs_mul]
      exact Nat.mul_le_mul (show m.natAbs<=6 by omega) (hb y hy)
theorem scDiv2:FnScope ["_law_one","_law_other"] ["_law_one","_law_other"] (defScope sDiv2):=⟨rfl,rfl,rfl,by decide +kernel,rfl,by decide +kernel,by decide +kernel⟩
theorem ok_div2 (F:Fun K "_law_divisor" "_law_divisor" sDiv2 f fd) (m_abs:mg "abs" = none) :
  FnOk P w K mg base CX0 1 f fd ["_law_one","_law_other"] spDiv:=by
 refine F.okZ scDiv2 (fun vs H Q E h=>?_) (fun cdv A outer s H vs Q E hr h=>?_)
 ·obtain ⟨a,b,rfl,_⟩:=h;rfl
 obtain ⟨a,b,rfl,q⟩:=h
 refine ⟨_,(zss_cons (zs_while PassesOwn.never (zt_cmpR op_ne (zv 1) ze_int (nomark _)) (zss_one (zs_par (i:=0) (j:=1) rfl scDiv2.nd rfl rfl (by decide) rfl rfl (za_n (zv 1) (za_b (ze_op op_modN (zv 0) (zv 1)) za_nil)) rfl)))
  (zss_one (zs_ret (ze_callB call_abs rfl m_abs (by rfl) (za_n (zv 0) za_nil))))),?_⟩
 refine while_by (fun σ H'=>H=H'/\∃ (c d:Int),Nat.gcd c.natAbs d.natAbs=Nat.gcd a.natAbs b.natAbs/\σ=[some (.int c),some (.int d)])
  (fun σ _=>match σ with | [_,some (.int o)]=>o.natAbs | _=>0) ⟨rfl,_,_,rfl,rfl⟩ (fun σ H' h=>?_) (fun σ H Q Q' hq h=>?_)
 ·obtain ⟨rfl,c,d,hg,rfl⟩:=h
  refine ⟨_,rfl,rfl,_,rfl,?_⟩
  refine ite2 (fun z=>?_) (fun z=>?_)
  ·have h0:d ≠ 0:=by
    intro y;subst y;exact absurd z (by decide)
   refine ⟨_,rfl,_,rfl,_,rfl,_,_,rfl,rfl,h0,_,_,rfl,⟨rfl,_,_,?_,rfl⟩,fmod_lt h0⟩
   rw [<- hg];exact fmod_gcd h0
  ·have h0:d=0:=by
    by_cases y:d=0
    ·exact y
    ·exact absurd (by show (!decide (V.int d=V.int 0))=true;rw [decide_eq_false (fun e=>y (by injection e))];rfl) z
   subst h0
   refine ⟨_,rfl,c,rfl,?_⟩
   have e:(if c < 0 then -c else c)=(c.natAbs:Int):=by split <;> omega
   rw [<- hg] at q
   simp only [Int.natAbs_zero,Nat.gcd_zero_right] at q
   rw [e];exact q
 ·obtain ⟨v,e1,e2,b,e3,q⟩:=h
  exact ⟨v,e1,e2,b,e3,hq _ _ q⟩
theorem scLowest:FnScope ["_law_top","_law_bottom","_law_share"] ["_law_top","_law_bottom"] (defScope sLowest):=⟨rfl,rfl,rfl,by decide +kernel,rfl,by decide +kernel,by decide +kernel⟩
theorem ok_lowest (F:Fun K "_law_lowest" "_law_lowest" sLowest f fd)
  (G:FnOk P w K mg base CX0 1 g gd ["_law_one","_law_other"] spDiv) (bG:Binds K gd ["_law_one","_law_other"] []) (kG:PySem.W.keepIn K (.ref g)=true) (mG:mg "_law_divisor" = some (.ref g)) :
  FnOk P w K mg base CX0 2 f fd ["_law_top","_law_bottom"] (spMade K):=by
 refine F.okZ scLowest (fun vs H Q E h=>?_) (fun cdv A outer s H vs Q E hr h=>?_)
 ·obtain ⟨t,b,rfl,_⟩:=h;rfl
 obtain ⟨t,b,rfl,b0,bb,q⟩:=h
 have r:=hr.mono (show 1<=1 by decide)
 refine ⟨_,(zss_cons (zs_set (i:=2) scLowest.nd rfl (Or.inl rfl) (ze_call G r rfl mG kG bG .nil pass0 (za_n (zv 0) (za_n (zv 1) za_nil))))
  (zss_cons (zs_if (zt_cmpR op_lt (zv 1) ze_int (nomark _)) (zss_one (zs_set (i:=2) scLowest.nd rfl (Or.inl rfl) (ze_un un_neg (zv 2)))) zss_nil)
  (zss_one (zs_ret (ze_tup (za_b (ze_op op_fdivB (zv 0) (zv 2)) (za_b (ze_op op_fdivB (zv 1) (zv 2)) za_nil))))))),?_⟩
 refine ⟨_,rfl,_,rfl,t,b,rfl,?_⟩
 have hg:0 < gcdN [t,b]:=gcdN_pos ⟨b,by simp,by omega⟩
 have hle:gcdN [t,b]<=b.natAbs:=gcdN_le (by simp) (by omega)
 have d1:(gcdN [t,b]:Int) ∣ t:=gcdN_dvd (by simp)
 have d2:(gcdN [t,b]:Int) ∣ b:=gcdN_dvd (by simp)
 rw [<- gcdN2]
 have g0:((gcdN [t,b]:Nat):Int) ≠ 0:=by omega
 have gb:Bt ((gcdN [t,b]:Nat):Int) 8000:=by unfold Bt;rw [Int.natAbs_natCast];exact Nat.le_trans hle bb
 have gl:=gb.log g0
 refine ⟨_,rfl,_,_,rfl,rfl,_,rfl,?_⟩
 refine ite2 (fun z=>absurd (of_decide_eq_true z) (by omega)) (fun _=>?_)
 refine ⟨_,rfl,_,rfl,_,_,rfl,rfl,⟨g0,gl⟩,_,rfl,_,rfl,_,_,rfl,rfl,⟨g0,gl⟩,(by show 2<=sizeLine;decide),fun r hr'=>?_⟩
 refine q r _ (Same.new hr' _) ?_
 rw [upd_same]
 show some (HO.tup [V.int (t.fdiv _),V.int (b.fdiv _)])=_
 rw [Int.fdiv_eq_ediv_of_dvd d1,Int.fdiv_eq_ediv_of_dvd d2]
 rfl
theorem scLPlain2:FnScope ["_law_four_here","_law_share","_law_one","_law_first"] ["_law_four_here"] (defScope sLPlain2):=⟨rfl,rfl,rfl,by decide +kernel,rfl,by decide +kernel,by decide +kernel⟩
theorem ok_lplain2 (F:Fun K "_law_plain" "_law_plain" sLPlain2 f fd)
    (G:FnOk P w K mg base CX0 1 g gd ["_law_one","_law_other"] spDiv) (bG:Binds K gd ["_law_one","_law_other"] []) (kG:PySem.W.keepIn K (.ref g)=true) (mG:mg "_law_divisor" = some (.ref g)) (m_tuple:mg "tuple" = none) :
    FnOk P w K mg base CX0 2 f fd ["_law_four_here"] (spT K (fun ns=>(∃ n ∈ ns,n ≠ 0)/\Sm ns) pl):=by
  refine F.okZ scLPlain2 (fun vs H Q E h=>?_) (fun cdv A outer s H vs Q E hr h=>?_)
  . obtain ⟨a,ns,rfl,_⟩:=h;rfl
  obtain ⟨a,ns,rfl,hS,hl,⟨hnz,hsm⟩,q⟩:=h
  have r:=hr.mono (show 1<=1 by decide)
  refine ⟨_,(zss_cons (zs_set (i:=1) scLPlain2.nd rfl (Or.inr rfl) ze_int)
    (zss_cons (zs_for PassesOwn.never rfl (zi_tup (zv 0)) (zg_name (i:=2) scLPlain2.nd rfl (Or.inl rfl)) (zss_one (zs_set (i:=1) scLPlain2.nd rfl (Or.inr rfl) (ze_call G r rfl mG kG bG .nil pass0 (za_n (zv 1) (za_n (zv 2) za_nil))))))
    (zss_cons (zs_set (i:=3) scLPlain2.nd rfl (Or.inl rfl) (ze_ix ix_list (ze_comp (own:=["_law_one"]) scLPlain2 rfl ⟨by decide +kernel,rfl,by decide +kernel,by decide +kernel,by decide +kernel,by decide +kernel,by decide +kernel,by decide +kernel,by decide +kernel⟩ (zi_tup (zv 0)) (fun C fp s H nd=>zg_name (i:=0) nd rfl (Or.inl rfl)) (fun C fp s H=>zts_one (zt_cmpR op_ne (zv 0) ze_int (nomark _))) (fun C fp s H=>(zv 0))) ze_int (fun _ _=>rfl)) sw_sub)
    (zss_cons (zs_if (zt_cmpR op_lt (zv 3) ze_int (nomark _)) (zss_one (zs_set (i:=1) scLPlain2.nd rfl (Or.inr rfl) (ze_un un_neg (zv 1)))) zss_nil)
    (zss_one (zs_ret (ze_callTy call_tuple_of rfl m_tuple (by rfl) (za_cons (ze_comp (own:=["_law_one"]) scLPlain2 rfl ⟨by decide +kernel,rfl,by decide +kernel,by decide +kernel,by decide +kernel,by decide +kernel,by decide +kernel,by decide +kernel,by decide +kernel⟩ (zi_tup (zv 0)) (fun C fp s H nd=>zg_name (i:=0) nd rfl (Or.inl rfl)) (fun C fp s H=>zts_nil) (fun C fp s H=>(ze_op op_fdivB (zv 0) (zv 2)))) za_nil)))))))),?_⟩
  refine ⟨_,rfl,a,rfl,⟨_,hS⟩,for_tup (xs:=ns.map V.int) (fun i σ H'=>H=H'/\∃ nn,σ=[some (.ref a),some (.int (gcdN (ns.take i))),nn,none])
    ⟨rfl,_,rfl⟩ (fun i σ H' _ h=>h.1 ▸ hS) (fun i x σ H' hx h=>?_) (fun σ H' h=>?_)⟩
  . obtain ⟨rfl,nn,rfl⟩:=h
    rw [List.getElem?_map] at hx
    cases hn:ns[i]? with
    | none=>rw [hn] at hx;cases hx
    | some n =>
      rw [hn] at hx
      cases hx
      refine ⟨_,rfl,_,rfl,_,_,rfl,rfl,some (.int n),?_⟩
      have tk:ns.take (i + 1)=ns.take i ++ [n]:=by rw [List.take_add_one,hn];rfl
      rw [tk,gcdN_snoc]
      rfl
  obtain ⟨rfl,nn,rfl⟩:=h
  rw [List.length_map,List.take_length]
  refine ⟨_,rfl,a,rfl,⟨_,hS⟩,?_⟩
  refine comp_ifs (src_tup hS) (fun n => !decide (V.int n=V.int 0)) (Nat.le_of_lt (small1000 hl)) (fun n hn H' s R k=>?_) (fun n hn H' s R k=>?_) fun D H' s1 h n=>?_
  . exact ⟨_,rfl,rfl,_,rfl,k _ (Same.refl _)⟩
  . exact ⟨_,rfl,k _ (Same.refl _)⟩
  refine ⟨D,_,0,_,rfl,rfl,SqL.of h,atI_nat (j:=0) (by rw [List.getElem?_map,first_at hnz];rfl),?_⟩
  dsimp only
  refine tSeq_cut (fun σ H4=>H'=H4/\σ=[some (.ref a),some (.int (unit ns)),nn,some (.int (fst0 ns))]) (fun N hN=>?_) (fun σ H4 h=>?_)
  . refine ⟨_,rfl,_,_,rfl,rfl,_,rfl,?_⟩
    refine ite2 (fun z=>?_) (fun z=>?_)
    . have z:fst0 ns < 0:=by simpa using z
      refine ⟨_,rfl,_,rfl,hN _ _ ⟨rfl,?_⟩⟩
      unfold unit
      rw [if_pos z]
      rfl
    . have z:¬ fst0 ns < 0:=fun y=>z (by simpa using y)
      refine hN _ _ ⟨rfl,?_⟩
      unfold unit
      rw [if_neg z]
      rfl
  . obtain ⟨rfl,rfl⟩:=h
    have S2:=s1.tup hS
    refine ⟨_,rfl,a,rfl,⟨_,S2⟩,?_⟩
    refine comp_ints (src_tup S2) (fun n=>n / unit ns) (Nat.le_of_lt (small1000 hl)) (fun n hn H' s R k=>?_) fun D2 H2 s2 h2 n2=>?_
    . refine ⟨_,rfl,_,rfl,_,_,rfl,rfl,⟨unit_ne hnz,?_⟩,?_⟩
      . rw [unit_natAbs]
        have:=gcd_small hnz hsm
        rwa [Int.natAbs_natCast] at this
      . dsimp only
        rw [Int.fdiv_eq_ediv_of_dvd (unit_dvd hn)]
        exact k _ (Same.refl _)
    . exact ⟨D2,_,rfl,.inl ⟨SqL.of h2,fun r hr'=>q r _ (s1.trans (s2.trans (Same.new hr' _))) upd_same⟩⟩
theorem scWhole:FnScope ["_law_found"] ["_law_found"] (defScope sWhole):=⟨rfl,rfl,rfl,by decide +kernel,rfl,by decide +kernel,by decide +kernel⟩
theorem ok_whole (F:Fun K "_law_whole" "_law_whole" sWhole f fd) (mi:mg "isinstance" = none) (mn:mg "int" = none) (mb:mg "bool" = none) :
  FnOk P w K mg base CX0 1 f fd ["_law_found"] spWhole:=by
 refine F.okZ scWhole (fun vs H Q E h=>?_) (fun cdv A outer s H vs Q E hr h=>?_)
 ·obtain ⟨n,rfl,_⟩:=h;rfl
 obtain ⟨n,rfl,q⟩:=h
 refine ⟨_,zss_one (zs_ret (ze_and (ze_callB (call_isi (b:=true) (T := "int") (U := "int") (fun K=>by rfl)) rfl mi (by rfl) (za_n (zv 0) (za_n (ze_tyn rfl mn (by rfl)) za_nil)))
  (ze_one (ze_not (ze_callB (call_isi (b:=false) (T := "bool") (U := "int") (fun K=>by rfl)) rfl mi (by rfl) (za_n (zv 0) (za_n (ze_tyn rfl mb (by rfl)) za_nil))))))),?_⟩
 exact ⟨_,rfl,_,rfl,.int n,_,rfl,iteT ⟨_,rfl,_,rfl,.int n,_,rfl,q⟩⟩
theorem scDSame2:FnScope ["_law_found","_law_due_here"] ["_law_found","_law_due_here"] (defScope sDSame2):=⟨rfl,rfl,rfl,by decide +kernel,rfl,by decide +kernel,by decide +kernel⟩
theorem ok_dsame2 (F:Fun K "_law_same" "_law_same" sDSame2 f fd) (bG:Binds K fd ["_law_found","_law_due_here"] []) (kG:PySem.W.keepIn K (.ref f)=true) (mG:mg "_law_same" = some (.ref f))
    (G2:FnOk P w K mg base CX0 1 g2 gd2 ["_law_found"] spWhole) (bG2:Binds K gd2 ["_law_found"] []) (kG2:PySem.W.keepIn K (.ref g2)=true) (mG2:mg "_law_whole" = some (.ref g2)) (m_isinstance:mg "isinstance" = none) (m_list:mg "list" = none) (m_tuple:mg "tuple" = none) (m_len:mg "len" = none) (m_range:mg "range" = none) (m_str:mg "str" = none) :
    FnOk P w K mg base CX0 5 f fd ["_law_found","_law_due_here"] (spP K (RSm 4)):=by
  have all:∀ n:Nat,FnOk P w K mg base CX0 (n + 1) f fd ["_law_found","_law_due_here"] (spP K (RSm n)):=by
    intro n
    induction n with
    | zero=>exact F.okZ scDSame2 (fun vs H Q E h=>let ⟨_,_,_,⟨_,_,z,_⟩,_⟩:=h;z.elim) (fun cdv A outer s H vs Q E hr h=>let ⟨_,_,_,⟨_,_,z,_⟩,_⟩:=h;z.elim)
    | succ n G =>
      refine okP F scDSame2 (fun ds d h=>?_) (fun cdv A0 outer s0 H0 E0 hr=>?_)
      . obtain ⟨x,rfl,_⟩:=h;rfl
      have r:=hr
      have r2:=hr.mono (show 1<=n + 1 by omega)
      refine ⟨_,(zss_cons (zs_if (ZW.pt (zw_or (zt_val (ze_callB (call_isiD (T := "tuple")) rfl m_isinstance (by rfl) (za_n (zv 1) (za_n (ze_tyn rfl m_tuple (by rfl)) za_nil)))) (zw_or1 (zt_val (ze_callB (call_isiD (T := "list")) rfl m_isinstance (by rfl) (za_n (zv 1) (za_n (ze_tyn rfl m_list (by rfl)) za_nil))))))) (zss_cons (zs_if (ZW.pt (zw_or (zt_cmpR op_ne (ze_callB (call_isiD (T := "tuple")) rfl m_isinstance (by rfl) (za_n (zv 0) (za_n (ze_tyn rfl m_tuple (by rfl)) za_nil))) (ze_callB (call_isiD (T := "tuple")) rfl m_isinstance (by rfl) (za_n (zv 1) (za_n (ze_tyn rfl m_tuple (by rfl)) za_nil))) (nomark _)) (zw_or1 (zt_cmpR op_ne (ze_callB (call_isiD (T := "list")) rfl m_isinstance (by rfl) (za_n (zv 0) (za_n (ze_tyn rfl m_list (by rfl)) za_nil))) (ze_callB (call_isiD (T := "list")) rfl m_isinstance (by rfl) (za_n (zv 1) (za_n (ze_tyn rfl m_list (by rfl)) za_nil))) (nomark _))))) (zss_one (zs_ret ze_bl)) zss_nil)
    (zss_cons (zs_if (zt_cmpR op_ne (ze_callB call_len_seq rfl m_len PySem.boot_len (za_n (zv 0) za_nil)) (ze_callB call_len_seq rfl m_len PySem.boot_len (za_n (zv 1) za_nil)) (nomark _)) (zss_one (zs_ret ze_bl)) zss_nil)
    (zss_one (zs_ret (ze_cmpR op_eq (ze_callB call_len_seq rfl m_len PySem.boot_len (za_cons (ze_comp (own:=["_law_k"]) scDSame2 rfl ⟨by decide +kernel,rfl,by decide +kernel,by decide +kernel,by decide +kernel,by decide +kernel,by decide +kernel,by decide +kernel,by decide +kernel⟩ (zi_range1 rfl m_range (za_c (ze_callB call_len_seq rfl m_len PySem.boot_len (za_n (zv 1) za_nil)) za_nil)) (fun C fp s H nd=>zg_name (i:=0) nd rfl (Or.inl rfl)) (fun C fp s H=>zts_one (zt_not (zt_val (ze_call G r rfl mG kG bG .nil pass0 (za_s (ze_ix ix_tupC (zv 1) (zv 0) (fun _ _=>rfl)) (za_s (ze_ix ix_tupC (zv 2) (zv 0) (fun _ _=>rfl)) za_nil)))))) (fun C fp s H=>(zv 0))) za_nil)) ze_int (nomark _)))))) zss_nil)
    (zss_cons (zs_if (ZW.pt (zw_or (zt_val (ze_callB (call_isiD (T := "str")) rfl m_isinstance (by rfl) (za_n (zv 1) (za_n (ze_tyn rfl m_str (by rfl)) za_nil)))) (zw_or1 (zt_cmpR op_isN (zv 1) ze_non (nomark _))))) (zss_one (zs_ret (ze_and (ze_cmpR op_eq (zv 0) (zv 1) (nomark _)) (ze_one (ze_cmpR op_eq (ze_callB (call_isiD (T := "str")) rfl m_isinstance (by rfl) (za_n (zv 0) (za_n (ze_tyn rfl m_str (by rfl)) za_nil))) (ze_callB (call_isiD (T := "str")) rfl m_isinstance (by rfl) (za_n (zv 1) (za_n (ze_tyn rfl m_str (by rfl)) za_nil))) (nomark _)))))) zss_nil)
    (zss_one (zs_ret (ze_and (ze_call G2 r2 rfl mG2 kG2 bG2 .nil pass0 (za_n (zv 0) za_nil)) (ze_one (ze_cmpR op_eq (zv 0) (zv 1) (nomark _)))))))),fun ds d h=>?_⟩
      obtain ⟨x,rfl,hx,rfl⟩:=h
      cases x with
      | int i =>
        refine S.ifsF (T1.orF (T1.val (E1.isi' false (E1.var rfl) (fun K=>by rfl))) (T1.val (E1.isi' false (E1.var rfl) (fun K=>by rfl)))) ?_
        refine S.ifsF (T1.orF (T1.val (E1.isi' false (E1.var rfl) (fun K=>by rfl))) (T1.test (E1.isNo (d:=.int i) (E1.var rfl) E1.non))) ?_
        exact S.ret1 (s:=.dat (.bool true)) (E1.andV (b:=true) (E1.cWhole (A1.cons (E1.var rfl) A1.nil)) (fun _=>E1.to (E1.eq (E1.var rfl) (E1.var rfl)) (by rw [decide_eq_true rfl])) (fun z=>by cases z)) ⟨rfl,rfl⟩
      | none =>
        refine S.ifsF (T1.orF (T1.val (E1.isi' false (E1.var rfl) (fun K=>by rfl))) (T1.val (E1.isi' false (E1.var rfl) (fun K=>by rfl)))) ?_
        refine S.ifs (b:=true) (T.or (C:=fun b=>false=b) (T1.val (E1.isi' false (E1.var rfl) (fun K=>by rfl))) (fun z=>by cases z) (fun _=>T1.test (E1.isNo (d:=.none) (E1.var rfl) E1.non))) (fun _=>?_) (fun z=>by cases z)
        exact S.ret1 (s:=.dat (.bool true)) (E1.andV (b:=true) (E1.eqNN (E1.var rfl) (E1.var rfl)) (fun _=>E1.to (E1.eqB (E1.isi' false (E1.var rfl) (fun K=>by rfl)) (E1.isi' false (E1.var rfl) (fun K=>by rfl))) rfl) (fun z=>by cases z)) ⟨rfl,rfl⟩
      | tuple es =>
        obtain ⟨le,he⟩:=hx
        refine S.ifs (b:=true) (T.or (C:=fun b=>true=b) (T1.val (E1.isi' true (E1.var rfl) (fun K=>by rfl))) (fun _=>rfl) (fun z=>by cases z)) (fun _=>?_) (fun z=>by cases z)
        refine S.ifsF (T1.orF ((T1.test (E1.neB (E1.isi' true (E1.var rfl) (fun K=>by rfl)) (E1.isi' true (E1.var rfl) (fun K=>by rfl)))).eqn rfl) ((T1.test (E1.neB (E1.isi' false (E1.var rfl) (fun K=>by rfl)) (E1.isi' false (E1.var rfl) (fun K=>by rfl)))).eqn rfl)) ?_
        refine S.ifsF (T1.neT (E1.lenT (A1.cons (E1.var rfl) A1.nil)) (E1.lenT (A1.cons (E1.var rfl) A1.nil)) rfl) ?_
        refine S.ret1 (s:=.dat (.bool true)) ?_ ⟨rfl,rfl⟩
        refine E1.to (E1.eq (E1.lenL (A1.cons (E1.vwo (E1.compF (f:=id) (kp:=fun _=>false) (Wk.rng (j:=(es.length:Int)) (n:=es.length) (A1.cons (E1.lenT (A1.cons (E1.var rfl) A1.nil)) A1.nil) (by simp) (by omega) (by omega)) (fun d hd=>?_) (fun d hd z=>by cases z) (by rw [rangeD_len];exact Nat.le_trans le (by decide)))) A1.nil)) E1.int) ?_
        . obtain ⟨i,hi⟩:=List.mem_iff_getElem?.mp hd
          obtain ⟨hlt,rfl⟩:=rangeD_get hi
          have ee:es[i]?=some es[i]:=by simp [hlt]
          refine T1.notT (T1.val (E1.call (R:=RSm n) (ds:=[es[i],es[i]]) (A1.cons (E1.ixT (E1.var rfl) (E1.var rfl) (by rw [Int.zero_add];exact atI_nat ee)) (A1.cons (E1.ixT (E1.var rfl) (E1.var rfl) (by rw [Int.zero_add];exact atI_nat ee)) A1.nil)) ⟨_,rfl,he _ (List.getElem_mem hlt),rfl⟩))
        . rw [List.filter_eq_nil_iff.mpr fun _ _=>by simp]
          rfl
      | _=>exact hx.elim
  exact all 4
theorem scLTable:FnScope ["_law_four_here","_law_w","_law_x","_law_y","_law_z","_law_n","_law_rows"] ["_law_four_here"] (defScope sLTable):=⟨rfl,rfl,rfl,by decide +kernel,rfl,by decide +kernel,by decide +kernel⟩
theorem ok_ltable (F:Fun K "_law_table" "_law_table" sLTable f fd)
  (G:FnOk P w K mg base CX0 2 g gd ["_law_top","_law_bottom"] (spMade K)) (bG:Binds K gd ["_law_top","_law_bottom"] []) (kG:PySem.W.keepIn K (.ref g)=true) (mG:mg "_law_lowest" = some (.ref g)) (m_tuple:mg "tuple" = none) :
  FnOk P w K mg base CX0 3 f fd ["_law_four_here"] (spTable K):=by
 refine F.okZ scLTable (fun vs H Q E h=>?_) (fun cdv A outer s H vs Q E hr h=>?_)
 ·obtain ⟨x,a,b,c,d,rfl,_⟩:=h;rfl
 obtain ⟨x,a,b,c,d,rfl,hS,hz,hB,q⟩:=h
 have r:=hr.mono (show 2<=2 by decide)
 refine ⟨_,(zss_cons (zs_asg (zv 0) (zg_tup rfl (zgs_cons (zg_name (i:=1) scLTable.nd rfl (Or.inl rfl)) (zgs_cons (zg_name (i:=2) scLTable.nd rfl (Or.inl rfl)) (zgs_cons (zg_name (i:=3) scLTable.nd rfl (Or.inl rfl)) (zgs_cons (zg_name (i:=4) scLTable.nd rfl (Or.inl rfl)) zgs_nil))))))
  (zss_cons (zs_set (i:=5) scLTable.nd rfl (Or.inr rfl) (ze_op op_add (ze_op op_add (ze_op op_add (ze_op op_mulB (zv 1) (zv 1)) (ze_op op_mulB (zv 2) (zv 2))) (ze_op op_mulB (zv 3) (zv 3))) (ze_op op_mulB (zv 4) (zv 4))))
  (zss_cons (zs_set (i:=6) scLTable.nd rfl (Or.inl rfl) (ze_lst (za_l (ze_lst (za_b (ze_op op_sub (ze_op op_sub (ze_op op_add (ze_op op_mulB (zv 1) (zv 1)) (ze_op op_mulB (zv 2) (zv 2))) (ze_op op_mulB (zv 3) (zv 3))) (ze_op op_mulB (zv 4) (zv 4))) (za_b (ze_op op_mulB ze_int (ze_op op_sub (ze_op op_mulB (zv 2) (zv 3)) (ze_op op_mulB (zv 1) (zv 4)))) (za_b (ze_op op_mulB ze_int (ze_op op_add (ze_op op_mulB (zv 2) (zv 4)) (ze_op op_mulB (zv 1) (zv 3)))) za_nil)))) za_nil)))
  (zss_cons (zs_expr (ze_append (zv 6) (ze_lst (za_b (ze_op op_mulB ze_int (ze_op op_add (ze_op op_mulB (zv 2) (zv 3)) (ze_op op_mulB (zv 1) (zv 4)))) (za_b (ze_op op_sub (ze_op op_add (ze_op op_sub (ze_op op_mulB (zv 1) (zv 1)) (ze_op op_mulB (zv 2) (zv 2))) (ze_op op_mulB (zv 3) (zv 3))) (ze_op op_mulB (zv 4) (zv 4))) (za_b (ze_op op_mulB ze_int (ze_op op_sub (ze_op op_mulB (zv 3) (zv 4)) (ze_op op_mulB (zv 1) (zv 2)))) za_nil))))))
  (zss_cons (zs_expr (ze_append (zv 6) (ze_lst (za_b (ze_op op_mulB ze_int (ze_op op_sub (ze_op op_mulB (zv 2) (zv 4)) (ze_op op_mulB (zv 1) (zv 3)))) (za_b (ze_op op_mulB ze_int (ze_op op_add (ze_op op_mulB (zv 3) (zv 4)) (ze_op op_mulB (zv 1) (zv 2)))) (za_b (ze_op op_add (ze_op op_sub (ze_op op_sub (ze_op op_mulB (zv 1) (zv 1)) (ze_op op_mulB (zv 2) (zv 2))) (ze_op op_mulB (zv 3) (zv 3))) (ze_op op_mulB (zv 4) (zv 4))) za_nil))))))
  (zss_one (zs_ret (ze_callTy call_tuple_of rfl m_tuple (by rfl) (za_cons (ze_comp (own:=["_law_row"]) scLTable rfl ⟨by decide +kernel,rfl,by decide +kernel,by decide +kernel,by decide +kernel,by decide +kernel,by decide +kernel,by decide +kernel,by decide +kernel⟩ (zi_list (zv 6)) (fun C fp s H nd=>zg_name (i:=0) nd rfl (Or.inl rfl)) (fun C fp s H=>zts_nil) (fun C fp s H=>(ze_callTy call_tupleC rfl m_tuple (by rfl) (za_cons (ze_compN (own2:=["_law_top"]) scLTable rfl ⟨by decide +kernel,rfl,by decide +kernel,by decide +kernel,by decide +kernel,by decide +kernel,by decide +kernel,by decide +kernel,by decide +kernel⟩ (zi_listC (zv 0)) (fun C fp s H nd=>zg_name (i:=0) nd rfl (Or.inl rfl)) (fun C fp s H=>zts_nil) (fun C fp s H=>(ze_call G r rfl mG kG bG .nil pass0 (za_n (zv 0) (za_n (zv 7) za_nil))))) za_nil)))) za_nil))))))))),?_⟩
 have np:=nrm_pos (ns:=[a,b,c,d]) rfl hz
 have ha:Bt a 1000:=hB a (by simp)
 have hb:Bt b 1000:=hB b (by simp)
 have hc:Bt c 1000:=hB c (by simp)
 have hd:Bt d 1000:=hB d (by simp)
 refine ⟨_,rfl,x,_,rfl,hS,rfl,_,_,rfl,_,_,rfl,_,_,rfl,_,_,rfl,rfl,?_⟩
 show tSeq _ _ _ [some (.ref x),some (.int a),some (.int b),some (.int c),some (.int d),none,none] _
 refine ⟨_,rfl,_,rfl,_,_,rfl,rfl,ha.mulOk ha,_,rfl,_,rfl,_,_,rfl,rfl,hb.mulOk hb,_,_,rfl,rfl,_,rfl,_,rfl,_,_,rfl,rfl,hc.mulOk hc,_,_,rfl,rfl,_,rfl,_,rfl,_,_,rfl,rfl,hd.mulOk hd,_,_,rfl,rfl,?_⟩
 show tSeq _ _ _ [some (.ref x),some (.int a),some (.int b),some (.int c),some (.int d),some (.int (a * a + b * b + c * c + d * d)),none] _
 refine ⟨_,rfl,_,rfl,_,_,rfl,rfl,ha.mulOk ha,_,rfl,_,rfl,_,_,rfl,rfl,hb.mulOk hb,_,_,rfl,rfl,_,rfl,_,rfl,_,_,rfl,rfl,hc.mulOk hc,_,_,rfl,rfl,_,rfl,_,rfl,_,_,rfl,rfl,hd.mulOk hd,_,_,rfl,rfl,_,rfl,_,rfl,_,_,rfl,rfl,hb.mulOk hc,_,rfl,_,rfl,_,_,rfl,rfl,ha.mulOk hd,_,_,rfl,rfl,_,_,rfl,rfl,two1.mulOk ((hb.mul hc).sub (ha.mul hd)),_,rfl,_,rfl,_,_,rfl,rfl,hb.mulOk hd,_,rfl,_,rfl,_,_,rfl,rfl,ha.mulOk hc,_,_,rfl,rfl,_,_,rfl,rfl,two1.mulOk ((hb.mul hd).add (ha.mul hc)),(by show 3<=sizeLine;decide),fun l1 e1=>⟨(by show 1<=sizeLine;decide),fun L eL=>?_⟩⟩
 have s1:=Same.new e1 (.lst ((rw1 a b c d).map V.int))
 have s2:=Same.new eL (.lst [V.ref l1])
 have S2:Same H (upd (upd H l1 (.lst ((rw1 a b c d).map V.int))) L (.lst [V.ref l1])):=s1.trans s2
 have g1:upd (upd H l1 (.lst ((rw1 a b c d).map V.int))) L (.lst [V.ref l1]) l1=some (.lst ((rw1 a b c d).map V.int)):=s2 _ _ upd_same
 have gL:upd (upd H l1 (.lst ((rw1 a b c d).map V.int))) L (.lst [V.ref l1]) L=some (.lst [V.ref l1]):=upd_same
 have HL:H L=none:=s1.free eL
 show tSeq _ _ _ [some (.ref x),some (.int a),some (.int b),some (.int c),some (.int d),some (.int (a * a + b * b + c * c + d * d)),some (.ref L)] (upd (upd H l1 (.lst ((rw1 a b c d).map V.int))) L (.lst [V.ref l1]))
 generalize upd (upd H l1 (.lst ((rw1 a b c d).map V.int))) L (.lst [V.ref l1])=H2 at S2 g1 gL ⊢
 have n1:l1 ≠ L:=ne_of g1 gL (fun z=>by cases z)
 refine ⟨_,rfl,.inl ⟨rfl,_,SqL.of gL⟩,_,rfl,_,rfl,_,_,rfl,rfl,hb.mulOk hc,_,rfl,_,rfl,_,_,rfl,rfl,ha.mulOk hd,_,_,rfl,rfl,_,_,rfl,rfl,two1.mulOk ((hb.mul hc).add (ha.mul hd)),_,rfl,_,rfl,_,_,rfl,rfl,ha.mulOk ha,_,rfl,_,rfl,_,_,rfl,rfl,hb.mulOk hb,_,_,rfl,rfl,_,rfl,_,rfl,_,_,rfl,rfl,hc.mulOk hc,_,_,rfl,rfl,_,rfl,_,rfl,_,_,rfl,rfl,hd.mulOk hd,_,_,rfl,rfl,_,rfl,_,rfl,_,_,rfl,rfl,hc.mulOk hd,_,rfl,_,rfl,_,_,rfl,rfl,ha.mulOk hb,_,_,rfl,rfl,_,_,rfl,rfl,two1.mulOk ((hc.mul hd).sub (ha.mul hb)),(by show 3<=sizeLine;decide),fun l2 e2=>?_⟩
 have s3:=Same.new e2 (.lst ((rw2 a b c d).map V.int))
 have gL3:=s3 _ _ gL
 have g12:=s3 _ _ g1
 have g2:upd H2 l2 (.lst ((rw2 a b c d).map V.int)) l2=some (.lst ((rw2 a b c d).map V.int)):=upd_same
 have n2:l2 ≠ L:=fun z=>by subst z;rw [gL] at e2;cases e2
 have S3:=S2.trans s3
 refine ⟨L,[V.ref l1],V.ref l2,rfl,rfl,gL3,(by show 1 < sizeLine;decide),?_⟩
 show tSeq _ _ _ [some (.ref x),some (.int a),some (.int b),some (.int c),some (.int d),some (.int (a * a + b * b + c * c + d * d)),some (.ref L)] (upd (upd H2 l2 (.lst ((rw2 a b c d).map V.int))) L (.lst [V.ref l1,V.ref l2]))
 generalize upd H2 l2 (.lst ((rw2 a b c d).map V.int))=H3 at gL3 g12 g2 S3 ⊢
 have S4:Same H (upd H3 L (.lst [V.ref l1,V.ref l2])):=S3.snoc HL
 have g14:upd H3 L (.lst [V.ref l1,V.ref l2]) l1=some (.lst ((rw1 a b c d).map V.int)):=by rw [upd_ne n1];exact g12
 have g24:upd H3 L (.lst [V.ref l1,V.ref l2]) l2=some (.lst ((rw2 a b c d).map V.int)):=by rw [upd_ne n2];exact g2
 have gL4:upd H3 L (.lst [V.ref l1,V.ref l2]) L=some (.lst [V.ref l1,V.ref l2]):=upd_same
 generalize upd H3 L (.lst [V.ref l1,V.ref l2])=H4 at S4 g14 g24 gL4 ⊢
 refine ⟨_,rfl,.inl ⟨rfl,_,SqL.of gL4⟩,_,rfl,_,rfl,_,_,rfl,rfl,hb.mulOk hd,_,rfl,_,rfl,_,_,rfl,rfl,ha.mulOk hc,_,_,rfl,rfl,_,_,rfl,rfl,two1.mulOk ((hb.mul hd).sub (ha.mul hc)),_,rfl,_,rfl,_,_,rfl,rfl,hc.mulOk hd,_,rfl,_,rfl,_,_,rfl,rfl,ha.mulOk hb,_,_,rfl,rfl,_,_,rfl,rfl,two1.mulOk ((hc.mul hd).add (ha.mul hb)),_,rfl,_,rfl,_,_,rfl,rfl,ha.mulOk ha,_,rfl,_,rfl,_,_,rfl,rfl,hb.mulOk hb,_,_,rfl,rfl,_,rfl,_,rfl,_,_,rfl,rfl,hc.mulOk hc,_,_,rfl,rfl,_,rfl,_,rfl,_,_,rfl,rfl,hd.mulOk hd,_,_,rfl,rfl,(by show 3<=sizeLine;decide),fun l3 e3=>?_⟩
 have s5:=Same.new e3 (.lst ((rw3 a b c d).map V.int))
 have n3:l3 ≠ L:=fun z=>by subst z;rw [gL4] at e3;cases e3
 refine ⟨L,[V.ref l1,V.ref l2],V.ref l3,rfl,rfl,s5 _ _ gL4,(by show 2 < sizeLine;decide),?_⟩
 have S6:Same H (upd (upd H4 l3 (.lst ((rw3 a b c d).map V.int))) L (.lst [V.ref l1,V.ref l2,V.ref l3])):=(S4.trans s5).snoc HL
 have k1:upd (upd H4 l3 (.lst ((rw3 a b c d).map V.int))) L (.lst [V.ref l1,V.ref l2,V.ref l3]) l1=some (.lst ((rw1 a b c d).map V.int)):=by rw [upd_ne n1];exact s5 _ _ g14
 have k2:upd (upd H4 l3 (.lst ((rw3 a b c d).map V.int))) L (.lst [V.ref l1,V.ref l2,V.ref l3]) l2=some (.lst ((rw2 a b c d).map V.int)):=by rw [upd_ne n2];exact s5 _ _ g24
 have k3:upd (upd H4 l3 (.lst ((rw3 a b c d).map V.int))) L (.lst [V.ref l1,V.ref l2,V.ref l3]) l3=some (.lst ((rw3 a b c d).map V.int)):=by rw [upd_ne n3];exact upd_same
 have kL:upd (upd H4 l3 (.lst ((rw3 a b c d).map V.int))) L (.lst [V.ref l1,V.ref l2,V.ref l3]) L=some (.lst [V.ref l1,V.ref l2,V.ref l3]):=upd_same
 dsimp only
 show tRet _ _ [some (.ref x),some (.int a),some (.int b),some (.int c),some (.int d),some (.int (a * a + b * b + c * c + d * d)),some (.ref L)] (upd (upd H4 l3 (.lst ((rw3 a b c d).map V.int))) L (.lst [V.ref l1,V.ref l2,V.ref l3]))
 generalize upd (upd H4 l3 (.lst ((rw3 a b c d).map V.int))) L (.lst [V.ref l1,V.ref l2,V.ref l3])=H6 at S6 k1 k2 k3 kL ⊢
 clear g1 g2 g12 g14 g24 gL gL3 gL4
 have g1:=k1
 have g2:=k2
 have g3:=k3
 refine ⟨_,rfl,L,rfl,⟨_,SqL.of kL⟩,?_⟩
 refine comp_pos (src_lst (SqL.of (K:=K) kL)) (show 3<=sizeLine by decide) (fun i v H'=>∃ p,v = .ref p/\match i with | 0=>Pt H' p (fr (a * a + b * b - c * c - d * d) (nrm [a,b,c,d])) (fr (2 * (b * c - a * d)) (nrm [a,b,c,d])) (fr (2 * (b * d + a * c)) (nrm [a,b,c,d])) | 1=>Pt H' p (fr (2 * (b * c + a * d)) (nrm [a,b,c,d])) (fr (a * a - b * b + c * c - d * d) (nrm [a,b,c,d])) (fr (2 * (c * d - a * b)) (nrm [a,b,c,d])) | _=>Pt H' p (fr (2 * (b * d - a * c)) (nrm [a,b,c,d])) (fr (2 * (c * d + a * b)) (nrm [a,b,c,d])) (fr (a * a - b * b - c * c + d * d) (nrm [a,b,c,d]))) (fun i v H H' nl h=>?_) (fun i x hx H' s R k=>?_) fun D H7 ys s7 hD _ hl hp=>?_
 ·obtain ⟨p,e,h⟩:=h
  refine ⟨p,e,?_⟩
  match i,h with
  | 0,h=>exact h.nl nl
  | 1,h=>exact h.nl nl
  | _ + 2,h=>exact h.nl nl
 ·rcases get3 hx with ⟨rfl,rfl⟩ | ⟨rfl,rfl⟩ | ⟨rfl,rfl⟩
  ·refine ⟨_,rfl,l1,rfl,⟨_,SqL.of (s _ _ g1)⟩,?_⟩
   refine comp3T (n1:=(fr (a * a + b * b - c * c - d * d) (nrm [a,b,c,d])).map V.int) (n2:=(fr (2 * (b * c - a * d)) (nrm [a,b,c,d])).map V.int) (n3:=(fr (2 * (b * d + a * c)) (nrm [a,b,c,d])).map V.int) (src_lst (xs:=[.int (a * a + b * b - c * c - d * d),.int (2 * (b * c - a * d)),.int (2 * (b * d + a * c))]) (SqL.of (K:=K) (s _ _ g1))) (fun H' s R k=>?_) (fun H' s R k=>?_) (fun H' s R k=>?_) fun D H6 p1 p2 p3 s6 hD _ h1 h2 h3=>?_
   ·exact ⟨_,rfl,_,rfl,a * a + b * b - c * c - d * d,nrm [a,b,c,d],rfl,np,(nrm_bt hB).up (by decide),fun r H5 s5 h5=>k r H5 s5 h5⟩
   ·exact ⟨_,rfl,_,rfl,2 * (b * c - a * d),nrm [a,b,c,d],rfl,np,(nrm_bt hB).up (by decide),fun r H5 s5 h5=>k r H5 s5 h5⟩
   ·exact ⟨_,rfl,_,rfl,2 * (b * d + a * c),nrm [a,b,c,d],rfl,np,(nrm_bt hB).up (by decide),fun r H5 s5 h5=>k r H5 s5 h5⟩
   refine ⟨D,_,rfl,.inl ⟨SqL.of hD,fun u hu=>?_⟩⟩
   have s7:=Same.new hu (.tup [.ref p1,.ref p2,.ref p3])
   exact k _ _ (s6.trans s7) ⟨u,rfl,⟨p1,p2,p3,upd_same,s7 _ _ h1,s7 _ _ h2,s7 _ _ h3⟩⟩
  ·refine ⟨_,rfl,l2,rfl,⟨_,SqL.of (s _ _ g2)⟩,?_⟩
   refine comp3T (n1:=(fr (2 * (b * c + a * d)) (nrm [a,b,c,d])).map V.int) (n2:=(fr (a * a - b * b + c * c - d * d) (nrm [a,b,c,d])).map V.int) (n3:=(fr (2 * (c * d - a * b)) (nrm [a,b,c,d])).map V.int) (src_lst (xs:=[.int (2 * (b * c + a * d)),.int (a * a - b * b + c * c - d * d),.int (2 * (c * d - a * b))]) (SqL.of (K:=K) (s _ _ g2))) (fun H' s R k=>?_) (fun H' s R k=>?_) (fun H' s R k=>?_) fun D H6 p1 p2 p3 s6 hD _ h1 h2 h3=>?_
   ·exact ⟨_,rfl,_,rfl,2 * (b * c + a * d),nrm [a,b,c,d],rfl,np,(nrm_bt hB).up (by decide),fun r H5 s5 h5=>k r H5 s5 h5⟩
   ·exact ⟨_,rfl,_,rfl,a * a - b * b + c * c - d * d,nrm [a,b,c,d],rfl,np,(nrm_bt hB).up (by decide),fun r H5 s5 h5=>k r H5 s5 h5⟩
   ·exact ⟨_,rfl,_,rfl,2 * (c * d - a * b),nrm [a,b,c,d],rfl,np,(nrm_bt hB).up (by decide),fun r H5 s5 h5=>k r H5 s5 h5⟩
   refine ⟨D,_,rfl,.inl ⟨SqL.of hD,fun u hu=>?_⟩⟩
   have s7:=Same.new hu (.tup [.ref p1,.ref p2,.ref p3])
   exact k _ _ (s6.trans s7) ⟨u,rfl,⟨p1,p2,p3,upd_same,s7 _ _ h1,s7 _ _ h2,s7 _ _ h3⟩⟩
  ·refine ⟨_,rfl,l3,rfl,⟨_,SqL.of (s _ _ g3)⟩,?_⟩
   refine comp3T (n1:=(fr (2 * (b * d - a * c)) (nrm [a,b,c,d])).map V.int) (n2:=(fr (2 * (c * d + a * b)) (nrm [a,b,c,d])).map V.int) (n3:=(fr (a * a - b * b - c * c + d * d) (nrm [a,b,c,d])).map V.int) (src_lst (xs:=[.int (2 * (b * d - a * c)),.int (2 * (c * d + a * b)),.int (a * a - b * b - c * c + d * d)]) (SqL.of (K:=K) (s _ _ g3))) (fun H' s R k=>?_) (fun H' s R k=>?_) (fun H' s R k=>?_) fun D H6 p1 p2 p3 s6 hD _ h1 h2 h3=>?_
   ·exact ⟨_,rfl,_,rfl,2 * (b * d - a * c),nrm [a,b,c,d],rfl,np,(nrm_bt hB).up (by decide),fun r H5 s5 h5=>k r H5 s5 h5⟩
   ·exact ⟨_,rfl,_,rfl,2 * (c * d + a * b),nrm [a,b,c,d],rfl,np,(nrm_bt hB).up (by decide),fun r H5 s5 h5=>k r H5 s5 h5⟩
   ·exact ⟨_,rfl,_,rfl,a * a - b * b - c * c + d * d,nrm [a,b,c,d],rfl,np,(nrm_bt hB).up (by decide),fun r H5 s5 h5=>k r H5 s5 h5⟩
   refine ⟨D,_,rfl,.inl ⟨SqL.of hD,fun u hu=>?_⟩⟩
   have s7:=Same.new hu (.tup [.ref p1,.ref p2,.ref p3])
   exact k _ _ (s6.trans s7) ⟨u,rfl,⟨p1,p2,p3,upd_same,s7 _ _ h1,s7 _ _ h2,s7 _ _ h3⟩⟩
 ·obtain ⟨y1,y2,y3,rfl⟩:=three_of hl
  obtain ⟨p1,rfl,h1⟩:=hp 0 y1 rfl
  obtain ⟨p2,rfl,h2⟩:=hp 1 y2 rfl
  obtain ⟨p3,rfl,h3⟩:=hp 2 y3 rfl
  refine ⟨D,_,rfl,.inl ⟨SqL.of hD,fun u hu=>?_⟩⟩
  have s4:=Same.new hu (.tup [.ref p1,.ref p2,.ref p3])
  exact q u _ (S6.trans (s7.trans s4)) ⟨p1,p2,p3,upd_same,Pt.same h1 s4,Pt.same h2 s4,Pt.same h3 s4⟩
theorem scDotv:FnScope ["_law_row","_law_other","_law_top","_law_bottom","_law_one","_law_two"] ["_law_row","_law_other"] (defScope sDotv):=⟨rfl,rfl,rfl,by decide +kernel,rfl,by decide +kernel,by decide +kernel⟩
theorem ok_dotv (F:Fun K "_law_dot" "_law_dot" sDotv f fd)
  (G:FnOk P w K mg base CX0 2 g gd ["_law_top","_law_bottom"] (spMade K)) (bG:Binds K gd ["_law_top","_law_bottom"] []) (kG:PySem.W.keepIn K (.ref g)=true) (mG:mg "_law_lowest" = some (.ref g)) (m_zip:mg "zip" = none) :
  FnOk P w K mg base CX0 3 f fd ["_law_row","_law_other"] (spP K RDv):=by
 refine okP F scDotv (fun ds d h=>?_) (fun cdv A0 outer s0 H0 E0 hr=>?_)
 ·obtain ⟨x,y,z,u,v,w,rfl,_⟩ | ⟨x,y,u,v,rfl,_⟩:=h <;> rfl
 have r:=hr.mono (show 2<=2 by decide)
 refine ⟨_,(zss_cons (zs_set (i:=2) scDotv.nd rfl (Or.inl rfl) ze_int)
  (zss_cons (zs_set (i:=3) scDotv.nd rfl (Or.inl rfl) ze_int)
  (zss_cons (zs_for PassesOwn.never rfl (zi_or (zi_zip rfl m_zip (za_n (zv 0) (za_n (zv 1) za_nil))) (zi_zipG true true rfl m_zip (za_n (zv 0) (za_n (zv 1) za_nil)))) (zg_tup rfl (zgs_cons (zg_name (i:=4) scDotv.nd rfl (Or.inl rfl)) (zgs_cons (zg_name (i:=5) scDotv.nd rfl (Or.inl rfl)) zgs_nil))) (zss_cons (zs_set (i:=2) scDotv.nd rfl (Or.inl rfl) (ze_op op_add (ze_op op_mulB (ze_op op_mulB (zv 2) (ze_ix ix_tup (zv 4) ze_int (fun _ _=>rfl))) (ze_ix ix_tup (zv 5) ze_int (fun _ _=>rfl))) (ze_op op_mulB (ze_op op_mulB (ze_ix ix_tup (zv 4) ze_int (fun _ _=>rfl)) (ze_ix ix_tup (zv 5) ze_int (fun _ _=>rfl))) (zv 3))))
  (zss_one (zs_set (i:=3) scDotv.nd rfl (Or.inl rfl) (ze_op op_mulB (ze_op op_mulB (zv 3) (ze_ix ix_tup (zv 4) ze_int (fun _ _=>rfl))) (ze_ix ix_tup (zv 5) ze_int (fun _ _=>rfl)))))))
  (zss_one (zs_ret (ze_call G r rfl mG kG bG .nil pass0 (za_n (zv 2) (za_n (zv 3) za_nil)))))))),fun ds d h=>?_⟩
 obtain ⟨x,y,z,u,v,w,rfl,l1,l2,l3,g1,g2,g3,rfl⟩ | ⟨x,y,u,v,rfl,l1,l2,g1,g2,rfl⟩:=h
 ·skip
  have n1:=l1.bt
  have m1:=l1.bb
  have n4:=g1.bt
  have m4:=g1.bb
  have n2:=l2.bt
  have m2:=l2.bb
  have n5:=g2.bt
  have m5:=g2.bb
  have n3:=l3.bt
  have m3:=l3.bb
  have n6:=g3.bt
  have m6:=g3.bb
  obtain ⟨T1,hT1⟩:∃ T1,T1=0 * (x.den:Int) * (u.den:Int) + x.num * u.num * 1:=⟨_,rfl⟩
  obtain ⟨B1,hB1⟩:∃ B1,B1=1 * (x.den:Int) * (u.den:Int):=⟨_,rfl⟩
  obtain ⟨T2,hT2⟩:∃ T2,T2=T1 * (y.den:Int) * (v.den:Int) + y.num * v.num * B1:=⟨_,rfl⟩
  obtain ⟨B2,hB2⟩:∃ B2,B2=B1 * (y.den:Int) * (v.den:Int):=⟨_,rfl⟩
  obtain ⟨T3,hT3⟩:∃ T3,T3=T2 * (z.den:Int) * (w.den:Int) + z.num * w.num * B2:=⟨_,rfl⟩
  obtain ⟨B3,hB3⟩:∃ B3,B3=B2 * (z.den:Int) * (w.den:Int):=⟨_,rfl⟩
  have z0':Bt (0:Int) 1:=by unfold Bt;decide
  have z1':Bt (1:Int) 1:=by unfold Bt;decide
  have bT1:Bt T1 1910:=by rw [hT1];exact Bt.up (x:=_) (by walk_at "bt") (by decide)
  have bB1:Bt B1 1902:=by rw [hB1];exact Bt.up (x:=_) (by walk_at "bt") (by decide)
  have bT2:Bt T2 3815:=by rw [hT2];exact Bt.up (x:=_) (by walk_at "bt") (by decide)
  have bB2:Bt B2 3803:=by rw [hB2];exact Bt.up (x:=_) (by walk_at "bt") (by decide)
  have bT3:Bt T3 5720:=by rw [hT3];exact Bt.up (x:=_) (by walk_at "bt") (by decide)
  have bB3:Bt B3 5704:=by rw [hB3];exact Bt.up (x:=_) (by walk_at "bt") (by decide)
  have pB:0 < B3:=by rw [hB3,hB2,hB1];exact (Int.mul_pos (Int.mul_pos (Int.mul_pos (Int.mul_pos (Int.mul_pos (Int.mul_pos (by decide) l1.pos) g1.pos) l2.pos) g2.pos) l3.pos) g3.pos)
  have hq:qv T3 B3=x * u + y * v + z * w:=by
   rw [hT3,hB3,hT2,hB2,hT1,hB1]
   exact qv_pr (by have:=l1.pos;omega) (by have:=l2.pos;omega) (by have:=l3.pos;omega) (by have:=g1.pos;omega) (by have:=g2.pos;omega) (by have:=g3.pos;omega) l1.val l2.val l3.val g1.val g2.val g3.val
  refine S.let1 (s:=.dat (.int 0)) E1.int ?_
  refine S.let1 (s:=.dat (.int 1)) E1.int ?_
  refine S.seq (M:=fun τ'=>∃ o o2:Sl,τ'=[.dat (.tuple [tI (qf x),tI (qf y),tI (qf z)]),.dat (.tuple [tI (qf u),tI (qf v),tI (qf w)]),.dat (.int T3),.dat (.int B3),o,o2]) ?_ fun τ' ⟨o,o2,eτ⟩=>?_
  ·refine S.for (ds:=zipD [tI (qf x),tI (qf y),tI (qf z)] [tI (qf u),tI (qf v),tI (qf w)]) (Wk.orL (Wk.zip (A1.cons (E1.var rfl) (A1.cons (E1.var rfl) A1.nil)) rfl)) (fun i τ'=>∃ o o2:Sl,τ'=[.dat (.tuple [tI (qf x),tI (qf y),tI (qf z)]),.dat (.tuple [tI (qf u),tI (qf v),tI (qf w)]),.dat (.int ([0,T1,T2,T3].getD i 0)),.dat (.int ([1,B1,B2,B3].getD i 0)),o,o2]) ⟨_,_,rfl⟩ (fun i d τ1 hd ⟨o,o2,e1⟩=>?_) (fun τ1 h=>h)
   subst e1
   rcases get3 hd with ⟨rfl,rfl⟩ | ⟨rfl,rfl⟩ | ⟨rfl,rfl⟩
   ·refine ⟨_,Gd.pair,?_⟩
    refine S.let1 (s:=.dat (.int T1)) (by rw [hT1];(walk_at "au3")) ?_
    exact S.asg1 (s:=.dat (.int B1)) (by rw [hB1];(walk_at "au3")) ⟨_,_,rfl⟩
   ·refine ⟨_,Gd.pair,?_⟩
    refine S.let1 (s:=.dat (.int T2)) (by rw [hT2];(walk_at "au3")) ?_
    exact S.asg1 (s:=.dat (.int B2)) (by rw [hB2];(walk_at "au3")) ⟨_,_,rfl⟩
   ·refine ⟨_,Gd.pair,?_⟩
    refine S.let1 (s:=.dat (.int T3)) (by rw [hT3];(walk_at "au3")) ?_
    exact S.asg1 (s:=.dat (.int B3)) (by rw [hB3];(walk_at "au3")) ⟨_,_,rfl⟩
  subst eτ
  exact S.ret1 (s:=.dat (tI (qf (x * u + y * v + z * w)))) (E1.to (E1.cMade (t:=T3) (b:=B3) (by (walk_at "au3")) pB (bB3.up (by decide))) (by rw [fr_qf pB,hq])) ⟨rfl,noLs_ints _⟩
 ·skip
  have n1:=l1.bt
  have m1:=l1.bb
  have n4:=g1.bt
  have m4:=g1.bb
  have n2:=l2.bt
  have m2:=l2.bb
  have n5:=g2.bt
  have m5:=g2.bb
  obtain ⟨T1,hT1⟩:∃ T1,T1=0 * (x.den:Int) * (u.den:Int) + x.num * u.num * 1:=⟨_,rfl⟩
  obtain ⟨B1,hB1⟩:∃ B1,B1=1 * (x.den:Int) * (u.den:Int):=⟨_,rfl⟩
  obtain ⟨T2,hT2⟩:∃ T2,T2=T1 * (y.den:Int) * (v.den:Int) + y.num * v.num * B1:=⟨_,rfl⟩
  obtain ⟨B2,hB2⟩:∃ B2,B2=B1 * (y.den:Int) * (v.den:Int):=⟨_,rfl⟩
  have z0':Bt (0:Int) 1:=by unfold Bt;decide
  have z1':Bt (1:Int) 1:=by unfold Bt;decide
  have bT1:Bt T1 1910:=by rw [hT1];exact Bt.up (x:=_) (by walk_at "bt") (by decide)
  have bB1:Bt B1 1902:=by rw [hB1];exact Bt.up (x:=_) (by walk_at "bt") (by decide)
  have bT2:Bt T2 3815:=by rw [hT2];exact Bt.up (x:=_) (by walk_at "bt") (by decide)
  have bB2:Bt B2 3803:=by rw [hB2];exact Bt.up (x:=_) (by walk_at "bt") (by decide)
  have pB:0 < B2:=by rw [hB2,hB1];exact (Int.mul_pos (Int.mul_pos (Int.mul_pos (Int.mul_pos (by decide) l1.pos) g1.pos) l2.pos) g2.pos)
  have hq:qv T2 B2=x * u + y * v:=by
   rw [hT2,hB2,hT1,hB1]
   exact qv_pr2 (by have:=l1.pos;omega) (by have:=l2.pos;omega) (by have:=g1.pos;omega) (by have:=g2.pos;omega) l1.val l2.val g1.val g2.val
  refine S.let1 (s:=.dat (.int 0)) E1.int ?_
  refine S.let1 (s:=.dat (.int 1)) E1.int ?_
  refine S.seq (M:=fun τ'=>∃ o o2:Sl,τ'=[.dat (.list [tI (qf x),tI (qf y)]),.dat (.list [tI (qf u),tI (qf v)]),.dat (.int T2),.dat (.int B2),o,o2]) ?_ fun τ' ⟨o,o2,eτ⟩=>?_
  ·refine S.for (ds:=zipD [tI (qf x),tI (qf y)] [tI (qf u),tI (qf v)]) (Wk.orR (Wk.zipLL (A1.cons (E1.var rfl) (A1.cons (E1.var rfl) A1.nil)) rfl)) (fun i τ'=>∃ o o2:Sl,τ'=[.dat (.list [tI (qf x),tI (qf y)]),.dat (.list [tI (qf u),tI (qf v)]),.dat (.int ([0,T1,T2].getD i 0)),.dat (.int ([1,B1,B2].getD i 0)),o,o2]) ⟨_,_,rfl⟩ (fun i d τ1 hd ⟨o,o2,e1⟩=>?_) (fun τ1 h=>h)
   subst e1
   rcases get2' hd with ⟨rfl,rfl⟩ | ⟨rfl,rfl⟩
   ·refine ⟨_,Gd.pair,?_⟩
    refine S.let1 (s:=.dat (.int T1)) (by rw [hT1];(walk_at "au3")) ?_
    exact S.asg1 (s:=.dat (.int B1)) (by rw [hB1];(walk_at "au3")) ⟨_,_,rfl⟩
   ·refine ⟨_,Gd.pair,?_⟩
    refine S.let1 (s:=.dat (.int T2)) (by rw [hT2];(walk_at "au3")) ?_
    exact S.asg1 (s:=.dat (.int B2)) (by rw [hB2];(walk_at "au3")) ⟨_,_,rfl⟩
  subst eτ
  exact S.ret1 (s:=.dat (tI (qf (x * u + y * v)))) (E1.to (E1.cMade (t:=T2) (b:=B2) (by (walk_at "au3")) pB (bB2.up (by decide))) (by rw [fr_qf pB,hq])) ⟨rfl,noLs_ints _⟩
theorem scCrossv:FnScope ["_law_row","_law_other","_law_found","_law_k","_law_at","_law_far","_law_changed"] ["_law_row","_law_other"] (defScope sCrossv):=⟨rfl,rfl,rfl,by decide +kernel,rfl,by decide +kernel,by decide +kernel⟩
theorem ok_crossv (F:Fun K "_law_cross" "_law_cross" sCrossv f fd)
  (G:FnOk P w K mg base CX0 3 g gd ["_law_row","_law_other"] (spP K RDv)) (bG:Binds K gd ["_law_row","_law_other"] []) (kG:PySem.W.keepIn K (.ref g)=true) (mG:mg "_law_dot" = some (.ref g)) (m_range:mg "range" = none) (m_tuple:mg "tuple" = none) :
  FnOk P w K mg base CX0 4 f fd ["_law_row","_law_other"] (spP K RCv):=by
 refine okP F scCrossv (fun ds d h=>?_) (fun cdv A0 outer s0 H0 E0 hr=>?_)
 ·obtain ⟨x,y,z,u,v,w,rfl,_⟩:=h;rfl
 have r:=hr.mono (show 3<=3 by decide)
 refine ⟨_,(zss_cons (zs_set (i:=2) scCrossv.nd rfl (Or.inl rfl) (ze_lst za_nil))
  (zss_cons (zs_for PassesOwn.never rfl (zi_range1 rfl m_range (za_i za_nil)) (zg_name (i:=3) scCrossv.nd rfl (Or.inl rfl)) (zss_cons (zs_set (i:=4) scCrossv.nd rfl (Or.inl rfl) (ze_op op_mod (ze_op op_add (zv 3) ze_int) ze_int))
  (zss_cons (zs_set (i:=5) scCrossv.nd rfl (Or.inl rfl) (ze_op op_mod (ze_op op_add (zv 3) ze_int) ze_int))
  (zss_cons (zs_set (i:=6) scCrossv.nd rfl (Or.inl rfl) (ze_tup (za_u (ze_un un_neg (ze_ix ix_tup (ze_ix ix_tup (zv 1) (zv 4) (fun _ _=>rfl)) ze_int (fun _ _=>rfl))) (za_s (ze_ix ix_tup (ze_ix ix_tup (zv 1) (zv 4) (fun _ _=>rfl)) ze_int (fun _ _=>rfl)) za_nil))))
  (zss_one (zs_expr (ze_append (zv 2) (ze_call G r rfl mG kG bG .nil pass0 (za_l (ze_lst (za_s (ze_ix ix_tup (zv 0) (zv 4) (fun _ _=>rfl)) (za_s (ze_ix ix_tup (zv 0) (zv 5) (fun _ _=>rfl)) za_nil))) (za_l (ze_lst (za_s (ze_ix ix_tup (zv 1) (zv 5) (fun _ _=>rfl)) (za_n (zv 6) za_nil))) za_nil))))))))))
  (zss_one (zs_ret (ze_callTy call_tuple_of rfl m_tuple (by rfl) (za_n (zv 2) za_nil)))))),fun ds d h=>?_⟩
 obtain ⟨x,y,z,u,v,w,rfl,l1,l2,l3,g1,g2,g3,rfl⟩:=h
 refine S.letO (ds:=[]) (E1.li A1.nil rfl (lsz (n:=0) rfl z0)) rfl ?_
 refine S.seq (M:=fun τ'=>∃ o1 o2 o3 o4:Sl,τ'=[.dat (ptQ x y z),.dat (ptQ u v w),.own [tI (qf (y * w + z * -v)),tI (qf (z * u + x * -w)),tI (qf (x * v + y * -u))],o1,o2,o3,o4]) ?_ fun τ' ⟨o1,o2,o3,o4,eτ⟩=>?_
 ·refine S.for (Wk.r3 (A1.cons E1.int A1.nil)) (fun i τ'=>∃ o1 o2 o3 o4:Sl,τ'=[.dat (ptQ x y z),.dat (ptQ u v w),.own ([tI (qf (y * w + z * -v)),tI (qf (z * u + x * -w)),tI (qf (x * v + y * -u))].take i),o1,o2,o3,o4]) ⟨_,_,_,_,rfl⟩ (fun i d τ1 hd ⟨o1,o2,o3,o4,e1⟩=>?_) (fun τ1 h=>h)
  subst e1
  rcases get3 hd with ⟨rfl,rfl⟩ | ⟨rfl,rfl⟩ | ⟨rfl,rfl⟩
  ·refine ⟨_,Gd.name,?_⟩
   refine S.let1 (s:=.dat (.int 1)) (E1.to (E1.mod (i:=0 + 1) (j:=3) (E1.add (E1.var rfl) E1.int) E1.int (by decide)) rfl) ?_
   refine S.let1 (s:=.dat (.int 2)) (E1.to (E1.mod (i:=0 + 2) (j:=3) (E1.add (E1.var rfl) E1.int) E1.int (by decide)) rfl) ?_
   refine S.let1 (s:=.dat (tI (qf (-v)))) (E1.to (s:=.dat (tI [-v.num,(v.den:Int)])) (E1.tu (A1.cons (E1.neg (E1.ixT (E1.ixT (E1.var rfl) (E1.var rfl) rfl) E1.int rfl)) (A1.cons (E1.ixT (E1.ixT (E1.var rfl) (E1.var rfl) rfl) E1.int rfl) A1.nil)) rfl (lsz (n:=2) rfl z2)) (by rw [qf_neg'])) ?_
   exact S.append1 (i:=2) (d:=tI (qf (y * w + z * -v))) rfl (E1.call (R:=RDv) (ds:=[.list [tI (qf y),tI (qf z)],.list [tI (qf w),tI (qf (-v))]]) (A1.cons (E1.li (ds:=[tI (qf y),tI (qf z)]) (A1.cons (E1.ixT (E1.var rfl) (E1.var rfl) rfl) (A1.cons (E1.ixT (E1.var rfl) (E1.var rfl) rfl) A1.nil)) rfl (lsz (n:=2) rfl z2)) (A1.cons (E1.li (ds:=[tI (qf w),tI (qf (-v))]) (A1.cons (E1.ixT (E1.var rfl) (E1.var rfl) rfl) (A1.cons (E1.var rfl) A1.nil)) rfl (lsz (n:=2) rfl z2)) A1.nil)) (.inr ⟨y,z,w,(-v),rfl,l2,l3,g3,g2.negq,rfl⟩)) rfl (Nat.lt_of_lt_of_le (show 0 < 3 by decide) z3) ⟨_,_,_,_,rfl⟩
  ·refine ⟨_,Gd.name,?_⟩
   refine S.let1 (s:=.dat (.int 2)) (E1.to (E1.mod (i:=1 + 1) (j:=3) (E1.add (E1.var rfl) E1.int) E1.int (by decide)) rfl) ?_
   refine S.let1 (s:=.dat (.int 0)) (E1.to (E1.mod (i:=1 + 2) (j:=3) (E1.add (E1.var rfl) E1.int) E1.int (by decide)) rfl) ?_
   refine S.let1 (s:=.dat (tI (qf (-w)))) (E1.to (s:=.dat (tI [-w.num,(w.den:Int)])) (E1.tu (A1.cons (E1.neg (E1.ixT (E1.ixT (E1.var rfl) (E1.var rfl) rfl) E1.int rfl)) (A1.cons (E1.ixT (E1.ixT (E1.var rfl) (E1.var rfl) rfl) E1.int rfl) A1.nil)) rfl (lsz (n:=2) rfl z2)) (by rw [qf_neg'])) ?_
   exact S.append1 (i:=2) (d:=tI (qf (z * u + x * -w))) rfl (E1.call (R:=RDv) (ds:=[.list [tI (qf z),tI (qf x)],.list [tI (qf u),tI (qf (-w))]]) (A1.cons (E1.li (ds:=[tI (qf z),tI (qf x)]) (A1.cons (E1.ixT (E1.var rfl) (E1.var rfl) rfl) (A1.cons (E1.ixT (E1.var rfl) (E1.var rfl) rfl) A1.nil)) rfl (lsz (n:=2) rfl z2)) (A1.cons (E1.li (ds:=[tI (qf u),tI (qf (-w))]) (A1.cons (E1.ixT (E1.var rfl) (E1.var rfl) rfl) (A1.cons (E1.var rfl) A1.nil)) rfl (lsz (n:=2) rfl z2)) A1.nil)) (.inr ⟨z,x,u,(-w),rfl,l3,l1,g1,g3.negq,rfl⟩)) rfl (Nat.lt_of_lt_of_le (show 1 < 3 by decide) z3) ⟨_,_,_,_,rfl⟩
  ·refine ⟨_,Gd.name,?_⟩
   refine S.let1 (s:=.dat (.int 0)) (E1.to (E1.mod (i:=2 + 1) (j:=3) (E1.add (E1.var rfl) E1.int) E1.int (by decide)) rfl) ?_
   refine S.let1 (s:=.dat (.int 1)) (E1.to (E1.mod (i:=2 + 2) (j:=3) (E1.add (E1.var rfl) E1.int) E1.int (by decide)) rfl) ?_
   refine S.let1 (s:=.dat (tI (qf (-u)))) (E1.to (s:=.dat (tI [-u.num,(u.den:Int)])) (E1.tu (A1.cons (E1.neg (E1.ixT (E1.ixT (E1.var rfl) (E1.var rfl) rfl) E1.int rfl)) (A1.cons (E1.ixT (E1.ixT (E1.var rfl) (E1.var rfl) rfl) E1.int rfl) A1.nil)) rfl (lsz (n:=2) rfl z2)) (by rw [qf_neg'])) ?_
   exact S.append1 (i:=2) (d:=tI (qf (x * v + y * -u))) rfl (E1.call (R:=RDv) (ds:=[.list [tI (qf x),tI (qf y)],.list [tI (qf v),tI (qf (-u))]]) (A1.cons (E1.li (ds:=[tI (qf x),tI (qf y)]) (A1.cons (E1.ixT (E1.var rfl) (E1.var rfl) rfl) (A1.cons (E1.ixT (E1.var rfl) (E1.var rfl) rfl) A1.nil)) rfl (lsz (n:=2) rfl z2)) (A1.cons (E1.li (ds:=[tI (qf v),tI (qf (-u))]) (A1.cons (E1.ixT (E1.var rfl) (E1.var rfl) rfl) (A1.cons (E1.var rfl) A1.nil)) rfl (lsz (n:=2) rfl z2)) A1.nil)) (.inr ⟨x,y,v,(-u),rfl,l1,l2,g2,g1.negq,rfl⟩)) rfl (Nat.lt_of_lt_of_le (show 2 < 3 by decide) z3) ⟨_,_,_,_,rfl⟩
 subst eτ
 exact S.ret1 (s:=.dat (ptQ (y * w + z * -v) (z * u + x * -w) (x * v + y * -u))) (E1.tupleL (A1.cons (E1.varO rfl) A1.nil)) ⟨rfl,rfl⟩
theorem scIsOfV:FnScope ["_law_table_here","_law_k","_law_j"] ["_law_table_here"] (defScope sIsOfV):=⟨rfl,rfl,rfl,by decide +kernel,rfl,by decide +kernel,by decide +kernel⟩
theorem ok_isofv (F:Fun K "_law_is_of_turn" "_law_is_of_turn" sIsOfV f fd)
  (G:FnOk P w K mg base CX0 3 g gd ["_law_row","_law_other"] (spP K RDv)) (bG:Binds K gd ["_law_row","_law_other"] []) (kG:PySem.W.keepIn K (.ref g)=true) (mG:mg "_law_dot" = some (.ref g))
  (G2:FnOk P w K mg base CX0 4 g2 gd2 ["_law_row","_law_other"] (spP K RCv)) (bG2:Binds K gd2 ["_law_row","_law_other"] []) (kG2:PySem.W.keepIn K (.ref g2)=true) (mG2:mg "_law_cross" = some (.ref g2)) (m_range:mg "range" = none) (m_int:mg "int" = none) :
  FnOk P w K mg base CX0 5 f fd ["_law_table_here"] (spP K RIsTurnV):=by
 refine okP F scIsOfV (fun ds d h=>?_) (fun cdv A0 outer s0 H0 E0 hr=>?_)
 ·obtain ⟨a,b,d,v,rfl,_⟩:=h;rfl
 have r:=hr.mono (show 3<=4 by decide)
 have r2:=hr.mono (show 4<=4 by decide)
 refine ⟨_,(zss_cons (zs_for PassesOwn.never rfl (zi_range1 rfl m_range (za_i za_nil)) (zg_name (i:=1) scIsOfV.nd rfl (Or.inl rfl)) (zss_one (zs_for PassesOwn.never rfl (zi_range1 rfl m_range (za_i za_nil)) (zg_name (i:=2) scIsOfV.nd rfl (Or.inl rfl)) (zss_one (zs_if (zt_cmpR (op_neD hr.units) (ze_call G r rfl mG kG bG .nil pass0 (za_s (ze_ix ix_tup (zv 0) (zv 1) (fun _ _=>rfl)) (za_s (ze_ix ix_tup (zv 0) (zv 2) (fun _ _=>rfl)) za_nil))) (ze_tup (za_c (ze_callTy call_int1 rfl m_int (by rfl) (za_cons (ze_cmpR op_eq (zv 1) (zv 2) (nomark _)) za_nil)) (za_i za_nil))) (nomark _)) (zss_one (zs_ret ze_bl)) zss_nil)))))
  (zss_one (zs_ret (ze_cmpR (op_eqD hr.units) (ze_call G2 r2 rfl mG2 kG2 bG2 .nil pass0 (za_s (ze_ix ix_tup (zv 0) ze_int (fun _ _=>rfl)) (za_s (ze_ix ix_tup (zv 0) ze_int (fun _ _=>rfl)) za_nil))) (ze_ix ix_tup (zv 0) ze_int (fun _ _=>rfl)) (nomark _))))),fun ds d h=>?_⟩
 obtain ⟨a,b,d,v,rfl,ht,hv,rfl⟩:=h
 obtain ⟨la,lb,ld⟩:=ht.lv (by decide)
 have fal:¬ SO a b d->v=false:=fun h=>by
  cases v with
  | false=>rfl
  | true=>exact absurd (hv.mp rfl) h
 refine S.seq (M:=fun τ'=>((a.dot a=1/\a.dot b=0/\a.dot d=0)/\(b.dot a=0/\b.dot b=1/\b.dot d=0)/\(d.dot a=0/\d.dot b=0/\d.dot d=1))/\∃ o1 o2:Sl,τ'=[.dat (tbD a b d),o1,o2]) ?_ fun τ' ⟨hF,o1,o2,eτ⟩=>?_
 ·refine S.for (Wk.r3 (A1.cons E1.int A1.nil)) (fun k τ'=>tw (a.dot a=1/\a.dot b=0/\a.dot d=0) (b.dot a=0/\b.dot b=1/\b.dot d=0) (d.dot a=0/\d.dot b=0/\d.dot d=1) k/\∃ o1 o2:Sl,τ'=[.dat (tbD a b d),o1,o2]) ⟨trivial,_,_,rfl⟩ (fun k dd τ1 hd ⟨hI,o1,o2,e1⟩=>?_) (fun τ1 h=>h)
  subst e1
  rcases get3 hd with ⟨rfl,rfl⟩ | ⟨rfl,rfl⟩ | ⟨rfl,rfl⟩
  ·refine ⟨_,Gd.name rfl,?_⟩
   refine S.for (Wk.r3 (A1.cons E1.int A1.nil)) (fun j τ'=>tw (a.dot a=1) (a.dot b=0) (a.dot d=0) j/\∃ o2:Sl,τ'=[.dat (tbD a b d),.dat (.int 0),o2]) ⟨trivial,_,rfl⟩ (fun j dd τ1 hd ⟨hJ,o2,e1⟩=>?_) (fun τ1 ⟨hJ,o2,e1⟩=>⟨hJ,_,o2,e1⟩)
   subst e1
   rcases get3 hd with ⟨rfl,rfl⟩ | ⟨rfl,rfl⟩ | ⟨rfl,rfl⟩
   ·refine ⟨_,Gd.name rfl,?_⟩
    refine S.if1 (b := !decide (a.dot a=1)) ((T1.test (E1.neD (d:=tI (qf (a.dot a))) (e:=tI (qf 1)) (E1.call (R:=RDv) (ds:=[a.d,a.d]) (A1.cons (E1.ixT (E1.var rfl) (E1.var rfl) rfl) (A1.cons (E1.ixT (E1.var rfl) (E1.var rfl) rfl) A1.nil)) (.inl ⟨_,_,_,_,_,_,rfl,la.1,la.2.1,la.2.2,la.1,la.2.1,la.2.2,rfl⟩)) (E1.to (s:=.dat (tI [1,1])) (E1.tu (A1.cons (E1.to (E1.bi (b:=true) (E1.to (E1.eq (i:=0) (j:=0) (E1.var rfl) (E1.var rfl)) rfl)) rfl) (A1.cons E1.int A1.nil)) rfl (lsz (n:=2) rfl z2)) rfl) rfl rfl kqd_tup kqd_tup)).eqn (by rw [deq_qf])) (fun h=>?_) (fun h=>?_)
    ·have hh:¬ a.dot a=1:=by simpa using h
     rw [fal fun ht=>hh ht.1.1]
     exact S.ret1 (s:=.dat (.bool false)) E1.bl ⟨rfl,rfl⟩
    ·have hh:a.dot a=1:=by simpa using h
     exact S.next ⟨hh,_,rfl⟩
   ·refine ⟨_,Gd.name rfl,?_⟩
    refine S.if1 (b := !decide (a.dot b=0)) ((T1.test (E1.neD (d:=tI (qf (a.dot b))) (e:=tI (qf 0)) (E1.call (R:=RDv) (ds:=[a.d,b.d]) (A1.cons (E1.ixT (E1.var rfl) (E1.var rfl) rfl) (A1.cons (E1.ixT (E1.var rfl) (E1.var rfl) rfl) A1.nil)) (.inl ⟨_,_,_,_,_,_,rfl,la.1,la.2.1,la.2.2,lb.1,lb.2.1,lb.2.2,rfl⟩)) (E1.to (s:=.dat (tI [0,1])) (E1.tu (A1.cons (E1.to (E1.bi (b:=false) (E1.to (E1.eq (i:=0) (j:=1) (E1.var rfl) (E1.var rfl)) rfl)) rfl) (A1.cons E1.int A1.nil)) rfl (lsz (n:=2) rfl z2)) rfl) rfl rfl kqd_tup kqd_tup)).eqn (by rw [deq_qf])) (fun h=>?_) (fun h=>?_)
    ·have hh:¬ a.dot b=0:=by simpa using h
     rw [fal fun ht=>hh ht.1.2.1]
     exact S.ret1 (s:=.dat (.bool false)) E1.bl ⟨rfl,rfl⟩
    ·have hh:a.dot b=0:=by simpa using h
     exact S.next ⟨⟨hJ,hh⟩,_,rfl⟩
   ·refine ⟨_,Gd.name rfl,?_⟩
    refine S.if1 (b := !decide (a.dot d=0)) ((T1.test (E1.neD (d:=tI (qf (a.dot d))) (e:=tI (qf 0)) (E1.call (R:=RDv) (ds:=[a.d,d.d]) (A1.cons (E1.ixT (E1.var rfl) (E1.var rfl) rfl) (A1.cons (E1.ixT (E1.var rfl) (E1.var rfl) rfl) A1.nil)) (.inl ⟨_,_,_,_,_,_,rfl,la.1,la.2.1,la.2.2,ld.1,ld.2.1,ld.2.2,rfl⟩)) (E1.to (s:=.dat (tI [0,1])) (E1.tu (A1.cons (E1.to (E1.bi (b:=false) (E1.to (E1.eq (i:=0) (j:=2) (E1.var rfl) (E1.var rfl)) rfl)) rfl) (A1.cons E1.int A1.nil)) rfl (lsz (n:=2) rfl z2)) rfl) rfl rfl kqd_tup kqd_tup)).eqn (by rw [deq_qf])) (fun h=>?_) (fun h=>?_)
    ·have hh:¬ a.dot d=0:=by simpa using h
     rw [fal fun ht=>hh ht.1.2.2.1]
     exact S.ret1 (s:=.dat (.bool false)) E1.bl ⟨rfl,rfl⟩
    ·have hh:a.dot d=0:=by simpa using h
     exact S.next ⟨⟨hJ.1,hJ.2,hh⟩,_,rfl⟩
  ·refine ⟨_,Gd.name rfl,?_⟩
   refine S.for (Wk.r3 (A1.cons E1.int A1.nil)) (fun j τ'=>tw (b.dot a=0) (b.dot b=1) (b.dot d=0) j/\∃ o2:Sl,τ'=[.dat (tbD a b d),.dat (.int 1),o2]) ⟨trivial,_,rfl⟩ (fun j dd τ1 hd ⟨hJ,o2,e1⟩=>?_) (fun τ1 ⟨hJ,o2,e1⟩=>⟨⟨hI,hJ⟩,_,o2,e1⟩)
   subst e1
   rcases get3 hd with ⟨rfl,rfl⟩ | ⟨rfl,rfl⟩ | ⟨rfl,rfl⟩
   ·refine ⟨_,Gd.name rfl,?_⟩
    refine S.if1 (b := !decide (b.dot a=0)) ((T1.test (E1.neD (d:=tI (qf (b.dot a))) (e:=tI (qf 0)) (E1.call (R:=RDv) (ds:=[b.d,a.d]) (A1.cons (E1.ixT (E1.var rfl) (E1.var rfl) rfl) (A1.cons (E1.ixT (E1.var rfl) (E1.var rfl) rfl) A1.nil)) (.inl ⟨_,_,_,_,_,_,rfl,lb.1,lb.2.1,lb.2.2,la.1,la.2.1,la.2.2,rfl⟩)) (E1.to (s:=.dat (tI [0,1])) (E1.tu (A1.cons (E1.to (E1.bi (b:=false) (E1.to (E1.eq (i:=1) (j:=0) (E1.var rfl) (E1.var rfl)) rfl)) rfl) (A1.cons E1.int A1.nil)) rfl (lsz (n:=2) rfl z2)) rfl) rfl rfl kqd_tup kqd_tup)).eqn (by rw [deq_qf])) (fun h=>?_) (fun h=>?_)
    ·have hh:¬ b.dot a=0:=by simpa using h
     rw [fal fun ht=>hh ht.1.2.2.2.1]
     exact S.ret1 (s:=.dat (.bool false)) E1.bl ⟨rfl,rfl⟩
    ·have hh:b.dot a=0:=by simpa using h
     exact S.next ⟨hh,_,rfl⟩
   ·refine ⟨_,Gd.name rfl,?_⟩
    refine S.if1 (b := !decide (b.dot b=1)) ((T1.test (E1.neD (d:=tI (qf (b.dot b))) (e:=tI (qf 1)) (E1.call (R:=RDv) (ds:=[b.d,b.d]) (A1.cons (E1.ixT (E1.var rfl) (E1.var rfl) rfl) (A1.cons (E1.ixT (E1.var rfl) (E1.var rfl) rfl) A1.nil)) (.inl ⟨_,_,_,_,_,_,rfl,lb.1,lb.2.1,lb.2.2,lb.1,lb.2.1,lb.2.2,rfl⟩)) (E1.to (s:=.dat (tI [1,1])) (E1.tu (A1.cons (E1.to (E1.bi (b:=true) (E1.to (E1.eq (i:=1) (j:=1) (E1.var rfl) (E1.var rfl)) rfl)) rfl) (A1.cons E1.int A1.nil)) rfl (lsz (n:=2) rfl z2)) rfl) rfl rfl kqd_tup kqd_tup)).eqn (by rw [deq_qf])) (fun h=>?_) (fun h=>?_)
    ·have hh:¬ b.dot b=1:=by simpa using h
     rw [fal fun ht=>hh ht.1.2.2.2.2.1]
     exact S.ret1 (s:=.dat (.bool false)) E1.bl ⟨rfl,rfl⟩
    ·have hh:b.dot b=1:=by simpa using h
     exact S.next ⟨⟨hJ,hh⟩,_,rfl⟩
   ·refine ⟨_,Gd.name rfl,?_⟩
    refine S.if1 (b := !decide (b.dot d=0)) ((T1.test (E1.neD (d:=tI (qf (b.dot d))) (e:=tI (qf 0)) (E1.call (R:=RDv) (ds:=[b.d,d.d]) (A1.cons (E1.ixT (E1.var rfl) (E1.var rfl) rfl) (A1.cons (E1.ixT (E1.var rfl) (E1.var rfl) rfl) A1.nil)) (.inl ⟨_,_,_,_,_,_,rfl,lb.1,lb.2.1,lb.2.2,ld.1,ld.2.1,ld.2.2,rfl⟩)) (E1.to (s:=.dat (tI [0,1])) (E1.tu (A1.cons (E1.to (E1.bi (b:=false) (E1.to (E1.eq (i:=1) (j:=2) (E1.var rfl) (E1.var rfl)) rfl)) rfl) (A1.cons E1.int A1.nil)) rfl (lsz (n:=2) rfl z2)) rfl) rfl rfl kqd_tup kqd_tup)).eqn (by rw [deq_qf])) (fun h=>?_) (fun h=>?_)
    ·have hh:¬ b.dot d=0:=by simpa using h
     rw [fal fun ht=>hh ht.1.2.2.2.2.2.1]
     exact S.ret1 (s:=.dat (.bool false)) E1.bl ⟨rfl,rfl⟩
    ·have hh:b.dot d=0:=by simpa using h
     exact S.next ⟨⟨hJ.1,hJ.2,hh⟩,_,rfl⟩
  ·refine ⟨_,Gd.name rfl,?_⟩
   refine S.for (Wk.r3 (A1.cons E1.int A1.nil)) (fun j τ'=>tw (d.dot a=0) (d.dot b=0) (d.dot d=1) j/\∃ o2:Sl,τ'=[.dat (tbD a b d),.dat (.int 2),o2]) ⟨trivial,_,rfl⟩ (fun j dd τ1 hd ⟨hJ,o2,e1⟩=>?_) (fun τ1 ⟨hJ,o2,e1⟩=>⟨⟨hI.1,hI.2,hJ⟩,_,o2,e1⟩)
   subst e1
   rcases get3 hd with ⟨rfl,rfl⟩ | ⟨rfl,rfl⟩ | ⟨rfl,rfl⟩
   ·refine ⟨_,Gd.name rfl,?_⟩
    refine S.if1 (b := !decide (d.dot a=0)) ((T1.test (E1.neD (d:=tI (qf (d.dot a))) (e:=tI (qf 0)) (E1.call (R:=RDv) (ds:=[d.d,a.d]) (A1.cons (E1.ixT (E1.var rfl) (E1.var rfl) rfl) (A1.cons (E1.ixT (E1.var rfl) (E1.var rfl) rfl) A1.nil)) (.inl ⟨_,_,_,_,_,_,rfl,ld.1,ld.2.1,ld.2.2,la.1,la.2.1,la.2.2,rfl⟩)) (E1.to (s:=.dat (tI [0,1])) (E1.tu (A1.cons (E1.to (E1.bi (b:=false) (E1.to (E1.eq (i:=2) (j:=0) (E1.var rfl) (E1.var rfl)) rfl)) rfl) (A1.cons E1.int A1.nil)) rfl (lsz (n:=2) rfl z2)) rfl) rfl rfl kqd_tup kqd_tup)).eqn (by rw [deq_qf])) (fun h=>?_) (fun h=>?_)
    ·have hh:¬ d.dot a=0:=by simpa using h
     rw [fal fun ht=>hh ht.1.2.2.2.2.2.2.1]
     exact S.ret1 (s:=.dat (.bool false)) E1.bl ⟨rfl,rfl⟩
    ·have hh:d.dot a=0:=by simpa using h
     exact S.next ⟨hh,_,rfl⟩
   ·refine ⟨_,Gd.name rfl,?_⟩
    refine S.if1 (b := !decide (d.dot b=0)) ((T1.test (E1.neD (d:=tI (qf (d.dot b))) (e:=tI (qf 0)) (E1.call (R:=RDv) (ds:=[d.d,b.d]) (A1.cons (E1.ixT (E1.var rfl) (E1.var rfl) rfl) (A1.cons (E1.ixT (E1.var rfl) (E1.var rfl) rfl) A1.nil)) (.inl ⟨_,_,_,_,_,_,rfl,ld.1,ld.2.1,ld.2.2,lb.1,lb.2.1,lb.2.2,rfl⟩)) (E1.to (s:=.dat (tI [0,1])) (E1.tu (A1.cons (E1.to (E1.bi (b:=false) (E1.to (E1.eq (i:=2) (j:=1) (E1.var rfl) (E1.var rfl)) rfl)) rfl) (A1.cons E1.int A1.nil)) rfl (lsz (n:=2) rfl z2)) rfl) rfl rfl kqd_tup kqd_tup)).eqn (by rw [deq_qf])) (fun h=>?_) (fun h=>?_)
    ·have hh:¬ d.dot b=0:=by simpa using h
     rw [fal fun ht=>hh ht.1.2.2.2.2.2.2.2.1]
     exact S.ret1 (s:=.dat (.bool false)) E1.bl ⟨rfl,rfl⟩
    ·have hh:d.dot b=0:=by simpa using h
     exact S.next ⟨⟨hJ,hh⟩,_,rfl⟩
   ·refine ⟨_,Gd.name rfl,?_⟩
    refine S.if1 (b := !decide (d.dot d=1)) ((T1.test (E1.neD (d:=tI (qf (d.dot d))) (e:=tI (qf 1)) (E1.call (R:=RDv) (ds:=[d.d,d.d]) (A1.cons (E1.ixT (E1.var rfl) (E1.var rfl) rfl) (A1.cons (E1.ixT (E1.var rfl) (E1.var rfl) rfl) A1.nil)) (.inl ⟨_,_,_,_,_,_,rfl,ld.1,ld.2.1,ld.2.2,ld.1,ld.2.1,ld.2.2,rfl⟩)) (E1.to (s:=.dat (tI [1,1])) (E1.tu (A1.cons (E1.to (E1.bi (b:=true) (E1.to (E1.eq (i:=2) (j:=2) (E1.var rfl) (E1.var rfl)) rfl)) rfl) (A1.cons E1.int A1.nil)) rfl (lsz (n:=2) rfl z2)) rfl) rfl rfl kqd_tup kqd_tup)).eqn (by rw [deq_qf])) (fun h=>?_) (fun h=>?_)
    ·have hh:¬ d.dot d=1:=by simpa using h
     rw [fal fun ht=>hh ht.1.2.2.2.2.2.2.2.2]
     exact S.ret1 (s:=.dat (.bool false)) E1.bl ⟨rfl,rfl⟩
    ·have hh:d.dot d=1:=by simpa using h
     exact S.next ⟨⟨hJ.1,hJ.2,hh⟩,_,rfl⟩
 subst eτ
 have hv2:v=true ↔ a.cr b=d:=hv.trans (so_cr hF)
 exact S.ret1 (s:=.dat (.bool v)) (E1.to (E1.eqD (d:=(a.cr b).d) (e:=d.d) (E1.call (R:=RCv) (ds:=[a.d,D.Row3.d b]) (A1.cons (E1.ixT (d:=a.d) (E1.var rfl) E1.int rfl) (A1.cons (E1.ixT (d:=b.d) (E1.var rfl) E1.int rfl) A1.nil)) ⟨a.x,a.y,a.z,(b).x,(b).y,(b).z,rfl,la.1,la.2.1,la.2.2,lb.1,lb.2.1,lb.2.2,rfl⟩) (E1.ixT (E1.var rfl) E1.int rfl) rfl rfl kq_ptQ9 kq_ptQ9) (by rw [deq_row hv2])) ⟨rfl,rfl⟩
theorem scSumsV:FnScope ["_law_row","_law_other","_law_one","_law_two","_law_found","_law_k"] ["_law_row","_law_other","_law_one","_law_two"] (defScope sSumsV):=⟨rfl,rfl,rfl,by decide +kernel,rfl,by decide +kernel,by decide +kernel⟩
theorem ok_sumsv (F:Fun K "_law_sums" "_law_sums" sSumsV f fd)
  (G:FnOk P w K mg base CX0 3 g gd ["_law_row","_law_other"] (spP K RDv)) (bG:Binds K gd ["_law_row","_law_other"] []) (kG:PySem.W.keepIn K (.ref g)=true) (mG:mg "_law_dot" = some (.ref g)) (m_range:mg "range" = none) (m_tuple:mg "tuple" = none) :
  FnOk P w K mg base CX0 4 f fd ["_law_row","_law_other","_law_one","_law_two"] (spP K RSumsV):=by
 refine okP F scSumsV (fun ds d h=>?_) (fun cdv A0 outer s0 H0 E0 hr=>?_)
 ·obtain ⟨x,y,z,u,v,w,s,t,rfl,_⟩:=h;rfl
 have r:=hr.mono (show 3<=3 by decide)
 refine ⟨_,(zss_cons (zs_set (i:=4) scSumsV.nd rfl (Or.inl rfl) (ze_lst za_nil))
  (zss_cons (zs_for PassesOwn.never rfl (zi_range1 rfl m_range (za_i za_nil)) (zg_name (i:=5) scSumsV.nd rfl (Or.inl rfl)) (zss_one (zs_expr (ze_append (zv 4) (ze_call G r rfl mG kG bG .nil pass0 (za_l (ze_lst (za_s (ze_ix ix_tup (zv 0) (zv 5) (fun _ _=>rfl)) (za_s (ze_ix ix_tup (zv 1) (zv 5) (fun _ _=>rfl)) za_nil))) (za_l (ze_lst (za_n (zv 2) (za_n (zv 3) za_nil))) za_nil)))))))
  (zss_one (zs_ret (ze_callTy call_tuple_of rfl m_tuple (by rfl) (za_n (zv 4) za_nil)))))),fun ds d h=>?_⟩
 obtain ⟨x,y,z,u,v,w,s,t,rfl,l1,l2,l3,g1,g2,g3,ls,lt,rfl⟩:=h
 refine S.letO (ds:=[]) (E1.li A1.nil rfl (lsz (n:=0) rfl z0)) rfl ?_
 refine S.seq (M:=fun τ'=>∃ o1:Sl,τ'=[.dat (ptQ x y z),.dat (ptQ u v w),.dat (tI (qf s)),.dat (tI (qf t)),.own [tI (qf (x * s + u * t)),tI (qf (y * s + v * t)),tI (qf (z * s + w * t))],o1]) ?_ fun τ' ⟨o1,eτ⟩=>?_
 ·refine S.for (Wk.r3 (A1.cons E1.int A1.nil)) (fun i τ'=>∃ o1:Sl,τ'=[.dat (ptQ x y z),.dat (ptQ u v w),.dat (tI (qf s)),.dat (tI (qf t)),.own ([tI (qf (x * s + u * t)),tI (qf (y * s + v * t)),tI (qf (z * s + w * t))].take i),o1]) ⟨_,rfl⟩ (fun i d τ1 hd ⟨o1,e1⟩=>?_) (fun τ1 h=>h)
  subst e1
  rcases get3 hd with ⟨rfl,rfl⟩ | ⟨rfl,rfl⟩ | ⟨rfl,rfl⟩
  ·refine ⟨_,Gd.name,?_⟩
   exact S.append1 (i:=4) (d:=tI (qf (x * s + u * t))) rfl (E1.call (R:=RDv) (ds:=[.list [tI (qf x),tI (qf u)],.list [tI (qf s),tI (qf t)]]) (A1.cons (E1.li (ds:=[tI (qf x),tI (qf u)]) (A1.cons (E1.ixT (E1.var rfl) (E1.var rfl) rfl) (A1.cons (E1.ixT (E1.var rfl) (E1.var rfl) rfl) A1.nil)) rfl (lsz (n:=2) rfl z2)) (A1.cons (E1.li (ds:=[tI (qf s),tI (qf t)]) (A1.cons (E1.var rfl) (A1.cons (E1.var rfl) A1.nil)) rfl (lsz (n:=2) rfl z2)) A1.nil)) (.inr ⟨x,u,s,t,rfl,l1,g1,ls,lt,rfl⟩)) rfl (Nat.lt_of_lt_of_le (show 0 < 3 by decide) z3) ⟨_,rfl⟩
  ·refine ⟨_,Gd.name,?_⟩
   exact S.append1 (i:=4) (d:=tI (qf (y * s + v * t))) rfl (E1.call (R:=RDv) (ds:=[.list [tI (qf y),tI (qf v)],.list [tI (qf s),tI (qf t)]]) (A1.cons (E1.li (ds:=[tI (qf y),tI (qf v)]) (A1.cons (E1.ixT (E1.var rfl) (E1.var rfl) rfl) (A1.cons (E1.ixT (E1.var rfl) (E1.var rfl) rfl) A1.nil)) rfl (lsz (n:=2) rfl z2)) (A1.cons (E1.li (ds:=[tI (qf s),tI (qf t)]) (A1.cons (E1.var rfl) (A1.cons (E1.var rfl) A1.nil)) rfl (lsz (n:=2) rfl z2)) A1.nil)) (.inr ⟨y,v,s,t,rfl,l2,g2,ls,lt,rfl⟩)) rfl (Nat.lt_of_lt_of_le (show 1 < 3 by decide) z3) ⟨_,rfl⟩
  ·refine ⟨_,Gd.name,?_⟩
   exact S.append1 (i:=4) (d:=tI (qf (z * s + w * t))) rfl (E1.call (R:=RDv) (ds:=[.list [tI (qf z),tI (qf w)],.list [tI (qf s),tI (qf t)]]) (A1.cons (E1.li (ds:=[tI (qf z),tI (qf w)]) (A1.cons (E1.ixT (E1.var rfl) (E1.var rfl) rfl) (A1.cons (E1.ixT (E1.var rfl) (E1.var rfl) rfl) A1.nil)) rfl (lsz (n:=2) rfl z2)) (A1.cons (E1.li (ds:=[tI (qf s),tI (qf t)]) (A1.cons (E1.var rfl) (A1.cons (E1.var rfl) A1.nil)) rfl (lsz (n:=2) rfl z2)) A1.nil)) (.inr ⟨z,w,s,t,rfl,l3,g3,ls,lt,rfl⟩)) rfl (Nat.lt_of_lt_of_le (show 2 < 3 by decide) z3) ⟨_,rfl⟩
 subst eτ
 exact S.ret1 (s:=.dat (ptQ (x * s + u * t) (y * s + v * t) (z * s + w * t))) (E1.tupleL (A1.cons (E1.varO rfl) A1.nil)) ⟨rfl,rfl⟩
theorem scWithV:FnScope ["_law_table_here","_law_at","_law_place","_law_other","_law_row"] ["_law_table_here","_law_at","_law_place","_law_other"] (defScope sWithV):=⟨rfl,rfl,rfl,by decide +kernel,rfl,by decide +kernel,by decide +kernel⟩
theorem ok_withv (F:Fun K "_law_with" "_law_with" sWithV f fd) :
  FnOk P w K mg base CX0 1 f fd ["_law_table_here","_law_at","_law_place","_law_other"] (spQ K RWithV):=by
 refine okQ F scWithV (fun ds d h=>?_) (fun cdv A0 outer s0 H0 E0 hr=>?_)
 ·obtain ⟨a,b,d,i,j,y,rfl,_⟩:=h;rfl
 refine ⟨_,(zss_cons (zs_set (i:=4) scWithV.nd rfl (Or.inl rfl) (ze_op op_catW (ze_op op_catW (ze_slice sl_tup (ze_ix ix_tup (zv 0) (zv 1) (fun _ _=>rfl)) zo_none (zo_some (zv 2))) (ze_tup (za_n (zv 3) za_nil))) (ze_slice sl_tup (ze_ix ix_tup (zv 0) (zv 1) (fun _ _=>rfl)) (zo_some (ze_op op_add (zv 2) ze_int)) zo_none)))
  (zss_one (zs_ret (ze_op op_catW (ze_op op_catW (ze_slice sl_tup (zv 0) zo_none (zo_some (zv 1))) (ze_tup (za_n (zv 4) za_nil))) (ze_slice sl_tup (zv 0) (zo_some (ze_op op_add (zv 1) ze_int)) zo_none))))),fun ds C h=>?_⟩
 obtain ⟨a,b,d,i,j,y,rfl,hi,hj,rfl⟩:=h
 have h9:(i=0\/i=1\/i=2)/\(j=0\/j=1\/j=2):=by omega
 clear hi hj
 obtain ⟨rfl | rfl | rfl,rfl | rfl | rfl⟩:=h9
 ·refine S.let1 (s:=.dat (D.Row3.d (D.Row3.mk (y) (a.y) (a.z)))) (E1.to (E1.catT (E1.catT (E1.slT (ds:=[tI (qf a.x),tI (qf a.y),tI (qf a.z)]) (lo:=none) (hi:=some 0) (E1.ixT (d:=a.d) (E1.var rfl) (E1.var rfl) rfl) O1.none (O1.some (E1.var rfl)) (show ¬ (HT.sIx 3 0 none=0/\HT.sIx 3 3 (some 0)=3) by decide)) (E1.tu (ds:=[tI (qf y)]) (A1.cons (E1.var rfl) A1.nil) rfl (lsz (n:=1) rfl z1)) (show 1<=sizeLine by decide)) (E1.slT (ds:=[tI (qf a.x),tI (qf a.y),tI (qf a.z)]) (lo:=some (0 + 1)) (hi:=none) (E1.ixT (d:=a.d) (E1.var rfl) (E1.var rfl) rfl) (O1.some (E1.add (E1.var rfl) E1.int)) O1.none (show ¬ (HT.sIx 3 0 (some (0 + 1))=0/\HT.sIx 3 3 none=3) by decide)) (show 3<=sizeLine by decide)) rfl) ?_
  exact S.ret1 (s:=.dat (tbD (D.Row3.mk (y) (a.y) (a.z)) b d)) (E1.to (E1.catT (E1.catT (E1.slT (ds:=[a.d,b.d,d.d]) (lo:=none) (hi:=some 0) (E1.var rfl) O1.none (O1.some (E1.var rfl)) (show ¬ (HT.sIx 3 0 none=0/\HT.sIx 3 3 (some 0)=3) by decide)) (E1.tu (ds:=[D.Row3.d (D.Row3.mk (y) (a.y) (a.z))]) (A1.cons (E1.var rfl) A1.nil) rfl (lsz (n:=1) rfl z1)) (show 1<=sizeLine by decide)) (E1.slT (ds:=[a.d,b.d,d.d]) (lo:=some (0 + 1)) (hi:=none) (E1.var rfl) (O1.some (E1.add (E1.var rfl) E1.int)) O1.none (show ¬ (HT.sIx 3 0 (some (0 + 1))=0/\HT.sIx 3 3 none=3) by decide)) (show 3<=sizeLine by decide)) rfl) ⟨_,⟨(D.Row3.mk (y) (a.y) (a.z)),b,d,rfl,fun P h hy=>⟨⟨hy,h.1.2.1,h.1.2.2⟩,⟨h.2.1.1,h.2.1.2.1,h.2.1.2.2⟩,⟨h.2.2.1,h.2.2.2.1,h.2.2.2.2⟩⟩⟩,rfl,rfl⟩
 ·refine S.let1 (s:=.dat (D.Row3.d (D.Row3.mk (a.x) (y) (a.z)))) (E1.to (E1.catT (E1.catT (E1.slT (ds:=[tI (qf a.x),tI (qf a.y),tI (qf a.z)]) (lo:=none) (hi:=some 1) (E1.ixT (d:=a.d) (E1.var rfl) (E1.var rfl) rfl) O1.none (O1.some (E1.var rfl)) (show ¬ (HT.sIx 3 0 none=0/\HT.sIx 3 3 (some 1)=3) by decide)) (E1.tu (ds:=[tI (qf y)]) (A1.cons (E1.var rfl) A1.nil) rfl (lsz (n:=1) rfl z1)) (show 2<=sizeLine by decide)) (E1.slT (ds:=[tI (qf a.x),tI (qf a.y),tI (qf a.z)]) (lo:=some (1 + 1)) (hi:=none) (E1.ixT (d:=a.d) (E1.var rfl) (E1.var rfl) rfl) (O1.some (E1.add (E1.var rfl) E1.int)) O1.none (show ¬ (HT.sIx 3 0 (some (1 + 1))=0/\HT.sIx 3 3 none=3) by decide)) (show 3<=sizeLine by decide)) rfl) ?_
  exact S.ret1 (s:=.dat (tbD (D.Row3.mk (a.x) (y) (a.z)) b d)) (E1.to (E1.catT (E1.catT (E1.slT (ds:=[a.d,b.d,d.d]) (lo:=none) (hi:=some 0) (E1.var rfl) O1.none (O1.some (E1.var rfl)) (show ¬ (HT.sIx 3 0 none=0/\HT.sIx 3 3 (some 0)=3) by decide)) (E1.tu (ds:=[D.Row3.d (D.Row3.mk (a.x) (y) (a.z))]) (A1.cons (E1.var rfl) A1.nil) rfl (lsz (n:=1) rfl z1)) (show 1<=sizeLine by decide)) (E1.slT (ds:=[a.d,b.d,d.d]) (lo:=some (0 + 1)) (hi:=none) (E1.var rfl) (O1.some (E1.add (E1.var rfl) E1.int)) O1.none (show ¬ (HT.sIx 3 0 (some (0 + 1))=0/\HT.sIx 3 3 none=3) by decide)) (show 3<=sizeLine by decide)) rfl) ⟨_,⟨(D.Row3.mk (a.x) (y) (a.z)),b,d,rfl,fun P h hy=>⟨⟨h.1.1,hy,h.1.2.2⟩,⟨h.2.1.1,h.2.1.2.1,h.2.1.2.2⟩,⟨h.2.2.1,h.2.2.2.1,h.2.2.2.2⟩⟩⟩,rfl,rfl⟩
 ·refine S.let1 (s:=.dat (D.Row3.d (D.Row3.mk (a.x) (a.y) (y)))) (E1.to (E1.catT (E1.catT (E1.slT (ds:=[tI (qf a.x),tI (qf a.y),tI (qf a.z)]) (lo:=none) (hi:=some 2) (E1.ixT (d:=a.d) (E1.var rfl) (E1.var rfl) rfl) O1.none (O1.some (E1.var rfl)) (show ¬ (HT.sIx 3 0 none=0/\HT.sIx 3 3 (some 2)=3) by decide)) (E1.tu (ds:=[tI (qf y)]) (A1.cons (E1.var rfl) A1.nil) rfl (lsz (n:=1) rfl z1)) (show 3<=sizeLine by decide)) (E1.slT (ds:=[tI (qf a.x),tI (qf a.y),tI (qf a.z)]) (lo:=some (2 + 1)) (hi:=none) (E1.ixT (d:=a.d) (E1.var rfl) (E1.var rfl) rfl) (O1.some (E1.add (E1.var rfl) E1.int)) O1.none (show ¬ (HT.sIx 3 0 (some (2 + 1))=0/\HT.sIx 3 3 none=3) by decide)) (show 3<=sizeLine by decide)) rfl) ?_
  exact S.ret1 (s:=.dat (tbD (D.Row3.mk (a.x) (a.y) (y)) b d)) (E1.to (E1.catT (E1.catT (E1.slT (ds:=[a.d,b.d,d.d]) (lo:=none) (hi:=some 0) (E1.var rfl) O1.none (O1.some (E1.var rfl)) (show ¬ (HT.sIx 3 0 none=0/\HT.sIx 3 3 (some 0)=3) by decide)) (E1.tu (ds:=[D.Row3.d (D.Row3.mk (a.x) (a.y) (y))]) (A1.cons (E1.var rfl) A1.nil) rfl (lsz (n:=1) rfl z1)) (show 1<=sizeLine by decide)) (E1.slT (ds:=[a.d,b.d,d.d]) (lo:=some (0 + 1)) (hi:=none) (E1.var rfl) (O1.some (E1.add (E1.var rfl) E1.int)) O1.none (show ¬ (HT.sIx 3 0 (some (0 + 1))=0/\HT.sIx 3 3 none=3) by decide)) (show 3<=sizeLine by decide)) rfl) ⟨_,⟨(D.Row3.mk (a.x) (a.y) (y)),b,d,rfl,fun P h hy=>⟨⟨h.1.1,h.1.2.1,hy⟩,⟨h.2.1.1,h.2.1.2.1,h.2.1.2.2⟩,⟨h.2.2.1,h.2.2.2.1,h.2.2.2.2⟩⟩⟩,rfl,rfl⟩
 ·refine S.let1 (s:=.dat (D.Row3.d (D.Row3.mk (y) (b.y) (b.z)))) (E1.to (E1.catT (E1.catT (E1.slT (ds:=[tI (qf b.x),tI (qf b.y),tI (qf b.z)]) (lo:=none) (hi:=some 0) (E1.ixT (d:=b.d) (E1.var rfl) (E1.var rfl) rfl) O1.none (O1.some (E1.var rfl)) (show ¬ (HT.sIx 3 0 none=0/\HT.sIx 3 3 (some 0)=3) by decide)) (E1.tu (ds:=[tI (qf y)]) (A1.cons (E1.var rfl) A1.nil) rfl (lsz (n:=1) rfl z1)) (show 1<=sizeLine by decide)) (E1.slT (ds:=[tI (qf b.x),tI (qf b.y),tI (qf b.z)]) (lo:=some (0 + 1)) (hi:=none) (E1.ixT (d:=b.d) (E1.var rfl) (E1.var rfl) rfl) (O1.some (E1.add (E1.var rfl) E1.int)) O1.none (show ¬ (HT.sIx 3 0 (some (0 + 1))=0/\HT.sIx 3 3 none=3) by decide)) (show 3<=sizeLine by decide)) rfl) ?_
  exact S.ret1 (s:=.dat (tbD a (D.Row3.mk (y) (b.y) (b.z)) d)) (E1.to (E1.catT (E1.catT (E1.slT (ds:=[a.d,b.d,d.d]) (lo:=none) (hi:=some 1) (E1.var rfl) O1.none (O1.some (E1.var rfl)) (show ¬ (HT.sIx 3 0 none=0/\HT.sIx 3 3 (some 1)=3) by decide)) (E1.tu (ds:=[D.Row3.d (D.Row3.mk (y) (b.y) (b.z))]) (A1.cons (E1.var rfl) A1.nil) rfl (lsz (n:=1) rfl z1)) (show 2<=sizeLine by decide)) (E1.slT (ds:=[a.d,b.d,d.d]) (lo:=some (1 + 1)) (hi:=none) (E1.var rfl) (O1.some (E1.add (E1.var rfl) E1.int)) O1.none (show ¬ (HT.sIx 3 0 (some (1 + 1))=0/\HT.sIx 3 3 none=3) by decide)) (show 3<=sizeLine by decide)) rfl) ⟨_,⟨a,(D.Row3.mk (y) (b.y) (b.z)),d,rfl,fun P h hy=>⟨⟨h.1.1,h.1.2.1,h.1.2.2⟩,⟨hy,h.2.1.2.1,h.2.1.2.2⟩,⟨h.2.2.1,h.2.2.2.1,h.2.2.2.2⟩⟩⟩,rfl,rfl⟩
 ·refine S.let1 (s:=.dat (D.Row3.d (D.Row3.mk (b.x) (y) (b.z)))) (E1.to (E1.catT (E1.catT (E1.slT (ds:=[tI (qf b.x),tI (qf b.y),tI (qf b.z)]) (lo:=none) (hi:=some 1) (E1.ixT (d:=b.d) (E1.var rfl) (E1.var rfl) rfl) O1.none (O1.some (E1.var rfl)) (show ¬ (HT.sIx 3 0 none=0/\HT.sIx 3 3 (some 1)=3) by decide)) (E1.tu (ds:=[tI (qf y)]) (A1.cons (E1.var rfl) A1.nil) rfl (lsz (n:=1) rfl z1)) (show 2<=sizeLine by decide)) (E1.slT (ds:=[tI (qf b.x),tI (qf b.y),tI (qf b.z)]) (lo:=some (1 + 1)) (hi:=none) (E1.ixT (d:=b.d) (E1.var rfl) (E1.var rfl) rfl) (O1.some (E1.add (E1.var rfl) E1.int)) O1.none (show ¬ (HT.sIx 3 0 (some (1 + 1))=0/\HT.sIx 3 3 none=3) by decide)) (show 3<=sizeLine by decide)) rfl) ?_
  exact S.ret1 (s:=.dat (tbD a (D.Row3.mk (b.x) (y) (b.z)) d)) (E1.to (E1.catT (E1.catT (E1.slT (ds:=[a.d,b.d,d.d]) (lo:=none) (hi:=some 1) (E1.var rfl) O1.none (O1.some (E1.var rfl)) (show ¬ (HT.sIx 3 0 none=0/\HT.sIx 3 3 (some 1)=3) by decide)) (E1.tu (ds:=[D.Row3.d (D.Row3.mk (b.x) (y) (b.z))]) (A1.cons (E1.var rfl) A1.nil) rfl (lsz (n:=1) rfl z1)) (show 2<=sizeLine by decide)) (E1.slT (ds:=[a.d,b.d,d.d]) (lo:=some (1 + 1)) (hi:=none) (E1.var rfl) (O1.some (E1.add (E1.var rfl) E1.int)) O1.none (show ¬ (HT.sIx 3 0 (some (1 + 1))=0/\HT.sIx 3 3 none=3) by decide)) (show 3<=sizeLine by decide)) rfl) ⟨_,⟨a,(D.Row3.mk (b.x) (y) (b.z)),d,rfl,fun P h hy=>⟨⟨h.1.1,h.1.2.1,h.1.2.2⟩,⟨h.2.1.1,hy,h.2.1.2.2⟩,⟨h.2.2.1,h.2.2.2.1,h.2.2.2.2⟩⟩⟩,rfl,rfl⟩
 ·refine S.let1 (s:=.dat (D.Row3.d (D.Row3.mk (b.x) (b.y) (y)))) (E1.to (E1.catT (E1.catT (E1.slT (ds:=[tI (qf b.x),tI (qf b.y),tI (qf b.z)]) (lo:=none) (hi:=some 2) (E1.ixT (d:=b.d) (E1.var rfl) (E1.var rfl) rfl) O1.none (O1.some (E1.var rfl)) (show ¬ (HT.sIx 3 0 none=0/\HT.sIx 3 3 (some 2)=3) by decide)) (E1.tu (ds:=[tI (qf y)]) (A1.cons (E1.var rfl) A1.nil) rfl (lsz (n:=1) rfl z1)) (show 3<=sizeLine by decide)) (E1.slT (ds:=[tI (qf b.x),tI (qf b.y),tI (qf b.z)]) (lo:=some (2 + 1)) (hi:=none) (E1.ixT (d:=b.d) (E1.var rfl) (E1.var rfl) rfl) (O1.some (E1.add (E1.var rfl) E1.int)) O1.none (show ¬ (HT.sIx 3 0 (some (2 + 1))=0/\HT.sIx 3 3 none=3) by decide)) (show 3<=sizeLine by decide)) rfl) ?_
  exact S.ret1 (s:=.dat (tbD a (D.Row3.mk (b.x) (b.y) (y)) d)) (E1.to (E1.catT (E1.catT (E1.slT (ds:=[a.d,b.d,d.d]) (lo:=none) (hi:=some 1) (E1.var rfl) O1.none (O1.some (E1.var rfl)) (show ¬ (HT.sIx 3 0 none=0/\HT.sIx 3 3 (some 1)=3) by decide)) (E1.tu (ds:=[D.Row3.d (D.Row3.mk (b.x) (b.y) (y))]) (A1.cons (E1.var rfl) A1.nil) rfl (lsz (n:=1) rfl z1)) (show 2<=sizeLine by decide)) (E1.slT (ds:=[a.d,b.d,d.d]) (lo:=some (1 + 1)) (hi:=none) (E1.var rfl) (O1.some (E1.add (E1.var rfl) E1.int)) O1.none (show ¬ (HT.sIx 3 0 (some (1 + 1))=0/\HT.sIx 3 3 none=3) by decide)) (show 3<=sizeLine by decide)) rfl) ⟨_,⟨a,(D.Row3.mk (b.x) (b.y) (y)),d,rfl,fun P h hy=>⟨⟨h.1.1,h.1.2.1,h.1.2.2⟩,⟨h.2.1.1,h.2.1.2.1,hy⟩,⟨h.2.2.1,h.2.2.2.1,h.2.2.2.2⟩⟩⟩,rfl,rfl⟩
 ·refine S.let1 (s:=.dat (D.Row3.d (D.Row3.mk (y) (d.y) (d.z)))) (E1.to (E1.catT (E1.catT (E1.slT (ds:=[tI (qf d.x),tI (qf d.y),tI (qf d.z)]) (lo:=none) (hi:=some 0) (E1.ixT (d:=d.d) (E1.var rfl) (E1.var rfl) rfl) O1.none (O1.some (E1.var rfl)) (show ¬ (HT.sIx 3 0 none=0/\HT.sIx 3 3 (some 0)=3) by decide)) (E1.tu (ds:=[tI (qf y)]) (A1.cons (E1.var rfl) A1.nil) rfl (lsz (n:=1) rfl z1)) (show 1<=sizeLine by decide)) (E1.slT (ds:=[tI (qf d.x),tI (qf d.y),tI (qf d.z)]) (lo:=some (0 + 1)) (hi:=none) (E1.ixT (d:=d.d) (E1.var rfl) (E1.var rfl) rfl) (O1.some (E1.add (E1.var rfl) E1.int)) O1.none (show ¬ (HT.sIx 3 0 (some (0 + 1))=0/\HT.sIx 3 3 none=3) by decide)) (show 3<=sizeLine by decide)) rfl) ?_
  exact S.ret1 (s:=.dat (tbD a b (D.Row3.mk (y) (d.y) (d.z)))) (E1.to (E1.catT (E1.catT (E1.slT (ds:=[a.d,b.d,d.d]) (lo:=none) (hi:=some 2) (E1.var rfl) O1.none (O1.some (E1.var rfl)) (show ¬ (HT.sIx 3 0 none=0/\HT.sIx 3 3 (some 2)=3) by decide)) (E1.tu (ds:=[D.Row3.d (D.Row3.mk (y) (d.y) (d.z))]) (A1.cons (E1.var rfl) A1.nil) rfl (lsz (n:=1) rfl z1)) (show 3<=sizeLine by decide)) (E1.slT (ds:=[a.d,b.d,d.d]) (lo:=some (2 + 1)) (hi:=none) (E1.var rfl) (O1.some (E1.add (E1.var rfl) E1.int)) O1.none (show ¬ (HT.sIx 3 0 (some (2 + 1))=0/\HT.sIx 3 3 none=3) by decide)) (show 3<=sizeLine by decide)) rfl) ⟨_,⟨a,b,(D.Row3.mk (y) (d.y) (d.z)),rfl,fun P h hy=>⟨⟨h.1.1,h.1.2.1,h.1.2.2⟩,⟨h.2.1.1,h.2.1.2.1,h.2.1.2.2⟩,⟨hy,h.2.2.2.1,h.2.2.2.2⟩⟩⟩,rfl,rfl⟩
 ·refine S.let1 (s:=.dat (D.Row3.d (D.Row3.mk (d.x) (y) (d.z)))) (E1.to (E1.catT (E1.catT (E1.slT (ds:=[tI (qf d.x),tI (qf d.y),tI (qf d.z)]) (lo:=none) (hi:=some 1) (E1.ixT (d:=d.d) (E1.var rfl) (E1.var rfl) rfl) O1.none (O1.some (E1.var rfl)) (show ¬ (HT.sIx 3 0 none=0/\HT.sIx 3 3 (some 1)=3) by decide)) (E1.tu (ds:=[tI (qf y)]) (A1.cons (E1.var rfl) A1.nil) rfl (lsz (n:=1) rfl z1)) (show 2<=sizeLine by decide)) (E1.slT (ds:=[tI (qf d.x),tI (qf d.y),tI (qf d.z)]) (lo:=some (1 + 1)) (hi:=none) (E1.ixT (d:=d.d) (E1.var rfl) (E1.var rfl) rfl) (O1.some (E1.add (E1.var rfl) E1.int)) O1.none (show ¬ (HT.sIx 3 0 (some (1 + 1))=0/\HT.sIx 3 3 none=3) by decide)) (show 3<=sizeLine by decide)) rfl) ?_
  exact S.ret1 (s:=.dat (tbD a b (D.Row3.mk (d.x) (y) (d.z)))) (E1.to (E1.catT (E1.catT (E1.slT (ds:=[a.d,b.d,d.d]) (lo:=none) (hi:=some 2) (E1.var rfl) O1.none (O1.some (E1.var rfl)) (show ¬ (HT.sIx 3 0 none=0/\HT.sIx 3 3 (some 2)=3) by decide)) (E1.tu (ds:=[D.Row3.d (D.Row3.mk (d.x) (y) (d.z))]) (A1.cons (E1.var rfl) A1.nil) rfl (lsz (n:=1) rfl z1)) (show 3<=sizeLine by decide)) (E1.slT (ds:=[a.d,b.d,d.d]) (lo:=some (2 + 1)) (hi:=none) (E1.var rfl) (O1.some (E1.add (E1.var rfl) E1.int)) O1.none (show ¬ (HT.sIx 3 0 (some (2 + 1))=0/\HT.sIx 3 3 none=3) by decide)) (show 3<=sizeLine by decide)) rfl) ⟨_,⟨a,b,(D.Row3.mk (d.x) (y) (d.z)),rfl,fun P h hy=>⟨⟨h.1.1,h.1.2.1,h.1.2.2⟩,⟨h.2.1.1,h.2.1.2.1,h.2.1.2.2⟩,⟨h.2.2.1,hy,h.2.2.2.2⟩⟩⟩,rfl,rfl⟩
 ·refine S.let1 (s:=.dat (D.Row3.d (D.Row3.mk (d.x) (d.y) (y)))) (E1.to (E1.catT (E1.catT (E1.slT (ds:=[tI (qf d.x),tI (qf d.y),tI (qf d.z)]) (lo:=none) (hi:=some 2) (E1.ixT (d:=d.d) (E1.var rfl) (E1.var rfl) rfl) O1.none (O1.some (E1.var rfl)) (show ¬ (HT.sIx 3 0 none=0/\HT.sIx 3 3 (some 2)=3) by decide)) (E1.tu (ds:=[tI (qf y)]) (A1.cons (E1.var rfl) A1.nil) rfl (lsz (n:=1) rfl z1)) (show 3<=sizeLine by decide)) (E1.slT (ds:=[tI (qf d.x),tI (qf d.y),tI (qf d.z)]) (lo:=some (2 + 1)) (hi:=none) (E1.ixT (d:=d.d) (E1.var rfl) (E1.var rfl) rfl) (O1.some (E1.add (E1.var rfl) E1.int)) O1.none (show ¬ (HT.sIx 3 0 (some (2 + 1))=0/\HT.sIx 3 3 none=3) by decide)) (show 3<=sizeLine by decide)) rfl) ?_
  exact S.ret1 (s:=.dat (tbD a b (D.Row3.mk (d.x) (d.y) (y)))) (E1.to (E1.catT (E1.catT (E1.slT (ds:=[a.d,b.d,d.d]) (lo:=none) (hi:=some 2) (E1.var rfl) O1.none (O1.some (E1.var rfl)) (show ¬ (HT.sIx 3 0 none=0/\HT.sIx 3 3 (some 2)=3) by decide)) (E1.tu (ds:=[D.Row3.d (D.Row3.mk (d.x) (d.y) (y))]) (A1.cons (E1.var rfl) A1.nil) rfl (lsz (n:=1) rfl z1)) (show 3<=sizeLine by decide)) (E1.slT (ds:=[a.d,b.d,d.d]) (lo:=some (2 + 1)) (hi:=none) (E1.var rfl) (O1.some (E1.add (E1.var rfl) E1.int)) O1.none (show ¬ (HT.sIx 3 0 (some (2 + 1))=0/\HT.sIx 3 3 none=3) by decide)) (show 3<=sizeLine by decide)) rfl) ⟨_,⟨a,b,(D.Row3.mk (d.x) (d.y) (y)),rfl,fun P h hy=>⟨⟨h.1.1,h.1.2.1,h.1.2.2⟩,⟨h.2.1.1,h.2.1.2.1,h.2.1.2.2⟩,⟨h.2.2.1,h.2.2.2.1,hy⟩⟩⟩,rfl,rfl⟩
theorem scAnyV:FnScope ["_law_purse_here","_law_rows","_law_k","_law_row","_law_j","_law_bottom"] ["_law_purse_here"] (defScope sAnyV):=⟨rfl,rfl,rfl,by decide +kernel,rfl,by decide +kernel,by decide +kernel⟩
theorem ok_anyv (F:Fun K "_law_any_table" "_law_any_table" sAnyV f fd)
  (G:FnOk P w K mg base CX0 1 g gd ["_law_purse_here","_law_many"] spDraw) (bG:Binds K gd ["_law_purse_here","_law_many"] []) (kG:PySem.W.keepIn K (.ref g)=true) (mG:mg "_law_take" = some (.ref g))
  (G2:FnOk P w K mg base CX0 2 g2 gd2 ["_law_top","_law_bottom"] (spMade K)) (bG2:Binds K gd2 ["_law_top","_law_bottom"] []) (kG2:PySem.W.keepIn K (.ref g2)=true) (mG2:mg "_law_lowest" = some (.ref g2)) (m_range:mg "range" = none) (m_tuple:mg "tuple" = none) :
  FnOk P w K mg base CX0 3 f fd ["_law_purse_here"] (spU K RAnyV):=by
 refine okU F scAnyV (fun ds d h=>?_) (fun cdv A0 outer s0 H0 E0 hr=>?_)
 ·obtain ⟨rfl,_⟩:=h;rfl
 have r:=hr.mono (show 1<=2 by decide)
 have r2:=hr.mono (show 2<=2 by decide)
 refine ⟨_,(zss_cons (zs_set (i:=1) scAnyV.nd rfl (Or.inl rfl) (ze_lst za_nil))
  (zss_cons (zs_for PassesOwn.never rfl (zi_range1 rfl m_range (za_i za_nil)) (zg_name (i:=2) scAnyV.nd rfl (Or.inl rfl)) (zss_cons (zs_set (i:=3) scAnyV.nd rfl (Or.inl rfl) (ze_lst za_nil))
  (zss_cons (zs_for PassesOwn.never rfl (zi_range1 rfl m_range (za_i za_nil)) (zg_name (i:=4) scAnyV.nd rfl (Or.inl rfl)) (zss_cons (zs_set (i:=5) scAnyV.nd rfl (Or.inl rfl) (ze_op op_add ze_int (ze_call G r rfl mG kG bG .nil pass0 (za_n (zv 0) (za_i za_nil)))))
  (zss_one (zs_expr (ze_append (zv 3) (ze_call G2 r2 rfl mG2 kG2 bG2 .nil pass0 (za_b (ze_op op_sub (ze_call G r rfl mG kG bG .nil pass0 (za_n (zv 0) (za_b (ze_op op_add (ze_op op_mulB ze_int (zv 5)) ze_int) za_nil))) (zv 5)) (za_n (zv 5) za_nil))))))))
  (zss_one (zs_expr (ze_append (zv 1) (ze_callTy call_tuple_of rfl m_tuple (by rfl) (za_n (zv 3) za_nil))))))))
  (zss_one (zs_ret (ze_callTy call_tuple_of rfl m_tuple (by rfl) (za_n (zv 1) za_nil)))))),fun q0 ds C h=>?_⟩
 obtain ⟨rfl,rfl⟩:=h
 refine S.letO (ds:=[]) (E1.li A1.nil rfl (lsz (n:=0) rfl z0)) rfl ?_
 refine S.seq (M:=fun τ'=>∃ (rs:List D.Row3) (o1 o2 o3 o4:Sl),rs.length=3/\(∀ r ∈ rs,RP (FB 60 10) r)/\τ'=[.pu,.own (rs.map D.Row3.d),o1,o2,o3,o4]) ?_ fun τ' ⟨rs,o1,o2,o3,o4,l3,hr,eτ⟩=>?_
 ·refine S.for (Wk.r3 (A1.cons E1.int A1.nil)) (fun k τ'=>∃ (rs:List D.Row3) (o1 o2 o3 o4:Sl),rs.length=k/\(∀ r ∈ rs,RP (FB 60 10) r)/\τ'=[.pu,.own (rs.map D.Row3.d),o1,o2,o3,o4]) ⟨[],_,_,_,_,rfl,fun r h=>(by cases h),rfl⟩ (fun k dd τ1 hd ⟨rs,o1,o2,o3,o4,lk,hr,e1⟩=>?_) (fun τ1 h=>h)
  subst e1
  have hk:k < 3:=(List.getElem?_eq_some_iff.mp hd).1
  refine ⟨_,Gd.name rfl,?_⟩
  refine S.letO (ds:=[]) (E1.li A1.nil rfl (lsz (n:=0) rfl z0)) rfl ?_
  refine S.seq (M:=fun τ'=>∃ (qs:List Rat) (o3 o4:Sl),qs.length=3/\(∀ q ∈ qs,FB 60 10 q)/\τ'=[.pu,.own (rs.map D.Row3.d),.dat dd,.own (qs.map fun q=>tI (qf q)),o3,o4]) ?_ fun τ' ⟨qs,o3,o4,l3,hq,eτ⟩=>?_
  ·refine S.for (Wk.r3 (A1.cons E1.int A1.nil)) (fun j τ'=>∃ (qs:List Rat) (o3 o4:Sl),qs.length=j/\(∀ q ∈ qs,FB 60 10 q)/\τ'=[.pu,.own (rs.map D.Row3.d),.dat dd,.own (qs.map fun q=>tI (qf q)),o3,o4]) ⟨[],_,_,rfl,fun r h=>(by cases h),rfl⟩ (fun j dj τ1 hj ⟨qs,o3,o4,lj,hq,e1⟩=>?_) (fun τ1 h=>h)
   subst e1
   have hj3:j < 3:=(List.getElem?_eq_some_iff.mp hj).1
   refine ⟨_,Gd.name rfl,?_⟩
   refine S.letC (EI.op EI.lit (EI.draw (A1.cons (E1.varP rfl) (A1.cons E1.int A1.nil)) (by decide:(0:Int) < 6) (by decide))) (fun s ⟨_,e,_⟩=>by rw [e];rfl) fun s ⟨b,es,i1,j1,ei,⟨hj0,hj6⟩,eb⟩=>?_
   subst es ei eb
   refine S.append (i:=1 + 2) (C:=fun d=>∃ q:Rat,d=tI (qf q)/\FB 60 10 q) rfl (E.mono (E.cMadeA (P:=fun t b=>0 < b/\b<=6/\t.natAbs<=6) (C:=fun ss=>∃ t:Int,ss=[.dat (.int t),.dat (.int (1 + j1))]/\t.natAbs<=6) (A.cons (C1:=fun s=>∃ t:Int,s = .dat (.int t)/\t.natAbs<=6) (E.mono (EI.op (EI.draw (m:=2 * (1 + j1) + 1) (A1.cons (E1.varP rfl) (A1.cons (E1.add (E1.mul E1.int (E1.var rfl) (K0.okL (by decide) (by decide))) E1.int) A1.nil)) (by omega) (by omega)) (EI.of (P:=fun i=>i=1 + j1) (E1.var rfl) rfl)) (fun s ⟨k,es,i2,j2,hi2,ej,ek⟩=>⟨k,es,by omega⟩)) (fun s _=>A1.cons (E1.var rfl) A1.nil) (fun s ss ⟨t,es,ht⟩ e2=>⟨t,by rw [es, <- e2],ht⟩)) (fun ss ⟨t,es,ht⟩=>⟨t,1 + j1,es,⟨by omega,by omega,ht⟩,by omega,Nat.le_trans (show (1 + j1).natAbs<=8 by omega) (by decide)⟩)) (fun s ⟨t,b,es,b0,b6,ht⟩=>⟨_,es,noLs_ints _,_,rfl,fb60 b0 b6 ht⟩)) (by rw [List.length_map];exact Nat.lt_of_lt_of_le (show qs.length < 3 by omega) z3) (fun d ⟨q,ed,fq⟩=>⟨qs ++ [q],_,_,by rw [List.length_append,lj];rfl,fun x hx=>?_,by subst ed;rw [List.map_append];rfl⟩)
   rcases List.mem_append.mp hx with h | h
   ·exact hq x h
   ·rcases List.mem_singleton.mp h with rfl;exact fq
  subst eτ
  match qs,l3,hq with
  | [x,y,z],_,hq =>
  exact S.append1 (i:=1) (d:=D.Row3.d ⟨x,y,z⟩) rfl (E1.tupleL (A1.cons (E1.varO rfl) A1.nil)) rfl (by rw [List.length_map];exact Nat.lt_of_lt_of_le (show rs.length < 3 by omega) z3) ⟨rs ++ [⟨x,y,z⟩],_,_,_,_,by rw [List.length_append,lk];rfl,any_snoc hr (hq x (by simp)) (hq y (by simp)) (hq z (by simp)),rfl⟩ (by rw [List.map_append];rfl)
 subst eτ
 match rs,l3,hr with
 | [x,y,z],_,hr =>
 exact S.ret1 (s:=.dat (tbD x y z)) (E1.tupleL (A1.cons (E1.varO rfl) A1.nil)) ⟨_,⟨x,y,z,rfl,hr x (by simp),hr y (by simp),hr z (by simp)⟩,rfl,rfl⟩
theorem scSignsV:FnScope ["_law_table_here"] ["_law_table_here"] (defScope sSignsV):=⟨rfl,rfl,rfl,by decide +kernel,rfl,by decide +kernel,by decide +kernel⟩
theorem ok_signsv (F:Fun K "_law_signs" "_law_signs" sSignsV f fd) (m_tuple:mg "tuple" = none) :
  FnOk P w K mg base CX0 1 f fd ["_law_table_here"] (spP K RSignsV):=by
 refine okP F scSignsV (fun ds d h=>?_) (fun cdv A0 outer s0 H0 E0 hr=>?_)
 ·obtain ⟨a,b,d,rfl,_⟩:=h;rfl
 refine ⟨_,(zss_one (zs_ret (ze_comp (own:=["_law_row"]) scSignsV rfl ⟨by decide +kernel,rfl,by decide +kernel,by decide +kernel,by decide +kernel,by decide +kernel,by decide +kernel,by decide +kernel,by decide +kernel⟩ (zi_tup (zv 0)) (fun C fp s H nd=>zg_name (i:=0) nd rfl (Or.inl rfl)) (fun C fp s H=>zts_nil) (fun C fp s H=>(ze_callTy call_tupleC rfl m_tuple (by rfl) (za_cons (ze_compN (own2:=["_law_one"]) scSignsV rfl ⟨by decide +kernel,rfl,by decide +kernel,by decide +kernel,by decide +kernel,by decide +kernel,by decide +kernel,by decide +kernel,by decide +kernel⟩ (zi_tupC (zv 0)) (fun C fp s H nd=>zg_name (i:=0) nd rfl (Or.inl rfl)) (fun C fp s H=>zts_nil) (fun C fp s H=>(ze_tup (za_u (ze_un un_neg (ze_ix ix_tupCC (zv 0) ze_int (fun _ _=>rfl))) (za_s (ze_ix ix_tupCC (zv 0) ze_int (fun _ _=>rfl)) za_nil))))) za_nil)))))),fun ds d h=>?_⟩
 obtain ⟨a,b,d,rfl,rfl⟩:=h
 exact S.ret1 (s:=.own [a.neg.d,b.neg.d,d.neg.d]) (E1.comp3 (d1:=a.d) (d2:=b.d) (d3:=d.d) (e1:=a.neg.d) (e2:=b.neg.d) (e3:=d.neg.d) (Wk.tup (E1.var rfl)) (E1.tupleL (A1.cons (E1.vwo (E1.comp3 (d1:=tI (qf a.x)) (d2:=tI (qf a.y)) (d3:=tI (qf a.z)) (e1:=tI (qf (-a.x))) (e2:=tI (qf (-a.y))) (e3:=tI (qf (-a.z))) (Wk.tup (E1.var rfl)) (E1.to (s:=.dat (tI [-(a.x).num,((a.x).den:Int)])) (E1.tu (A1.cons (E1.neg (E1.ixT (E1.var rfl) E1.int rfl)) (A1.cons (E1.ixT (E1.var rfl) E1.int rfl) A1.nil)) rfl (lsz (n:=2) rfl z2)) (by rw [qf_neg'])) (E1.to (s:=.dat (tI [-(a.y).num,((a.y).den:Int)])) (E1.tu (A1.cons (E1.neg (E1.ixT (E1.var rfl) E1.int rfl)) (A1.cons (E1.ixT (E1.var rfl) E1.int rfl) A1.nil)) rfl (lsz (n:=2) rfl z2)) (by rw [qf_neg'])) (E1.to (s:=.dat (tI [-(a.z).num,((a.z).den:Int)])) (E1.tu (A1.cons (E1.neg (E1.ixT (E1.var rfl) E1.int rfl)) (A1.cons (E1.ixT (E1.var rfl) E1.int rfl) A1.nil)) rfl (lsz (n:=2) rfl z2)) (by rw [qf_neg'])))) A1.nil)) (E1.tupleL (A1.cons (E1.vwo (E1.comp3 (d1:=tI (qf b.x)) (d2:=tI (qf b.y)) (d3:=tI (qf b.z)) (e1:=tI (qf (-b.x))) (e2:=tI (qf (-b.y))) (e3:=tI (qf (-b.z))) (Wk.tup (E1.var rfl)) (E1.to (s:=.dat (tI [-(b.x).num,((b.x).den:Int)])) (E1.tu (A1.cons (E1.neg (E1.ixT (E1.var rfl) E1.int rfl)) (A1.cons (E1.ixT (E1.var rfl) E1.int rfl) A1.nil)) rfl (lsz (n:=2) rfl z2)) (by rw [qf_neg'])) (E1.to (s:=.dat (tI [-(b.y).num,((b.y).den:Int)])) (E1.tu (A1.cons (E1.neg (E1.ixT (E1.var rfl) E1.int rfl)) (A1.cons (E1.ixT (E1.var rfl) E1.int rfl) A1.nil)) rfl (lsz (n:=2) rfl z2)) (by rw [qf_neg'])) (E1.to (s:=.dat (tI [-(b.z).num,((b.z).den:Int)])) (E1.tu (A1.cons (E1.neg (E1.ixT (E1.var rfl) E1.int rfl)) (A1.cons (E1.ixT (E1.var rfl) E1.int rfl) A1.nil)) rfl (lsz (n:=2) rfl z2)) (by rw [qf_neg'])))) A1.nil)) (E1.tupleL (A1.cons (E1.vwo (E1.comp3 (d1:=tI (qf d.x)) (d2:=tI (qf d.y)) (d3:=tI (qf d.z)) (e1:=tI (qf (-d.x))) (e2:=tI (qf (-d.y))) (e3:=tI (qf (-d.z))) (Wk.tup (E1.var rfl)) (E1.to (s:=.dat (tI [-(d.x).num,((d.x).den:Int)])) (E1.tu (A1.cons (E1.neg (E1.ixT (E1.var rfl) E1.int rfl)) (A1.cons (E1.ixT (E1.var rfl) E1.int rfl) A1.nil)) rfl (lsz (n:=2) rfl z2)) (by rw [qf_neg'])) (E1.to (s:=.dat (tI [-(d.y).num,((d.y).den:Int)])) (E1.tu (A1.cons (E1.neg (E1.ixT (E1.var rfl) E1.int rfl)) (A1.cons (E1.ixT (E1.var rfl) E1.int rfl) A1.nil)) rfl (lsz (n:=2) rfl z2)) (by rw [qf_neg'])) (E1.to (s:=.dat (tI [-(d.z).num,((d.z).den:Int)])) (E1.tu (A1.cons (E1.neg (E1.ixT (E1.var rfl) E1.int rfl)) (A1.cons (E1.ixT (E1.var rfl) E1.int rfl) A1.nil)) rfl (lsz (n:=2) rfl z2)) (by rw [qf_neg'])))) A1.nil))) ⟨rfl,rfl⟩
theorem scOtherV:FnScope ["_law_table_here","_law_sort","_law_at","_law_purse_here","_law_far","_law_row"] ["_law_table_here","_law_sort","_law_at","_law_purse_here"] (defScope sOtherV):=⟨rfl,rfl,rfl,by decide +kernel,rfl,by decide +kernel,by decide +kernel⟩
theorem ok_otherv (F:Fun K "_law_otherwise" "_law_otherwise" sOtherV f fd)
  (G:FnOk P w K mg base CX0 4 g gd ["_law_row","_law_other","_law_one","_law_two"] (spP K RSumsV)) (bG:Binds K gd ["_law_row","_law_other","_law_one","_law_two"] []) (kG:PySem.W.keepIn K (.ref g)=true) (mG:mg "_law_sums" = some (.ref g))
  (G2:FnOk P w K mg base CX0 3 g2 gd2 ["_law_purse_here"] (spU K RAnyV)) (bG2:Binds K gd2 ["_law_purse_here"] []) (kG2:PySem.W.keepIn K (.ref g2)=true) (mG2:mg "_law_any_table" = some (.ref g2))
  (G3:FnOk P w K mg base CX0 1 g3 gd3 ["_law_table_here"] (spP K RSignsV)) (bG3:Binds K gd3 ["_law_table_here"] []) (kG3:PySem.W.keepIn K (.ref g3)=true) (mG3:mg "_law_signs" = some (.ref g3))
  (G4:FnOk P w K mg base CX0 4 g4 gd4 ["_law_row","_law_other"] (spP K RCv)) (bG4:Binds K gd4 ["_law_row","_law_other"] []) (kG4:PySem.W.keepIn K (.ref g4)=true) (mG4:mg "_law_cross" = some (.ref g4)) :
  FnOk P w K mg base CX0 5 f fd ["_law_table_here","_law_sort","_law_at","_law_purse_here"] (spZ K ROtherV):=by
 refine okZ F scOtherV (fun ds d h=>?_) (fun cdv A0 outer s0 H0 E0 hr=>?_)
 ·obtain ⟨a,b,d,s,i,c,rfl,_⟩:=h;rfl
 have r:=hr.mono (show 4<=4 by decide)
 have r2:=hr.mono (show 3<=4 by decide)
 have r3:=hr.mono (show 1<=4 by decide)
 have r4:=hr.mono (show 4<=4 by decide)
 refine ⟨_,(zss_cons (zs_set (i:=4) scOtherV.nd rfl (Or.inl rfl) (ze_op op_mod (ze_op op_add (zv 2) ze_int) ze_int))
  (zss_cons (zs_if (zt_cmpR op_eq (zv 1) ze_int (nomark _)) (zss_cons (zs_set (i:=5) scOtherV.nd rfl (Or.inl rfl) (ze_call G r rfl mG kG bG .nil pass0 (za_s (ze_ix ix_tup (zv 0) (zv 2) (fun _ _=>rfl)) (za_s (ze_ix ix_tup (zv 0) (zv 4) (fun _ _=>rfl)) (za_t (ze_tup (za_i (za_i za_nil))) (za_t (ze_tup (za_i (za_i za_nil))) za_nil))))))
  (zss_one (zs_ret (ze_op op_catW (ze_op op_catW (ze_slice sl_tup (zv 0) zo_none (zo_some (zv 2))) (ze_tup (za_n (zv 5) za_nil))) (ze_slice sl_tup (zv 0) (zo_some (ze_op op_add (zv 2) ze_int)) zo_none))))) zss_nil)
  (zss_cons (zs_if (zt_cmpR op_eq (zv 1) ze_int (nomark _)) (zss_cons (zs_set (i:=5) scOtherV.nd rfl (Or.inl rfl) (ze_call G r rfl mG kG bG .nil pass0 (za_s (ze_ix ix_tup (zv 0) (zv 2) (fun _ _=>rfl)) (za_s (ze_ix ix_tup (zv 0) (zv 4) (fun _ _=>rfl)) (za_t (ze_tup (za_i (za_i za_nil))) (za_t (ze_tup (za_i (za_i za_nil))) za_nil))))))
  (zss_one (zs_ret (ze_op op_catW (ze_op op_catW (ze_slice sl_tup (zv 0) zo_none (zo_some (zv 2))) (ze_tup (za_n (zv 5) za_nil))) (ze_slice sl_tup (zv 0) (zo_some (ze_op op_add (zv 2) ze_int)) zo_none))))) zss_nil)
  (zss_cons (zs_if (zt_cmpR op_eq (zv 1) ze_int (nomark _)) (zss_one (zs_ret (ze_call G2 r2 rfl mG2 kG2 bG2 .nil pass0 (za_n (zv 3) za_nil)))) zss_nil)
  (zss_cons (zs_if (zt_cmpR op_eq (zv 1) ze_int (nomark _)) (zss_one (zs_ret (ze_tup (za_s (ze_ix ix_tup (zv 0) ze_int (fun _ _=>rfl)) (za_s (ze_ix ix_list (ze_call G3 r3 rfl mG3 kG3 bG3 .nil pass0 (za_n (zv 0) za_nil)) ze_int (fun _ _=>rfl)) (za_s (ze_ix ix_tup (zv 0) ze_int (fun _ _=>rfl)) za_nil)))))) zss_nil)
  (zss_cons (zs_if (zt_cmpR op_eq (zv 1) ze_int (nomark _)) (zss_one (zs_ret (ze_tup (za_s (ze_ix ix_tup (zv 0) ze_int (fun _ _=>rfl)) (za_s (ze_ix ix_tup (zv 0) ze_int (fun _ _=>rfl)) (za_c (ze_call G4 r4 rfl mG4 kG4 bG4 .nil pass0 (za_s (ze_ix ix_tup (zv 0) ze_int (fun _ _=>rfl)) (za_s (ze_ix ix_tup (zv 0) ze_int (fun _ _=>rfl)) za_nil))) za_nil)))))) zss_nil)
  (zss_cons (zs_if (zt_cmpR op_eq (zv 1) ze_int (nomark _)) (zss_cons (zs_set (i:=5) scOtherV.nd rfl (Or.inl rfl) (ze_call G r rfl mG kG bG .nil pass0 (za_s (ze_ix ix_tup (zv 0) ze_int (fun _ _=>rfl)) (za_s (ze_ix ix_tup (zv 0) ze_int (fun _ _=>rfl)) (za_t (ze_tup (za_i (za_i za_nil))) (za_t (ze_tup (za_i (za_i za_nil))) za_nil))))))
  (zss_one (zs_ret (ze_tup (za_s (ze_ix ix_tup (zv 0) ze_int (fun _ _=>rfl)) (za_n (zv 5) (za_c (ze_call G4 r4 rfl mG4 kG4 bG4 .nil pass0 (za_s (ze_ix ix_tup (zv 0) ze_int (fun _ _=>rfl)) (za_n (zv 5) za_nil))) za_nil))))))) zss_nil)
  (zss_cons (zs_if (zt_cmpR op_eq (zv 1) ze_int (nomark _)) (zss_cons (zs_set (i:=5) scOtherV.nd rfl (Or.inl rfl) (ze_call G r rfl mG kG bG .nil pass0 (za_s (ze_ix ix_tup (zv 0) ze_int (fun _ _=>rfl)) (za_s (ze_ix ix_tup (zv 0) ze_int (fun _ _=>rfl)) (za_t (ze_tup (za_i (za_i za_nil))) (za_t (ze_tup (za_i (za_i za_nil))) za_nil))))))
  (zss_one (zs_ret (ze_tup (za_c (ze_call G r rfl mG kG bG .nil pass0 (za_s (ze_ix ix_tup (zv 0) ze_int (fun _ _=>rfl)) (za_s (ze_ix ix_tup (zv 0) ze_int (fun _ _=>rfl)) (za_t (ze_tup (za_i (za_i za_nil))) (za_t (ze_tup (za_i (za_i za_nil))) za_nil))))) (za_n (zv 5) (za_s (ze_ix ix_tup (zv 0) ze_int (fun _ _=>rfl)) za_nil))))))) zss_nil)
  (zss_cons (zs_if (zt_cmpR op_eq (zv 1) ze_int (nomark _)) (zss_cons (zs_set (i:=5) scOtherV.nd rfl (Or.inl rfl) (ze_call G r rfl mG kG bG .nil pass0 (za_s (ze_ix ix_tup (zv 0) ze_int (fun _ _=>rfl)) (za_s (ze_ix ix_tup (zv 0) ze_int (fun _ _=>rfl)) (za_t (ze_tup (za_i (za_i za_nil))) (za_t (ze_tup (za_i (za_i za_nil))) za_nil))))))
  (zss_one (zs_ret (ze_tup (za_s (ze_ix ix_tup (zv 0) ze_int (fun _ _=>rfl)) (za_n (zv 5) (za_c (ze_call G4 r4 rfl mG4 kG4 bG4 .nil pass0 (za_s (ze_ix ix_tup (zv 0) ze_int (fun _ _=>rfl)) (za_n (zv 5) za_nil))) za_nil))))))) zss_nil)
  (zss_one (zs_ret (zv 0)))))))))))),fun q0 ds C h=>?_⟩
 obtain ⟨a,b,d,s,i,c,rfl,hi,ht,c0,c1,rfl⟩:=h
 obtain ⟨Cn,h0,hC,fa,fb,fd⟩:=ht
 have la:=fa.lv h0 hC c1
 have lb:=fb.lv h0 hC c1
 have ld:=fd.lv h0 hC c1
 have h3:i=0\/i=1\/i=2:=by omega
 refine S.let1 (s:=.dat (.int ((i + 1) % 3))) (E1.mod (E1.add (E1.var rfl) E1.int) E1.int (by decide)) ?_
 refine S.ifs (T1.test (E1.eq (E1.var rfl) E1.int)) (fun _=>?_) (fun _=>?_)
 ·rcases h3 with rfl | rfl | rfl
  ·refine S.let1 (s:=.dat (D.Row3.d (D.Row3.sum a b (3 / 5) (4 / 5)))) (E1.call (R:=RSumsV) (ds:=[a.d,b.d,tI (qf (3 / 5)),tI (qf (4 / 5))]) (A1.cons (E1.ixT (d:=a.d) (E1.var rfl) (E1.var rfl) rfl) (A1.cons (E1.ixT (d:=b.d) (E1.var rfl) (E1.var rfl) rfl) (A1.cons (E1.to (s:=.dat (tI [3,5])) (s':=.dat (tI (qf (3 / 5)))) (E1.tu (A1.cons E1.int (A1.cons E1.int A1.nil)) rfl (lsz (n:=2) rfl z2)) (by rw [qf35])) (A1.cons (E1.to (s:=.dat (tI [4,5])) (s':=.dat (tI (qf (4 / 5)))) (E1.tu (A1.cons E1.int (A1.cons E1.int A1.nil)) rfl (lsz (n:=2) rfl z2)) (by rw [qf45])) A1.nil)))) ⟨a.x,a.y,a.z,b.x,b.y,b.z,(3 / 5),(4 / 5),rfl,la.1,la.2.1,la.2.2,lb.1,lb.2.1,lb.2.2,lv35,lv45,rfl⟩) ?_
   exact S.ret1 (s:=.dat (tbD (D.Row3.sum a b (3 / 5) (4 / 5)) b d)) (E1.to (E1.catT (E1.catT (E1.slT (ds:=[a.d,b.d,d.d]) (lo:=none) (hi:=some 0) (E1.var rfl) O1.none (O1.some (E1.var rfl)) (show ¬ (HT.sIx 3 0 none=0/\HT.sIx 3 3 (some 0)=3) by decide)) (E1.tu (ds:=[D.Row3.d (D.Row3.sum a b (3 / 5) (4 / 5))]) (A1.cons (E1.var rfl) A1.nil) rfl (lsz (n:=1) rfl z1)) (show 1<=sizeLine by decide)) (E1.slT (ds:=[a.d,b.d,d.d]) (lo:=some (0 + 1)) (hi:=none) (E1.var rfl) (O1.some (E1.add (E1.var rfl) E1.int)) O1.none (show ¬ (HT.sIx 3 0 (some (0 + 1))=0/\HT.sIx 3 3 none=3) by decide)) (show 3<=sizeLine by decide)) rfl) (bent_nb h0 hC ⟨(RP.sum5 fa fb h0 hC).nb5 h0 hC,fb.nb h0 hC,fd.nb h0 hC⟩)
  ·refine S.let1 (s:=.dat (D.Row3.d (D.Row3.sum b d (3 / 5) (4 / 5)))) (E1.call (R:=RSumsV) (ds:=[b.d,d.d,tI (qf (3 / 5)),tI (qf (4 / 5))]) (A1.cons (E1.ixT (d:=b.d) (E1.var rfl) (E1.var rfl) rfl) (A1.cons (E1.ixT (d:=d.d) (E1.var rfl) (E1.var rfl) rfl) (A1.cons (E1.to (s:=.dat (tI [3,5])) (s':=.dat (tI (qf (3 / 5)))) (E1.tu (A1.cons E1.int (A1.cons E1.int A1.nil)) rfl (lsz (n:=2) rfl z2)) (by rw [qf35])) (A1.cons (E1.to (s:=.dat (tI [4,5])) (s':=.dat (tI (qf (4 / 5)))) (E1.tu (A1.cons E1.int (A1.cons E1.int A1.nil)) rfl (lsz (n:=2) rfl z2)) (by rw [qf45])) A1.nil)))) ⟨b.x,b.y,b.z,d.x,d.y,d.z,(3 / 5),(4 / 5),rfl,lb.1,lb.2.1,lb.2.2,ld.1,ld.2.1,ld.2.2,lv35,lv45,rfl⟩) ?_
   exact S.ret1 (s:=.dat (tbD a (D.Row3.sum b d (3 / 5) (4 / 5)) d)) (E1.to (E1.catT (E1.catT (E1.slT (ds:=[a.d,b.d,d.d]) (lo:=none) (hi:=some 1) (E1.var rfl) O1.none (O1.some (E1.var rfl)) (show ¬ (HT.sIx 3 0 none=0/\HT.sIx 3 3 (some 1)=3) by decide)) (E1.tu (ds:=[D.Row3.d (D.Row3.sum b d (3 / 5) (4 / 5))]) (A1.cons (E1.var rfl) A1.nil) rfl (lsz (n:=1) rfl z1)) (show 2<=sizeLine by decide)) (E1.slT (ds:=[a.d,b.d,d.d]) (lo:=some (1 + 1)) (hi:=none) (E1.var rfl) (O1.some (E1.add (E1.var rfl) E1.int)) O1.none (show ¬ (HT.sIx 3 0 (some (1 + 1))=0/\HT.sIx 3 3 none=3) by decide)) (show 3<=sizeLine by decide)) rfl) (bent_nb h0 hC ⟨fa.nb h0 hC,(RP.sum5 fb fd h0 hC).nb5 h0 hC,fd.nb h0 hC⟩)
  ·refine S.let1 (s:=.dat (D.Row3.d (D.Row3.sum d a (3 / 5) (4 / 5)))) (E1.call (R:=RSumsV) (ds:=[d.d,a.d,tI (qf (3 / 5)),tI (qf (4 / 5))]) (A1.cons (E1.ixT (d:=d.d) (E1.var rfl) (E1.var rfl) rfl) (A1.cons (E1.ixT (d:=a.d) (E1.var rfl) (E1.var rfl) rfl) (A1.cons (E1.to (s:=.dat (tI [3,5])) (s':=.dat (tI (qf (3 / 5)))) (E1.tu (A1.cons E1.int (A1.cons E1.int A1.nil)) rfl (lsz (n:=2) rfl z2)) (by rw [qf35])) (A1.cons (E1.to (s:=.dat (tI [4,5])) (s':=.dat (tI (qf (4 / 5)))) (E1.tu (A1.cons E1.int (A1.cons E1.int A1.nil)) rfl (lsz (n:=2) rfl z2)) (by rw [qf45])) A1.nil)))) ⟨d.x,d.y,d.z,a.x,a.y,a.z,(3 / 5),(4 / 5),rfl,ld.1,ld.2.1,ld.2.2,la.1,la.2.1,la.2.2,lv35,lv45,rfl⟩) ?_
   exact S.ret1 (s:=.dat (tbD a b (D.Row3.sum d a (3 / 5) (4 / 5)))) (E1.to (E1.catT (E1.catT (E1.slT (ds:=[a.d,b.d,d.d]) (lo:=none) (hi:=some 2) (E1.var rfl) O1.none (O1.some (E1.var rfl)) (show ¬ (HT.sIx 3 0 none=0/\HT.sIx 3 3 (some 2)=3) by decide)) (E1.tu (ds:=[D.Row3.d (D.Row3.sum d a (3 / 5) (4 / 5))]) (A1.cons (E1.var rfl) A1.nil) rfl (lsz (n:=1) rfl z1)) (show 3<=sizeLine by decide)) (E1.slT (ds:=[a.d,b.d,d.d]) (lo:=some (2 + 1)) (hi:=none) (E1.var rfl) (O1.some (E1.add (E1.var rfl) E1.int)) O1.none (show ¬ (HT.sIx 3 0 (some (2 + 1))=0/\HT.sIx 3 3 none=3) by decide)) (show 3<=sizeLine by decide)) rfl) (bent_nb h0 hC ⟨fa.nb h0 hC,fb.nb h0 hC,(RP.sum5 fd fa h0 hC).nb5 h0 hC⟩)
 refine S.ifs (T1.test (E1.eq (E1.var rfl) E1.int)) (fun _=>?_) (fun _=>?_)
 ·rcases h3 with rfl | rfl | rfl
  ·refine S.let1 (s:=.dat (D.Row3.d (D.Row3.sum a b 2 0))) (E1.call (R:=RSumsV) (ds:=[a.d,b.d,tI (qf 2),tI (qf 0)]) (A1.cons (E1.ixT (d:=a.d) (E1.var rfl) (E1.var rfl) rfl) (A1.cons (E1.ixT (d:=b.d) (E1.var rfl) (E1.var rfl) rfl) (A1.cons (E1.to (s:=.dat (tI [2,1])) (s':=.dat (tI (qf 2))) (E1.tu (A1.cons E1.int (A1.cons E1.int A1.nil)) rfl (lsz (n:=2) rfl z2)) (by rw [qf21])) (A1.cons (E1.to (s:=.dat (tI [0,1])) (s':=.dat (tI (qf 0))) (E1.tu (A1.cons E1.int (A1.cons E1.int A1.nil)) rfl (lsz (n:=2) rfl z2)) (by rw [qf01])) A1.nil)))) ⟨a.x,a.y,a.z,b.x,b.y,b.z,2,0,rfl,la.1,la.2.1,la.2.2,lb.1,lb.2.1,lb.2.2,lv21,lv01,rfl⟩) ?_
   exact S.ret1 (s:=.dat (tbD (D.Row3.sum a b 2 0) b d)) (E1.to (E1.catT (E1.catT (E1.slT (ds:=[a.d,b.d,d.d]) (lo:=none) (hi:=some 0) (E1.var rfl) O1.none (O1.some (E1.var rfl)) (show ¬ (HT.sIx 3 0 none=0/\HT.sIx 3 3 (some 0)=3) by decide)) (E1.tu (ds:=[D.Row3.d (D.Row3.sum a b 2 0)]) (A1.cons (E1.var rfl) A1.nil) rfl (lsz (n:=1) rfl z1)) (show 1<=sizeLine by decide)) (E1.slT (ds:=[a.d,b.d,d.d]) (lo:=some (0 + 1)) (hi:=none) (E1.var rfl) (O1.some (E1.add (E1.var rfl) E1.int)) O1.none (show ¬ (HT.sIx 3 0 (some (0 + 1))=0/\HT.sIx 3 3 none=3) by decide)) (show 3<=sizeLine by decide)) rfl) (bent_nb h0 hC ⟨(RP.dbl fa fb h0 hC).nb5 h0 hC,fb.nb h0 hC,fd.nb h0 hC⟩)
  ·refine S.let1 (s:=.dat (D.Row3.d (D.Row3.sum b d 2 0))) (E1.call (R:=RSumsV) (ds:=[b.d,d.d,tI (qf 2),tI (qf 0)]) (A1.cons (E1.ixT (d:=b.d) (E1.var rfl) (E1.var rfl) rfl) (A1.cons (E1.ixT (d:=d.d) (E1.var rfl) (E1.var rfl) rfl) (A1.cons (E1.to (s:=.dat (tI [2,1])) (s':=.dat (tI (qf 2))) (E1.tu (A1.cons E1.int (A1.cons E1.int A1.nil)) rfl (lsz (n:=2) rfl z2)) (by rw [qf21])) (A1.cons (E1.to (s:=.dat (tI [0,1])) (s':=.dat (tI (qf 0))) (E1.tu (A1.cons E1.int (A1.cons E1.int A1.nil)) rfl (lsz (n:=2) rfl z2)) (by rw [qf01])) A1.nil)))) ⟨b.x,b.y,b.z,d.x,d.y,d.z,2,0,rfl,lb.1,lb.2.1,lb.2.2,ld.1,ld.2.1,ld.2.2,lv21,lv01,rfl⟩) ?_
   exact S.ret1 (s:=.dat (tbD a (D.Row3.sum b d 2 0) d)) (E1.to (E1.catT (E1.catT (E1.slT (ds:=[a.d,b.d,d.d]) (lo:=none) (hi:=some 1) (E1.var rfl) O1.none (O1.some (E1.var rfl)) (show ¬ (HT.sIx 3 0 none=0/\HT.sIx 3 3 (some 1)=3) by decide)) (E1.tu (ds:=[D.Row3.d (D.Row3.sum b d 2 0)]) (A1.cons (E1.var rfl) A1.nil) rfl (lsz (n:=1) rfl z1)) (show 2<=sizeLine by decide)) (E1.slT (ds:=[a.d,b.d,d.d]) (lo:=some (1 + 1)) (hi:=none) (E1.var rfl) (O1.some (E1.add (E1.var rfl) E1.int)) O1.none (show ¬ (HT.sIx 3 0 (some (1 + 1))=0/\HT.sIx 3 3 none=3) by decide)) (show 3<=sizeLine by decide)) rfl) (bent_nb h0 hC ⟨fa.nb h0 hC,(RP.dbl fb fd h0 hC).nb5 h0 hC,fd.nb h0 hC⟩)
  ·refine S.let1 (s:=.dat (D.Row3.d (D.Row3.sum d a 2 0))) (E1.call (R:=RSumsV) (ds:=[d.d,a.d,tI (qf 2),tI (qf 0)]) (A1.cons (E1.ixT (d:=d.d) (E1.var rfl) (E1.var rfl) rfl) (A1.cons (E1.ixT (d:=a.d) (E1.var rfl) (E1.var rfl) rfl) (A1.cons (E1.to (s:=.dat (tI [2,1])) (s':=.dat (tI (qf 2))) (E1.tu (A1.cons E1.int (A1.cons E1.int A1.nil)) rfl (lsz (n:=2) rfl z2)) (by rw [qf21])) (A1.cons (E1.to (s:=.dat (tI [0,1])) (s':=.dat (tI (qf 0))) (E1.tu (A1.cons E1.int (A1.cons E1.int A1.nil)) rfl (lsz (n:=2) rfl z2)) (by rw [qf01])) A1.nil)))) ⟨d.x,d.y,d.z,a.x,a.y,a.z,2,0,rfl,ld.1,ld.2.1,ld.2.2,la.1,la.2.1,la.2.2,lv21,lv01,rfl⟩) ?_
   exact S.ret1 (s:=.dat (tbD a b (D.Row3.sum d a 2 0))) (E1.to (E1.catT (E1.catT (E1.slT (ds:=[a.d,b.d,d.d]) (lo:=none) (hi:=some 2) (E1.var rfl) O1.none (O1.some (E1.var rfl)) (show ¬ (HT.sIx 3 0 none=0/\HT.sIx 3 3 (some 2)=3) by decide)) (E1.tu (ds:=[D.Row3.d (D.Row3.sum d a 2 0)]) (A1.cons (E1.var rfl) A1.nil) rfl (lsz (n:=1) rfl z1)) (show 3<=sizeLine by decide)) (E1.slT (ds:=[a.d,b.d,d.d]) (lo:=some (2 + 1)) (hi:=none) (E1.var rfl) (O1.some (E1.add (E1.var rfl) E1.int)) O1.none (show ¬ (HT.sIx 3 0 (some (2 + 1))=0/\HT.sIx 3 3 none=3) by decide)) (show 3<=sizeLine by decide)) rfl) (bent_nb h0 hC ⟨fa.nb h0 hC,fb.nb h0 hC,(RP.dbl fd fa h0 hC).nb5 h0 hC⟩)
 refine S.ifs (T1.test (E1.eq (E1.var rfl) E1.int)) (fun _=>?_) (fun _=>?_)
 ·exact S.ret (E.callU (R:=RAnyV) (ds:=[]) (A1.cons (E1.varP rfl) A1.nil) ⟨rfl,rfl⟩) (fun s ⟨g,es,a',b',d',eg,hg⟩=>by subst es eg;exact ⟨_,any_bent hg c0,rfl,rfl⟩)
 refine S.ifs (T1.test (E1.eq (E1.var rfl) E1.int)) (fun _=>?_) (fun _=>?_)
 ·exact S.ret1 (s:=.dat (tbD b a.neg d)) (E1.tu (A1.cons (E1.ixT (d:=b.d) (E1.var rfl) E1.int rfl) (A1.cons (E1.ixL (ds:=[a.neg.d,b.neg.d,d.neg.d]) (d:=a.neg.d) (E1.vwd (E1.call (R:=RSignsV) (ds:=[tbD a b d]) (A1.cons (E1.var rfl) A1.nil) ⟨a,b,d,rfl,rfl⟩)) E1.int rfl) (A1.cons (E1.ixT (d:=d.d) (E1.var rfl) E1.int rfl) A1.nil))) rfl (lsz (n:=3) rfl z3)) (bent_nb h0 hC ⟨fb.nb h0 hC,fa.neg h0 hC,fd.nb h0 hC⟩)
 refine S.ifs (T1.test (E1.eq (E1.var rfl) E1.int)) (fun _=>?_) (fun _=>?_)
 ·exact S.ret1 (s:=.dat (tbD a b (a.cr b))) (E1.tu (A1.cons (E1.ixT (d:=a.d) (E1.var rfl) E1.int rfl) (A1.cons (E1.ixT (d:=b.d) (E1.var rfl) E1.int rfl) (A1.cons (E1.call (R:=RCv) (ds:=[a.d,D.Row3.d b]) (A1.cons (E1.ixT (d:=a.d) (E1.var rfl) E1.int rfl) (A1.cons (E1.ixT (d:=b.d) (E1.var rfl) E1.int rfl) A1.nil)) ⟨a.x,a.y,a.z,(b).x,(b).y,(b).z,rfl,la.1,la.2.1,la.2.2,lb.1,lb.2.1,lb.2.2,rfl⟩) A1.nil))) rfl (lsz (n:=3) rfl z3)) (bent_nb h0 hC ⟨fa.nb h0 hC,fb.nb h0 hC,fa.cr (fb.to5 h0) h0 hC⟩)
 refine S.ifs (T1.test (E1.eq (E1.var rfl) E1.int)) (fun _=>?_) (fun _=>?_)
 ·refine S.let1 (s:=.dat (D.Row3.d (D.Row3.sum a b (3 / 5) (4 / 5)))) (E1.call (R:=RSumsV) (ds:=[a.d,b.d,tI (qf (3 / 5)),tI (qf (4 / 5))]) (A1.cons (E1.ixT (d:=a.d) (E1.var rfl) E1.int rfl) (A1.cons (E1.ixT (d:=b.d) (E1.var rfl) E1.int rfl) (A1.cons (E1.to (s:=.dat (tI [3,5])) (s':=.dat (tI (qf (3 / 5)))) (E1.tu (A1.cons E1.int (A1.cons E1.int A1.nil)) rfl (lsz (n:=2) rfl z2)) (by rw [qf35])) (A1.cons (E1.to (s:=.dat (tI [4,5])) (s':=.dat (tI (qf (4 / 5)))) (E1.tu (A1.cons E1.int (A1.cons E1.int A1.nil)) rfl (lsz (n:=2) rfl z2)) (by rw [qf45])) A1.nil)))) ⟨a.x,a.y,a.z,b.x,b.y,b.z,(3 / 5),(4 / 5),rfl,la.1,la.2.1,la.2.2,lb.1,lb.2.1,lb.2.2,lv35,lv45,rfl⟩) ?_
  have g5:=fa.sum5 fb h0 hC
  have l5:=g5.lv5 h0 hC c1
  exact S.ret1 (s:=.dat (tbD a (D.Row3.sum a b (3 / 5) (4 / 5)) (a.cr (D.Row3.sum a b (3 / 5) (4 / 5))))) (E1.tu (A1.cons (E1.ixT (d:=a.d) (E1.var rfl) E1.int rfl) (A1.cons (E1.var rfl) (A1.cons (E1.call (R:=RCv) (ds:=[a.d,D.Row3.d (D.Row3.sum a b (3 / 5) (4 / 5))]) (A1.cons (E1.ixT (d:=a.d) (E1.var rfl) E1.int rfl) (A1.cons (E1.var rfl) A1.nil)) ⟨a.x,a.y,a.z,((D.Row3.sum a b (3 / 5) (4 / 5))).x,((D.Row3.sum a b (3 / 5) (4 / 5))).y,((D.Row3.sum a b (3 / 5) (4 / 5))).z,rfl,la.1,la.2.1,la.2.2,l5.1,l5.2.1,l5.2.2,rfl⟩) A1.nil))) rfl (lsz (n:=3) rfl z3)) (bent_nb h0 hC ⟨fa.nb h0 hC,g5.nb5 h0 hC,fa.cr g5 h0 hC⟩)
 refine S.ifs (T1.test (E1.eq (E1.var rfl) E1.int)) (fun _=>?_) (fun _=>?_)
 ·refine S.let1 (s:=.dat (D.Row3.d (D.Row3.sum b b (1 / 2) 0))) (E1.call (R:=RSumsV) (ds:=[b.d,b.d,tI (qf (1 / 2)),tI (qf 0)]) (A1.cons (E1.ixT (d:=b.d) (E1.var rfl) E1.int rfl) (A1.cons (E1.ixT (d:=b.d) (E1.var rfl) E1.int rfl) (A1.cons (E1.to (s:=.dat (tI [1,2])) (s':=.dat (tI (qf (1 / 2)))) (E1.tu (A1.cons E1.int (A1.cons E1.int A1.nil)) rfl (lsz (n:=2) rfl z2)) (by rw [qf12])) (A1.cons (E1.to (s:=.dat (tI [0,1])) (s':=.dat (tI (qf 0))) (E1.tu (A1.cons E1.int (A1.cons E1.int A1.nil)) rfl (lsz (n:=2) rfl z2)) (by rw [qf01])) A1.nil)))) ⟨b.x,b.y,b.z,b.x,b.y,b.z,(1 / 2),0,rfl,lb.1,lb.2.1,lb.2.2,lb.1,lb.2.1,lb.2.2,lv12,lv01,rfl⟩) ?_
  exact S.ret1 (s:=.dat (tbD (D.Row3.sum a a 2 0) (D.Row3.sum b b (1 / 2) 0) d)) (E1.tu (A1.cons (E1.call (R:=RSumsV) (ds:=[a.d,a.d,tI (qf 2),tI (qf 0)]) (A1.cons (E1.ixT (d:=a.d) (E1.var rfl) E1.int rfl) (A1.cons (E1.ixT (d:=a.d) (E1.var rfl) E1.int rfl) (A1.cons (E1.to (s:=.dat (tI [2,1])) (s':=.dat (tI (qf 2))) (E1.tu (A1.cons E1.int (A1.cons E1.int A1.nil)) rfl (lsz (n:=2) rfl z2)) (by rw [qf21])) (A1.cons (E1.to (s:=.dat (tI [0,1])) (s':=.dat (tI (qf 0))) (E1.tu (A1.cons E1.int (A1.cons E1.int A1.nil)) rfl (lsz (n:=2) rfl z2)) (by rw [qf01])) A1.nil)))) ⟨a.x,a.y,a.z,a.x,a.y,a.z,2,0,rfl,la.1,la.2.1,la.2.2,la.1,la.2.1,la.2.2,lv21,lv01,rfl⟩) (A1.cons (E1.var rfl) (A1.cons (E1.ixT (d:=d.d) (E1.var rfl) E1.int rfl) A1.nil))) rfl (lsz (n:=3) rfl z3)) (bent_nb h0 hC ⟨(fa.dbl fa h0 hC).nb5 h0 hC,fb.half fb h0 hC,fd.nb h0 hC⟩)
 refine S.ifs (T1.test (E1.eq (E1.var rfl) E1.int)) (fun _=>?_) (fun _=>?_)
 ·refine S.let1 (s:=.dat (D.Row3.d (D.Row3.sum b b 2 0))) (E1.call (R:=RSumsV) (ds:=[b.d,b.d,tI (qf 2),tI (qf 0)]) (A1.cons (E1.ixT (d:=b.d) (E1.var rfl) E1.int rfl) (A1.cons (E1.ixT (d:=b.d) (E1.var rfl) E1.int rfl) (A1.cons (E1.to (s:=.dat (tI [2,1])) (s':=.dat (tI (qf 2))) (E1.tu (A1.cons E1.int (A1.cons E1.int A1.nil)) rfl (lsz (n:=2) rfl z2)) (by rw [qf21])) (A1.cons (E1.to (s:=.dat (tI [0,1])) (s':=.dat (tI (qf 0))) (E1.tu (A1.cons E1.int (A1.cons E1.int A1.nil)) rfl (lsz (n:=2) rfl z2)) (by rw [qf01])) A1.nil)))) ⟨b.x,b.y,b.z,b.x,b.y,b.z,2,0,rfl,lb.1,lb.2.1,lb.2.2,lb.1,lb.2.1,lb.2.2,lv21,lv01,rfl⟩) ?_
  have g5:=fb.dbl fb h0 hC
  have l5:=g5.lv5 h0 hC c1
  exact S.ret1 (s:=.dat (tbD a (D.Row3.sum b b 2 0) (a.cr (D.Row3.sum b b 2 0)))) (E1.tu (A1.cons (E1.ixT (d:=a.d) (E1.var rfl) E1.int rfl) (A1.cons (E1.var rfl) (A1.cons (E1.call (R:=RCv) (ds:=[a.d,D.Row3.d (D.Row3.sum b b 2 0)]) (A1.cons (E1.ixT (d:=a.d) (E1.var rfl) E1.int rfl) (A1.cons (E1.var rfl) A1.nil)) ⟨a.x,a.y,a.z,((D.Row3.sum b b 2 0)).x,((D.Row3.sum b b 2 0)).y,((D.Row3.sum b b 2 0)).z,rfl,la.1,la.2.1,la.2.2,l5.1,l5.2.1,l5.2.2,rfl⟩) A1.nil))) rfl (lsz (n:=3) rfl z3)) (bent_nb h0 hC ⟨fa.nb h0 hC,g5.nb5 h0 hC,fa.cr g5 h0 hC⟩)
 exact S.ret1 (s:=.dat (tbD a b d)) (E1.var rfl) (bent_nb h0 hC ⟨fa.nb h0 hC,fb.nb h0 hC,fd.nb h0 hC⟩)
theorem scBentV:FnScope ["_law_table_here","_law_purse_here","_law_sort","_law_at","_law_place","_law_far","_law_top","_law_bottom","_law_signs_here"] ["_law_table_here","_law_purse_here"] (defScope sBentV):=⟨rfl,rfl,rfl,by decide +kernel,rfl,by decide +kernel,by decide +kernel⟩
theorem ok_bentv (F:Fun K "_law_bent" "_law_bent" sBentV f fd)
  (G:FnOk P w K mg base CX0 1 g gd ["_law_purse_here","_law_many"] spDraw) (bG:Binds K gd ["_law_purse_here","_law_many"] []) (kG:PySem.W.keepIn K (.ref g)=true) (mG:mg "_law_take" = some (.ref g))
  (G2:FnOk P w K mg base CX0 1 g2 gd2 ["_law_table_here"] (spP K RSignsV)) (bG2:Binds K gd2 ["_law_table_here"] []) (kG2:PySem.W.keepIn K (.ref g2)=true) (mG2:mg "_law_signs" = some (.ref g2))
  (G3:FnOk P w K mg base CX0 1 g3 gd3 ["_law_table_here","_law_at","_law_place","_law_other"] (spQ K RWithV)) (bG3:Binds K gd3 ["_law_table_here","_law_at","_law_place","_law_other"] []) (kG3:PySem.W.keepIn K (.ref g3)=true) (mG3:mg "_law_with" = some (.ref g3))
  (G4:FnOk P w K mg base CX0 2 g4 gd4 ["_law_top","_law_bottom"] (spMade K)) (bG4:Binds K gd4 ["_law_top","_law_bottom"] []) (kG4:PySem.W.keepIn K (.ref g4)=true) (mG4:mg "_law_lowest" = some (.ref g4))
  (G5:FnOk P w K mg base CX0 5 g5 gd5 ["_law_table_here","_law_sort","_law_at","_law_purse_here"] (spZ K ROtherV)) (bG5:Binds K gd5 ["_law_table_here","_law_sort","_law_at","_law_purse_here"] []) (kG5:PySem.W.keepIn K (.ref g5)=true) (mG5:mg "_law_otherwise" = some (.ref g5)) (m_tuple:mg "tuple" = none) (m_range:mg "range" = none) :
  FnOk P w K mg base CX0 6 f fd ["_law_table_here","_law_purse_here"] (spZ K RBentV):=by
 refine okZ F scBentV (fun ds d h=>?_) (fun cdv A0 outer s0 H0 E0 hr=>?_)
 ·obtain ⟨a,b,d,c,rfl,_⟩:=h;rfl
 have r:=hr.mono (show 1<=5 by decide)
 have r2:=hr.mono (show 1<=5 by decide)
 have r3:=hr.mono (show 1<=5 by decide)
 have r4:=hr.mono (show 2<=5 by decide)
 have r5:=hr.mono (show 5<=5 by decide)
 refine ⟨_,(zss_cons (zs_set (i:=2) scBentV.nd rfl (Or.inl rfl) (ze_call G r rfl mG kG bG .nil pass0 (za_n (zv 1) (za_i za_nil))))
  (zss_cons (zs_set (i:=3) scBentV.nd rfl (Or.inl rfl) (ze_call G r rfl mG kG bG .nil pass0 (za_n (zv 1) (za_i za_nil))))
  (zss_cons (zs_set (i:=4) scBentV.nd rfl (Or.inl rfl) (ze_call G r rfl mG kG bG .nil pass0 (za_n (zv 1) (za_i za_nil))))
  (zss_cons (zs_set (i:=5) scBentV.nd rfl (Or.inl rfl) (ze_op op_mod (ze_op op_add (zv 3) ze_int) ze_int))
  (zss_cons (zs_asg (ze_ix ix_tup (ze_ix ix_tup (zv 0) (zv 3) (fun _ _=>rfl)) (zv 4) (fun _ _=>rfl)) (zg_tup rfl (zgs_cons (zg_name (i:=6) scBentV.nd rfl (Or.inl rfl)) (zgs_cons (zg_name (i:=7) scBentV.nd rfl (Or.inl rfl)) zgs_nil))))
  (zss_cons (zs_set (i:=8) scBentV.nd rfl (Or.inl rfl) (ze_call G2 r2 rfl mG2 kG2 bG2 .nil pass0 (za_n (zv 0) za_nil)))
  (zss_cons (zs_if (zt_cmpR op_eq (zv 2) ze_int (nomark _)) (zss_one (zs_ret (ze_call G3 r3 rfl mG3 kG3 bG3 .nil pass0 (za_n (zv 0) (za_n (zv 3) (za_n (zv 4) (za_t (ze_tup (za_u (ze_un un_neg (zv 6)) (za_n (zv 7) za_nil))) za_nil))))))) zss_nil)
  (zss_cons (zs_if (zt_cmpR op_eq (zv 2) ze_int (nomark _)) (zss_one (zs_ret (ze_call G3 r3 rfl mG3 kG3 bG3 .nil pass0 (za_n (zv 0) (za_n (zv 3) (za_n (zv 4) (za_t (ze_tup (za_b (ze_op op_add (zv 6) (zv 7)) (za_n (zv 7) za_nil))) za_nil))))))) zss_nil)
  (zss_cons (zs_if (zt_cmpR op_eq (zv 2) ze_int (nomark _)) (zss_one (zs_ret (ze_call G3 r3 rfl mG3 kG3 bG3 .nil pass0 (za_n (zv 0) (za_n (zv 3) (za_n (zv 4) (za_c (ze_call G4 r4 rfl mG4 kG4 bG4 .nil pass0 (za_b (ze_op op_add (ze_op op_mulB (zv 6) (ze_op op_pow ze_int ze_int)) (zv 7)) (za_b (ze_op op_mulB (zv 7) (ze_op op_pow ze_int ze_int)) za_nil))) za_nil))))))) zss_nil)
  (zss_cons (zs_if (zt_cmpR op_eq (zv 2) ze_int (nomark _)) (zss_one (zs_ret (ze_tup (za_s (ze_ix ix_tup (zv 0) ze_int (fun _ _=>rfl)) (za_s (ze_ix ix_tup (zv 0) ze_int (fun _ _=>rfl)) (za_s (ze_ix ix_tup (zv 0) ze_int (fun _ _=>rfl)) za_nil)))))) zss_nil)
  (zss_cons (zs_if (zt_cmpR op_eq (zv 2) ze_int (nomark _)) (zss_one (zs_ret (ze_callTy call_tuple_of rfl m_tuple (by rfl) (za_cons (ze_comp (own:=["_law_row"]) scBentV rfl ⟨by decide +kernel,rfl,by decide +kernel,by decide +kernel,by decide +kernel,by decide +kernel,by decide +kernel,by decide +kernel,by decide +kernel⟩ (zi_tup (zv 0)) (fun C fp s H nd=>zg_name (i:=0) nd rfl (Or.inl rfl)) (fun C fp s H=>zts_nil) (fun C fp s H=>(ze_tup (za_s (ze_ix ix_tupC (zv 0) ze_int (fun _ _=>rfl)) (za_s (ze_ix ix_tupC (zv 0) ze_int (fun _ _=>rfl)) (za_s (ze_ix ix_tupC (zv 0) ze_int (fun _ _=>rfl)) za_nil)))))) za_nil)))) zss_nil)
  (zss_cons (zs_if (zt_cmpR op_eq (zv 2) ze_int (nomark _)) (zss_one (zs_ret (ze_op op_catW (ze_op op_catW (ze_slice sl_tup (zv 0) zo_none (zo_some (zv 3))) (ze_tup (za_s (ze_ix ix_list (zv 8) (zv 3) (fun _ _=>rfl)) za_nil))) (ze_slice sl_tup (zv 0) (zo_some (ze_op op_add (zv 3) ze_int)) zo_none)))) zss_nil)
  (zss_cons (zs_if (zt_cmpR op_eq (zv 2) ze_int (nomark _)) (zss_one (zs_ret (ze_callTy call_tuple_of rfl m_tuple (by rfl) (za_n (zv 8) za_nil)))) zss_nil)
  (zss_cons (zs_if (zt_cmpR op_eq (zv 2) ze_int (nomark _)) (zss_one (zs_ret (ze_callTy call_tuple_of rfl m_tuple (by rfl) (za_cons (ze_compK (x := "_law_j") scBentV rfl ⟨by decide +kernel,rfl,rfl,by decide +kernel,by decide +kernel,by decide +kernel,by decide +kernel,by decide +kernel,by decide +kernel⟩ (zi_range1 rfl m_range (za_i za_nil)) (fun C fp s H nd=>zg_name (i:=0) nd rfl (Or.inr rfl)) (fun C fp s H=>zts_nil) (fun C fp s H=>(ze_callTy call_tupleK rfl m_tuple (by rfl) (za_cons (ze_compNK (own2:=["_law_k"]) scBentV rfl ⟨by decide +kernel,rfl,by decide +kernel,by decide +kernel,by decide +kernel,by decide +kernel,by decide +kernel,by decide +kernel,by decide +kernel⟩ (zi_range1 rfl m_range (za_i za_nil)) (fun C fp s H nd=>zg_name (i:=0) nd rfl (Or.inl rfl)) (fun C fp s H=>zts_nil) (fun C fp s H=>(ze_ix ix_tupKC (ze_ix ix_tupKC (zv 2) (zv 0) (fun _ _=>rfl)) (zv 1) (fun _ _=>rfl)))) za_nil)))) za_nil)))) zss_nil)
  (zss_cons (zs_if (zt_cmpR op_eq (zv 2) ze_int (nomark _)) (zss_one (zs_ret (ze_op op_catW (ze_op op_catW (ze_slice sl_tup (zv 0) zo_none (zo_some (zv 3))) (ze_tup (za_s (ze_ix ix_tup (zv 0) (zv 5) (fun _ _=>rfl)) za_nil))) (ze_slice sl_tup (zv 0) (zo_some (ze_op op_add (zv 3) ze_int)) zo_none)))) zss_nil)
  (zss_one (zs_ret (ze_call G5 r5 rfl mG5 kG5 bG5 .nil pass0 (za_n (zv 0) (za_n (zv 2) (za_n (zv 3) (za_n (zv 1) za_nil)))))))))))))))))))))),fun q0 ds C h=>?_⟩
 obtain ⟨a,b,d,c,rfl,ht,c0,c1,rfl⟩:=h
 have ht0:=ht
 obtain ⟨Cn,h0,hC,fa,fb,fd⟩:=ht
 have la:=fa.lv h0 hC c1
 have lb:=fb.lv h0 hC c1
 have ld:=fd.lv h0 hC c1
 have ft:TabP (FB Cn c) a b d:=⟨fa,fb,fd⟩
 refine S.letC (EI.draw (A1.cons (E1.varP rfl) (A1.cons E1.int A1.nil)) (by decide:(0:Int) < 18) (by decide)) (fun s ⟨_,e,_⟩=>by rw [e];rfl) fun s ⟨so,es,so0,so1⟩=>?_
 subst es
 refine S.letC (EI.draw (A1.cons (E1.varP rfl) (A1.cons E1.int A1.nil)) (by decide:(0:Int) < 3) (by decide)) (fun s ⟨_,e,_⟩=>by rw [e];rfl) fun s ⟨i,es,hi⟩=>?_
 subst es
 refine S.letC (EI.draw (A1.cons (E1.varP rfl) (A1.cons E1.int A1.nil)) (by decide:(0:Int) < 3) (by decide)) (fun s ⟨_,e,_⟩=>by rw [e];rfl) fun s ⟨j,es,hj⟩=>?_
 subst es
 have h3:i=0\/i=1\/i=2:=by omega
 have hr:=row_at (a:=a) (b:=b) (d:=d) hi
 obtain ⟨r,er,fr'⟩:=hr
 have hy:=ent_at (r:=r) hj
 obtain ⟨y,ey,fy'⟩:=hy
 have fy:FB Cn c y:=fy' _ (fr' _ ft)
 have ly:=fy.lv h0 hC (by omega)
 have k1:IntMulOk y.num (10 ^ Int.toNat 6):=ly.bt.mulOk (x:=950) (y:=20) (by unfold Bt;decide)
 have k2:IntMulOk (y.den:Int) (10 ^ Int.toNat 6):=ly.bb.mulOk (x:=950) (y:=20) (by unfold Bt;decide)
 have b0:0 < (y.den:Int) * 10 ^ Int.toNat 6:=Int.mul_pos ly.pos (by decide)
 have b8:Bt ((y.den:Int) * 10 ^ Int.toNat 6) 8000:=(ly.bb.mul (show Bt (10 ^ Int.toNat 6) 20 by unfold Bt;decide)).up (by decide)
 refine S.let1 (s:=.dat (.int ((i + 1) % 3))) (E1.mod (E1.add (E1.var rfl) E1.int) E1.int (by decide)) ?_
 refine S.letG (d:=.tuple [.int y.num,.int (y.den:Int)]) (E1.ixT (ds:=[tI (qf r.x),tI (qf r.y),tI (qf r.z)]) (E1.ixT (ds:=[a.d,b.d,d.d]) (d:=r.d) (E1.var rfl) (E1.var rfl) er) (E1.var rfl) ey) (Gd.pair (x:=.int y.num) (y:=.int (y.den:Int))) ?_
 refine S.let1 (s:=.dat (.list [a.neg.d,b.neg.d,d.neg.d])) (E1.call (R:=RSignsV) (ds:=[tbD a b d]) (A1.cons (E1.var rfl) A1.nil) ⟨a,b,d,rfl,rfl⟩) ?_
 refine S.ifs (T1.test (E1.eq (E1.var rfl) E1.int)) (fun _=>?_) (fun _=>?_)
 ·exact S.ret (E.callQ (R:=RWithV) (ds:=[tbD a b d,.int i,.int j,tI (qf (-y))]) (A1.cons (E1.var rfl) (A1.cons (E1.var rfl) (A1.cons (E1.var rfl) (A1.cons (E1.to (s:=.dat (tI [-y.num,(y.den:Int)])) (s':=.dat (tI (qf (-y)))) (E1.tu (A1.cons (E1.neg (E1.var rfl)) (A1.cons (E1.var rfl) A1.nil)) rfl (lsz (n:=2) rfl z2)) (by rw [qf_neg'])) A1.nil)))) ⟨a,b,d,i,j,(-y),rfl,hi,hj,rfl⟩) (fun s ⟨g,es,a',b',d',eg,hg⟩=>by subst es eg;exact bent_nb h0 hC (hg (NB Cn c) (tab_bent h0 hC ft) (fy.neg.nb h0 hC)))
 refine S.ifs (T1.test (E1.eq (E1.var rfl) E1.int)) (fun _=>?_) (fun _=>?_)
 ·exact S.ret (E.callQ (R:=RWithV) (ds:=[tbD a b d,.int i,.int j,tI (qf (y + 1))]) (A1.cons (E1.var rfl) (A1.cons (E1.var rfl) (A1.cons (E1.var rfl) (A1.cons (E1.to (s:=.dat (tI [y.num + y.den,(y.den:Int)])) (s':=.dat (tI (qf (y + 1)))) (E1.tu (A1.cons (E1.add (E1.var rfl) (E1.var rfl)) (A1.cons (E1.var rfl) A1.nil)) rfl (lsz (n:=2) rfl z2)) (by rw [qf_one])) A1.nil)))) ⟨a,b,d,i,j,(y + 1),rfl,hi,hj,rfl⟩) (fun s ⟨g,es,a',b',d',eg,hg⟩=>by subst es eg;exact bent_nb h0 hC (hg (NB Cn c) (tab_bent h0 hC ft) (fy.nbOne h0 hC)))
 refine S.ifs (T1.test (E1.eq (E1.var rfl) E1.int)) (fun _=>?_) (fun _=>?_)
 ·exact S.ret (E.callQ (R:=RWithV) (ds:=[tbD a b d,.int i,.int j,tI (qf (y + 1 / 1000000))]) (A1.cons (E1.var rfl) (A1.cons (E1.var rfl) (A1.cons (E1.var rfl) (A1.cons (E1.to (s:=.dat (tI (fr (y.num * 10 ^ Int.toNat 6 + y.den) (y.den * 10 ^ Int.toNat 6)))) (s':=.dat (tI (qf (y + 1 / 1000000)))) (E1.cMade (t:=y.num * 10 ^ Int.toNat 6 + y.den) (b:=y.den * 10 ^ Int.toNat 6) (A1.cons (E1.add (E1.mul (E1.var rfl) (by walk_at "au3") k1) (E1.var rfl)) (A1.cons (E1.mul (E1.var rfl) (by walk_at "au3") k2) A1.nil)) b0 b8) (by rw [fr_qf b0,qf_mil])) A1.nil)))) ⟨a,b,d,i,j,(y + 1 / 1000000),rfl,hi,hj,rfl⟩) (fun s ⟨g,es,a',b',d',eg,hg⟩=>by subst es eg;exact bent_nb h0 hC (hg (NB Cn c) (tab_bent h0 hC ft) (fy.nbMil h0 hC)))
 refine S.ifs (T1.test (E1.eq (E1.var rfl) E1.int)) (fun _=>?_) (fun _=>?_)
 ·exact S.ret1 (s:=.dat (tbD b a d)) (E1.tu (A1.cons (E1.ixT (d:=b.d) (E1.var rfl) E1.int rfl) (A1.cons (E1.ixT (d:=a.d) (E1.var rfl) E1.int rfl) (A1.cons (E1.ixT (d:=d.d) (E1.var rfl) E1.int rfl) A1.nil))) rfl (lsz (n:=3) rfl z3)) (bent_nb h0 hC ⟨fb.nb h0 hC,fa.nb h0 hC,fd.nb h0 hC⟩)
 refine S.ifs (T1.test (E1.eq (E1.var rfl) E1.int)) (fun _=>?_) (fun _=>?_)
 ·exact S.ret1 (s:=.dat (tbD (D.Row3.mk a.x a.z a.y) (D.Row3.mk b.x b.z b.y) (D.Row3.mk d.x d.z d.y))) (E1.tupleL (A1.cons (E1.vwo (E1.comp3 (d1:=a.d) (d2:=b.d) (d3:=d.d) (e1:=D.Row3.d (D.Row3.mk a.x a.z a.y)) (e2:=D.Row3.d (D.Row3.mk b.x b.z b.y)) (e3:=D.Row3.d (D.Row3.mk d.x d.z d.y)) (Wk.tup (E1.var rfl)) (E1.tu (ds:=[tI (qf a.x),tI (qf a.z),tI (qf a.y)]) (A1.cons (E1.ixT (E1.var rfl) E1.int rfl) (A1.cons (E1.ixT (E1.var rfl) E1.int rfl) (A1.cons (E1.ixT (E1.var rfl) E1.int rfl) A1.nil))) rfl (lsz (n:=3) rfl z3)) (E1.tu (ds:=[tI (qf b.x),tI (qf b.z),tI (qf b.y)]) (A1.cons (E1.ixT (E1.var rfl) E1.int rfl) (A1.cons (E1.ixT (E1.var rfl) E1.int rfl) (A1.cons (E1.ixT (E1.var rfl) E1.int rfl) A1.nil))) rfl (lsz (n:=3) rfl z3)) (E1.tu (ds:=[tI (qf d.x),tI (qf d.z),tI (qf d.y)]) (A1.cons (E1.ixT (E1.var rfl) E1.int rfl) (A1.cons (E1.ixT (E1.var rfl) E1.int rfl) (A1.cons (E1.ixT (E1.var rfl) E1.int rfl) A1.nil))) rfl (lsz (n:=3) rfl z3)))) A1.nil)) (bent_nb h0 hC ⟨⟨(fa.nb h0 hC).1,(fa.nb h0 hC).2.2,(fa.nb h0 hC).2.1⟩,⟨(fb.nb h0 hC).1,(fb.nb h0 hC).2.2,(fb.nb h0 hC).2.1⟩,⟨(fd.nb h0 hC).1,(fd.nb h0 hC).2.2,(fd.nb h0 hC).2.1⟩⟩)
 refine S.ifs (T1.test (E1.eq (E1.var rfl) E1.int)) (fun _=>?_) (fun _=>?_)
 ·rcases h3 with rfl | rfl | rfl
  ·exact S.ret1 (s:=.dat (tbD a.neg b d)) (E1.to (E1.catT (E1.catT (E1.slT (ds:=[a.d,b.d,d.d]) (lo:=none) (hi:=some 0) (E1.var rfl) O1.none (O1.some (E1.var rfl)) (show ¬ (HT.sIx 3 0 none=0/\HT.sIx 3 3 (some 0)=3) by decide)) (E1.tu (ds:=[D.Row3.d a.neg]) (A1.cons (E1.ixL (ds:=[a.neg.d,b.neg.d,d.neg.d]) (d:=a.neg.d) (E1.varL rfl) (E1.var rfl) rfl) A1.nil) rfl (lsz (n:=1) rfl z1)) (show 1<=sizeLine by decide)) (E1.slT (ds:=[a.d,b.d,d.d]) (lo:=some (0 + 1)) (hi:=none) (E1.var rfl) (O1.some (E1.add (E1.var rfl) E1.int)) O1.none (show ¬ (HT.sIx 3 0 (some (0 + 1))=0/\HT.sIx 3 3 none=3) by decide)) (show 3<=sizeLine by decide)) rfl) (bent_nb h0 hC ⟨fa.neg h0 hC,fb.nb h0 hC,fd.nb h0 hC⟩)
  ·exact S.ret1 (s:=.dat (tbD a b.neg d)) (E1.to (E1.catT (E1.catT (E1.slT (ds:=[a.d,b.d,d.d]) (lo:=none) (hi:=some 1) (E1.var rfl) O1.none (O1.some (E1.var rfl)) (show ¬ (HT.sIx 3 0 none=0/\HT.sIx 3 3 (some 1)=3) by decide)) (E1.tu (ds:=[D.Row3.d b.neg]) (A1.cons (E1.ixL (ds:=[a.neg.d,b.neg.d,d.neg.d]) (d:=b.neg.d) (E1.varL rfl) (E1.var rfl) rfl) A1.nil) rfl (lsz (n:=1) rfl z1)) (show 2<=sizeLine by decide)) (E1.slT (ds:=[a.d,b.d,d.d]) (lo:=some (1 + 1)) (hi:=none) (E1.var rfl) (O1.some (E1.add (E1.var rfl) E1.int)) O1.none (show ¬ (HT.sIx 3 0 (some (1 + 1))=0/\HT.sIx 3 3 none=3) by decide)) (show 3<=sizeLine by decide)) rfl) (bent_nb h0 hC ⟨fa.nb h0 hC,fb.neg h0 hC,fd.nb h0 hC⟩)
  ·exact S.ret1 (s:=.dat (tbD a b d.neg)) (E1.to (E1.catT (E1.catT (E1.slT (ds:=[a.d,b.d,d.d]) (lo:=none) (hi:=some 2) (E1.var rfl) O1.none (O1.some (E1.var rfl)) (show ¬ (HT.sIx 3 0 none=0/\HT.sIx 3 3 (some 2)=3) by decide)) (E1.tu (ds:=[D.Row3.d d.neg]) (A1.cons (E1.ixL (ds:=[a.neg.d,b.neg.d,d.neg.d]) (d:=d.neg.d) (E1.varL rfl) (E1.var rfl) rfl) A1.nil) rfl (lsz (n:=1) rfl z1)) (show 3<=sizeLine by decide)) (E1.slT (ds:=[a.d,b.d,d.d]) (lo:=some (2 + 1)) (hi:=none) (E1.var rfl) (O1.some (E1.add (E1.var rfl) E1.int)) O1.none (show ¬ (HT.sIx 3 0 (some (2 + 1))=0/\HT.sIx 3 3 none=3) by decide)) (show 3<=sizeLine by decide)) rfl) (bent_nb h0 hC ⟨fa.nb h0 hC,fb.nb h0 hC,fd.neg h0 hC⟩)
 refine S.ifs (T1.test (E1.eq (E1.var rfl) E1.int)) (fun _=>?_) (fun _=>?_)
 ·exact S.ret1 (s:=.dat (tbD a.neg b.neg d.neg)) (E1.tupleL (A1.cons (E1.varL (ds:=[a.neg.d,b.neg.d,d.neg.d]) rfl) A1.nil)) (bent_nb h0 hC ⟨fa.neg h0 hC,fb.neg h0 hC,fd.neg h0 hC⟩)
 refine S.ifs (T1.test (E1.eq (E1.var rfl) E1.int)) (fun _=>?_) (fun _=>?_)
 ·exact S.ret1 (s:=.dat (tbD (D.Row3.mk a.x b.x d.x) (D.Row3.mk a.y b.y d.y) (D.Row3.mk a.z b.z d.z))) (E1.tupleL (A1.cons (E1.vwo (E1.comp3 (e1:=D.Row3.d (D.Row3.mk a.x b.x d.x)) (e2:=D.Row3.d (D.Row3.mk a.y b.y d.y)) (e3:=D.Row3.d (D.Row3.mk a.z b.z d.z)) (Wk.r3 (A1.cons E1.int A1.nil)) (E1.tupleL (A1.cons (E1.vwo (E1.comp3 (e1:=tI (qf a.x)) (e2:=tI (qf b.x)) (e3:=tI (qf d.x)) (Wk.r3 (A1.cons E1.int A1.nil)) (E1.ixT (E1.ixT (d:=a.d) (E1.var rfl) (E1.var rfl) rfl) (E1.var rfl) rfl) (E1.ixT (E1.ixT (d:=b.d) (E1.var rfl) (E1.var rfl) rfl) (E1.var rfl) rfl) (E1.ixT (E1.ixT (d:=d.d) (E1.var rfl) (E1.var rfl) rfl) (E1.var rfl) rfl))) A1.nil)) (E1.tupleL (A1.cons (E1.vwo (E1.comp3 (e1:=tI (qf a.y)) (e2:=tI (qf b.y)) (e3:=tI (qf d.y)) (Wk.r3 (A1.cons E1.int A1.nil)) (E1.ixT (E1.ixT (d:=a.d) (E1.var rfl) (E1.var rfl) rfl) (E1.var rfl) rfl) (E1.ixT (E1.ixT (d:=b.d) (E1.var rfl) (E1.var rfl) rfl) (E1.var rfl) rfl) (E1.ixT (E1.ixT (d:=d.d) (E1.var rfl) (E1.var rfl) rfl) (E1.var rfl) rfl))) A1.nil)) (E1.tupleL (A1.cons (E1.vwo (E1.comp3 (e1:=tI (qf a.z)) (e2:=tI (qf b.z)) (e3:=tI (qf d.z)) (Wk.r3 (A1.cons E1.int A1.nil)) (E1.ixT (E1.ixT (d:=a.d) (E1.var rfl) (E1.var rfl) rfl) (E1.var rfl) rfl) (E1.ixT (E1.ixT (d:=b.d) (E1.var rfl) (E1.var rfl) rfl) (E1.var rfl) rfl) (E1.ixT (E1.ixT (d:=d.d) (E1.var rfl) (E1.var rfl) rfl) (E1.var rfl) rfl))) A1.nil)))) A1.nil)) (bent_nb h0 hC ⟨⟨(fa.nb h0 hC).1,(fb.nb h0 hC).1,(fd.nb h0 hC).1⟩,⟨(fa.nb h0 hC).2.1,(fb.nb h0 hC).2.1,(fd.nb h0 hC).2.1⟩,⟨(fa.nb h0 hC).2.2,(fb.nb h0 hC).2.2,(fd.nb h0 hC).2.2⟩⟩)
 refine S.ifs (T1.test (E1.eq (E1.var rfl) E1.int)) (fun _=>?_) (fun _=>?_)
 ·rcases h3 with rfl | rfl | rfl
  ·exact S.ret1 (s:=.dat (tbD b b d)) (E1.to (E1.catT (E1.catT (E1.slT (ds:=[a.d,b.d,d.d]) (lo:=none) (hi:=some 0) (E1.var rfl) O1.none (O1.some (E1.var rfl)) (show ¬ (HT.sIx 3 0 none=0/\HT.sIx 3 3 (some 0)=3) by decide)) (E1.tu (ds:=[D.Row3.d b]) (A1.cons (E1.ixT (d:=b.d) (E1.var rfl) (E1.var rfl) rfl) A1.nil) rfl (lsz (n:=1) rfl z1)) (show 1<=sizeLine by decide)) (E1.slT (ds:=[a.d,b.d,d.d]) (lo:=some (0 + 1)) (hi:=none) (E1.var rfl) (O1.some (E1.add (E1.var rfl) E1.int)) O1.none (show ¬ (HT.sIx 3 0 (some (0 + 1))=0/\HT.sIx 3 3 none=3) by decide)) (show 3<=sizeLine by decide)) rfl) (bent_nb h0 hC ⟨fb.nb h0 hC,fb.nb h0 hC,fd.nb h0 hC⟩)
  ·exact S.ret1 (s:=.dat (tbD a d d)) (E1.to (E1.catT (E1.catT (E1.slT (ds:=[a.d,b.d,d.d]) (lo:=none) (hi:=some 1) (E1.var rfl) O1.none (O1.some (E1.var rfl)) (show ¬ (HT.sIx 3 0 none=0/\HT.sIx 3 3 (some 1)=3) by decide)) (E1.tu (ds:=[D.Row3.d d]) (A1.cons (E1.ixT (d:=d.d) (E1.var rfl) (E1.var rfl) rfl) A1.nil) rfl (lsz (n:=1) rfl z1)) (show 2<=sizeLine by decide)) (E1.slT (ds:=[a.d,b.d,d.d]) (lo:=some (1 + 1)) (hi:=none) (E1.var rfl) (O1.some (E1.add (E1.var rfl) E1.int)) O1.none (show ¬ (HT.sIx 3 0 (some (1 + 1))=0/\HT.sIx 3 3 none=3) by decide)) (show 3<=sizeLine by decide)) rfl) (bent_nb h0 hC ⟨fa.nb h0 hC,fd.nb h0 hC,fd.nb h0 hC⟩)
  ·exact S.ret1 (s:=.dat (tbD a b a)) (E1.to (E1.catT (E1.catT (E1.slT (ds:=[a.d,b.d,d.d]) (lo:=none) (hi:=some 2) (E1.var rfl) O1.none (O1.some (E1.var rfl)) (show ¬ (HT.sIx 3 0 none=0/\HT.sIx 3 3 (some 2)=3) by decide)) (E1.tu (ds:=[D.Row3.d a]) (A1.cons (E1.ixT (d:=a.d) (E1.var rfl) (E1.var rfl) rfl) A1.nil) rfl (lsz (n:=1) rfl z1)) (show 3<=sizeLine by decide)) (E1.slT (ds:=[a.d,b.d,d.d]) (lo:=some (2 + 1)) (hi:=none) (E1.var rfl) (O1.some (E1.add (E1.var rfl) E1.int)) O1.none (show ¬ (HT.sIx 3 0 (some (2 + 1))=0/\HT.sIx 3 3 none=3) by decide)) (show 3<=sizeLine by decide)) rfl) (bent_nb h0 hC ⟨fa.nb h0 hC,fb.nb h0 hC,fa.nb h0 hC⟩)
 exact S.ret (E.callZ (R:=ROtherV) (CA:=fun ss=>ss=[.dat (tbD a b d),.dat (.int so),.dat (.int i),.pu]) (E1.ofA (A1.cons (E1.var rfl) (A1.cons (E1.var rfl) (A1.cons (E1.var rfl) (A1.cons (E1.varP rfl) A1.nil))))) (fun ss es=>⟨[tbD a b d,.int so,.int i],Bent c,es,⟨a,b,d,so,i,c,rfl,hi,ht0,c0,c1,rfl⟩,fun _ h=>h⟩)) (fun s ⟨g,es,a',b',d',eg,hg⟩=>by subst es eg;exact ⟨_,⟨a',b',d',rfl,hg⟩,rfl,rfl⟩)
theorem scLWhich14:FnScope ["_law_e","_law_found"] ["_law_e"] (defScope sLWhich14):=⟨rfl,rfl,rfl,by decide +kernel,rfl,by decide +kernel,by decide +kernel⟩
theorem ok_lwhich14 (F:Fun K "_law_which" "_law_which" sLWhich14 f fd) (m_NoTurn:mg "NoTurn" = some (.ref cNoTurn)) (m_NoHanger:mg "NoHanger" = some (.ref cNoHanger)) (m_TooMany:mg "TooMany" = some (.ref cTooMany)) (m_NoJoint:mg "NoJoint" = some (.ref cNoJoint)) (m_NoReach:mg "NoReach" = some (.ref cNoReach)) (m_NoDeed:mg "NoDeed" = some (.ref cNoDeed)) (m_NoName:mg "NoName" = some (.ref cNoName)) (m_NoMark:mg "NoMark" = some (.ref cNoMark)) (m_NoText:mg "NoText" = some (.ref cNoText)) (m_NoLine:mg "NoLine" = some (.ref cNoLine)) (m_NoKept:mg "NoKept" = some (.ref cNoKept)) (m_TurnError:mg "TurnError" = some (.ref cTurnError)) (x_NoTurn:L2.Xc K "NoTurn" cNoTurn) (l_NoTurn:L2.XcL K cNoTurn) (s_NoTurn:PySem.W.kitOne K (.ref cNoTurn) (.ref cNoTurn)=some true) (n_NoTurn_NoHanger:PySem.W.kitOne K (.ref cNoTurn) (.ref cNoHanger)=some false) (n_NoTurn_TooMany:PySem.W.kitOne K (.ref cNoTurn) (.ref cTooMany)=some false) (n_NoTurn_NoJoint:PySem.W.kitOne K (.ref cNoTurn) (.ref cNoJoint)=some false) (n_NoTurn_NoReach:PySem.W.kitOne K (.ref cNoTurn) (.ref cNoReach)=some false) (n_NoTurn_NoDeed:PySem.W.kitOne K (.ref cNoTurn) (.ref cNoDeed)=some false) (n_NoTurn_NoName:PySem.W.kitOne K (.ref cNoTurn) (.ref cNoName)=some false) (n_NoTurn_NoMark:PySem.W.kitOne K (.ref cNoTurn) (.ref cNoMark)=some false) (n_NoTurn_NoText:PySem.W.kitOne K (.ref cNoTurn) (.ref cNoText)=some false) (n_NoTurn_NoLine:PySem.W.kitOne K (.ref cNoTurn) (.ref cNoLine)=some false) (n_NoTurn_NoKept:PySem.W.kitOne K (.ref cNoTurn) (.ref cNoKept)=some false) (v_NoTurn:PySem.W.kitOne K (.ref cNoTurn) (.type "ValueError")=some true) (t_NoTurn:PySem.W.kitOne K (.ref cNoTurn) (.ref cTurnError)=some true) (m_isinstance:mg "isinstance" = none) (m_ValueError:mg "ValueError" = none) (m_range:mg "range" = none) :
  FnOk P w K mg base CX0 1 f fd ["_law_e"] (spP K RWhich):=by
 refine okP F scLWhich14 (fun ds d h=>?_) (fun cdv A0 outer s0 H0 E0 hr=>?_)
 ·obtain ⟨rfl,_⟩:=h;rfl
 refine ⟨_,(zss_cons (zs_set (i:=1) scLWhich14.nd rfl (Or.inr rfl) (ze_lst (za_c (ze_callB call_isX rfl m_isinstance (by rfl) (za_n (zv 0) (za_n (ze_glob (v:=.ref cNoTurn) rfl m_NoTurn rfl) za_nil))) (za_c (ze_callB call_isX rfl m_isinstance (by rfl) (za_n (zv 0) (za_n (ze_glob (v:=.ref cNoHanger) rfl m_NoHanger rfl) za_nil))) (za_c (ze_callB call_isX rfl m_isinstance (by rfl) (za_n (zv 0) (za_n (ze_glob (v:=.ref cTooMany) rfl m_TooMany rfl) za_nil))) (za_c (ze_callB call_isX rfl m_isinstance (by rfl) (za_n (zv 0) (za_n (ze_glob (v:=.ref cNoJoint) rfl m_NoJoint rfl) za_nil))) za_nil))))))
  (zss_cons (zs_set (i:=1) scLWhich14.nd rfl (Or.inr rfl) (ze_op op_cat (zv 1) (ze_lst (za_c (ze_callB call_isX rfl m_isinstance (by rfl) (za_n (zv 0) (za_n (ze_glob (v:=.ref cNoReach) rfl m_NoReach rfl) za_nil))) (za_c (ze_callB call_isX rfl m_isinstance (by rfl) (za_n (zv 0) (za_n (ze_glob (v:=.ref cNoDeed) rfl m_NoDeed rfl) za_nil))) (za_c (ze_callB call_isX rfl m_isinstance (by rfl) (za_n (zv 0) (za_n (ze_glob (v:=.ref cNoName) rfl m_NoName rfl) za_nil))) (za_c (ze_callB call_isX rfl m_isinstance (by rfl) (za_n (zv 0) (za_n (ze_glob (v:=.ref cNoMark) rfl m_NoMark rfl) za_nil))) za_nil)))))))
  (zss_cons (zs_set (i:=1) scLWhich14.nd rfl (Or.inr rfl) (ze_op op_cat (zv 1) (ze_lst (za_c (ze_callB call_isX rfl m_isinstance (by rfl) (za_n (zv 0) (za_n (ze_glob (v:=.ref cNoText) rfl m_NoText rfl) za_nil))) (za_c (ze_callB call_isX rfl m_isinstance (by rfl) (za_n (zv 0) (za_n (ze_glob (v:=.ref cNoLine) rfl m_NoLine rfl) za_nil))) (za_c (ze_callB call_isX rfl m_isinstance (by rfl) (za_n (zv 0) (za_n (ze_glob (v:=.ref cNoKept) rfl m_NoKept rfl) za_nil))) za_nil))))))
  (zss_cons (zs_if (ZW.pt (zw_or (zt_not (zt_val (ze_callB call_isX rfl m_isinstance (by rfl) (za_n (zv 0) (za_n (ze_tyn rfl m_ValueError (by rfl)) za_nil))))) (zw_or1 (zt_not (zt_val (ze_callB call_isX rfl m_isinstance (by rfl) (za_n (zv 0) (za_n (ze_glob (v:=.ref cTurnError) rfl m_TurnError rfl) za_nil)))))))) (zss_one (zs_ret (ze_lst za_nil))) zss_nil)
  (zss_one (zs_ret (ze_comp (own:=["_law_k"]) scLWhich14 rfl ⟨by decide +kernel,rfl,by decide +kernel,by decide +kernel,by decide +kernel,by decide +kernel,by decide +kernel,by decide +kernel,by decide +kernel⟩ (zi_range1 rfl m_range (za_i za_nil)) (fun C fp s H nd=>zg_name (i:=0) nd rfl (Or.inl rfl)) (fun C fp s H=>zts_one (zt_val (ze_ix ix_listC (zv 2) (zv 0) (fun _ _=>rfl)))) (fun C fp s H=>(zv 0))))))))),fun ds d h=>?_⟩
 obtain ⟨rfl,rfl⟩:=h
 refine S.letO (ds:=[.bool true,.bool false,.bool false,.bool false]) (E1.li (ds:=[.bool true,.bool false,.bool false,.bool false]) (A1.cons (E1.isX (xn_NT x_NoTurn) l_NoTurn s_NoTurn (E1.var rfl)) (A1.cons (E1.isX (xn_NT x_NoTurn) l_NoTurn n_NoTurn_NoHanger (E1.var rfl)) (A1.cons (E1.isX (xn_NT x_NoTurn) l_NoTurn n_NoTurn_TooMany (E1.var rfl)) (A1.cons (E1.isX (xn_NT x_NoTurn) l_NoTurn n_NoTurn_NoJoint (E1.var rfl)) A1.nil)))) rfl (lsz (n:=4) rfl (by decide))) rfl ?_
 refine S.letO (ds:=[.bool true,.bool false,.bool false,.bool false,.bool false,.bool false,.bool false,.bool false]) (E1.catVO (xs:=[.bool true,.bool false,.bool false,.bool false]) (ys:=[.bool false,.bool false,.bool false,.bool false]) rfl (E1.li (ds:=[.bool false,.bool false,.bool false,.bool false]) (A1.cons (E1.isX (xn_NT x_NoTurn) l_NoTurn n_NoTurn_NoReach (E1.var rfl)) (A1.cons (E1.isX (xn_NT x_NoTurn) l_NoTurn n_NoTurn_NoDeed (E1.var rfl)) (A1.cons (E1.isX (xn_NT x_NoTurn) l_NoTurn n_NoTurn_NoName (E1.var rfl)) (A1.cons (E1.isX (xn_NT x_NoTurn) l_NoTurn n_NoTurn_NoMark (E1.var rfl)) A1.nil)))) rfl (lsz (n:=4) rfl (by decide))) (show 8<=sizeLine by decide)) rfl ?_
 refine S.letO (ds:=[.bool true,.bool false,.bool false,.bool false,.bool false,.bool false,.bool false,.bool false,.bool false,.bool false,.bool false]) (E1.catVO (xs:=[.bool true,.bool false,.bool false,.bool false,.bool false,.bool false,.bool false,.bool false]) (ys:=[.bool false,.bool false,.bool false]) rfl (E1.li (ds:=[.bool false,.bool false,.bool false]) (A1.cons (E1.isX (xn_NT x_NoTurn) l_NoTurn n_NoTurn_NoText (E1.var rfl)) (A1.cons (E1.isX (xn_NT x_NoTurn) l_NoTurn n_NoTurn_NoLine (E1.var rfl)) (A1.cons (E1.isX (xn_NT x_NoTurn) l_NoTurn n_NoTurn_NoKept (E1.var rfl)) A1.nil))) rfl (lsz (n:=3) rfl (by decide))) (show 11<=sizeLine by decide)) rfl ?_
 refine S.ifsF (T1.orF (T1.notT (T1.val (E1.isXty (xn_NT x_NoTurn) l_NoTurn v_NoTurn (E1.var rfl)))) (T1.notT (T1.val (E1.isX (xn_NT x_NoTurn) l_NoTurn t_NoTurn (E1.var rfl))))) ?_
 refine S.ret1 (s:=.own [.int 0]) (E1.to (E1.compF (ds:=([0,1,2,3,4,5,6,7,8,9,10]:List Int).map .int) (f:=id) (kp:=fun d=>match d with | .int i=>i == 0 | _=>false) (Wk.rng (n:=11) (A1.cons E1.int A1.nil) rfl) (fun d hd=>?_) (fun d hd _=>(E1.var rfl)) (show 11<=sizeLine by decide)) rfl) ⟨rfl,rfl⟩
 simp only [List.map_cons,List.map_nil,List.mem_cons,List.mem_nil_iff,or_false] at hd
 rcases hd with rfl | rfl | rfl | rfl | rfl | rfl | rfl | rfl | rfl | rfl | rfl
 all_goals exact T1.val (E1.ixL (ds:=[.bool true,.bool false,.bool false,.bool false,.bool false,.bool false,.bool false,.bool false,.bool false,.bool false,.bool false]) (E1.varO rfl) (E1.var rfl) rfl)
theorem scAskedV:FnScope ["_law_cell","_law_purse_here","_law_table_here"] ["_law_cell"] (defScope sAskedV):=⟨rfl,rfl,rfl,by decide +kernel,rfl,by decide +kernel,by decide +kernel⟩
theorem ok_askedv (F:Fun K "_law_asked" "_law_asked" sAskedV f fd)
  (G:FnOk P w K mg base CX0 1 g gd ["_law_cell"] spPurse2) (bG:Binds K gd ["_law_cell"] []) (kG:PySem.W.keepIn K (.ref g)=true) (mG:mg "_law_purse" = some (.ref g))
  (G2:FnOk P w K mg base CX0 6 g2 gd2 ["_law_table_here","_law_purse_here"] (spZ K RBentV)) (bG2:Binds K gd2 ["_law_table_here","_law_purse_here"] []) (kG2:PySem.W.keepIn K (.ref g2)=true) (mG2:mg "_law_bent" = some (.ref g2))
  (G3:FnOk P w K mg base CX0 3 g3 gd3 ["_law_four_here"] (spTable K)) (bG3:Binds K gd3 ["_law_four_here"] []) (kG3:PySem.W.keepIn K (.ref g3)=true) (mG3:mg "_law_table" = some (.ref g3))
  (G4:FnOk P w K mg base CX0 3 g4 gd4 ["_law_purse_here","_law_most"] (spFour2 K)) (bG4:Binds K gd4 ["_law_purse_here","_law_most"] []) (kG4:PySem.W.keepIn K (.ref g4)=true) (mG4:mg "_law_four" = some (.ref g4))
  (G5:FnOk P w K mg base CX0 1 g5 gd5 ["_law_purse_here","_law_many"] spDraw) (bG5:Binds K gd5 ["_law_purse_here","_law_many"] []) (kG5:PySem.W.keepIn K (.ref g5)=true) (mG5:mg "_law_take" = some (.ref g5)) :
  FnOk P w K mg base CX0 7 f fd ["_law_cell"] (spQ K RAskedV):=by
 refine okQ F scAskedV (fun ds d h=>?_) (fun cdv A0 outer s0 H0 E0 hr=>?_)
 ·obtain ⟨c,rfl,_⟩:=h;rfl
 have r:=hr.mono (show 1<=6 by decide)
 have r2:=hr.mono (show 6<=6 by decide)
 have r3:=hr.mono (show 3<=6 by decide)
 have r4:=hr.mono (show 3<=6 by decide)
 have r5:=hr.mono (show 1<=6 by decide)
 refine ⟨_,(zss_cons (zs_set (i:=1) scAskedV.nd rfl (Or.inl rfl) (ze_call G r rfl mG kG bG .nil pass0 (za_n (zv 0) za_nil)))
  (zss_cons (zs_set (i:=2) scAskedV.nd rfl (Or.inl rfl) (ze_call G2 r2 rfl mG2 kG2 bG2 .nil pass0 (za_c (ze_call G3 r3 rfl mG3 kG3 bG3 .nil pass0 (za_c (ze_call G4 r4 rfl mG4 kG4 bG4 .nil pass0 (za_n (zv 1) (za_i za_nil))) za_nil)) (za_n (zv 1) za_nil))))
  (zss_cons (zs_if (zt_cmpR op_eq (ze_call G5 r5 rfl mG5 kG5 bG5 .nil pass0 (za_n (zv 1) (za_i za_nil))) ze_int (nomark _)) (zss_one (zs_set (i:=2) scAskedV.nd rfl (Or.inl rfl) (ze_call G2 r2 rfl mG2 kG2 bG2 .nil pass0 (za_n (zv 2) (za_n (zv 1) za_nil))))) zss_nil)
  (zss_one (zs_ret (zv 2)))))),fun ds C h=>?_⟩
 obtain ⟨c,rfl,rfl⟩:=h
 refine S.purse2 (c:=c) (A1.cons (E1.var rfl) A1.nil) (fun q=>?_) (fun s ⟨g,⟨a,b,d,eg,_⟩,hs⟩=>?_)
 ·refine S.letC (C:=fun s=>∃ d,s = .dat d/\Bent 211 d) (E.callZ (R:=RBentV) (CA:=fun ss=>∃ a b d:D.Row3,ss=[.dat (tbD a b d),.pu]/\TB 211 a b d) (A.cons (C1:=fun s=>∃ a b d:D.Row3,s = .dat (tbD a b d)/\TB 211 a b d) (E.mono (E.tableC (P:=fun a b d e=>(∃ n ∈ [a,b,d,e],n ≠ 0)/\Bd (2 ^ 104) [a,b,d,e]) (E.mono (ER.four2 (mo:=4) (A1.cons (E1.varP rfl) (A1.cons E1.int A1.nil)) (by decide) (by decide)) (fun s ⟨ns,es,l4,nz,bd⟩=>by
    obtain ⟨a,b,d,e,rfl⟩:=four_of l4
    exact ⟨a,b,d,e,es,nz,bd_mono bd (by decide)⟩)) (fun a b d e ⟨nz,bd⟩=>⟨nz,bd_mono bd (Nat.pow_le_pow_right (by decide) (by decide))⟩)) (fun s ⟨g,es,a,b,d,e,eg,nz,bd⟩=>⟨tr1 a b d e,tr2 a b d e,tr3 a b d e,by rw [es,eg];rfl,tb_tr nz bd⟩)) (fun s _=>A1.cons (E1.varP rfl) A1.nil) (fun s ss ⟨a,b,d,es,ht⟩ e2=>⟨a,b,d,by rw [es, <- e2],ht⟩)) (fun ss ⟨a,b,d,es,ht⟩=>⟨[tbD a b d],Bent 211,es,⟨a,b,d,211,rfl,ht,by decide,by decide,rfl⟩,fun _ h=>h⟩)) (fun s ⟨_,e,_⟩=>by rw [e];rfl) fun s ⟨g,es,a,b,d,eg,ht⟩=>?_
  subst es eg
  refine S.ifsC (T.eqI (EI.draw (A1.cons (E1.varP rfl) (A1.cons E1.int A1.nil)) (by decide:(0:Int) < 4) (by decide)) EI.lit) (fun _=>?_) (fun _=>?_)
  ·refine S.asg (C:=fun s=>∃ g,s = .dat g/\Bent 452 g) (E.callZ (R:=RBentV) (CA:=fun ss=>ss=[.dat (tbD a b d),.pu]) (E1.ofA (A1.cons (E1.var rfl) (A1.cons (E1.varP rfl) A1.nil))) (fun ss es=>⟨[tbD a b d],Bent 452,es,⟨a,b,d,452,rfl,ht,by decide,by decide,rfl⟩,fun _ h=>h⟩)) (fun s ⟨_,e,_⟩=>by rw [e];rfl) (fun s ⟨g,es,a',b',d',eg,ht'⟩=>?_)
   subst es eg
   exact S.ret1 (s:=.dat (tbD a' b' d')) (E1.var rfl) ⟨_,⟨a',b',d',rfl,ht'.up (by decide)⟩,rfl,rfl⟩
  ·exact S.ret1 (s:=.dat (tbD a b d)) (E1.var rfl) ⟨_,⟨a,b,d,rfl,ht.up (by decide)⟩,rfl,rfl⟩
 ·subst eg
  cases s with
  | dat d=>exact ⟨d,rfl⟩
  | own ds=>exact absurd hs.1 (fun z=>by cases z)
  | un=>cases hs
  | pu=>cases hs
  | vw ds=>cases hs
  | dt o=>cases hs
theorem scLWhR:FnScope ["_law_table_here","_law_bottom","_law_row","_law_one"] ["_law_table_here"] (defScope sLWhR):=⟨rfl,rfl,rfl,by decide +kernel,rfl,by decide +kernel,by decide +kernel⟩
theorem ok_lwhr (F:Fun K "_law_whole_rows" "_law_whole_rows" sLWhR f fd)
  (G:FnOk P w K mg base CX0 1 g gd ["_law_one","_law_other"] spDiv) (bG:Binds K gd ["_law_one","_law_other"] []) (kG:PySem.W.keepIn K (.ref g)=true) (mG:mg "_law_divisor" = some (.ref g)) :
  FnOk P w K mg base CX0 2 f fd ["_law_table_here"] (spX K RWhR):=by
 refine okX F scLWhR (fun ds d h=>?_) (fun cdv A0 outer s0 H0 E0 hr=>?_)
 ·obtain ⟨_,_,_,rfl,_⟩:=h;rfl
 have r:=hr.mono (show 1<=1 by decide)
 refine ⟨_,(zss_cons (zs_set (i:=1) scLWhR.nd rfl (Or.inr rfl) ze_int)
  (zss_cons (zs_for PassesOwn.never rfl (zi_tup (zv 0)) (zg_name (i:=2) scLWhR.nd rfl (Or.inl rfl)) (zss_one (zs_for PassesOwn.never rfl (zi_tup (zv 2)) (zg_name (i:=3) scLWhR.nd rfl (Or.inl rfl)) (zss_one (zs_set (i:=1) scLWhR.nd rfl (Or.inr rfl) (ze_op op_mulB (ze_op op_fdivB (zv 1) (ze_call G r rfl mG kG bG .nil pass0 (za_n (zv 1) (za_s (ze_ix ix_tup (zv 3) ze_int (fun _ _=>rfl)) za_nil)))) (ze_ix ix_tup (zv 3) ze_int (fun _ _=>rfl))))))))
  (zss_one (zs_ret (ze_lst (za_n (zv 1) (za_cons (ze_comp (own:=["_law_row"]) scLWhR rfl ⟨by decide +kernel,rfl,by decide +kernel,by decide +kernel,by decide +kernel,by decide +kernel,by decide +kernel,by decide +kernel,by decide +kernel⟩ (zi_tup (zv 0)) (fun C fp s H nd=>zg_name (i:=0) nd rfl (Or.inl rfl)) (fun C fp s H=>zts_nil) (fun C fp s H=>(ze_compN (own2:=["_law_one"]) scLWhR rfl ⟨by decide +kernel,rfl,by decide +kernel,by decide +kernel,by decide +kernel,by decide +kernel,by decide +kernel,by decide +kernel,by decide +kernel⟩ (zi_tupC (zv 0)) (fun C fp s H nd=>zg_name (i:=0) nd rfl (Or.inl rfl)) (fun C fp s H=>zts_nil) (fun C fp s H=>(ze_op op_mulB (ze_ix ix_tupCC (zv 0) ze_int (fun _ _=>rfl)) (ze_op op_fdivB (zv 3) (ze_ix ix_tupCC (zv 0) ze_int (fun _ _=>rfl)))))))) za_nil))))))),fun ds C h=>?_⟩
 obtain ⟨a,b,d,rfl,ht,rfl⟩:=h
 obtain ⟨C,C0,bC,ta⟩:=id ht
 have tm:=tab_mem ta
 have dn:∀ q:Rat,q ∈ [a.x,a.y,a.z,b.x,b.y,b.z,d.x,d.y,d.z]->(q.den:Int) ∣ C:=fun q hq=>(tm q hq).den C0
 have den0:∀ q:Rat,0 < (q.den:Int):=fun q=>by have:=q.den_pos;omega
 refine S.let1 (s:=.dat (.int 1)) E1.int ?_
 refine S.seq (M:=fun τ'=>∃ B:Int,0 < B/\B ∣ C/\(∀ q ∈ [a.x,a.y,a.z,b.x,b.y,b.z,d.x,d.y,d.z],(q.den:Int) ∣ B)/\∃ o1 o2:Sl,τ'=[.dat (tbD a b d),.dat (.int B),o1,o2]) ?_ fun τ' ⟨B,B0,BC,hB,o1,o2,eτ⟩=>?_
 ·refine S.for (Wk.tup (ds:=[a.d,b.d,d.d]) (E1.var rfl)) (fun j τ'=>∃ B:Int,0 < B/\B ∣ C/\(∀ q ∈ [a.x,a.y,a.z,b.x,b.y,b.z,d.x,d.y,d.z].take (3 * j),(q.den:Int) ∣ B)/\∃ o1 o2:Sl,τ'=[.dat (tbD a b d),.dat (.int B),o1,o2]) ⟨1,by decide,Int.one_dvd _,fun q hq=>absurd hq (by simp),_,_,rfl⟩ (fun j dj τ1 hd ⟨B,B0,BC,hB,o1,o2,e1⟩=>?_) (fun τ1 ⟨B,B0,BC,hB,o1,o2,e1⟩=>⟨B,B0,BC,fun q hq=>hB q (by simpa using hq),o1,o2,e1⟩)
  subst e1
  rcases get3 hd with ⟨rfl,rfl⟩ | ⟨rfl,rfl⟩ | ⟨rfl,rfl⟩
  ·refine ⟨_,Gd.name rfl,?_⟩
   refine S.for (Wk.tup (ds:=[tI (qf a.x),tI (qf a.y),tI (qf a.z)]) (E1.var rfl)) (fun j τ'=>∃ B:Int,0 < B/\B ∣ C/\(∀ q ∈ [] ++ [a.x,a.y,a.z].take j,(q.den:Int) ∣ B)/\∃ o2:Sl,τ'=[.dat (tbD a b d),.dat (.int B),.dat a.d,o2]) ⟨B,B0,BC,fun q hq=>hB q (by simpa using hq),_,rfl⟩ (fun j dj τ1 hd ⟨B,B0,BC,hB,o2,e1⟩=>?_) (fun τ1 ⟨B,B0,BC,hB,o2,e1⟩=>⟨B,B0,BC,fun q hq=>hB q (by simpa using hq),_,o2,e1⟩)
   subst e1
   rcases get3 hd with ⟨rfl,rfl⟩ | ⟨rfl,rfl⟩ | ⟨rfl,rfl⟩
   ·refine ⟨_,Gd.name rfl,?_⟩
    obtain ⟨cd,mo,p0,pm,pn,pC⟩:=lcm_step (n:=(a.x.den:Int)) B0 (den0 a.x) C0 BC (dn a.x (by simp)) bC
    refine S.asg1 (s:=.dat (.int (B.fdiv (Nat.gcd B.natAbs ((a.x.den:Int)).natAbs:Nat) * (a.x.den:Int)))) (E1.mul (E1.fdiv (E1.var rfl) (E1.cDiv (A1.cons (E1.var rfl) (A1.cons (E1.ixT (E1.var rfl) E1.int rfl) A1.nil))) cd) (E1.ixT (E1.var rfl) E1.int rfl) mo) ⟨_,p0,pC,fun q hq=>?_,_,rfl⟩
    rcases mem_tk hq with hq | hq
    ·exact Int.dvd_trans (hB q hq) pm
    ·obtain rfl:=Option.some.inj hq;exact pn
   ·refine ⟨_,Gd.name rfl,?_⟩
    obtain ⟨cd,mo,p0,pm,pn,pC⟩:=lcm_step (n:=(a.y.den:Int)) B0 (den0 a.y) C0 BC (dn a.y (by simp)) bC
    refine S.asg1 (s:=.dat (.int (B.fdiv (Nat.gcd B.natAbs ((a.y.den:Int)).natAbs:Nat) * (a.y.den:Int)))) (E1.mul (E1.fdiv (E1.var rfl) (E1.cDiv (A1.cons (E1.var rfl) (A1.cons (E1.ixT (E1.var rfl) E1.int rfl) A1.nil))) cd) (E1.ixT (E1.var rfl) E1.int rfl) mo) ⟨_,p0,pC,fun q hq=>?_,_,rfl⟩
    rcases mem_tk hq with hq | hq
    ·exact Int.dvd_trans (hB q hq) pm
    ·obtain rfl:=Option.some.inj hq;exact pn
   ·refine ⟨_,Gd.name rfl,?_⟩
    obtain ⟨cd,mo,p0,pm,pn,pC⟩:=lcm_step (n:=(a.z.den:Int)) B0 (den0 a.z) C0 BC (dn a.z (by simp)) bC
    refine S.asg1 (s:=.dat (.int (B.fdiv (Nat.gcd B.natAbs ((a.z.den:Int)).natAbs:Nat) * (a.z.den:Int)))) (E1.mul (E1.fdiv (E1.var rfl) (E1.cDiv (A1.cons (E1.var rfl) (A1.cons (E1.ixT (E1.var rfl) E1.int rfl) A1.nil))) cd) (E1.ixT (E1.var rfl) E1.int rfl) mo) ⟨_,p0,pC,fun q hq=>?_,_,rfl⟩
    rcases mem_tk hq with hq | hq
    ·exact Int.dvd_trans (hB q hq) pm
    ·obtain rfl:=Option.some.inj hq;exact pn
  ·refine ⟨_,Gd.name rfl,?_⟩
   refine S.for (Wk.tup (ds:=[tI (qf b.x),tI (qf b.y),tI (qf b.z)]) (E1.var rfl)) (fun j τ'=>∃ B:Int,0 < B/\B ∣ C/\(∀ q ∈ [a.x,a.y,a.z] ++ [b.x,b.y,b.z].take j,(q.den:Int) ∣ B)/\∃ o2:Sl,τ'=[.dat (tbD a b d),.dat (.int B),.dat b.d,o2]) ⟨B,B0,BC,fun q hq=>hB q (by simpa using hq),_,rfl⟩ (fun j dj τ1 hd ⟨B,B0,BC,hB,o2,e1⟩=>?_) (fun τ1 ⟨B,B0,BC,hB,o2,e1⟩=>⟨B,B0,BC,fun q hq=>hB q (by simpa using hq),_,o2,e1⟩)
   subst e1
   rcases get3 hd with ⟨rfl,rfl⟩ | ⟨rfl,rfl⟩ | ⟨rfl,rfl⟩
   ·refine ⟨_,Gd.name rfl,?_⟩
    obtain ⟨cd,mo,p0,pm,pn,pC⟩:=lcm_step (n:=(b.x.den:Int)) B0 (den0 b.x) C0 BC (dn b.x (by simp)) bC
    refine S.asg1 (s:=.dat (.int (B.fdiv (Nat.gcd B.natAbs ((b.x.den:Int)).natAbs:Nat) * (b.x.den:Int)))) (E1.mul (E1.fdiv (E1.var rfl) (E1.cDiv (A1.cons (E1.var rfl) (A1.cons (E1.ixT (E1.var rfl) E1.int rfl) A1.nil))) cd) (E1.ixT (E1.var rfl) E1.int rfl) mo) ⟨_,p0,pC,fun q hq=>?_,_,rfl⟩
    rcases mem_tk hq with hq | hq
    ·exact Int.dvd_trans (hB q hq) pm
    ·obtain rfl:=Option.some.inj hq;exact pn
   ·refine ⟨_,Gd.name rfl,?_⟩
    obtain ⟨cd,mo,p0,pm,pn,pC⟩:=lcm_step (n:=(b.y.den:Int)) B0 (den0 b.y) C0 BC (dn b.y (by simp)) bC
    refine S.asg1 (s:=.dat (.int (B.fdiv (Nat.gcd B.natAbs ((b.y.den:Int)).natAbs:Nat) * (b.y.den:Int)))) (E1.mul (E1.fdiv (E1.var rfl) (E1.cDiv (A1.cons (E1.var rfl) (A1.cons (E1.ixT (E1.var rfl) E1.int rfl) A1.nil))) cd) (E1.ixT (E1.var rfl) E1.int rfl) mo) ⟨_,p0,pC,fun q hq=>?_,_,rfl⟩
    rcases mem_tk hq with hq | hq
    ·exact Int.dvd_trans (hB q hq) pm
    ·obtain rfl:=Option.some.inj hq;exact pn
   ·refine ⟨_,Gd.name rfl,?_⟩
    obtain ⟨cd,mo,p0,pm,pn,pC⟩:=lcm_step (n:=(b.z.den:Int)) B0 (den0 b.z) C0 BC (dn b.z (by simp)) bC
    refine S.asg1 (s:=.dat (.int (B.fdiv (Nat.gcd B.natAbs ((b.z.den:Int)).natAbs:Nat) * (b.z.den:Int)))) (E1.mul (E1.fdiv (E1.var rfl) (E1.cDiv (A1.cons (E1.var rfl) (A1.cons (E1.ixT (E1.var rfl) E1.int rfl) A1.nil))) cd) (E1.ixT (E1.var rfl) E1.int rfl) mo) ⟨_,p0,pC,fun q hq=>?_,_,rfl⟩
    rcases mem_tk hq with hq | hq
    ·exact Int.dvd_trans (hB q hq) pm
    ·obtain rfl:=Option.some.inj hq;exact pn
  ·refine ⟨_,Gd.name rfl,?_⟩
   refine S.for (Wk.tup (ds:=[tI (qf d.x),tI (qf d.y),tI (qf d.z)]) (E1.var rfl)) (fun j τ'=>∃ B:Int,0 < B/\B ∣ C/\(∀ q ∈ [a.x,a.y,a.z,b.x,b.y,b.z] ++ [d.x,d.y,d.z].take j,(q.den:Int) ∣ B)/\∃ o2:Sl,τ'=[.dat (tbD a b d),.dat (.int B),.dat d.d,o2]) ⟨B,B0,BC,fun q hq=>hB q (by simpa using hq),_,rfl⟩ (fun j dj τ1 hd ⟨B,B0,BC,hB,o2,e1⟩=>?_) (fun τ1 ⟨B,B0,BC,hB,o2,e1⟩=>⟨B,B0,BC,fun q hq=>hB q (by simpa using hq),_,o2,e1⟩)
   subst e1
   rcases get3 hd with ⟨rfl,rfl⟩ | ⟨rfl,rfl⟩ | ⟨rfl,rfl⟩
   ·refine ⟨_,Gd.name rfl,?_⟩
    obtain ⟨cd,mo,p0,pm,pn,pC⟩:=lcm_step (n:=(d.x.den:Int)) B0 (den0 d.x) C0 BC (dn d.x (by simp)) bC
    refine S.asg1 (s:=.dat (.int (B.fdiv (Nat.gcd B.natAbs ((d.x.den:Int)).natAbs:Nat) * (d.x.den:Int)))) (E1.mul (E1.fdiv (E1.var rfl) (E1.cDiv (A1.cons (E1.var rfl) (A1.cons (E1.ixT (E1.var rfl) E1.int rfl) A1.nil))) cd) (E1.ixT (E1.var rfl) E1.int rfl) mo) ⟨_,p0,pC,fun q hq=>?_,_,rfl⟩
    rcases mem_tk hq with hq | hq
    ·exact Int.dvd_trans (hB q hq) pm
    ·obtain rfl:=Option.some.inj hq;exact pn
   ·refine ⟨_,Gd.name rfl,?_⟩
    obtain ⟨cd,mo,p0,pm,pn,pC⟩:=lcm_step (n:=(d.y.den:Int)) B0 (den0 d.y) C0 BC (dn d.y (by simp)) bC
    refine S.asg1 (s:=.dat (.int (B.fdiv (Nat.gcd B.natAbs ((d.y.den:Int)).natAbs:Nat) * (d.y.den:Int)))) (E1.mul (E1.fdiv (E1.var rfl) (E1.cDiv (A1.cons (E1.var rfl) (A1.cons (E1.ixT (E1.var rfl) E1.int rfl) A1.nil))) cd) (E1.ixT (E1.var rfl) E1.int rfl) mo) ⟨_,p0,pC,fun q hq=>?_,_,rfl⟩
    rcases mem_tk hq with hq | hq
    ·exact Int.dvd_trans (hB q hq) pm
    ·obtain rfl:=Option.some.inj hq;exact pn
   ·refine ⟨_,Gd.name rfl,?_⟩
    obtain ⟨cd,mo,p0,pm,pn,pC⟩:=lcm_step (n:=(d.z.den:Int)) B0 (den0 d.z) C0 BC (dn d.z (by simp)) bC
    refine S.asg1 (s:=.dat (.int (B.fdiv (Nat.gcd B.natAbs ((d.z.den:Int)).natAbs:Nat) * (d.z.den:Int)))) (E1.mul (E1.fdiv (E1.var rfl) (E1.cDiv (A1.cons (E1.var rfl) (A1.cons (E1.ixT (E1.var rfl) E1.int rfl) A1.nil))) cd) (E1.ixT (E1.var rfl) E1.int rfl) mo) ⟨_,p0,pC,fun q hq=>?_,_,rfl⟩
    rcases mem_tk hq with hq | hq
    ·exact Int.dvd_trans (hB q hq) pm
    ·obtain rfl:=Option.some.inj hq;exact pn
 subst eτ
 have bB:Bt B 940:=bt_dvd BC C0 bC
 have tb:∀ q ∈ [a.x,a.y,a.z,b.x,b.y,b.z,d.x,d.y,d.z],Bt (topL B q) 940:=fun q hq=>topL_bt (tm q hq) C0 B0 BC (hB q hq)
 have lv:∀ q ∈ [a.x,a.y,a.z,b.x,b.y,b.z,d.x,d.y,d.z],Lv q:=tab_mem (ht.lv (by decide))
 have cdv:∀ q,q ∈ [a.x,a.y,a.z,b.x,b.y,b.z,d.x,d.y,d.z]->CDivB B (q.den:Int):=fun q hq=>⟨by have:=den0 q;omega,(Lo.of_lv (lv q hq)).2.1.log (by have:=den0 q;omega)⟩
 have mok:∀ q,q ∈ [a.x,a.y,a.z,b.x,b.y,b.z,d.x,d.y,d.z]->IntMulOk q.num (B.fdiv (q.den:Int)):=fun q hq=>(Lo.of_lv (lv q hq)).1.mulOk (bt_dvd (Int.fdiv_dvd_of_dvd' (hB q hq)) B0 bB)
 exact S.ret1 (s:=.own [.int B,whD B a b d]) (E1.li (A1.cons (E1.var rfl) (A1.cons (E1.frz (E1.comp3 (d1:=a.d) (d2:=b.d) (d3:=d.d) (Wk.tup (E1.var rfl)) (E1.frz (E1.comp3 (d1:=tI (qf a.x)) (d2:=tI (qf a.y)) (d3:=tI (qf a.z)) (Wk.tup (E1.var rfl)) (E1.to (E1.mul (E1.ixT (E1.var rfl) E1.int rfl) (E1.fdiv (E1.var rfl) (E1.ixT (E1.var rfl) E1.int rfl) (cdv a.x (by simp))) (mok a.x (by simp))) (by rw [topL_f])) (E1.to (E1.mul (E1.ixT (E1.var rfl) E1.int rfl) (E1.fdiv (E1.var rfl) (E1.ixT (E1.var rfl) E1.int rfl) (cdv a.y (by simp))) (mok a.y (by simp))) (by rw [topL_f])) (E1.to (E1.mul (E1.ixT (E1.var rfl) E1.int rfl) (E1.fdiv (E1.var rfl) (E1.ixT (E1.var rfl) E1.int rfl) (cdv a.z (by simp))) (mok a.z (by simp))) (by rw [topL_f])))) (E1.frz (E1.comp3 (d1:=tI (qf b.x)) (d2:=tI (qf b.y)) (d3:=tI (qf b.z)) (Wk.tup (E1.var rfl)) (E1.to (E1.mul (E1.ixT (E1.var rfl) E1.int rfl) (E1.fdiv (E1.var rfl) (E1.ixT (E1.var rfl) E1.int rfl) (cdv b.x (by simp))) (mok b.x (by simp))) (by rw [topL_f])) (E1.to (E1.mul (E1.ixT (E1.var rfl) E1.int rfl) (E1.fdiv (E1.var rfl) (E1.ixT (E1.var rfl) E1.int rfl) (cdv b.y (by simp))) (mok b.y (by simp))) (by rw [topL_f])) (E1.to (E1.mul (E1.ixT (E1.var rfl) E1.int rfl) (E1.fdiv (E1.var rfl) (E1.ixT (E1.var rfl) E1.int rfl) (cdv b.z (by simp))) (mok b.z (by simp))) (by rw [topL_f])))) (E1.frz (E1.comp3 (d1:=tI (qf d.x)) (d2:=tI (qf d.y)) (d3:=tI (qf d.z)) (Wk.tup (E1.var rfl)) (E1.to (E1.mul (E1.ixT (E1.var rfl) E1.int rfl) (E1.fdiv (E1.var rfl) (E1.ixT (E1.var rfl) E1.int rfl) (cdv d.x (by simp))) (mok d.x (by simp))) (by rw [topL_f])) (E1.to (E1.mul (E1.ixT (E1.var rfl) E1.int rfl) (E1.fdiv (E1.var rfl) (E1.ixT (E1.var rfl) E1.int rfl) (cdv d.y (by simp))) (mok d.y (by simp))) (by rw [topL_f])) (E1.to (E1.mul (E1.ixT (E1.var rfl) E1.int rfl) (E1.fdiv (E1.var rfl) (E1.ixT (E1.var rfl) E1.int rfl) (cdv d.z (by simp))) (mok d.z (by simp))) (by rw [topL_f])))))) A1.nil)) rfl (lsz (n:=2) rfl z2)) ⟨_,⟨B,B0,bB,fun q hq=>⟨hB q hq,tb q hq⟩,rfl⟩,rfl⟩
theorem scLDue14:FnScope ["_law_table_here","_law_bottom","_law_rows","_law_a","_law_b","_law_c","_law_d","_law_e","_law_f","_law_g","_law_h","_law_i","_law_some"] ["_law_table_here"] (defScope sLDue14):=⟨rfl,rfl,rfl,by decide +kernel,rfl,by decide +kernel,by decide +kernel⟩
theorem ok_ldue14 (F:Fun K "_law_due" "_law_due" sLDue14 f fd)
  (G:FnOk P w K mg base CX0 2 g gd ["_law_table_here"] (spX K RWhR)) (bG:Binds K gd ["_law_table_here"] []) (kG:PySem.W.keepIn K (.ref g)=true) (mG:mg "_law_whole_rows" = some (.ref g))
  (G2:FnOk P w K mg base CX0 2 g2 gd2 ["_law_four_here"] (spT K (fun ns=>(∃ n ∈ ns,n ≠ 0)/\Sm ns) pl)) (bG2:Binds K gd2 ["_law_four_here"] []) (kG2:PySem.W.keepIn K (.ref g2)=true) (mG2:mg "_law_plain" = some (.ref g2)) (m_range:mg "range" = none) :
  FnOk P w K mg base CX0 3 f fd ["_law_table_here"] (spQ K RDue14):=by
 refine okQ F scLDue14 (fun ds d h=>?_) (fun cdv A0 outer s0 H0 E0 hr=>?_)
 ·obtain ⟨_,_,_,rfl,_⟩:=h;rfl
 have r:=hr.mono (show 2<=2 by decide)
 have r2:=hr.mono (show 2<=2 by decide)
 refine ⟨_,(zss_cons (zs_asg (ze_call G r rfl mG kG bG .nil pass0 (za_n (zv 0) za_nil)) (zg_lst rfl (zgs_cons (zg_name (i:=1) scLDue14.nd rfl (Or.inl rfl)) (zgs_cons (zg_name (i:=2) scLDue14.nd rfl (Or.inl rfl)) zgs_nil))))
  (zss_cons (zs_asg (ze_ix ix_list (zv 2) ze_int (fun _ _=>rfl)) (zg_lst rfl (zgs_cons (zg_name (i:=3) scLDue14.nd rfl (Or.inl rfl)) (zgs_cons (zg_name (i:=4) scLDue14.nd rfl (Or.inl rfl)) (zgs_cons (zg_name (i:=5) scLDue14.nd rfl (Or.inl rfl)) zgs_nil)))))
  (zss_cons (zs_asg (ze_ix ix_list (zv 2) ze_int (fun _ _=>rfl)) (zg_lst rfl (zgs_cons (zg_name (i:=6) scLDue14.nd rfl (Or.inl rfl)) (zgs_cons (zg_name (i:=7) scLDue14.nd rfl (Or.inl rfl)) (zgs_cons (zg_name (i:=8) scLDue14.nd rfl (Or.inl rfl)) zgs_nil)))))
  (zss_cons (zs_asg (ze_ix ix_list (zv 2) ze_int (fun _ _=>rfl)) (zg_lst rfl (zgs_cons (zg_name (i:=9) scLDue14.nd rfl (Or.inl rfl)) (zgs_cons (zg_name (i:=10) scLDue14.nd rfl (Or.inl rfl)) (zgs_cons (zg_name (i:=11) scLDue14.nd rfl (Or.inl rfl)) zgs_nil)))))
  (zss_cons (zs_set (i:=12) scLDue14.nd rfl (Or.inr rfl) (ze_lst (za_t (ze_tup (za_b (ze_op op_add (ze_op op_add (ze_op op_add (zv 1) (zv 3)) (zv 7)) (zv 11)) (za_b (ze_op op_sub (zv 10) (zv 8)) (za_b (ze_op op_sub (zv 5) (zv 9)) (za_b (ze_op op_sub (zv 6) (zv 4)) za_nil))))) (za_t (ze_tup (za_b (ze_op op_sub (zv 10) (zv 8)) (za_b (ze_op op_sub (ze_op op_sub (ze_op op_add (zv 1) (zv 3)) (zv 7)) (zv 11)) (za_b (ze_op op_add (zv 4) (zv 6)) (za_b (ze_op op_add (zv 5) (zv 9)) za_nil))))) za_nil))))
  (zss_cons (zs_set (i:=12) scLDue14.nd rfl (Or.inr rfl) (ze_op op_cat (zv 12) (ze_lst (za_t (ze_tup (za_b (ze_op op_sub (zv 5) (zv 9)) (za_b (ze_op op_add (zv 4) (zv 6)) (za_b (ze_op op_sub (ze_op op_add (ze_op op_sub (zv 1) (zv 3)) (zv 7)) (zv 11)) (za_b (ze_op op_add (zv 8) (zv 10)) za_nil))))) (za_t (ze_tup (za_b (ze_op op_sub (zv 6) (zv 4)) (za_b (ze_op op_add (zv 5) (zv 9)) (za_b (ze_op op_add (zv 8) (zv 10)) (za_b (ze_op op_add (ze_op op_sub (ze_op op_sub (zv 1) (zv 3)) (zv 7)) (zv 11)) za_nil))))) za_nil)))))
  (zss_one (zs_ret (ze_call G2 r2 rfl mG2 kG2 bG2 .nil pass0 (za_s (ze_ix ix_list (ze_comp (own:=["_law_k"]) scLDue14 rfl ⟨by decide +kernel,rfl,by decide +kernel,by decide +kernel,by decide +kernel,by decide +kernel,by decide +kernel,by decide +kernel,by decide +kernel⟩ (zi_range1 rfl m_range (za_i za_nil)) (fun C fp s H nd=>zg_name (i:=0) nd rfl (Or.inl rfl)) (fun C fp s H=>zts_one (zt_cmpR op_ne (ze_ix ix_tupC (ze_ix ix_listC (zv 13) (zv 0) (fun _ _=>rfl)) (zv 0) (fun _ _=>rfl)) ze_int (nomark _))) (fun C fp s H=>(ze_ix ix_listC (zv 13) (zv 0) (fun _ _=>rfl)))) ze_int (fun _ _=>rfl)) za_nil)))))))))),fun ds C h=>?_⟩
 obtain ⟨a,b,d,rfl,ht,so,rfl⟩:=h
 refine S.letGX (R:=RWhR) rfl (A1.cons (E1.var rfl) A1.nil) ⟨a,b,d,rfl,ht,rfl⟩ fun g0 hg=>?_
 obtain ⟨B,B0,bB,hq,eg⟩:=hg
 subst eg
 refine ⟨_,Gd.lst (is:=[1,2]) rfl,?_⟩
 unfold whD
 have e0:=topL_val (hq a.x (by simp)).1
 have c0:=(hq a.x (by simp)).2
 generalize topL B a.x=t0 at e0 c0 ⊢
 have e1:=topL_val (hq a.y (by simp)).1
 have c1:=(hq a.y (by simp)).2
 generalize topL B a.y=t1 at e1 c1 ⊢
 have e2:=topL_val (hq a.z (by simp)).1
 have c2:=(hq a.z (by simp)).2
 generalize topL B a.z=t2 at e2 c2 ⊢
 have e3:=topL_val (hq b.x (by simp)).1
 have c3:=(hq b.x (by simp)).2
 generalize topL B b.x=t3 at e3 c3 ⊢
 have e4:=topL_val (hq b.y (by simp)).1
 have c4:=(hq b.y (by simp)).2
 generalize topL B b.y=t4 at e4 c4 ⊢
 have e5:=topL_val (hq b.z (by simp)).1
 have c5:=(hq b.z (by simp)).2
 generalize topL B b.z=t5 at e5 c5 ⊢
 have e6:=topL_val (hq d.x (by simp)).1
 have c6:=(hq d.x (by simp)).2
 generalize topL B d.x=t6 at e6 c6 ⊢
 have e7:=topL_val (hq d.y (by simp)).1
 have c7:=(hq d.y (by simp)).2
 generalize topL B d.y=t7 at e7 c7 ⊢
 have e8:=topL_val (hq d.z (by simp)).1
 have c8:=(hq d.z (by simp)).2
 generalize topL B d.z=t8 at e8 c8 ⊢
 refine S.letG (d:=l3 t0 t1 t2) (E1.ixL (ds:=[l3 t0 t1 t2,l3 t3 t4 t5,l3 t6 t7 t8]) (E1.varL rfl) E1.int rfl) (Gd.lst (is:=[3,4,5]) rfl) ?_
 refine S.letG (d:=l3 t3 t4 t5) (E1.ixL (ds:=[l3 t0 t1 t2,l3 t3 t4 t5,l3 t6 t7 t8]) (E1.varL rfl) E1.int rfl) (Gd.lst (is:=[6,7,8]) rfl) ?_
 refine S.letG (d:=l3 t6 t7 t8) (E1.ixL (ds:=[l3 t0 t1 t2,l3 t3 t4 t5,l3 t6 t7 t8]) (E1.varL rfl) E1.int rfl) (Gd.lst (is:=[9,10,11]) rfl) ?_
 refine S.letO (ds:=[tI [B + t0 + t4 + t8,t7 - t5,t2 - t6,t3 - t1],tI [t7 - t5,B + t0 - t4 - t8,t1 + t3,t2 + t6]]) (E1.li (ds:=[tI [B + t0 + t4 + t8,t7 - t5,t2 - t6,t3 - t1],tI [t7 - t5,B + t0 - t4 - t8,t1 + t3,t2 + t6]]) (A1.cons (E1.tu (ds:=[.int (B + t0 + t4 + t8),.int (t7 - t5),.int (t2 - t6),.int (t3 - t1)]) (A1.cons (E1.add (E1.add (E1.add (E1.var rfl) (E1.var rfl)) (E1.var rfl)) (E1.var rfl)) (A1.cons (E1.sub (E1.var rfl) (E1.var rfl)) (A1.cons (E1.sub (E1.var rfl) (E1.var rfl)) (A1.cons (E1.sub (E1.var rfl) (E1.var rfl)) A1.nil)))) rfl (lsz (n:=4) rfl (by decide))) (A1.cons (E1.tu (ds:=[.int (t7 - t5),.int (B + t0 - t4 - t8),.int (t1 + t3),.int (t2 + t6)]) (A1.cons (E1.sub (E1.var rfl) (E1.var rfl)) (A1.cons (E1.sub (E1.sub (E1.add (E1.var rfl) (E1.var rfl)) (E1.var rfl)) (E1.var rfl)) (A1.cons (E1.add (E1.var rfl) (E1.var rfl)) (A1.cons (E1.add (E1.var rfl) (E1.var rfl)) A1.nil)))) rfl (lsz (n:=4) rfl (by decide))) A1.nil)) rfl (lsz (n:=2) rfl z2)) rfl ?_
 refine S.letO (ds:=[tI [B + t0 + t4 + t8,t7 - t5,t2 - t6,t3 - t1],tI [t7 - t5,B + t0 - t4 - t8,t1 + t3,t2 + t6],tI [t2 - t6,t1 + t3,B - t0 + t4 - t8,t5 + t7],tI [t3 - t1,t2 + t6,t5 + t7,B - t0 - t4 + t8]]) (E1.catVO (xs:=[tI [B + t0 + t4 + t8,t7 - t5,t2 - t6,t3 - t1],tI [t7 - t5,B + t0 - t4 - t8,t1 + t3,t2 + t6]]) (ys:=[tI [t2 - t6,t1 + t3,B - t0 + t4 - t8,t5 + t7],tI [t3 - t1,t2 + t6,t5 + t7,B - t0 - t4 + t8]]) rfl (E1.li (ds:=[tI [t2 - t6,t1 + t3,B - t0 + t4 - t8,t5 + t7],tI [t3 - t1,t2 + t6,t5 + t7,B - t0 - t4 + t8]]) (A1.cons (E1.tu (ds:=[.int (t2 - t6),.int (t1 + t3),.int (B - t0 + t4 - t8),.int (t5 + t7)]) (A1.cons (E1.sub (E1.var rfl) (E1.var rfl)) (A1.cons (E1.add (E1.var rfl) (E1.var rfl)) (A1.cons (E1.sub (E1.add (E1.sub (E1.var rfl) (E1.var rfl)) (E1.var rfl)) (E1.var rfl)) (A1.cons (E1.add (E1.var rfl) (E1.var rfl)) A1.nil)))) rfl (lsz (n:=4) rfl (by decide))) (A1.cons (E1.tu (ds:=[.int (t3 - t1),.int (t2 + t6),.int (t5 + t7),.int (B - t0 - t4 + t8)]) (A1.cons (E1.sub (E1.var rfl) (E1.var rfl)) (A1.cons (E1.add (E1.var rfl) (E1.var rfl)) (A1.cons (E1.add (E1.var rfl) (E1.var rfl)) (A1.cons (E1.add (E1.sub (E1.sub (E1.var rfl) (E1.var rfl)) (E1.var rfl)) (E1.var rfl)) A1.nil)))) rfl (lsz (n:=4) rfl (by decide))) A1.nil)) rfl (lsz (n:=2) rfl z2)) (show 4<=sizeLine by decide)) rfl ?_
 have hr:=only_row (a:=a) (b:=b) (d:=d) B0 bB (nine_mem c0 c1 c2 c3 c4 c5 c6 c7 c8) e0 e1 e2 e3 e4 e5 e6 e7 e8
 obtain ⟨i,r,i4,ei,ef,hi⟩:=diag14 (B:=B) (t0:=t0) (t1:=t1) (t2:=t2) (t3:=t3) (t4:=t4) (t5:=t5) (t6:=t6) (t7:=t7) (t8:=t8) B0
 obtain ⟨w',x',y',z',er,nz,bd,hT⟩:=hr r (List.mem_of_getElem? ei) hi
 refine S.ret1 (s:=.dat (tI (pl [w',x',y',z']))) (E1.cT (ns:=[w',x',y',z']) (A1.cons (E1.ixL (ds:=((([0,1,2,3]:List Int).map Dat.int).filter (kp14 B t0 t1 t2 t3 t4 t5 t6 t7 t8)).map (rw14 B t0 t1 t2 t3 t4 t5 t6 t7 t8)) (E1.vwo (E1.compF (Wk.rng (n:=4) (A1.cons E1.int A1.nil) rfl) (fun d hd=>?_) (fun d hd _=>?_) (show 4<=sizeLine by decide))) E1.int (by rw [ef,er])) A1.nil) (show 4<=1000 by decide) ⟨nz,sm_bd' bd⟩) ⟨_,⟨w',x',y',z',nz,hT so,rfl⟩,rfl,noL_tI⟩
 ·simp only [List.map_cons,List.map_nil,List.mem_cons,List.mem_nil_iff,or_false] at hd
  rcases hd with rfl | rfl | rfl | rfl
  all_goals exact T1.test (E1.ne (E1.ixT (E1.ixL (ds:=[tI [B + t0 + t4 + t8,t7 - t5,t2 - t6,t3 - t1],tI [t7 - t5,B + t0 - t4 - t8,t1 + t3,t2 + t6],tI [t2 - t6,t1 + t3,B - t0 + t4 - t8,t5 + t7],tI [t3 - t1,t2 + t6,t5 + t7,B - t0 - t4 + t8]]) (E1.varO rfl) (E1.var rfl) rfl) (E1.var rfl) rfl) E1.int)
 ·simp only [List.map_cons,List.map_nil,List.mem_cons,List.mem_nil_iff,or_false] at hd
  rcases hd with rfl | rfl | rfl | rfl
  all_goals exact E1.ixL (ds:=[tI [B + t0 + t4 + t8,t7 - t5,t2 - t6,t3 - t1],tI [t7 - t5,B + t0 - t4 - t8,t1 + t3,t2 + t6],tI [t2 - t6,t1 + t3,B - t0 + t4 - t8,t5 + t7],tI [t3 - t1,t2 + t6,t5 + t7,B - t0 - t4 + t8]]) (E1.varO rfl) (E1.var rfl) rfl
theorem scLTold14:FnScope ["_law_table_here","_law_found","_law_kept","_law_e"] ["_law_table_here"] (defScope sLTold14):=⟨rfl,rfl,rfl,by decide +kernel,rfl,by decide +kernel,by decide +kernel⟩
theorem ok_ltold14 (F:Fun K "_law_told" "_law_told" sLTold14 f fd) (m_TurnError:mg "TurnError" = some (.ref cTurnError)) (x_NoTurn:Xc K "NoTurn" cNoTurn) (u_NoTurn:PySem.W.exmOne K (.ref cNoTurn) (.ref cTurnError)=some true)
  (G:FnOk P w K mg base CX0 5 g gd ["table"] (spQ K RFourOf)) (bG:Binds K gd ["table"] []) (kG:PySem.W.keepIn K (.ref g)=true) (mG:mg "four_of" = some (.ref g))
  (G2:FnOk P w K mg base (CXx P w (.ref cNoTurn)) 5 g2 gd2 ["table"] (spB K BTurn)) (bG2:Binds K gd2 ["table"] []) (kG2:PySem.W.keepIn K (.ref g2)=true) (mG2:mg "four_of" = some (.ref g2)) :
  FnOk P w K mg base CX0 6 f fd ["_law_table_here"] (spX K RTold14):=by
 refine okXd F scLTold14 (fun ds C h=>?_) (fun ds C h cdv A0 outer s0 H0 E0 hr=>?_)
 ·obtain ⟨_,_,_,rfl,_⟩:=h;rfl
 have r:=hr.mono (show 5<=5 by decide)
 obtain ⟨a,b,d,rfl,ht,rfl⟩:=h
 by_cases so:SO a b d
 ·refine ⟨_,(zss_cons (zs_set (i:=1) scLTold14.nd rfl (Or.inl rfl) ze_non) (zss_cons (zs_set (i:=2) scLTold14.nd rfl (Or.inl rfl) ze_non)
   (zss_cons (zs_tryOk (zss_one (zs_set (i:=1) scLTold14.nd rfl (Or.inl rfl) (ze_call G r rfl mG kG bG .nil pass0 (za_n (zv 0) za_nil)))))
   (zss_one (zs_ret (ze_lst (za_n (zv 1) (za_n (zv 2) za_nil)))))))),?_⟩
  refine S.let1 (s:=.dat .none) E1.non ?_
  refine S.let1 (s:=.dat .none) E1.non ?_
  refine S.letC (E.callQ (R:=RFourOf) (ds:=[tbD a b d]) (A1.cons (E1.var rfl) A1.nil) ⟨a,b,d,rfl,ht,so,rfl⟩) (fun s ⟨_,e,_⟩=>by rw [e];rfl) fun s ⟨g,es,w,x,y,z,nz,bd,hT,eg⟩=>?_
  subst es eg
  exact S.ret1 (s:=.own [tI (pl [w,x,y,z]),.none]) (E1.li (A1.cons (E1.var rfl) (A1.cons (E1.var rfl) A1.nil)) rfl (lsz (n:=2) rfl z2)) ⟨_,.inl ⟨so,w,x,y,z,nz,bd,hT,rfl⟩,rfl⟩
 ·refine ⟨_,(zss_cons (zs_set (i:=1) scLTold14.nd rfl (Or.inl rfl) ze_non) (zss_cons (zs_set (i:=2) scLTold14.nd rfl (Or.inl rfl) ze_non)
   (zss_cons (zs_tryAs (i:=3) (C:=.ref cNoTurn) (cT:=cTurnError) scLTold14.nd rfl rfl (by rfl) m_TurnError u_NoTurn (rss_here (rs_asg (re_call G2 r (by rfl) mG2 kG2 bG2 (za_n (zv 0) za_nil)))) (fun ex=>zss_one (zs_set (i:=2) scLTold14.nd rfl (Or.inl rfl) (zv 3))))
   (zss_one (zs_ret (ze_lst (za_n (zv 1) (za_n (zv 2) za_nil)))))))),?_⟩
  refine S.let1 (s:=.dat .none) E1.non ?_
  refine S.let1 (s:=.dat .none) E1.non ?_
  refine S.seq (M:=fun τ'=>τ'=[.dat (tbD a b d),.dat .none,.dat (.bytes cNT),.un]) (S.tryAsD (SX.call (B:=BTurn) (A1.cons (E1.var rfl) A1.nil) ⟨a,b,d,rfl,ht,so⟩) (xn_NT x_NoTurn) (by decide) (fun τ' e=>by subst e;exact (show 3 < 4 by decide)) (fun τ' e=>by subst e;rfl)) (fun τ' e=>?_)
  subst e
  exact S.ret1 (s:=.own [.none,.bytes cNT]) (E1.li (A1.cons (E1.var rfl) (A1.cons (E1.var rfl) A1.nil)) rfl (lsz (n:=2) rfl z2)) ⟨_,.inr ⟨so,rfl⟩,rfl⟩
theorem scLaw:FnScope ["_law_script","_law_cell","_law_table_here","_law_found","_law_kept","_law_four_here"] ["_law_script"] (defScope sLaw):=⟨rfl,rfl,rfl,by decide +kernel,rfl,by decide +kernel,by decide +kernel⟩
theorem ok_law (F:Fun K "law" "law" sLaw f fd)
  (G:FnOk P w K mg base CX0 7 g gd ["_law_cell"] (spQ K RAskedV)) (bG:Binds K gd ["_law_cell"] []) (kG:PySem.W.keepIn K (.ref g)=true) (mG:mg "_law_asked" = some (.ref g))
  (G2:FnOk P w K mg base CX0 6 g2 gd2 ["_law_table_here"] (spX K RTold14)) (bG2:Binds K gd2 ["_law_table_here"] []) (kG2:PySem.W.keepIn K (.ref g2)=true) (mG2:mg "_law_told" = some (.ref g2))
  (G3:FnOk P w K mg base CX0 5 g3 gd3 ["_law_table_here"] (spP K RIsTurnV)) (bG3:Binds K gd3 ["_law_table_here"] []) (kG3:PySem.W.keepIn K (.ref g3)=true) (mG3:mg "_law_is_of_turn" = some (.ref g3))
  (G4:FnOk P w K mg base CX0 5 g4 gd4 ["table"] (spP K RIsTurnV)) (bG4:Binds K gd4 ["table"] []) (kG4:PySem.W.keepIn K (.ref g4)=true) (mG4:mg "is_turn" = some (.ref g4))
  (G5:FnOk P w K mg base CX0 1 g5 gd5 ["_law_e"] (spP K RWhich)) (bG5:Binds K gd5 ["_law_e"] []) (kG5:PySem.W.keepIn K (.ref g5)=true) (mG5:mg "_law_which" = some (.ref g5))
  (G6:FnOk P w K mg base CX0 4 g6 gd6 ["four"] (spTable K)) (bG6:Binds K gd6 ["four"] []) (kG6:PySem.W.keepIn K (.ref g6)=true) (mG6:mg "table_of" = some (.ref g6))
  (G7:FnOk P w K mg base CX0 5 g7 gd7 ["_law_found","_law_due_here"] (spP K (RSm 4))) (bG7:Binds K gd7 ["_law_found","_law_due_here"] []) (kG7:PySem.W.keepIn K (.ref g7)=true) (mG7:mg "_law_same" = some (.ref g7))
  (G8:FnOk P w K mg base CX0 3 g8 gd8 ["_law_table_here"] (spQ K RDue14)) (bG8:Binds K gd8 ["_law_table_here"] []) (kG8:PySem.W.keepIn K (.ref g8)=true) (mG8:mg "_law_due" = some (.ref g8))
  (G9:FnOk P w K mg base CX0 3 g9 gd9 ["_law_purse_here","_law_most"] (spFour2 K)) (bG9:Binds K gd9 ["_law_purse_here","_law_most"] []) (kG9:PySem.W.keepIn K (.ref g9)=true) (mG9:mg "_law_four" = some (.ref g9))
  (G10:FnOk P w K mg base CX0 1 g10 gd10 ["_law_cell"] spPurse2) (bG10:Binds K gd10 ["_law_cell"] []) (kG10:PySem.W.keepIn K (.ref g10)=true) (mG10:mg "_law_purse" = some (.ref g10))
  (G11:FnOk P w K mg base CX0 2 g11 gd11 ["_law_four_here"] (spT K (fun ns=>(∃ n ∈ ns,n ≠ 0)/\Sm ns) pl)) (bG11:Binds K gd11 ["_law_four_here"] []) (kG11:PySem.W.keepIn K (.ref g11)=true) (mG11:mg "_law_plain" = some (.ref g11))
  (G12:FnOk P w K mg base CX0 5 g12 gd12 ["table"] (spQ K RFourOf)) (bG12:Binds K gd12 ["table"] []) (kG12:PySem.W.keepIn K (.ref g12)=true) (mG12:mg "four_of" = some (.ref g12)) :
  FnOk P w K mg base CX0 8 f fd ["_law_script"] (spLaw K):=by
 refine okL F scLaw rfl (fun cdv A0 outer s0 H0 E0 hr=>?_)
 have r:=hr.mono (show 7<=7 by decide)
 have r2:=hr.mono (show 6<=7 by decide)
 have r3:=hr.mono (show 5<=7 by decide)
 have r4:=hr.mono (show 5<=7 by decide)
 have r5:=hr.mono (show 1<=7 by decide)
 have r6:=hr.mono (show 4<=7 by decide)
 have r7:=hr.mono (show 5<=7 by decide)
 have r8:=hr.mono (show 3<=7 by decide)
 have r9:=hr.mono (show 3<=7 by decide)
 have r10:=hr.mono (show 1<=7 by decide)
 have r11:=hr.mono (show 2<=7 by decide)
 have r12:=hr.mono (show 5<=7 by decide)
 refine ⟨_,(zss_cons (zs_for PassesOwn.never rfl (zi_list (ze_op op_cat (ze_lst (za_i (za_i za_nil))) (ze_slice sl_list (zv 0) zo_none (zo_some ze_int)))) (zg_name (i:=1) scLaw.nd rfl (Or.inl rfl)) (zss_cons (zs_set (i:=2) scLaw.nd rfl (Or.inl rfl) (ze_call G r rfl mG kG bG .nil pass0 (za_n (zv 1) za_nil)))
  (zss_cons (zs_asg (ze_call G2 r2 rfl mG2 kG2 bG2 .nil pass0 (za_n (zv 2) za_nil)) (zg_lst rfl (zgs_cons (zg_name (i:=3) scLaw.nd rfl (Or.inl rfl)) (zgs_cons (zg_name (i:=4) scLaw.nd rfl (Or.inl rfl)) zgs_nil))))
  (zss_cons (zs_if (zt_not (zt_val (ze_call G3 r3 rfl mG3 kG3 bG3 .nil pass0 (za_n (zv 2) za_nil)))) (zss_one (zs_if (ZW.pt (zw_or (zt_cmpR (op_neD hr.units) (ze_call G5 r5 rfl mG5 kG5 bG5 .nil pass0 (za_n (zv 4) za_nil)) (ze_lst (za_i za_nil)) (nomark _)) (zw_or1 (zt_val (ze_call G4 r4 rfl mG4 kG4 bG4 .nil pass0 (za_n (zv 2) za_nil)))))) (zss_one (zs_ret ze_bl)) zss_nil)) (zss_one (zs_if (ZW.pt (zw_or (zt_cmpR op_notN (zv 4) ze_non (nomark _)) (zw_or (zt_not (zt_val (ze_call G7 r7 rfl mG7 kG7 bG7 .nil pass0 (za_n (zv 3) (za_c (ze_call G8 r8 rfl mG8 kG8 bG8 .nil pass0 (za_n (zv 2) za_nil)) za_nil))))) (zw_or1 (zt_cmpR (op_neD hr.units) (ze_call G6 r6 rfl mG6 kG6 bG6 .nil pass0 (za_n (zv 3) za_nil)) (zv 2) (nomark _)))))) (zss_one (zs_ret ze_bl)) zss_nil)))
  (zss_cons (zs_set (i:=5) scLaw.nd rfl (Or.inl rfl) (ze_call G9 r9 rfl mG9 kG9 bG9 .nil pass0 (za_c (ze_call G10 r10 rfl mG10 kG10 bG10 .nil pass0 (za_n (zv 1) za_nil)) (za_i za_nil))))
  (zss_one (zs_if (zt_not (zt_val (ze_call G7 r7 rfl mG7 kG7 bG7 .nil pass0 (za_c (ze_call G12 r12 rfl mG12 kG12 bG12 .nil pass0 (za_c (ze_call G6 r6 rfl mG6 kG6 bG6 .nil pass0 (za_n (zv 5) za_nil)) za_nil)) (za_c (ze_call G11 r11 rfl mG11 kG11 bG11 .nil pass0 (za_n (zv 5) za_nil)) za_nil))))) (zss_one (zs_ret ze_bl)) zss_nil)))))))
  (zss_one (zs_ret ze_bl))),fun sc hl hb=>?_⟩
 refine S.seq (M:=fun τ'=>∃ o1 o2 o3 o4 o5:Sl,τ'=[.dat (.list (sc.map .int)),o1,o2,o3,o4,o5]/\flatD o3=true/\flatD o4=true/\flatD o5=true) ?_ fun τ' ⟨o1,o2,o3,o4,o5,eτ,_⟩=>?_
 ·refine S.for (Wk.lst (E1.frz (E1.catL (xs:=[.int 0,.int 5]) (ys:=cutA (sc.map .int) none (some ((12:Nat):Int))) (E1.li (A1.cons E1.int (A1.cons E1.int A1.nil)) rfl (lsz (n:=2) rfl z2)) (E1.slL (E1.varL rfl) O1.none (O1.some E1.int)) (Nat.le_trans (show 2 + _<=14 from by rw [cutA_to,List.length_take];omega) (by decide))))) (fun _ τ'=>∃ o1 o2 o3 o4 o5:Sl,τ'=[.dat (.list (sc.map .int)),o1,o2,o3,o4,o5]/\flatD o3=true/\flatD o4=true/\flatD o5=true) ⟨_,_,_,_,_,rfl,rfl,rfl,rfl⟩ (fun i dd τ1 hd ⟨o1,o2,o3,o4,o5,e1,h3,h4,h5⟩=>?_) (fun τ1 h=>h)
  subst e1
  obtain ⟨c,rfl⟩:=mem_cells (ms:=[0,5]) (List.mem_of_getElem? hd)
  clear hd
  refine ⟨_,Gd.name,?_⟩
  refine S.letC (E.callQ (R:=RAskedV) (ds:=[.int c]) (A1.cons (E1.var rfl) A1.nil) ⟨c,rfl,rfl⟩) (fun s ⟨_,e,_⟩=>by rw [e];rfl) fun s ⟨g,es,a,b,d,eg,ht⟩=>?_
  subst es eg
  refine S.letGX (R:=RTold14) (flat14 h3 h4 h5 rfl rfl rfl) (A1.cons (E1.var rfl) A1.nil) ⟨a,b,d,rfl,ht,rfl⟩ fun g0 hg=>?_
  rcases hg with ⟨so,w,x,y,z,nz,bd,hT,rfl⟩ | ⟨so,rfl⟩
  ·refine ⟨_,Gd.lst (is:=[3,4]) rfl,?_⟩
   obtain ⟨p,q,r,s,hp⟩:=four_of (show (pl [w,x,y,z]).length=4 by rw [pl_length];rfl)
   refine S.seq (M:=fun τ'=>τ'=[.dat (.list (sc.map .int)),.dat (.int c),.dat (tbD a b d),.dat (tI (pl [w,x,y,z])),.dat .none,o5]) ?_ fun τ' eτ=>?_
   ·refine S.ifF (T1.notT (T1.val (E1.call (R:=RIsTurnV) (ds:=[tbD a b d]) (A1.cons (E1.var rfl) A1.nil) ⟨a,b,d,true,rfl,ht,⟨fun _=>so,fun _=>rfl⟩,rfl⟩))) ?_
    exact S.ifF (T1.orF (T1.test (E1.notN (d:=.none) (E1.var rfl) E1.non)) (T1.orF (T1.notT (T1.val (E.callC (R:=RSm 4) (d:=.bool true) (A.consE (E1.var rfl) (A.lastE (E.callQ (R:=RDue14) (ds:=[tbD a b d]) (A1.cons (E1.var rfl) A1.nil) ⟨a,b,d,rfl,ht,so,rfl⟩))) (fun ss ⟨r0,es,s0,es2,g1,eg1,w',x',y',z',nz',hT',eg2⟩=>⟨[tI (pl [w,x,y,z]),tI (pl [w,x,y,z])],by rw [es,es2,eg1,eg2,tof_pl nz' nz hT' hT];rfl,_,rfl,SmD.ints (by rw [pl_length];exact (show 4<=1000 by decide)),rfl⟩)))) (T1.neDT (d:=tbD a b d) (E1.to (E1.cTable (a:=p) (b:=q) (d:=r) (e:=s) (A1.cons (E1.to (E1.var rfl) (by rw [hp])) A1.nil) (by rw [<- hp];exact nz_pl nz) (bd_up (by rw [<- hp];exact bd_pl nz bd))) (by rw [tof_tb (tof_p nz hp hT)])) (E1.var rfl) rfl rfl (kqd_tbD a b d)))) (S.next rfl)
   subst eτ
   refine S.letC (ER.fresh4 (c:=c) (mo:=6) (A1.cons (E1.var rfl) A1.nil) E1.int (by decide) (by decide)) (fun s ⟨_,e,_⟩=>by rw [e];rfl) fun s ⟨ns,es,l4,nz4,bd4'⟩=>?_
   subst es
   obtain ⟨f1,f2,f3,f4,rfl⟩:=four_of l4
   have bd4:Bd (2 ^ 104) [f1,f2,f3,f4]:=bd_mono bd4' (by decide)
   exact S.ifF (T1.notT (T1.val (E.callC (R:=RSm 4) (d:=.bool true) (C:=fun ss=>∃ s,ss=[s,.dat (tI (pl [f1,f2,f3,f4]))]/\∃ g,s = .dat g/\∃ w x y z:Int,(∃ n ∈ [w,x,y,z],n ≠ 0)/\Bd (2 ^ 950) [w,x,y,z]/\TOf (tr1 f1 f2 f3 f4) (tr2 f1 f2 f3 f4) (tr3 f1 f2 f3 f4) w x y z/\g=tI (pl [w,x,y,z])) (A.cons (C2:=fun _ ss=>[.dat (tI (pl [f1,f2,f3,f4]))]=ss) (E.callQ (R:=RFourOf) (ds:=[tbD (tr1 f1 f2 f3 f4) (tr2 f1 f2 f3 f4) (tr3 f1 f2 f3 f4)]) (A1.cons (E1.cTable (a:=f1) (b:=f2) (d:=f3) (e:=f4) (A1.cons (E1.var rfl) A1.nil) nz4 (bd_mono bd4 (Nat.pow_le_pow_right (by decide) (by decide)))) A1.nil) ⟨(tr1 f1 f2 f3 f4),(tr2 f1 f2 f3 f4),(tr3 f1 f2 f3 f4),rfl,(tb_tr nz4 bd4).up (by decide),tr_orth nz4,rfl⟩) (fun _ _=>A1.cons (E1.cT (ns:=[f1,f2,f3,f4]) (A1.cons (E1.var rfl) A1.nil) (show 4<=1000 by decide) ⟨nz4,sm_bd' bd4⟩) A1.nil) (fun s ss h1 h2=>⟨s,by rw [<- h2],h1⟩)) (fun ss ⟨s,es,g,eg,w,x,y,z,nz,bd,hT,eg2⟩=>⟨[tI (pl [f1,f2,f3,f4]),tI (pl [f1,f2,f3,f4])],by rw [es,eg,eg2,tof_pl nz nz4 hT ⟨rfl,rfl,rfl⟩];rfl,_,rfl,SmD.ints (by rw [pl_length];exact (show 4<=1000 by decide)),rfl⟩)))) (S.next ⟨_,_,_,_,_,rfl,rfl,rfl,rfl⟩)
  ·refine ⟨_,Gd.lst (is:=[3,4]) rfl,?_⟩
   refine S.seq (M:=fun τ'=>τ'=[.dat (.list (sc.map .int)),.dat (.int c),.dat (tbD a b d),.dat .none,.dat (.bytes cNT),o5]) ?_ fun τ' eτ=>?_
   ·refine S.ifT (T1.notF (T1.val (E1.call (R:=RIsTurnV) (ds:=[tbD a b d]) (A1.cons (E1.var rfl) A1.nil) ⟨a,b,d,false,rfl,ht,⟨fun z=>(nomatch z),fun z=>absurd z so⟩,rfl⟩))) ?_
    exact S.ifF (T1.orF (T1.neDT (d:=.list [.int 0]) (E1.call (R:=RWhich) (A1.cons (E1.var rfl) A1.nil) ⟨rfl,rfl⟩) (E1.li (A1.cons E1.int A1.nil) rfl (lsz (n:=1) rfl (by decide))) rfl rfl rfl) (T1.val (E1.call (R:=RIsTurnV) (ds:=[tbD a b d]) (A1.cons (E1.var rfl) A1.nil) ⟨a,b,d,false,rfl,ht,⟨fun z=>(nomatch z),fun z=>absurd z so⟩,rfl⟩))) (S.next rfl)
   subst eτ
   refine S.letC (ER.fresh4 (c:=c) (mo:=6) (A1.cons (E1.var rfl) A1.nil) E1.int (by decide) (by decide)) (fun s ⟨_,e,_⟩=>by rw [e];rfl) fun s ⟨ns,es,l4,nz4,bd4'⟩=>?_
   subst es
   obtain ⟨f1,f2,f3,f4,rfl⟩:=four_of l4
   have bd4:Bd (2 ^ 104) [f1,f2,f3,f4]:=bd_mono bd4' (by decide)
   exact S.ifF (T1.notT (T1.val (E.callC (R:=RSm 4) (d:=.bool true) (C:=fun ss=>∃ s,ss=[s,.dat (tI (pl [f1,f2,f3,f4]))]/\∃ g,s = .dat g/\∃ w x y z:Int,(∃ n ∈ [w,x,y,z],n ≠ 0)/\Bd (2 ^ 950) [w,x,y,z]/\TOf (tr1 f1 f2 f3 f4) (tr2 f1 f2 f3 f4) (tr3 f1 f2 f3 f4) w x y z/\g=tI (pl [w,x,y,z])) (A.cons (C2:=fun _ ss=>[.dat (tI (pl [f1,f2,f3,f4]))]=ss) (E.callQ (R:=RFourOf) (ds:=[tbD (tr1 f1 f2 f3 f4) (tr2 f1 f2 f3 f4) (tr3 f1 f2 f3 f4)]) (A1.cons (E1.cTable (a:=f1) (b:=f2) (d:=f3) (e:=f4) (A1.cons (E1.var rfl) A1.nil) nz4 (bd_mono bd4 (Nat.pow_le_pow_right (by decide) (by decide)))) A1.nil) ⟨(tr1 f1 f2 f3 f4),(tr2 f1 f2 f3 f4),(tr3 f1 f2 f3 f4),rfl,(tb_tr nz4 bd4).up (by decide),tr_orth nz4,rfl⟩) (fun _ _=>A1.cons (E1.cT (ns:=[f1,f2,f3,f4]) (A1.cons (E1.var rfl) A1.nil) (show 4<=1000 by decide) ⟨nz4,sm_bd' bd4⟩) A1.nil) (fun s ss h1 h2=>⟨s,by rw [<- h2],h1⟩)) (fun ss ⟨s,es,g,eg,w,x,y,z,nz,bd,hT,eg2⟩=>⟨[tI (pl [f1,f2,f3,f4]),tI (pl [f1,f2,f3,f4])],by rw [es,eg,eg2,tof_pl nz nz4 hT ⟨rfl,rfl,rfl⟩];rfl,_,rfl,SmD.ints (by rw [pl_length];exact (show 4<=1000 by decide)),rfl⟩)))) (S.next ⟨_,_,_,_,_,rfl,rfl,rfl,rfl⟩)
 subst eτ
 exact S.ret1 (s:=.dat (.bool true)) E1.bl rfl
theorem scSop:FnScope ["one","other"] ["one","other"] (defScope sSop):=⟨rfl,rfl,rfl,by decide +kernel,rfl,by decide +kernel,by decide +kernel⟩
theorem ok_sop (F:Fun K "sum_of_products" "sum_of_products" sSop f fd) (ms:mg "sum" = none) (mz:mg "zip" = none):FnOk P w K mg base CX0 1 f fd ["one","other"] (spSop K):=by
  refine F.okZ scSop (fun vs H Q E h=>?_) (fun cdv A outer s H vs Q E hr h=>?_)
  . obtain ⟨a,b,ns,ms,rfl,_⟩:=h;rfl
  obtain ⟨a,b,ns,ms,rfl,hS,hT,hl,hl2,s1,s2,q⟩:=h
  refine ⟨_,zss_one (zs_ret (ze_callB (call_sumL rfl) rfl ‹_› (by rfl) (za_cons (ze_comp (own:=["left","right"]) scSop rfl ⟨by decide +kernel,rfl,by decide +kernel,by decide +kernel,by decide +kernel,by decide +kernel,by decide +kernel,by decide +kernel,by decide +kernel⟩
      (zi_zip rfl mz (za_cons (zv 0) (za_cons (zv 1) za_nil)))
      (fun C fp s H nd=>zg_pair rfl nd rfl rfl rfl rfl) (fun C fp s H=>zts_nil) (fun C fp s H=>ze_op op_mulB (zv 0) (zv 1))) za_nil))),?_⟩
  refine ⟨_,rfl,_,rfl,a,b,rfl,⟨_,hS⟩,⟨_,hT⟩,?_⟩
  refine comp_zip (K:=K) ((List.zipWith (· * ·) ns ms).map PySem.W.Dat.int) hS hT (by simp [hl2]) (by simp [hl2]) (by rw [List.length_map];exact Nat.le_of_lt (small1000 hl)) (fun i x y H' d hx hy hd hs=>?_) (fun σ' H2 Q1 Q2 hq h=>?_) (fun D H' ys hs hy hD hf=>?_)
  . rw [List.getElem?_map] at hx hy hd
    rw [List.getElem?_zipWith] at hd
    cases e:ns[i]? with
    | none=>rw [e] at hx;cases hx
    | some n =>
      cases e2:ms[i]? with
      | none=>rw [e2] at hy;cases hy
      | some m =>
        rw [e] at hx hd
        rw [e2] at hy hd
        cases hx;cases hy;cases hd
        exact ⟨_,rfl,_,rfl,n,m,rfl,rfl,mulOk_of (pow_lift (s1 n (List.mem_of_getElem? e))) (pow_lift (s2 m (List.mem_of_getElem? e2))),Same.refl _,.int _⟩
  . obtain ⟨v1,e1,v2,e2,i,j,e3,e4,e5,q⟩:=h
    exact ⟨v1,e1,v2,e2,i,j,e3,e4,e5,hq _ _ q⟩
  . refine ⟨D,_,rfl,?_,q _ hs⟩
    rw [Fzs.ints_inv hf] at hy
    exact SqL.of hy
theorem scLow:FnScope ["level"] ["level"] (defScope sLow):=⟨rfl,rfl,rfl,by decide +kernel,rfl,by decide +kernel,by decide +kernel⟩
theorem ok_low (F:Fun K "lowered" "lowered" sLow f fd)
  (G:FnOk P w K mg base CX0 2 g gd ["numbers"] (spT K (fun ns=>(∃ n ∈ ns,n ≠ 0)/\Sm ns) red)) (bG:Binds K gd ["numbers"] []) (kG:PySem.W.keepIn K (.ref g)=true) (mG:mg "reduced" = some (.ref g)) (m_tuple:mg "tuple" = none) :
  FnOk P w K mg base CX0 3 f fd ["level"] (spLow K):=by
 refine F.okZ scLow (fun vs H Q E h=>?_) (fun cdv A outer s H vs Q E hr h=>?_)
 ·obtain ⟨p,q0,n1,n2,n3,b,rfl,_⟩:=h;rfl
 obtain ⟨p,q0,n1,n2,n3,b,rfl,hp,hq,b0,m1,m2,m3,mb,q⟩:=h
 have r:=hr.mono (show 2<=2 by decide)
 refine ⟨_,(zss_one (zs_ret (ze_callTy call_tuple_of rfl m_tuple (by rfl) (za_cons (ze_comp (own:=["top"]) scLow rfl ⟨by decide +kernel,rfl,by decide +kernel,by decide +kernel,by decide +kernel,by decide +kernel,by decide +kernel,by decide +kernel,by decide +kernel⟩ (zi_tup (ze_ix ix_tup (zv 0) ze_int (fun _ _=>rfl))) (fun C fp s H nd=>zg_name (i:=0) nd rfl (Or.inl rfl)) (fun C fp s H=>zts_nil) (fun C fp s H=>(ze_call G r rfl mG kG bG .nil pass0 (za_t (ze_tup (za_n (zv 0) (za_s (ze_ix ix_tupC (zv 1) ze_int (fun _ _=>rfl)) za_nil))) za_nil)))) za_nil)))),?_⟩
 refine ⟨_,rfl,p,_,_,_,rfl,rfl,SqT.of hp,atA,q0,rfl,⟨_,SqT.of hq⟩,?_⟩
 refine comp3T (n1:=(fr n1 b).map V.int) (n2:=(fr n2 b).map V.int) (n3:=(fr n3 b).map V.int) (src_tup (xs:=[.int n1,.int n2,.int n3]) (SqT.of (K:=K) hq)) (fun H' s R k=>?_) (fun H' s R k=>?_) (fun H' s R k=>?_) fun D H1 p1 p2 p3 s1 hD _ h1 h2 h3=>?_
 ·refine ⟨_,rfl,_,rfl,p,_,_,_,rfl,rfl,SqT.of (s _ _ hp),atB,(by show 2<=sizeLine;decide),fun t ht=>?_⟩
  have s2:=Same.new ht (.tup ([n1,b].map V.int))
  exact ⟨t,[n1,b],rfl,SqT.of upd_same,(by show 2<=1000;decide),⟨⟨b,by simp,by omega⟩,sm2 m1 mb⟩,fun r H5 s5 h5=>k r H5 (s2.trans s5) h5⟩
 ·refine ⟨_,rfl,_,rfl,p,_,_,_,rfl,rfl,SqT.of (s _ _ hp),atB,(by show 2<=sizeLine;decide),fun t ht=>?_⟩
  have s2:=Same.new ht (.tup ([n2,b].map V.int))
  exact ⟨t,[n2,b],rfl,SqT.of upd_same,(by show 2<=1000;decide),⟨⟨b,by simp,by omega⟩,sm2 m2 mb⟩,fun r H5 s5 h5=>k r H5 (s2.trans s5) h5⟩
 ·refine ⟨_,rfl,_,rfl,p,_,_,_,rfl,rfl,SqT.of (s _ _ hp),atB,(by show 2<=sizeLine;decide),fun t ht=>?_⟩
  have s2:=Same.new ht (.tup ([n3,b].map V.int))
  exact ⟨t,[n3,b],rfl,SqT.of upd_same,(by show 2<=1000;decide),⟨⟨b,by simp,by omega⟩,sm2 m3 mb⟩,fun r H5 s5 h5=>k r H5 (s2.trans s5) h5⟩
 refine ⟨D,_,rfl,.inl ⟨SqL.of hD,fun u hu=>?_⟩⟩
 have s2:=Same.new hu (.tup [.ref p1,.ref p2,.ref p3])
 exact q u _ (s1.trans s2) ⟨p1,p2,p3,upd_same,s2 _ _ h1,s2 _ _ h2,s2 _ _ h3⟩
theorem scFourOf:FnScope ["table","four"] ["table"] (defScope sFourOf):=⟨rfl,rfl,rfl,by decide +kernel,rfl,by decide +kernel,by decide +kernel⟩
theorem ok_fourof (F:Fun K "four_of" "four_of" sFourOf f fd)
  (G:FnOk P w K mg base CX0 4 g gd ["table"] (spQ K ROnlyV)) (bG:Binds K gd ["table"] []) (kG:PySem.W.keepIn K (.ref g)=true) (mG:mg "only_four" = some (.ref g))
  (G2:FnOk P w K mg base CX0 3 g2 gd2 ["table","four"] (spP K RIsTabV)) (bG2:Binds K gd2 ["table","four"] []) (kG2:PySem.W.keepIn K (.ref g2)=true) (mG2:mg "is_table_of" = some (.ref g2))
  (G3:FnOk P w K mg base CX0 3 g3 gd3 ["four"] (spT K PlainPre pl)) (bG3:Binds K gd3 ["four"] []) (kG3:PySem.W.keepIn K (.ref g3)=true) (mG3:mg "plain" = some (.ref g3)) :
  FnOk P w K mg base CX0 5 f fd ["table"] (spQ K RFourOf):=by
 refine okQ F scFourOf (fun ds d h=>?_) (fun cdv A0 outer s0 H0 E0 hr=>?_)
 ·obtain ⟨a,b,d,rfl,_⟩:=h;rfl
 have r:=hr.mono (show 4<=4 by decide)
 have r2:=hr.mono (show 3<=4 by decide)
 have r3:=hr.mono (show 3<=4 by decide)
 refine ⟨_,(zss_cons (zs_set (i:=1) scFourOf.nd rfl (Or.inl rfl) (ze_call G r rfl mG kG bG .nil pass0 (za_n (zv 0) za_nil)))
  (zss_cons (zs_if (zt_not (zt_val (ze_call G2 r2 rfl mG2 kG2 bG2 .nil pass0 (za_n (zv 0) (za_n (zv 1) za_nil))))) (zss_one zs_never) zss_nil)
  (zss_one (zs_ret (ze_call G3 r3 rfl mG3 kG3 bG3 .nil pass0 (za_n (zv 1) za_nil)))))),fun ds C h=>?_⟩
 obtain ⟨a,b,d,rfl,ht,hs,rfl⟩:=h
 refine S.letC (E.callQ (R:=ROnlyV) (ds:=[tbD a b d]) (A1.cons (E1.var rfl) A1.nil) ⟨a,b,d,rfl,ht,rfl⟩) (fun s ⟨_,e,_⟩=>by rw [e];rfl) fun s ⟨g,es,w',x',y',z',eg,nz',bd',hso⟩=>?_
 subst es eg
 have hT:=hso hs
 refine S.ifsF (T1.notT (T1.val (E1.call (R:=RIsTabV) (A1.cons (E1.var rfl) (A1.cons (E1.var rfl) A1.nil)) ⟨a,b,d,w',x',y',z',true,rfl,ht,nz',bd',⟨fun _=>hT,fun _=>rfl⟩,rfl⟩))) ?_
 exact S.ret1 (s:=.dat (tI (pl [w',x',y',z']))) (E1.cT (ns:=[w',x',y',z']) (A1.cons (E1.var rfl) A1.nil) (show 4<=1000 by decide) ⟨rfl,nz',sm_bd' bd'⟩) ⟨_,⟨w',x',y',z',nz',bd',hT,rfl⟩,rfl,noL_tI⟩
end
end K14
end
section
namespace K14
open PySem L2 Num K0 D
open PySem.W (Dat)
theorem us1 {P:List Value->Prop} (h:∀ a,P [a]):∀ (us:List Value),us.length=1->P us:=fun us l=>by
 cases us with
 | nil=>cases l
 | cons x0 us =>
 cases us with
 | cons _ _=>simp at l
 | nil=>exact h x0
theorem us2 {P:List Value->Prop} (h:∀ a b,P [a,b]):∀ (us:List Value),us.length=2->P us:=fun us l=>by
 cases us with
 | nil=>cases l
 | cons x0 us =>
 cases us with
 | nil=>cases l
 | cons x1 us =>
 cases us with
 | cons _ _=>simp at l
 | nil=>exact h x0 x1
theorem us4 {P:List Value->Prop} (h:∀ a b c d,P [a,b,c,d]):∀ (us:List Value),us.length=4->P us:=fun us l=>by
 cases us with
 | nil=>cases l
 | cons x0 us =>
 cases us with
 | nil=>cases l
 | cons x1 us =>
 cases us with
 | nil=>cases l
 | cons x2 us =>
 cases us with
 | nil=>cases l
 | cons x3 us =>
 cases us with
 | cons _ _=>simp at l
 | nil=>exact h x0 x1 x2 x3
theorem all_mk {l:PySem.W.OpenLaw} {w:World} {K:PySem.W.Frag} {h:Heap} {mg:Str->Option Value} {fa cTurnError cNoTurn cNoHanger cTooMany cNoJoint cNoReach cNoDeed cNoName cNoMark cNoText cNoLine cNoKept:Addr} (X:K.In h) (G:h.Ns mainGlobals mg) (hfa:mg "law" = some (.ref fa))
    (g_TurnError:PySem.W.nsIn K mainGlobals "TurnError" = some (some (.ref cTurnError))) (g_NoTurn:PySem.W.nsIn K mainGlobals "NoTurn" = some (some (.ref cNoTurn))) (g_NoHanger:PySem.W.nsIn K mainGlobals "NoHanger" = some (some (.ref cNoHanger))) (g_TooMany:PySem.W.nsIn K mainGlobals "TooMany" = some (some (.ref cTooMany))) (g_NoJoint:PySem.W.nsIn K mainGlobals "NoJoint" = some (some (.ref cNoJoint))) (g_NoReach:PySem.W.nsIn K mainGlobals "NoReach" = some (some (.ref cNoReach))) (g_NoDeed:PySem.W.nsIn K mainGlobals "NoDeed" = some (some (.ref cNoDeed))) (g_NoName:PySem.W.nsIn K mainGlobals "NoName" = some (some (.ref cNoName))) (g_NoMark:PySem.W.nsIn K mainGlobals "NoMark" = some (some (.ref cNoMark))) (g_NoText:PySem.W.nsIn K mainGlobals "NoText" = some (some (.ref cNoText))) (g_NoLine:PySem.W.nsIn K mainGlobals "NoLine" = some (some (.ref cNoLine))) (g_NoKept:PySem.W.nsIn K mainGlobals "NoKept" = some (some (.ref cNoKept)))  (q_x_NoTurn:L2.Xc K "NoTurn" cNoTurn) (q_l_NoTurn:L2.XcL K cNoTurn) (q_s_NoTurn:PySem.W.kitOne K (.ref cNoTurn) (.ref cNoTurn)=some true) (q_n_NoTurn_NoHanger:PySem.W.kitOne K (.ref cNoTurn) (.ref cNoHanger)=some false) (q_n_NoTurn_TooMany:PySem.W.kitOne K (.ref cNoTurn) (.ref cTooMany)=some false) (q_n_NoTurn_NoJoint:PySem.W.kitOne K (.ref cNoTurn) (.ref cNoJoint)=some false) (q_n_NoTurn_NoReach:PySem.W.kitOne K (.ref cNoTurn) (.ref cNoReach)=some false) (q_n_NoTurn_NoDeed:PySem.W.kitOne K (.ref cNoTurn) (.ref cNoDeed)=some false) (q_n_NoTurn_NoName:PySem.W.kitOne K (.ref cNoTurn) (.ref cNoName)=some false) (q_n_NoTurn_NoMark:PySem.W.kitOne K (.ref cNoTurn) (.ref cNoMark)=some false) (q_n_NoTurn_NoText:PySem.W.kitOne K (.ref cNoTurn) (.ref cNoText)=some false) (q_n_NoTurn_NoLine:PySem.W.kitOne K (.ref cNoTurn) (.ref cNoLine)=some false) (q_n_NoTurn_NoKept:PySem.W.kitOne K (.ref cNoTurn) (.ref cNoKept)=some false) (q_v_NoTurn:PySem.W.kitOne K (.ref cNoTurn) (.type "ValueError")=some true) (q_t_NoTurn:PySem.W.kitOne K (.ref cNoTurn) (.ref cTurnError)=some true) (q_u_NoTurn:PySem.W.exmOne K (.ref cNoTurn) (.ref cTurnError)=some true) (d14:DefAt K "common_divisor" sCD) (d15:DefAt K "reduced" sRed) (d16:DefAt K "negated" sNeg) (d18:DefAt K "common_multiple" sCM) (d19:DefAt K "levelled" sLevN) (d22:DefAt K "plain" sPlain) (d23:DefAt K "size" sSize) (d24:DefAt K "whole_table" sWT) (d26:DefAt K "table_of" sTableOf) (d27:DefAt K "only_four" sOnlyV) (d28:DefAt K "is_table_of" sIsTabV) (d29:DefAt K "is_turn" sIsTurnV) (d30:DefAt K "four_of" sFourOfB) (d32:DefAt K "_law_purse" sPurse2) (d33:DefAt K "_law_take" sTake) (d34:DefAt K "_law_number" sNumber2) (d35:DefAt K "_law_named" sNamed) (d36:DefAt K "_law_four" sFour2) (d37:DefAt K "_law_divisor" sDiv2) (d38:DefAt K "_law_lowest" sLowest) (d39:DefAt K "_law_plain" sLPlain2) (d40:DefAt K "_law_whole" sWhole) (d41:DefAt K "_law_same" sDSame2) (d42:DefAt K "_law_table" sLTable) (d43:DefAt K "_law_dot" sDotv) (d44:DefAt K "_law_cross" sCrossv) (d45:DefAt K "_law_is_of_turn" sIsOfV) (d46:DefAt K "_law_sums" sSumsV) (d47:DefAt K "_law_with" sWithV) (d48:DefAt K "_law_any_table" sAnyV) (d49:DefAt K "_law_signs" sSignsV) (d50:DefAt K "_law_otherwise" sOtherV) (d51:DefAt K "_law_bent" sBentV) (d52:DefAt K "_law_which" sLWhich14) (d53:DefAt K "_law_asked" sAskedV) (d54:DefAt K "_law_whole_rows" sLWhR) (d55:DefAt K "_law_due" sLDue14) (d56:DefAt K "_law_told" sLTold14) (d57:DefAt K "law" sLaw) (d17:DefAt K "sum_of_products" sSop) (d20:DefAt K "lowered" sLow)
     (z_abs:PySem.W.nsIn K mainGlobals "abs" = some none) (z_tuple:PySem.W.nsIn K mainGlobals "tuple" = some none) (z_zip:PySem.W.nsIn K mainGlobals "zip" = some none) (z_range:PySem.W.nsIn K mainGlobals "range" = some none) (z_int:PySem.W.nsIn K mainGlobals "int" = some none) (z_isinstance:PySem.W.nsIn K mainGlobals "isinstance" = some none) (z_bool:PySem.W.nsIn K mainGlobals "bool" = some none) (z_list:PySem.W.nsIn K mainGlobals "list" = some none) (z_len:PySem.W.nsIn K mainGlobals "len" = some none) (z_str:PySem.W.nsIn K mainGlobals "str" = some none) (z_ValueError:PySem.W.nsIn K mainGlobals "ValueError" = some none) (z_sum:PySem.W.nsIn K mainGlobals "sum" = some none) :
    ∃ fd:FuncData,(∀ (s:Shared) (v:Value),BindsTo s fd ⟨[v],[]⟩ [("_law_script",v)])/\∀ base:Heap,K.In base->base.Ns mainGlobals mg->FnOk l.prog w K mg base CX0 8 fa fd ["_law_script"] (spLaw K):=by
  obtain ⟨f14,fd14,F14,m14,k14⟩:=d14.get X G
  have b14:=F14.binds (ps:=["numbers"]) (by refine fun _ _ _ _ _ _=>us1 ?_;intros;rfl)
  obtain ⟨f15,fd15,F15,m15,k15⟩:=d15.get X G
  have b15:=F15.binds (ps:=["numbers"]) (by refine fun _ _ _ _ _ _=>us1 ?_;intros;rfl)
  obtain ⟨f16,fd16,F16,m16,k16⟩:=d16.get X G
  have b16:=F16.binds (ps:=["numbers"]) (by refine fun _ _ _ _ _ _=>us1 ?_;intros;rfl)
  obtain ⟨f18,fd18,F18,m18,k18⟩:=d18.get X G
  have b18:=F18.binds (ps:=["numbers"]) (by refine fun _ _ _ _ _ _=>us1 ?_;intros;rfl)
  obtain ⟨f19,fd19,F19,m19,k19⟩:=d19.get X G
  have b19:=F19.binds (ps:=["fractions"]) (by refine fun _ _ _ _ _ _=>us1 ?_;intros;rfl)
  obtain ⟨f22,fd22,F22,m22,k22⟩:=d22.get X G
  have b22:=F22.binds (ps:=["four"]) (by refine fun _ _ _ _ _ _=>us1 ?_;intros;rfl)
  obtain ⟨f23,fd23,F23,m23,k23⟩:=d23.get X G
  have b23:=F23.binds (ps:=["four"]) (by refine fun _ _ _ _ _ _=>us1 ?_;intros;rfl)
  obtain ⟨f24,fd24,F24,m24,k24⟩:=d24.get X G
  have b24:=F24.binds (ps:=["four"]) (by refine fun _ _ _ _ _ _=>us1 ?_;intros;rfl)
  obtain ⟨f26,fd26,F26,m26,k26⟩:=d26.get X G
  have b26:=F26.binds (ps:=["four"]) (by refine fun _ _ _ _ _ _=>us1 ?_;intros;rfl)
  obtain ⟨f27,fd27,F27,m27,k27⟩:=d27.get X G
  have b27:=F27.binds (ps:=["table"]) (by refine fun _ _ _ _ _ _=>us1 ?_;intros;rfl)
  obtain ⟨f28,fd28,F28,m28,k28⟩:=d28.get X G
  have b28:=F28.binds (ps:=["table","four"]) (by refine fun _ _ _ _ _ _=>us2 ?_;intros;rfl)
  obtain ⟨f29,fd29,F29,m29,k29⟩:=d29.get X G
  have b29:=F29.binds (ps:=["table"]) (by refine fun _ _ _ _ _ _=>us1 ?_;intros;rfl)
  obtain ⟨f30,fd30,F30,m30,k30⟩:=d30.get X G
  have b30:=F30.binds (ps:=["table"]) (by refine fun _ _ _ _ _ _=>us1 ?_;intros;rfl)
  obtain ⟨f32,fd32,F32,m32,k32⟩:=d32.get X G
  have b32:=F32.binds (ps:=["_law_cell"]) (by refine fun _ _ _ _ _ _=>us1 ?_;intros;rfl)
  obtain ⟨f33,fd33,F33,m33,k33⟩:=d33.get X G
  have b33:=F33.binds (ps:=["_law_purse_here","_law_many"]) (by refine fun _ _ _ _ _ _=>us2 ?_;intros;rfl)
  obtain ⟨f34,fd34,F34,m34,k34⟩:=d34.get X G
  have b34:=F34.binds (ps:=["_law_purse_here","_law_kind"]) (by refine fun _ _ _ _ _ _=>us2 ?_;intros;rfl)
  obtain ⟨f35,fd35,F35,m35,k35⟩:=d35.get X G
  have b35:=F35.binds (ps:=["_law_number_here"]) (by refine fun _ _ _ _ _ _=>us1 ?_;intros;rfl)
  obtain ⟨f36,fd36,F36,m36,k36⟩:=d36.get X G
  have b36:=F36.binds (ps:=["_law_purse_here","_law_most"]) (by refine fun _ _ _ _ _ _=>us2 ?_;intros;rfl)
  obtain ⟨f37,fd37,F37,m37,k37⟩:=d37.get X G
  have b37:=F37.binds (ps:=["_law_one","_law_other"]) (by refine fun _ _ _ _ _ _=>us2 ?_;intros;rfl)
  obtain ⟨f38,fd38,F38,m38,k38⟩:=d38.get X G
  have b38:=F38.binds (ps:=["_law_top","_law_bottom"]) (by refine fun _ _ _ _ _ _=>us2 ?_;intros;rfl)
  obtain ⟨f39,fd39,F39,m39,k39⟩:=d39.get X G
  have b39:=F39.binds (ps:=["_law_four_here"]) (by refine fun _ _ _ _ _ _=>us1 ?_;intros;rfl)
  obtain ⟨f40,fd40,F40,m40,k40⟩:=d40.get X G
  have b40:=F40.binds (ps:=["_law_found"]) (by refine fun _ _ _ _ _ _=>us1 ?_;intros;rfl)
  obtain ⟨f41,fd41,F41,m41,k41⟩:=d41.get X G
  have b41:=F41.binds (ps:=["_law_found","_law_due_here"]) (by refine fun _ _ _ _ _ _=>us2 ?_;intros;rfl)
  obtain ⟨f42,fd42,F42,m42,k42⟩:=d42.get X G
  have b42:=F42.binds (ps:=["_law_four_here"]) (by refine fun _ _ _ _ _ _=>us1 ?_;intros;rfl)
  obtain ⟨f43,fd43,F43,m43,k43⟩:=d43.get X G
  have b43:=F43.binds (ps:=["_law_row","_law_other"]) (by refine fun _ _ _ _ _ _=>us2 ?_;intros;rfl)
  obtain ⟨f44,fd44,F44,m44,k44⟩:=d44.get X G
  have b44:=F44.binds (ps:=["_law_row","_law_other"]) (by refine fun _ _ _ _ _ _=>us2 ?_;intros;rfl)
  obtain ⟨f45,fd45,F45,m45,k45⟩:=d45.get X G
  have b45:=F45.binds (ps:=["_law_table_here"]) (by refine fun _ _ _ _ _ _=>us1 ?_;intros;rfl)
  obtain ⟨f46,fd46,F46,m46,k46⟩:=d46.get X G
  have b46:=F46.binds (ps:=["_law_row","_law_other","_law_one","_law_two"]) (by refine fun _ _ _ _ _ _=>us4 ?_;intros;rfl)
  obtain ⟨f47,fd47,F47,m47,k47⟩:=d47.get X G
  have b47:=F47.binds (ps:=["_law_table_here","_law_at","_law_place","_law_other"]) (by refine fun _ _ _ _ _ _=>us4 ?_;intros;rfl)
  obtain ⟨f48,fd48,F48,m48,k48⟩:=d48.get X G
  have b48:=F48.binds (ps:=["_law_purse_here"]) (by refine fun _ _ _ _ _ _=>us1 ?_;intros;rfl)
  obtain ⟨f49,fd49,F49,m49,k49⟩:=d49.get X G
  have b49:=F49.binds (ps:=["_law_table_here"]) (by refine fun _ _ _ _ _ _=>us1 ?_;intros;rfl)
  obtain ⟨f50,fd50,F50,m50,k50⟩:=d50.get X G
  have b50:=F50.binds (ps:=["_law_table_here","_law_sort","_law_at","_law_purse_here"]) (by refine fun _ _ _ _ _ _=>us4 ?_;intros;rfl)
  obtain ⟨f51,fd51,F51,m51,k51⟩:=d51.get X G
  have b51:=F51.binds (ps:=["_law_table_here","_law_purse_here"]) (by refine fun _ _ _ _ _ _=>us2 ?_;intros;rfl)
  obtain ⟨f52,fd52,F52,m52,k52⟩:=d52.get X G
  have b52:=F52.binds (ps:=["_law_e"]) (by refine fun _ _ _ _ _ _=>us1 ?_;intros;rfl)
  obtain ⟨f53,fd53,F53,m53,k53⟩:=d53.get X G
  have b53:=F53.binds (ps:=["_law_cell"]) (by refine fun _ _ _ _ _ _=>us1 ?_;intros;rfl)
  obtain ⟨f54,fd54,F54,m54,k54⟩:=d54.get X G
  have b54:=F54.binds (ps:=["_law_table_here"]) (by refine fun _ _ _ _ _ _=>us1 ?_;intros;rfl)
  obtain ⟨f55,fd55,F55,m55,k55⟩:=d55.get X G
  have b55:=F55.binds (ps:=["_law_table_here"]) (by refine fun _ _ _ _ _ _=>us1 ?_;intros;rfl)
  obtain ⟨f56,fd56,F56,m56,k56⟩:=d56.get X G
  have b56:=F56.binds (ps:=["_law_table_here"]) (by refine fun _ _ _ _ _ _=>us1 ?_;intros;rfl)
  obtain ⟨fd57,F57,b57⟩:=d57.law (y := "_law_script") X G hfa fun _ _ _ _ _ _ _=>rfl
  obtain ⟨f17,fd17,F17,m17,k17⟩:=d17.get X G
  have b17:=F17.binds (ps:=["one","other"]) (by refine fun _ _ _ _ _ _=>us2 ?_;intros;rfl)
  obtain ⟨f20,fd20,F20,m20,k20⟩:=d20.get X G
  have b20:=F20.binds (ps:=["level"]) (by refine fun _ _ _ _ _ _=>us1 ?_;intros;rfl)
  have m_TurnError:=PySem.W.mg_of X G g_TurnError
  have m_NoTurn:=PySem.W.mg_of X G g_NoTurn
  have m_NoHanger:=PySem.W.mg_of X G g_NoHanger
  have m_TooMany:=PySem.W.mg_of X G g_TooMany
  have m_NoJoint:=PySem.W.mg_of X G g_NoJoint
  have m_NoReach:=PySem.W.mg_of X G g_NoReach
  have m_NoDeed:=PySem.W.mg_of X G g_NoDeed
  have m_NoName:=PySem.W.mg_of X G g_NoName
  have m_NoMark:=PySem.W.mg_of X G g_NoMark
  have m_NoText:=PySem.W.mg_of X G g_NoText
  have m_NoLine:=PySem.W.mg_of X G g_NoLine
  have m_NoKept:=PySem.W.mg_of X G g_NoKept
  have m_abs:=PySem.W.mg_none_of X G z_abs
  have m_tuple:=PySem.W.mg_none_of X G z_tuple
  have m_zip:=PySem.W.mg_none_of X G z_zip
  have m_range:=PySem.W.mg_none_of X G z_range
  have m_int:=PySem.W.mg_none_of X G z_int
  have m_isinstance:=PySem.W.mg_none_of X G z_isinstance
  have m_bool:=PySem.W.mg_none_of X G z_bool
  have m_list:=PySem.W.mg_none_of X G z_list
  have m_len:=PySem.W.mg_none_of X G z_len
  have m_str:=PySem.W.mg_none_of X G z_str
  have m_ValueError:=PySem.W.mg_none_of X G z_ValueError
  have m_sum:=PySem.W.mg_none_of X G z_sum
  refine ⟨fd57,b57,fun base _ _=>?_⟩
  have o14_CD:=ok_cd (P:=l.prog) (w:=w) (mg:=mg) (base:=base) F14      m_abs 
  have o15_Red:=ok_red (P:=l.prog) (w:=w) (mg:=mg) (base:=base) F15     o14_CD b14 k14 m14 m_tuple 
  have o16_Neg:=ok_neg (P:=l.prog) (w:=w) (mg:=mg) (base:=base) F16      m_tuple 
  have o18_CM:=ok_cm (P:=l.prog) (w:=w) (mg:=mg) (base:=base) F18     o14_CD b14 k14 m14  
  have o19_LevN:=ok_levn (P:=l.prog) (w:=w) (mg:=mg) (base:=base) F19     o18_CM b18 k18 m18 m_tuple 
  have o22_Plain:=ok_plain (P:=l.prog) (w:=w) (mg:=mg) (base:=base) F22     o15_Red b15 k15 m15 o16_Neg b16 k16 m16  
  have o24_WT:=ok_wt (P:=l.prog) (w:=w) (mg:=mg) (base:=base) F24       
  have o27_OnlyV:=ok_onlyv (P:=l.prog) (w:=w) (mg:=mg) (base:=base) F27     o19_LevN b19 k19 m19  
  have o32_Purse2:=ok_purse2 (P:=l.prog) (w:=w) (mg:=mg) (base:=base) F32      m_range 
  have o33_Take:=ok_take (P:=l.prog) (w:=w) (mg:=mg) (base:=base) F33      m_int 
  have o34_Number2:=ok_number2 (P:=l.prog) (w:=w) (mg:=mg) (base:=base) F34     o33_Take b33 k33 m33  
  have o35_Named:=ok_named (P:=l.prog) (w:=w) (mg:=mg) (base:=base) F35       
  have o36_Four2:=ok_four2 (P:=l.prog) (w:=w) (mg:=mg) (base:=base) F36     o33_Take b33 k33 m33 o35_Named b35 k35 m35 o34_Number2 b34 k34 m34 m_tuple m_range m_int 
  have o37_Div2:=ok_div2 (P:=l.prog) (w:=w) (mg:=mg) (base:=base) F37      m_abs 
  have o38_Lowest:=ok_lowest (P:=l.prog) (w:=w) (mg:=mg) (base:=base) F38     o37_Div2 b37 k37 m37  
  have o39_LPlain2:=ok_lplain2 (P:=l.prog) (w:=w) (mg:=mg) (base:=base) F39     o37_Div2 b37 k37 m37 m_tuple 
  have o40_Whole:=ok_whole (P:=l.prog) (w:=w) (mg:=mg) (base:=base) F40      m_isinstance m_int m_bool 
  have o41_DSame2:=ok_dsame2 (P:=l.prog) (w:=w) (mg:=mg) (base:=base) F41 b41 k41 m41     o40_Whole b40 k40 m40 m_isinstance m_list m_tuple m_len m_range m_str 
  have o42_LTable:=ok_ltable (P:=l.prog) (w:=w) (mg:=mg) (base:=base) F42     o38_Lowest b38 k38 m38 m_tuple 
  have o43_Dotv:=ok_dotv (P:=l.prog) (w:=w) (mg:=mg) (base:=base) F43     o38_Lowest b38 k38 m38 m_zip 
  have o44_Crossv:=ok_crossv (P:=l.prog) (w:=w) (mg:=mg) (base:=base) F44     o43_Dotv b43 k43 m43 m_range m_tuple 
  have o45_IsOfV:=ok_isofv (P:=l.prog) (w:=w) (mg:=mg) (base:=base) F45     o43_Dotv b43 k43 m43 o44_Crossv b44 k44 m44 m_range m_int 
  have o46_SumsV:=ok_sumsv (P:=l.prog) (w:=w) (mg:=mg) (base:=base) F46     o43_Dotv b43 k43 m43 m_range m_tuple 
  have o47_WithV:=ok_withv (P:=l.prog) (w:=w) (mg:=mg) (base:=base) F47       
  have o48_AnyV:=ok_anyv (P:=l.prog) (w:=w) (mg:=mg) (base:=base) F48     o33_Take b33 k33 m33 o38_Lowest b38 k38 m38 m_range m_tuple 
  have o49_SignsV:=ok_signsv (P:=l.prog) (w:=w) (mg:=mg) (base:=base) F49      m_tuple 
  have o50_OtherV:=ok_otherv (P:=l.prog) (w:=w) (mg:=mg) (base:=base) F50     o46_SumsV b46 k46 m46 o48_AnyV b48 k48 m48 o49_SignsV b49 k49 m49 o44_Crossv b44 k44 m44  
  have o51_BentV:=ok_bentv (P:=l.prog) (w:=w) (mg:=mg) (base:=base) F51     o33_Take b33 k33 m33 o49_SignsV b49 k49 m49 o47_WithV b47 k47 m47 o38_Lowest b38 k38 m38 o50_OtherV b50 k50 m50 m_tuple m_range 
  have o52_LWhich14:=ok_lwhich14 (P:=l.prog) (w:=w) (mg:=mg) (base:=base) F52   m_NoTurn m_NoHanger m_TooMany m_NoJoint m_NoReach m_NoDeed m_NoName m_NoMark m_NoText m_NoLine m_NoKept m_TurnError q_x_NoTurn q_l_NoTurn q_s_NoTurn q_n_NoTurn_NoHanger q_n_NoTurn_TooMany q_n_NoTurn_NoJoint q_n_NoTurn_NoReach q_n_NoTurn_NoDeed q_n_NoTurn_NoName q_n_NoTurn_NoMark q_n_NoTurn_NoText q_n_NoTurn_NoLine q_n_NoTurn_NoKept q_v_NoTurn q_t_NoTurn  m_isinstance m_ValueError m_range 
  have o53_AskedV:=ok_askedv (P:=l.prog) (w:=w) (mg:=mg) (base:=base) F53     o32_Purse2 b32 k32 m32 o51_BentV b51 k51 m51 o42_LTable b42 k42 m42 o36_Four2 b36 k36 m36 o33_Take b33 k33 m33  
  have o54_LWhR:=ok_lwhr (P:=l.prog) (w:=w) (mg:=mg) (base:=base) F54     o37_Div2 b37 k37 m37  
  have o55_LDue14:=ok_ldue14 (P:=l.prog) (w:=w) (mg:=mg) (base:=base) F55     o54_LWhR b54 k54 m54 o39_LPlain2 b39 k39 m39 m_range 
  have o17_Sop:=ok_sop (P:=l.prog) (w:=w) (mg:=mg) (base:=base) F17      m_sum m_zip 
  have o23_Size:=ok_size (P:=l.prog) (w:=w) (mg:=mg) (base:=base) F23     o17_Sop b17 k17 m17  
  have o28_IsTabV:=ok_istabv (P:=l.prog) (w:=w) (mg:=mg) (base:=base) F28     o23_Size b23 k23 m23 o24_WT b24 k24 m24 m_zip 
  have o29_IsTurnV:=ok_isturnv (P:=l.prog) (w:=w) (mg:=mg) (base:=base) F29     o28_IsTabV b28 k28 m28 o27_OnlyV b27 k27 m27  
  have o30_FourOfB:=ok_fourofb (P:=l.prog) (w:=w) (mg:=mg) (base:=base) F30   m_NoTurn q_x_NoTurn o27_OnlyV b27 k27 m27 o28_IsTabV b28 k28 m28  
  have o20_Low:=ok_low (P:=l.prog) (w:=w) (mg:=mg) (base:=base) F20     o15_Red b15 k15 m15 m_tuple 
  have o26_TableOf:=ok_tableof (P:=l.prog) (w:=w) (mg:=mg) (base:=base) F26     o23_Size b23 k23 m23 o24_WT b24 k24 m24 o20_Low b20 k20 m20 m_tuple 
  have o30_FourOf:=ok_fourof (P:=l.prog) (w:=w) (mg:=mg) (base:=base) F30     o27_OnlyV b27 k27 m27 o28_IsTabV b28 k28 m28 o22_Plain b22 k22 m22  
  have o56_LTold14:=ok_ltold14 (P:=l.prog) (w:=w) (mg:=mg) (base:=base) F56   m_TurnError q_x_NoTurn q_u_NoTurn o30_FourOf b30 k30 m30 o30_FourOfB b30 k30 m30  
  exact ok_law (P:=l.prog) (w:=w) (mg:=mg) (base:=base) F57     o53_AskedV b53 k53 m53 o56_LTold14 b56 k56 m56 o45_IsOfV b45 k45 m45 o29_IsTurnV b29 k29 m29 o52_LWhich14 b52 k52 m52 o26_TableOf b26 k26 m26 o41_DSame2 b41 k41 m41 o55_LDue14 b55 k55 m55 o36_Four2 b36 k36 m36 o32_Purse2 b32 k32 m32 o39_LPlain2 b39 k39 m39 o30_FourOf b30 k30 m30  
theorem walk {l:PySem.W.OpenLaw} {q:Program} {loose:List Str} {XP:(Str->Option Value)->Heap->Prop} {YP:World->Heap->Prop} {d:DefRec} {K:Params->PySem.W.Frag} (hn:l.most=some 63) (hdf:d.params.defaults=[])
  (hY:∀ (w:World) (h:Heap),YP w h->(K w.params).In h)
  (F:∀ (w:World) (mg:Str->Option Value) (fa:Addr) (h:Heap),(K w.params).In h->h.Ns mainGlobals mg->mg d.name=some (.ref fa) ->
   ∃ fd:FuncData,(∀ (s:Shared) (u:Value),BindsTo s fd ⟨[u],[]⟩ [("_law_script",u)])/\∀ base:Heap,(K w.params).In base->base.Ns mainGlobals mg->FnOk l.prog w (K w.params) mg base CX0 8 fa fd ["_law_script"] (spLaw (K w.params))) :
  PySem.W.WalkO q loose XP YP l.row.toRowW d [] (fun f vs=>PySem.call f vs) :=
 L2.walkB (n:=63) (k:=8) (x := "_law_script") (sp:=spLaw) hn (by decide) hdf ⟨rfl,by decide,by decide⟩ hY F (fun K H a ns hl hb hS=>⟨a,ns,rfl,hS,hl,hb,fun _=>rfl⟩)
end K14
open PySem PySem.W PyProof.Rows
namespace K14
noncomputable def vw:PySem.Program:={ PySem.Challenge.pw_hangrings_k14_whole_fours_of_tables with main:={ PySem.Challenge.pw_hangrings_k14_whole_fours_of_tables.main with body:=(PySem.Challenge.pw_hangrings_k14_whole_fours_of_tables.main.body.zipIdx.filter fun x => !([0,13,21,25,31].contains x.2)).map (·.1) } }
noncomputable def hRun (T:PySem.W.BT) (w:PySem.World) (os:PySem.OsState):Option PySem.W.SharedT:=TopT.goes PySem.Challenge.pw_hangrings_k14_whole_fours_of_tables 20000 T w os
noncomputable def hA (h0:PySem.Heap) (s:PySem.W.SharedT):Bool:=PySem.W.staticsOk (PySem.importedModules PySem.Challenge.pw_hangrings_k14_whole_fours_of_tables.main.body) h0 s.abs.heap && PySem.W.namesBound PySem.Challenge.pw_hangrings_k14_whole_fours_of_tables s.abs.heap && PySem.W.gensDone s.abs && PySem.W.laidKept h0 s.abs.heap
noncomputable def hB (s:PySem.W.SharedT):=PySem.W.openSeen vw [] (PySem.importedModules PySem.Challenge.pw_hangrings_k14_whole_fours_of_tables.main.body) (fun s=>PySem.W.xlAt vw [] s && PySem.W.recOk [] s) true s.abs
noncomputable def hG:=PySem.W.openGood vw []
end K14
lay_quick K14.hRun K14.hA K14.hB K14.hG
theorem K14.lookA:∀ w os,(PySem.W.Fast.tw16550707792160966263 (TopT.bt w.params) w os).map (K14.hA (PySem.W.boot_heap w.params))=some true:=by
 rw [PySem.W.Fast.te12449063781476440989]
 refine TopT.byR "special-get-raises" ?_ ?_ <;> (intro w os;kernel_rfl)
theorem K14.lookB:∀ w os,(PySem.W.Fast.tw16550707792160966263 (TopT.bt w.params) w os).map K14.hB=some K14.hG:=by
 rw [PySem.W.Fast.te1706556223769606549,PySem.W.Fast.te7872511482724756620]
 refine TopT.byR "special-get-raises" ?_ ?_ <;> (intro w os;kernel_rfl)
local macro_rules | `(tactic| o_head $H) => `(tactic| (refine PySem.W.holds_open (q := K14.vw) (loose := []) (Xt := fun s => PySem.W.xlAt K14.vw [] s && PySem.W.recOk [] s) (XP := PySem.W.XL K14.vw []) (Yf := PySem.W.Hook.obs $H) (Ya := PySem.W.Hook.val $H) (YP := PySem.W.Hook.says $H) (N := 20000) ?hl (PySem.W.Hook.of $H) (PySem.W.Hook.keeps $H) (fun s e => PySem.W.xl_of s (Bool.and_eq_true_iff.mp e).1) PySem.W.XL.keeps (by rfl) (by rfl) (by rfl) (fun s e => PySem.W.recFacts_of (Bool.and_eq_true_iff.mp e).2) (by rfl) (by first | assumption | decide +kernel) (by decide +kernel) ⟨rfl, rfl, rfl, rfl, rfl, by decide +kernel⟩ ?hw ?hc))
set_option maxRecDepth 100000 in
set_option maxHeartbeats 0 in
theorem PySem.Challenge.cw_hangrings_k14_whole_fours_of_tables_holds : PySem.Challenge.rw_hangrings_k14_whole_fours_of_tables.Holds := by
  w_on;o_law;k_head;(case hl=>exact TopT.leftT 20000 PySem.W.Fast.te16550707792160966263 (by kernel_rfl) (fun s=>by kernel_rfl) rfl rfl K14.lookA K14.lookB (TopT.byR "special-get-raises" (fun w os=>by kernel_rfl) (fun w os=>by kernel_rfl)));(case hw=>w_witness2)
  k_fill
  refine K14.walk (l:=PySem.Challenge.rw_hangrings_k14_whole_fours_of_tables) rfl rfl (fun w h Y=>PySem.W.kIn_of Y) ?F
  case F =>
    intro w mg fa h KX G hmg
    refine' K14.all_mk KX G hmg ?gTurnError ?gNoTurn ?gNoHanger ?gTooMany ?gNoJoint ?gNoReach ?gNoDeed ?gNoName ?gNoMark ?gNoText ?gNoLine ?gNoKept  ?q_x_NoTurn ?q_l_NoTurn ?q_s_NoTurn ?q_n_NoTurn_NoHanger ?q_n_NoTurn_TooMany ?q_n_NoTurn_NoJoint ?q_n_NoTurn_NoReach ?q_n_NoTurn_NoDeed ?q_n_NoTurn_NoName ?q_n_NoTurn_NoMark ?q_n_NoTurn_NoText ?q_n_NoTurn_NoLine ?q_n_NoTurn_NoKept ?q_v_NoTurn ?q_t_NoTurn ?q_u_NoTurn (L2.DefAt.mk ?a14 ?l14 ?c14 ?k14) (L2.DefAt.mk ?a15 ?l15 ?c15 ?k15) (L2.DefAt.mk ?a16 ?l16 ?c16 ?k16) (L2.DefAt.mk ?a18 ?l18 ?c18 ?k18) (L2.DefAt.mk ?a19 ?l19 ?c19 ?k19) (L2.DefAt.mk ?a22 ?l22 ?c22 ?k22) (L2.DefAt.mk ?a23 ?l23 ?c23 ?k23) (L2.DefAt.mk ?a24 ?l24 ?c24 ?k24) (L2.DefAt.mk ?a26 ?l26 ?c26 ?k26) (L2.DefAt.mk ?a27 ?l27 ?c27 ?k27) (L2.DefAt.mk ?a28 ?l28 ?c28 ?k28) (L2.DefAt.mk ?a29 ?l29 ?c29 ?k29) (L2.DefAt.mk ?a30 ?l30 ?c30 ?k30) (L2.DefAt.mk ?a32 ?l32 ?c32 ?k32) (L2.DefAt.mk ?a33 ?l33 ?c33 ?k33) (L2.DefAt.mk ?a34 ?l34 ?c34 ?k34) (L2.DefAt.mk ?a35 ?l35 ?c35 ?k35) (L2.DefAt.mk ?a36 ?l36 ?c36 ?k36) (L2.DefAt.mk ?a37 ?l37 ?c37 ?k37) (L2.DefAt.mk ?a38 ?l38 ?c38 ?k38) (L2.DefAt.mk ?a39 ?l39 ?c39 ?k39) (L2.DefAt.mk ?a40 ?l40 ?c40 ?k40) (L2.DefAt.mk ?a41 ?l41 ?c41 ?k41) (L2.DefAt.mk ?a42 ?l42 ?c42 ?k42) (L2.DefAt.mk ?a43 ?l43 ?c43 ?k43) (L2.DefAt.mk ?a44 ?l44 ?c44 ?k44) (L2.DefAt.mk ?a45 ?l45 ?c45 ?k45) (L2.DefAt.mk ?a46 ?l46 ?c46 ?k46) (L2.DefAt.mk ?a47 ?l47 ?c47 ?k47) (L2.DefAt.mk ?a48 ?l48 ?c48 ?k48) (L2.DefAt.mk ?a49 ?l49 ?c49 ?k49) (L2.DefAt.mk ?a50 ?l50 ?c50 ?k50) (L2.DefAt.mk ?a51 ?l51 ?c51 ?k51) (L2.DefAt.mk ?a52 ?l52 ?c52 ?k52) (L2.DefAt.mk ?a53 ?l53 ?c53 ?k53) (L2.DefAt.mk ?a54 ?l54 ?c54 ?k54) (L2.DefAt.mk ?a55 ?l55 ?c55 ?k55) (L2.DefAt.mk ?a56 ?l56 ?c56 ?k56) (L2.DefAt.mk ?a57 ?l57 ?c57 ?k57) (L2.DefAt.mk ?a17 ?l17 ?c17 ?k17) (L2.DefAt.mk ?a20 ?l20 ?c20 ?k20)  ?z0 ?z1 ?z2 ?z3 ?z4 ?z5 ?z6 ?z7 ?z8 ?z9 ?z10 ?z11
    (case gTurnError=>k_is)
    (case gNoTurn=>k_is)
    (case gNoHanger=>k_is)
    (case gTooMany=>k_is)
    (case gNoJoint=>k_is)
    (case gNoReach=>k_is)
    (case gNoDeed=>k_is)
    (case gNoName=>k_is)
    (case gNoMark=>k_is)
    (case gNoText=>k_is)
    (case gNoLine=>k_is)
    (case gNoKept=>k_is)
    (case q_x_NoTurn=>exact ⟨by k_exc,by k_is⟩)
    (case q_l_NoTurn=>exact ⟨by first | k_is | kernel_rfl,by first | k_is | kernel_rfl,by first | k_is | kernel_rfl,by first | k_is | kernel_rfl,by first | k_is | kernel_rfl,by first | k_is | kernel_rfl,by first | k_is | kernel_rfl,by first | k_is | kernel_rfl⟩)
    (case q_s_NoTurn=>first | k_is | kernel_rfl)
    (case q_n_NoTurn_NoHanger=>first | k_is | kernel_rfl)
    (case q_n_NoTurn_TooMany=>first | k_is | kernel_rfl)
    (case q_n_NoTurn_NoJoint=>first | k_is | kernel_rfl)
    (case q_n_NoTurn_NoReach=>first | k_is | kernel_rfl)
    (case q_n_NoTurn_NoDeed=>first | k_is | kernel_rfl)
    (case q_n_NoTurn_NoName=>first | k_is | kernel_rfl)
    (case q_n_NoTurn_NoMark=>first | k_is | kernel_rfl)
    (case q_n_NoTurn_NoText=>first | k_is | kernel_rfl)
    (case q_n_NoTurn_NoLine=>first | k_is | kernel_rfl)
    (case q_n_NoTurn_NoKept=>first | k_is | kernel_rfl)
    (case q_v_NoTurn=>first | k_is | kernel_rfl)
    (case q_t_NoTurn=>first | k_is | kernel_rfl)
    (case q_u_NoTurn=>first | k_is | kernel_rfl)
    (case a14=>k_is);(case l14=>k_is);(case c14=>k_is);(case k14=>k_is)
    (case a15=>k_is);(case l15=>k_is);(case c15=>k_is);(case k15=>k_is)
    (case a16=>k_is);(case l16=>k_is);(case c16=>k_is);(case k16=>k_is)
    (case a18=>k_is);(case l18=>k_is);(case c18=>k_is);(case k18=>k_is)
    (case a19=>k_is);(case l19=>k_is);(case c19=>k_is);(case k19=>k_is)
    (case a22=>k_is);(case l22=>k_is);(case c22=>k_is);(case k22=>k_is)
    (case a23=>k_is);(case l23=>k_is);(case c23=>k_is);(case k23=>k_is)
    (case a24=>k_is);(case l24=>k_is);(case c24=>k_is);(case k24=>k_is)
    (case a26=>k_is);(case l26=>k_is);(case c26=>k_is);(case k26=>k_is)
    (case a27=>k_is);(case l27=>k_is);(case c27=>k_is);(case k27=>k_is)
    (case a28=>k_is);(case l28=>k_is);(case c28=>k_is);(case k28=>k_is)
    (case a29=>k_is);(case l29=>k_is);(case c29=>k_is);(case k29=>k_is)
    (case a30=>k_is);(case l30=>k_is);(case c30=>k_is);(case k30=>k_is)
    (case a32=>k_is);(case l32=>k_is);(case c32=>k_is);(case k32=>k_is)
    (case a33=>k_is);(case l33=>k_is);(case c33=>k_is);(case k33=>k_is)
    (case a34=>k_is);(case l34=>k_is);(case c34=>k_is);(case k34=>k_is)
    (case a35=>k_is);(case l35=>k_is);(case c35=>k_is);(case k35=>k_is)
    (case a36=>k_is);(case l36=>k_is);(case c36=>k_is);(case k36=>k_is)
    (case a37=>k_is);(case l37=>k_is);(case c37=>k_is);(case k37=>k_is)
    (case a38=>k_is);(case l38=>k_is);(case c38=>k_is);(case k38=>k_is)
    (case a39=>k_is);(case l39=>k_is);(case c39=>k_is);(case k39=>k_is)
    (case a40=>k_is);(case l40=>k_is);(case c40=>k_is);(case k40=>k_is)
    (case a41=>k_is);(case l41=>k_is);(case c41=>k_is);(case k41=>k_is)
    (case a42=>k_is);(case l42=>k_is);(case c42=>k_is);(case k42=>k_is)
    (case a43=>k_is);(case l43=>k_is);(case c43=>k_is);(case k43=>k_is)
    (case a44=>k_is);(case l44=>k_is);(case c44=>k_is);(case k44=>k_is)
    (case a45=>k_is);(case l45=>k_is);(case c45=>k_is);(case k45=>k_is)
    (case a46=>k_is);(case l46=>k_is);(case c46=>k_is);(case k46=>k_is)
    (case a47=>k_is);(case l47=>k_is);(case c47=>k_is);(case k47=>k_is)
    (case a48=>k_is);(case l48=>k_is);(case c48=>k_is);(case k48=>k_is)
    (case a49=>k_is);(case l49=>k_is);(case c49=>k_is);(case k49=>k_is)
    (case a50=>k_is);(case l50=>k_is);(case c50=>k_is);(case k50=>k_is)
    (case a51=>k_is);(case l51=>k_is);(case c51=>k_is);(case k51=>k_is)
    (case a52=>k_is);(case l52=>k_is);(case c52=>k_is);(case k52=>k_is)
    (case a53=>k_is);(case l53=>k_is);(case c53=>k_is);(case k53=>k_is)
    (case a54=>k_is);(case l54=>k_is);(case c54=>k_is);(case k54=>k_is)
    (case a55=>k_is);(case l55=>k_is);(case c55=>k_is);(case k55=>k_is)
    (case a56=>k_is);(case l56=>k_is);(case c56=>k_is);(case k56=>k_is)
    (case a57=>k_is);(case l57=>k_is);(case c57=>k_is);(case k57=>k_is)
    (case a17=>k_is);(case l17=>k_is);(case c17=>k_is);(case k17=>k_is)
    (case a20=>k_is);(case l20=>k_is);(case c20=>k_is);(case k20=>k_is)
    (case z0=>k_is)
    (case z1=>k_is)
    (case z2=>k_is)
    (case z3=>k_is)
    (case z4=>k_is)
    (case z5=>k_is)
    (case z6=>k_is)
    (case z7=>k_is)
    (case z8=>k_is)
    (case z9=>k_is)
    (case z10=>k_is)
    (case z11=>k_is)
#print axioms PySem.Challenge.cw_hangrings_k14_whole_fours_of_tables_holds
end
